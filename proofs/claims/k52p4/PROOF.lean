import PyProof.Rows.All
import Wide.All
import OpenK.AllK
import Wide.FinOn
import Lean
import PyProof.EqAt
import PyProof.EqKinds
import PyProof.TupleCall
import PyProof.NeKinds
import PyProof.ListMulRoad
import PyProof.WalkInts
import PyProof.ListRange
import KE.KSortTup
import KE.KDictSum
import PyProof.Rows.SortWalk
import KE.KRevIter
import PyProof.ExcInit
import PyProof.InstStoreFacts
import OpenK.KMake
import OpenK.KCls
import PyProof.FString2
import PySem.Challenge.RW_purseweb_k52_trees_told
set_option Elab.async false
set_option linter.all false
set_option maxRecDepth 100000
namespace L2
open PySem PySem.Spec PyProof.Rows
abbrev YO:=Sum Int Str
def Q9:YO->Value->Bool
 | .inl k,v=>Value.isInt k v
 | .inr x,v=>Value.isStrOf x v
def As(w:World):YO->Int
 | .inl k=>hashInt k
 | .inr x=>hashStr w x
theorem YC:∀{k:YO}{v:Value},Q9 k v=true->(∃i t,k=Sum.inl i/\v=Value.int i t)\/(∃x t,k=Sum.inr x/\v=Value.str x t)
 | .inl i,v,h=>by
  obtain⟨t,e⟩:=Value.isInt_shape (k:=i) (v:=v) h
  exact .inl ⟨i,t,rfl,e⟩
 | .inr x,v,h=>by
  obtain⟨t,e⟩:=Value.isStrOf_shape (x:=x) (v:=v) h
  exact .inr ⟨x,t,rfl,e⟩
theorem K0(i:Int)(t:Tok):Q9 (.inl i) (.int i t)=true:=by simp[Q9,Value.isInt]
theorem K1(x:Str)(t:Tok):Q9 (.inr x) (.str x t)=true:=by simp[Q9,Value.isStrOf]
theorem Di(a b:Int):decide ((Sum.inl a:YO)=Sum.inl b)=(a==b):=by
 by_cases e:a=b
 ·subst e;simp
 ·have h:¬(Sum.inl a:YO)=Sum.inl b:=fun q=>e (Sum.inl.inj q)
  rw[decide_eq_false h]
  exact(beq_eq_false_iff_ne.mpr e).symm
theorem Dj(a b:Str):decide ((Sum.inr a:YO)=Sum.inr b)=decide (a=b):=by
 by_cases e:a=b
 ·subst e;simp
 ·have h:¬(Sum.inr a:YO)=Sum.inr b:=fun q=>e (Sum.inr.inj q)
  rw[decide_eq_false h,decide_eq_false e]
theorem Dk(a:Int)(b:Str):decide ((Sum.inl a:YO)=Sum.inr b)=false:=decide_eq_false (fun q=>nomatch q)
theorem Dl(a:Str)(b:Int):decide ((Sum.inr a:YO)=Sum.inl b)=false:=decide_eq_false (fun q=>nomatch q)
def YW(prog:Program)(w:World):PySem.KeyKind prog w YO where
 is:=Q9
 hash:=As w
 inj:=fun v a b ha hb=>by
  rcases YC ha with⟨i,t,rfl,rfl⟩ | ⟨x,t,rfl,rfl⟩
  ·rcases YC hb with⟨j,u,rfl,e⟩ | ⟨y,u,rfl,e⟩
   ·injection e with e1 _;rw[e1]
   ·exact nomatch e
  ·rcases YC hb with⟨j,u,rfl,e⟩ | ⟨y,u,rfl,e⟩
   ·exact nomatch e
   ·injection e with e1 _;rw[e1]
 byValue:=fun k v h=>by
  rcases YC h with⟨i,t,rfl,rfl⟩ | ⟨x,t,rfl,rfl⟩<;>rfl
 pyHash:=fun hv h=>by
  rcases YC hv with⟨i,t,rfl,rfl⟩ | ⟨x,t,rfl,rfl⟩
  ·exact wpAny_pyHash_int h
  ·exact wpAny_pyHash_str h
 eqBool:=fun hu hv h=>by
  rcases YC hu with⟨i,t,rfl,rfl⟩ | ⟨x,t,rfl,rfl⟩
  ·rcases YC hv with⟨j,u,rfl,rfl⟩ | ⟨y,u,rfl,rfl⟩
   ·rw[Di] at h;exact wpAny_eqBool_int h
   ·rw[Dk] at h;exact SeqAt.EqAt.int_str i t y u _ _ _ _ h
  ·rcases YC hv with⟨j,u,rfl,rfl⟩ | ⟨y,u,rfl,rfl⟩
   ·rw[Dl] at h;exact SeqAt.EqAt.str_int x t j u _ _ _ _ h
   ·rw[Dj] at h;exact wpAny_eqBool_str h
 «strs»:=fun k x t v h=>by
  rcases YC h with⟨i,u,rfl,e⟩ | ⟨y,u,rfl,e⟩
  ·exact nomatch e
  ·injection e with e1 _
   subst e1
   cases v<;>rfl
theorem O2(prog:Program)(w:World)(i:Int)(t:Tok):(YW prog w).is (.inl i) (.int i t)=true:=K0 i t
theorem O3(prog:Program)(w:World)(x:Str)(t:Tok):(YW prog w).is (.inr x) (.str x t)=true:=K1 x t
inductive V where
 | non | bl (b:Bool) | int (i:Int) | str (x:Str) | byt (b:Array UInt8) | flt (b:UInt64) | ref (a:Addr) | ty (n:String)
 deriving DecidableEq
def RelV:V->Value->Prop
 | .non,u=>u=Value.none
 | .bl b,u=>u=Value.bool b
 | .int i,u=>∃t,u=Value.int i t
 | .str x,u=>∃t,u=Value.str x t
 | .byt b,u=>∃t,u=Value.bytes b t
 | .flt b,u=>∃t,u=Value.float b t
 | .ref a,u=>u=Value.ref a
 | .ty n,u=>u=Value.type n
abbrev Vals:List V->List Value->Prop:=Paired RelV
theorem Vals.length{xs:List V}{us:List Value}(r:Vals xs us):xs.length=us.length:=Paired.length r
theorem Vals.get:∀{xs:List V}{us:List Value}{i:Nat}{x:V},Vals xs us->xs[i]?=some x->∃u,us[i]?=some u/\RelV x u
 | _,_,_,_,.nil,e=>by simp at e
 | _,_,0,_,.cons r _,e=>by simp at e;subst e;exact⟨_,rfl,r⟩
 | _,_,i+1,x,.cons _ t,e=>by
  obtain⟨u,h1,h2⟩:=Vals.get (i:=i) (x:=x) t (by simpa using e)
  exact⟨u,by simpa using h1,h2⟩
theorem Vals.set{x:V}{u:Value}(r:RelV x u):∀{xs:List V}{us:List Value}(i:Nat),Vals xs us->Vals (xs.set i x) (us.set i u)
 | _,_,_,.nil=>.nil
 | _,_,0,.cons _ t=>.cons r t
 | _,_,i+1,.cons q t=>.cons q (Vals.set r i t)
theorem Vals.append:∀{xs ys:List V}{us ws:List Value},Vals xs us->Vals ys ws->Vals (xs++ys) (us++ws)
 | _,_,_,_,.nil,s=>s
 | _,_,_,_,.cons r t,s=>.cons r (Vals.append t s)
theorem Vals.take:∀{xs:List V}{us:List Value}(n:Nat),Vals xs us->Vals (xs.take n) (us.take n)
 | _,_,0,_=>.nil
 | _,_,_+1,.nil=>.nil
 | _,_,n+1,.cons r t=>.cons r (Vals.take n t)
theorem Vals.drop:∀{xs:List V}{us:List Value}(n:Nat),Vals xs us->Vals (xs.drop n) (us.drop n)
 | _,_,0,r=>r
 | _,_,_+1,.nil=>.nil
 | _,_,n+1,.cons _ t=>Vals.drop n t
def RelO:Option V->Option Value->Prop
 | some v,some u=>RelV v u
 | none,none=>True
 | _,_=>False
def KV{κ:Type}:List (κ×V)->List (κ×Value)->Prop:=Paired fun(p:κ×V) (q:κ×Value)=>p.1=q.1/\RelV p.2 q.2
def kV:YO->V
 | .inl i=>.int i
 | .inr x=>.str x
inductive HO where
 /-- a list -/
 | lst (xs:List V)
 /-- a tuple (never changes) -/
 | tup (xs:List V)
 /-- a dict whose keys are ints and texts;one whose keys are tuples of ints and texts (the empty one is both) -/
 | dK (kvs:List (YO×V)) | dT (kvs:List (List YO×V))
 /-- a set of ints: its members,its size -/
 | set (S:Int->Bool) (n:Nat)
 /-- an instance of the class at C,its dict at dx,its attributes -/
 | ins (C dx:Addr) (fs:List (Str×V))
 /-- the dict of the instance at x -/
 | own (x:Addr)
 /-- the dict of an exception -/
 | xd (fs:List (Str×V))
 /-- a bound method,f of x -/
 | met (f x:Addr)
 /-- a range object lo,lo+1,.. below hi -/
 | rng (lo hi:Int)
 /-- a thing that is known to the object (the script;a dict while a loop walks it): read,never written while it is so -/
 | frz (o:Obj) (u:HO)
 /-- a code object's table -/
 | tbl (ps:Array Value)
 /-- any other thing,by what is true of its one object (a def of one's own: SetO a S n:=HO.ext fun h=>..) -/
 | ext (φ:Heap->Prop)
abbrev Hp:=Addr->Option HO
def upd(H:Hp)(a:Addr)(o:HO):Hp:=fun b=>if b=a then some o else H b
theorem upd_same{H:Hp}{a:Addr}{o:HO}:upd H a o a=some o:=by unfold upd;rw[if_pos rfl]
theorem upd_ne{H:Hp}{a b:Addr}{o:HO}(h:b≠a):upd H a o b=H b:=by unfold upd;rw[if_neg h]
theorem C1{H:Hp}{a b:Addr}{o u:HO}(h:H a=some o)(h':H b=some u)(d:o≠u):a≠b:=by
 intro e;subst e;rw[h] at h';exact d (Option.some.inj h')
theorem Zw{H:Hp}{a b:Addr}{o:HO}(h:H a=some o)(h':H b=none):a≠b:=by
 intro e;subst e;rw[h] at h';cases h'
section
variable (P:Program) (w:World)
def ObjOk(H:Hp)(h:Heap)(a:Addr):HO->Prop
 | .lst xs=>xs.length<=sizeLine/\∃(its:List Value) (n:Nat),Vals xs its/\h.get? a=some { cls:=.type "list",data:=.seq its.toArray n }
 | .tup xs=>xs.length<=sizeLine/\∃its:List Value,Vals xs its/\IsTup h a its.toArray
 | .dK kvs=>kvs.length<=sizeLine/\(a==sysModules)=false/\∃vs,KV kvs vs/\h.DictOf (YW P w) a vs
 | .dT kvs=>kvs.length<=sizeLine/\(a==sysModules)=false/\∃xs:List (List YO×Addr×Value),
   Paired (fun(p:List YO×V) (q:List YO×Addr×Value)=>p.1=q.1/\H q.2.1=some (.tup (p.1.map kV))/\RelV p.2 q.2.2) kvs xs/\
   ∃o es ep,h.get? a=some o/\o.ExactDict/\o.data = .dict es ep/\es.toList=xs.map (entryOfKey (tupleKind (YW P w)))/\(xs.map (·.1)).Nodup
 | .set S n=>h.SetOf (intKind P w) a S n
 | .ins C dx fs=>H dx=some (.own a)/\fs.length<=1000/\dx≠a/\h.get? a=some (PySem.W.instObj C dx)/\
   ∃mA,h.Ns1 dx mA/\(∀f,RelO (fs.lookup f) (mA f))/\PySem.Within mA (fs.map (·.1))
 | .own _=>∃o,h.get? a=some o
 | .xd fs=>∃mA,h.Ns1 a mA/\∀f,RelO (fs.lookup f) (mA f)
 | .rng lo hi=>∃t u v,h.get? a=some { cls:=.type "range",data:=.fields #[.int lo t,.int hi u,.int 1 v] }
 | .frz o u=>h.get? a=some o/\ObjOk H h a u
 | .tbl ps=>h.get? a=some { cls:=.none,data:=.fields ps }
 | .met f x=>h.get? a=some (PySem.W.methodObj (.ref f) (.ref x))
 | .ext φ=>φ h/\(∃o,h.get? a=some o)/\∀h1 h2:Heap,φ h1->(∀o,h1.get? a=some o->h2.get? a=some o)->φ h2
def HOk(H:Hp)(h:Heap):Prop:=∀a o,H a=some o->ObjOk P w H h a o
end
section
variable {P:Program} {w:World} {H H':Hp} {h h':Heap} {a:Addr} {o:HO}
theorem ObjOk.lt(x:ObjOk P w H h a o):a<h.objs.size:=by
 cases o with
 | lst xs=>obtain⟨_,_,_,_,e⟩:=x;exact Heap.lt_size e
 | tup xs=>obtain⟨_,_,_,p⟩:=x;exact p.lt
 | dK kvs=>obtain⟨_,_,_,_,o,_,_,e,_⟩:=x;exact Heap.lt_size e
 | dT kvs=>obtain⟨_,_,_,_,o,_,_,e,_⟩:=x;exact Heap.lt_size e
 | set S n=>obtain⟨o,_,_,_,e,_⟩:=x;exact Heap.lt_size e
 | ins C dx fs=>obtain⟨_,_,_,e,_⟩:=x;exact Heap.lt_size e
 | own y=>obtain⟨_,e⟩:=x;exact Heap.lt_size e
 | xd fs=>obtain⟨_,⟨_,_,_,e,_⟩,_⟩:=x;exact Heap.lt_size e
 | rng lo hi=>obtain⟨_,_,_,e⟩:=x;exact Heap.lt_size e
 | frz ob u=>obtain⟨e,_⟩:=x;exact Heap.lt_size e
 | tbl ps=>exact Heap.lt_size (show h.get? a=some _ from x)
 | met f y=>exact Heap.lt_size (show h.get? a=some _ from x)
 | ext φ=>obtain⟨_,⟨_,e⟩,_⟩:=x;exact Heap.lt_size e
theorem Paired.mapP{α β:Type}{F G:α->β->Prop}:∀{l₁:List α}{l₂:List β},Paired F l₁ l₂->(∀a b,F a b->G a b)->Paired G l₁ l₂
 | _,_,.nil,_=>.nil
 | _,_,.cons r t,f=>.cons (f _ _ r) (Paired.mapP t f)
theorem ObjOk.stay(x:ObjOk P w H h a o)(k:∀b u,(b=a\/H b=some (.own a))->h.get? b=some u->h'.get? b=some u)
  (ho:∀b,H b=some (.own a)->H' b=some (.own a)) (ht:∀b xs,H b=some (.tup xs)->H' b=some (.tup xs)):ObjOk P w H' h' a o:=by
 induction o with
 | lst xs=>obtain⟨z,its,n,r,e⟩:=x;exact⟨z,its,n,r,k _ _ (.inl rfl) e⟩
 | tup xs=>obtain⟨z,its,r,ob,e,c⟩:=x;exact⟨z,its,r,ob,k _ _ (.inl rfl) e,c⟩
 | dK kvs=>obtain⟨z,y,vs,r,ob,es,ep,e,c⟩:=x;exact⟨z,y,vs,r,ob,es,ep,k _ _ (.inl rfl) e,c⟩
 | dT kvs=>
  obtain⟨z,y,xs,r,ob,es,ep,e,c⟩:=x
  exact⟨z,y,xs,Paired.mapP r fun p q z=>⟨z.1,ht _ _ z.2.1,z.2.2⟩,ob,es,ep,k _ _ (.inl rfl) e,c⟩
 | set S n=>obtain⟨ob,es,ep,t,e,c⟩:=x;exact⟨ob,es,ep,t,k _ _ (.inl rfl) e,c⟩
 | ins C dx fs=>
  obtain⟨d,z,ne,e,mA,⟨od,es,ep,e2,c⟩,r⟩:=x
  exact⟨ho _ d,z,ne,k _ _ (.inl rfl) e,mA,⟨od,es,ep,k _ _ (.inr d) e2,c⟩,r⟩
 | own y=>obtain⟨ob,e⟩:=x;exact⟨ob,k _ _ (.inl rfl) e⟩
 | xd fs=>obtain⟨mA,⟨od,es,ep,e,c⟩,r⟩:=x;exact⟨mA,⟨od,es,ep,k _ _ (.inl rfl) e,c⟩,r⟩
 | rng lo hi=>obtain⟨t,u,v,e⟩:=x;exact⟨t,u,v,k _ _ (.inl rfl) e⟩
 | frz ob u ih=>obtain⟨e,q⟩:=x;exact⟨k _ _ (.inl rfl) e,ih q⟩
 | tbl ps=>
  have e:h.get? a=some { cls:=.none,data:=.fields ps }:=x
  show h'.get? a=some { cls:=.none,data:=.fields ps }
  exact k a _ (.inl rfl) e
 | met f y=>
  have e:h.get? a=some (PySem.W.methodObj (.ref f) (.ref y)):=x
  show h'.get? a=some (PySem.W.methodObj (.ref f) (.ref y))
  exact k a _ (.inl rfl) e
 | ext φ=>obtain⟨p,⟨o,e⟩,st⟩:=x;exact⟨st _ _ p fun o q=>k _ _ (.inl rfl) q,⟨o,k _ _ (.inl rfl) e⟩,st⟩
theorem HOk.lt(x:HOk P w H h)(e:H a=some o):a<h.objs.size:=(x a o e).lt
theorem HOk.fresh(x:HOk P w H h)(e:h.objs.size<=a):H a=none:=by
 cases q:H a with
 | none=>rfl
 | some u=>exact absurd (Nat.lt_of_lt_of_le (x.lt q) e) (Nat.lt_irrefl _)
theorem HOk.kept(x:HOk P w H h)(k:∀b u,h.get? b=some u->h'.get? b=some u):HOk P w H h':=fun a o e=>
 (x a o e).stay (fun b u _ q=>k b u q) (fun _ q=>q) fun _ _ q=>q
theorem HOk.laid(x:HOk P w H h)(k:∀b u,h.get? b=some u->h'.get? b=some u)(hp:h.objs.size<=a)(new:ObjOk P w (upd H a o) h' a o):HOk P w (upd H a o) h':=fun b u e=>by
 have hn:=x.fresh hp
 by_cases hb:b=a
 ·subst hb;rw[upd_same] at e;cases e;exact new
 ·rw[upd_ne hb] at e
  exact(x b u e).stay (fun c v _ q=>k c v q) (fun c q=>by rw[upd_ne (Zw q hn)];exact q) fun c xs q=>by rw[upd_ne (Zw q hn)];exact q
end
def Rd(H:Hp)(a:Addr)(u:HO):Prop:=H a=some u\/∃o,H a=some (.frz o u)
theorem Rd.ok{P:Program}{w:World}{H:Hp}{h:Heap}{a:Addr}{u:HO}(r:Rd H a u)(x:HOk P w H h):ObjOk P w H h a u:=by
 rcases r with r | ⟨o,r⟩
 ·exact x a u r
 ·obtain⟨_,q⟩:=x a _ r
  exact q
def Vl:Option HO->Prop
 | some (.lst _)=>True
 | some (.dK _)=>True
 | some (.dT _)=>True
 | some (.set _ _)=>True
 | some (.ins _ _ _)=>True
 | some (.ext _)=>True
 | _=>False
section
variable {P:Program} {w:World} {H:Hp} {h h':Heap} {x e:Addr} {o':HO}
theorem HOk.write(ok:HOk P w H h)(mu:Vl (H x))(he:e=x\/H e=some (.own x))(k:∀b u,b≠e->h.get? b=some u->h'.get? b=some u)(heo:∃u,h'.get? e=some u)
  (new:ObjOk P w (upd H x o') h' x o'):HOk P w (upd H x o') h':=fun b u q=>by
 have nown:∀c y,H c=some (.own y)->c≠x:=fun c y r z=>by subst z;rw[r] at mu;exact mu
 have ntup:∀c xs,H c=some (.tup xs)->c≠x:=fun c xs r z=>by subst z;rw[r] at mu;exact mu
 by_cases hb:b=x
 ·subst hb;rw[upd_same] at q;cases q;exact new
 ·rw[upd_ne hb] at q
  by_cases hbe:b=e
  ·have q':H b=some (.own x):=by
    rcases he with z | z
    ·exact absurd (hbe.trans z) hb
    ·rw[hbe];exact z
   rw[q] at q';cases q'
   obtain⟨v,hv⟩:=heo
   exact⟨v,by rw[hbe];exact hv⟩
  ·refine(ok b u q).stay (fun c v hc r=>k c v ?_ r) (fun c r=>by rw[upd_ne (nown c b r)];exact r) fun c xs r=>by rw[upd_ne (ntup c xs r)];exact r
   rcases hc with rfl | hc
   ·exact hbe
   ·rintro rfl
    rcases he with z | z
    ·exact nown c b hc z
    ·rw[hc] at z;cases z;exact hb rfl
end
structure Un(fs ex:List Addr)(H H':Hp)(h h':Heap):Prop where
 keep:∀b o,h.get? b=some o->H b=none->b∉fs->b∉ex->h'.get? b=some o
 slot:∀b o,h.get? b=some o->H b=none->b∈fs->b∉ex->∃sl,h'.get? b=some { o with slots:=sl }
 free:∀b o,h.get? b=some o->H b=none->b∉ex->H' b=none
 there:∀b o,h.get? b=some o->b∉ex->∃o',h'.get? b=some o'
 tups:∀b xs,H b=some (.tup xs)->H' b=some (.tup xs)
 frzs:∀b o u,H b=some (.frz o u)->H' b=some (.frz o u)
 tbls:∀b ps,H b=some (.tbl ps)->∃more,H' b=some (.tbl (ps++more))
section
variable {fs fs' ex ex':List Addr} {H H1 H2:Hp} {h h1 h2 h':Heap} {a x e:Addr} {o:HO}
theorem Un.any(u:Un fs ex H H1 h h1){b:Addr}{ob:Obj}(q:h.get? b=some ob)(n:H b=none)(hx:b∉ex):∃sl,h1.get? b=some { ob with slots:=sl }:=by
 by_cases hb:b∈fs
 ·exact u.slot b ob q n hb hx
 ·exact⟨ob.slots,u.keep b ob q n hb hx⟩
theorem Un.kept(k:∀b u,h.get? b=some u->h'.get? b=some u):Un fs ex H H h h':=
 ⟨fun b ob q _ _ _=>k b ob q,fun b ob q _ _ _=>⟨ob.slots,k b ob q⟩,fun _ _ _ n _=>n,fun b ob q _=>⟨ob,k b ob q⟩,fun _ _ q=>q,fun _ _ _ q=>q,fun _ ps q=>⟨#[],by rw[q];simp⟩⟩
theorem Un.refl:Un fs ex H H h h:=Un.kept fun _ _ q=>q
theorem Un.laid(k:∀b u,h.get? b=some u->h'.get? b=some u)(hp:h.objs.size<=a)(hn:H a=none):Un fs ex H (upd H a o) h h' where
 keep:=fun b u q _ _ _=>k b u q
 slot:=fun b u q _ _ _=>⟨u.slots,k b u q⟩
 free:=fun b u q n _=>by rw[upd_ne (Nat.ne_of_lt (Nat.lt_of_lt_of_le (Heap.lt_size q) hp))];exact n
 there:=fun b u q _=>⟨u,k b u q⟩
 tups:=fun b xs q=>by rw[upd_ne (Zw q hn)];exact q
 frzs:=fun b u xs q=>by rw[upd_ne (Zw q hn)];exact q
 tbls:=fun b ps q=>⟨#[],by rw[upd_ne (Zw q hn),q];simp⟩
theorem Un.write(mu:Vl (H x))(he:e=x\/H e=some (.own x))(k:∀b u,b≠e->h.get? b=some u->h'.get? b=some u)(heo:∃u,h'.get? e=some u):Un fs ex H (upd H x o) h h':=by
 have hx:∀b,H b=none->b≠x:=fun b n z=>by subst z;rw[n] at mu;exact mu
 have hb:∀b,H b=none->b≠e:=fun b n z=>by
  subst z
  rcases he with r | r
  ·exact hx b n r
  ·rw[n] at r;cases r
 have hm:∀b u,H b=some u->¬Vl (some u)->b≠x:=fun b u q nm z=>by subst z;rw[q] at mu;exact nm mu
 refine⟨fun b u q n _ _=>k b u (hb b n) q,fun b u q n _ _=>⟨u.slots,k b u (hb b n) q⟩,fun b u q n _=>by rw[upd_ne (hx b n)];exact n,fun b u q _=>?_,
  fun b xs q=>by rw[upd_ne (hm b _ q fun z=>z)];exact q,fun b u xs q=>by rw[upd_ne (hm b _ q fun z=>z)];exact q,fun b ps q=>⟨#[],by rw[upd_ne (hm b _ q fun z=>z),q];simp⟩⟩
 by_cases hbe:b=e
 ·subst hbe;exact heo
 ·exact⟨u,k b u hbe q⟩
end
def Af(h:Heap)(H:Hp):List Addr:=(List.range h.objs.size).filter fun a=>(H a).isSome
def P4(h:Heap)(H:Hp):Heap:=PySem.W.hideAll h (Af h H)
theorem K2(h:Heap)(H:Hp):(P4 h H).objs.size=h.objs.size:=PySem.W.hideAll_size _ _
theorem Iw{h:Heap}{H:Hp}{b:Addr}{o:Obj}(e:h.get? b=some o)(n:H b=none):(P4 h H).get? b=some o:=
 PySem.W.hideAll_get _ e fun hm=>by
  have q:(H b).isSome=true:=(List.mem_filter.mp hm).2
  rw[n] at q;simp at q
theorem GP{h:Heap}{H:Hp}{b:Addr}{o:Obj}(e:(P4 h H).get? b=some o):h.get? b=some o/\H b=none:=by
 have e':h.get? b=some o:=PySem.W.of_hideAll (Af h H) e
 refine⟨e',?_⟩
 cases q:H b with
 | none=>rfl
 | some x=>
  have hm:b∈Af h H:=List.mem_filter.mpr ⟨List.mem_range.mpr (Heap.lt_size e'),by simp[q]⟩
  have z:(P4 h H).get? b=none:=PySem.W.hideAll_none (Af h H) hm
  rw[z] at e;cases e
def GQ(g h:Heap)(L:Addr):List (Addr×Obj):=(List.range h.objs.size).filterMap fun a=>if a=L\/(g.get? a).isSome=true then none else(h.get? a).map fun o=>(a,o)
def rest(g h:Heap)(L d:Addr):List (Addr×Obj):=(GQ g h L).filter fun p=>decide (p.1≠d)
structure Mod(K:PySem.W.Frag)(mg:Str->Option Value)(base:Heap):Prop where
 kin:K.In base
 glob:base.Ns mainGlobals mg
 blt:∃mb,base.Ns builtinsNs mb/\∀x:Str,x≠"__name__"->mb x=bootBuiltins x
 nolimit:base.NoLimit
structure Cx where
 prog:Program
 w:World
 K:PySem.W.Frag
 mg:Str->Option Value
 base:Heap
 A:Around
 N:List Str
 s₀:Shared
 H₀:Hp
 env:Env
 outer:List Env
 stack:List Env
 ex:List Addr
 fn:Str->Bool
 calm:Bool
 pn:List (Addr×Obj)
 xe:Value->Shared->Prop
def OZ(l:List Env):List Addr:=l.filterMap (·.frame)
abbrev Cx.fs(X:Cx):List Addr:=OZ X.outer
def Au(sc:Scope)(x:Str):Prop:=sc.names.lookup x=some .local\/sc.names.lookup x=some .cell\/sc.names.lookup x=some .free
def C2(sc:Scope)(x:Str):Prop:=sc.names.lookup x=some .local\/sc.names.lookup x=some .cell
def Av(env:Env)(h:Heap)(m:Str->Option Value)(x:Str)(u:Value):Prop:=
 (env.kindOf x=some .local/\m x=some u)\/((env.kindOf x=some .cell\/env.kindOf x=some .free)/\∃c,env.cells.lookup x=some c/\h.IsCell c (some u))
structure Cx.Ok(X:Cx):Prop where
 mod:Mod X.K X.mg X.base
 kind:X.env.scope.kind = .function
 glob:X.env.globals=mainGlobals
 blt:X.env.builtins=builtinsNs
 above:X.s₀.heap.objs.size<=X.env.locals
 inj:∀x y c,X.env.cells.lookup x=some c->X.env.cells.lookup y=some c->x=y
 has:∀x,(X.env.kindOf x=some .cell\/X.env.kindOf x=some .free)->∃c,X.env.cells.lookup x=some c
 cab:∀x c,X.fn x=true->X.env.cells.lookup x=some c->X.s₀.heap.objs.size<=c
 hd:X.calm=true->X.A.handled=none
 frames:X.A.frames=some X.stack
 stk:X.stack=X.outer\/(X.stack=X.env::X.outer/\X.env.frame=some X.env.locals)
 exf:∀b∈X.ex,b≠X.env.locals/\∀x c,X.env.cells.lookup x=some c->c≠b
 bs:∀b o,X.base.get? b=some o->X.s₀.heap.get? b=some o/\X.H₀ b=none
 bsz:X.base.objs.size<=X.s₀.heap.objs.size
 noex:∀b o,X.base.get? b=some o->b∉X.ex
 exfs:∀b∈X.ex,b∉X.fs
 funs:X.s₀.heap.FunFrames X.base X.outer
 frf:∀b∈X.fs,X.H₀ b=none
structure Inv(X:Cx)(pins:List (Addr×Obj))(σ:List (Option V))(H:Hp)(s:Shared):Prop where
 ok:X.Ok
 os:s.os=X.s₀.os
 bare:AllBare s.gens
 base:Un X.fs X.ex X.H₀ H X.s₀.heap s.heap
 loc:∃m,s.heap.Ns X.env.locals m/\∀(i:Nat)(x:Str)(v:V),X.N[i]?=some x->σ[i]?=some (some v)->Au X.env.scope x->∃u,RelV v u/\Av X.env s.heap m x u
 cell:∀x c,X.env.cells.lookup x=some c->∃v,s.heap.IsCell c v
 free:H X.env.locals=none
 freeC:∀x c,X.env.cells.lookup x=some c->H c=none
 pin:∀p∈X.pn++pins,s.heap.get? p.1=some p.2/\H p.1=none/\p.1≠X.env.locals/\p.1∉X.fs/\∀v,p.2.data≠.cell v
 hok:HOk X.prog X.w H s.heap
 len:σ.length=X.N.length
section
variable {X:Cx} {pins:List (Addr×Obj)} {σ:List (Option V)} {H H':Hp} {s:Shared} {h':Heap}
theorem Cx.Ok.nofr(ok:X.Ok){b:Addr}{o:Obj}(e:X.base.get? b=some o):b∉X.fs:=fun hb=>by
 have:=(ok.funs.mem hb).1
 rw[e] at this;cases this
theorem Inv.bs(I:Inv X pins σ H s):∀b o,X.base.get? b=some o->s.heap.get? b=some o/\H b=none:=fun b o e=>
 ⟨I.base.keep b o (I.ok.bs b o e).1 (I.ok.bs b o e).2 (I.ok.nofr e) (I.ok.noex b o e),I.base.free b o (I.ok.bs b o e).1 (I.ok.bs b o e).2 (I.ok.noex b o e)⟩
theorem Inv.bk(I:Inv X pins σ H s):∀b o,X.base.get? b=some o->s.heap.get? b=some o:=fun b o e=>(I.bs b o e).1
theorem Inv.mod(I:Inv X pins σ H s):Mod X.K X.mg X.base:=I.ok.mod
theorem Inv.kIn(I:Inv X pins σ H s):X.K.In s.heap:=I.ok.mod.kin.keeps I.bk
theorem Inv.fr(I:Inv X pins σ H s):∃m,Fr X.base X.env.locals s.heap m:=
 let⟨m,hn,_⟩:=I.loc
 ⟨m,hn,I.bk,Nat.le_trans I.ok.bsz I.ok.above⟩
theorem Inv.lt(I:Inv X pins σ H s):X.env.locals<s.heap.objs.size:=let⟨_,hn,_⟩:=I.loc;hn.lt
theorem Inv.sz(I:Inv X pins σ H s):X.s₀.heap.objs.size<=s.heap.objs.size:=Nat.le_trans I.ok.above (Nat.le_of_lt I.lt)
theorem Inv.nofs(I:Inv X pins σ H s){a:Addr}(h:s.heap.objs.size<=a):a∉X.fs:=fun hb=>by
 obtain⟨_,o,ho,_⟩:=I.ok.funs.mem hb
 exact absurd (Nat.lt_of_lt_of_le (Heap.lt_size ho) (Nat.le_trans I.sz h)) (Nat.lt_irrefl _)
theorem Inv.cne(I:Inv X pins σ H s):∀x c,X.env.cells.lookup x=some c->c≠X.env.locals:=fun x c e z=>by
 obtain⟨v,o,ho,hd⟩:=I.cell x c e
 obtain⟨m,⟨o',es,ep,ho',hd',_⟩,_⟩:=I.loc
 rw[z,ho'] at ho;cases ho;rw[hd'] at hd;cases hd
theorem Inv.funs(I:Inv X pins σ H s):s.heap.FunFrames X.base X.outer:=by
 have all:∀(l:List Env),(∀b∈OZ l,b∈X.fs)->X.s₀.heap.FunFrames X.base l->s.heap.FunFrames X.base l:=by
  intro l
  induction l with
  | nil=>intro _ _;trivial
  | cons env r ih=>
   intro hs hl
   obtain⟨hk,⟨L,o,hf,hn,ho,hd⟩,hr⟩:=hl
   have hL:L∈X.fs:=hs L (by unfold OZ;rw[List.filterMap_cons,hf];exact List.mem_cons_self)
   obtain⟨sl,e⟩:=I.base.slot L o ho (I.ok.frf L hL) hL fun z=>I.ok.exfs L z hL
   exact⟨hk,⟨L,_,hf,hn,e,hd⟩,ih (fun b hb=>hs b (by unfold OZ;rw[List.filterMap_cons,hf];exact List.mem_cons_of_mem _ hb)) hr⟩
 exact all X.outer (fun _ hb=>hb) I.ok.funs
theorem Inv.stack(I:Inv X pins σ H s):s.heap.FunFrames X.base X.stack:=by
 rcases I.ok.stk with e | ⟨e,hf⟩
 ·rw[e];exact I.funs
 ·rw[e]
  obtain⟨m,hn,_⟩:=I.loc
  refine .cons (by rw[I.ok.kind];decide) hf hn ?_ I.funs
  exact Heap.get?_none_of_le (Nat.le_trans I.ok.bsz I.ok.above)
theorem Inv.stkSub(I:Inv X pins σ H s):∀b∈OZ X.stack,b∈X.env.locals::X.fs:=fun b hb=>by
 rcases I.ok.stk with e | ⟨e,hf⟩
 ·rw[e] at hb;exact List.mem_cons_of_mem _ hb
 ·rw[e] at hb
  unfold OZ at hb;rw[List.filterMap_cons,hf] at hb;exact hb
theorem Inv.stkFree(I:Inv X pins σ H s):∀b∈OZ X.stack,H b=none:=fun b hb=>by
 rcases List.mem_cons.mp (I.stkSub b hb) with e | hb
 ·rw[e];exact I.free
 ·obtain⟨_,o,ho,_⟩:=I.ok.funs.mem hb
  exact I.base.free b o ho (I.ok.frf b hb) fun z=>I.ok.exfs b z hb
theorem Inv.step{g':Array GenState}{t':Nat}{d':Drawn}{ch:List Addr}(I:Inv X pins σ H s)
  (hch:∀b∈ch,(b∈X.ex\/X.s₀.heap.objs.size<=b)/\b≠X.env.locals/\(∀x c,X.env.cells.lookup x=some c->c≠b)/\∀p∈X.pn++pins,p.1≠b)
  (keep:∀b o,b≠X.env.locals->b∉X.fs->b∉ch->s.heap.get? b=some o->H b=none->h'.get? b=some o)
  (slot:∀b o,b≠X.env.locals->b∈X.fs->b∉ch->s.heap.get? b=some o->H b=none->∃sl,h'.get? b=some { o with slots:=sl }) (free:∀b o,b∉ch->s.heap.get? b=some o->H b=none->H' b=none)
  (there:∀b o,b∉ch->s.heap.get? b=some o->∃o',h'.get? b=some o')
  (tups:∀b xs,H b=some (.tup xs)->H' b=some (.tup xs)) (frzs:∀b o u,H b=some (.frz o u)->H' b=some (.frz o u)) (tbls:∀b ps,H b=some (.tbl ps)->∃more,H' b=some (.tbl (ps++more)))
  (ns:∀m,s.heap.Ns X.env.locals m->h'.Ns X.env.locals m) (hok:HOk X.prog X.w H' h') (hg:AllBare g') :
  Inv X pins σ H' { s with heap:=h',gens:=g',drawn:=d',toks:=t' }:=by
 have neL:∀b o,X.s₀.heap.get? b=some o->b≠X.env.locals:=fun b o e=>Nat.ne_of_lt (Nat.lt_of_lt_of_le (Heap.lt_size e) I.ok.above)
 have neC:∀b o,X.s₀.heap.get? b=some o->b∉X.ex->b∉ch:=fun b o e hx hb=>by
  rcases(hch b hb).1 with z | z
  ·exact hx z
  ·exact absurd (Nat.lt_of_lt_of_le (Heap.lt_size e) z) (Nat.lt_irrefl _)
 have cellK:∀x c,X.env.cells.lookup x=some c->∀v,s.heap.IsCell c v->h'.IsCell c v:=fun x c e v ⟨o,ho,hd⟩=>by
  have nch:c∉ch:=fun z=>(hch c z).2.2.1 x c e rfl
  by_cases hc:c∈X.fs
  ·obtain⟨sl,q⟩:=slot c o (I.cne x c e) hc nch ho (I.freeC x c e)
   exact⟨_,q,hd⟩
  ·exact⟨o,keep c o (I.cne x c e) hc nch ho (I.freeC x c e),hd⟩
 refine⟨I.ok,I.os,hg,⟨fun b o e n hb hx=>?_,fun b o e n hb hx=>?_,fun b o e n hx=>?_,fun b o e hx=>?_,fun b xs e=>tups b xs (I.base.tups b xs e),fun b o xs e=>frzs b o xs (I.base.frzs b o xs e),fun b ps e=>?_⟩,?_,fun x c e=>?_,?_,fun x c e=>?_,fun p hp=>?_,hok,I.len⟩
 ·exact keep b o (neL b o e) hb (neC b o e hx) (I.base.keep b o e n hb hx) (I.base.free b o e n hx)
 ·obtain⟨sl,e1⟩:=I.base.slot b o e n hb hx
  obtain⟨sl',e2⟩:=slot b _ (neL b o e) hb (neC b o e hx) e1 (I.base.free b o e n hx)
  exact⟨sl',e2⟩
 ·obtain⟨o',e1⟩:=I.base.there b o e hx
  exact free b o' (neC b o e hx) e1 (I.base.free b o e n hx)
 ·obtain⟨o',e1⟩:=I.base.there b o e hx
  exact there b o' (neC b o e hx) e1
 ·obtain⟨m1,e1⟩:=I.base.tbls b ps e
  obtain⟨m2,e2⟩:=tbls b _ e1
  exact⟨m1++m2,by rw[e2,Array.append_assoc]⟩
 ·obtain⟨m,hn,hl⟩:=I.loc
  refine⟨m,ns m hn,fun i x v e1 e2 e3=>?_⟩
  obtain⟨u,r,l⟩:=hl i x v e1 e2 e3
  refine⟨u,r,?_⟩
  rcases l with l | ⟨k,c,e,z⟩
  ·exact .inl l
  ·exact .inr ⟨k,c,e,cellK x c e _ z⟩
 ·obtain⟨v,z⟩:=I.cell x c e
  exact⟨v,cellK x c e v z⟩
 ·obtain⟨m,⟨o,_,_,ho,_⟩,_⟩:=I.loc
  exact free _ o (fun z=>(hch _ z).2.1 rfl) ho I.free
 ·obtain⟨v,o,ho,hd⟩:=I.cell x c e
  exact free c o (fun z=>(hch c z).2.2.1 x c e rfl) ho (I.freeC x c e)
 ·obtain⟨e,n,ne,nf,d⟩:=I.pin p hp
  have nch:p.1∉ch:=fun z=>(hch p.1 z).2.2.2 p hp rfl
  exact⟨keep p.1 p.2 ne nf nch e n,free p.1 p.2 nch e n,ne,nf,d⟩
theorem Inv.un{t':Nat}(I:Inv X pins σ H s)(u:Un X.fs [] H H' s.heap h')(hok:HOk X.prog X.w H' h'):Inv X pins σ H' { s with heap:=h',toks:=t' }:=by
 obtain⟨m,⟨o,es,ep,ho,r⟩,_⟩:=id I.loc
 obtain⟨sl,hL⟩:=u.any ho I.free (by simp)
 exact I.step (g':=s.gens) (d':=s.drawn) (ch:=[]) (fun _ z=>nomatch z) (fun b o _ hb _ e n=>u.keep b o e n hb (by simp)) (fun b o _ hb _ e n=>u.slot b o e n hb (by simp)) (fun b o _ e n=>u.free b o e n (by simp)) (fun b o _ e=>u.there b o e (by simp)) u.tups u.frzs u.tbls (fun m' hm=>by
  obtain⟨o',es',ep',ho',r'⟩:=hm
  rw[ho] at ho';cases ho'
  exact⟨_,es',ep',hL,r'⟩) hok I.bare
theorem Inv.call{g':Array GenState}{t':Nat}{d':Drawn}{ch:List Addr}(I:Inv X pins σ H s)(u:Un (OZ X.stack) ch H H' s.heap h')(hok:HOk X.prog X.w H' h')(hg:AllBare g')
  (hch:∀b∈ch,(b∈X.ex\/X.s₀.heap.objs.size<=b)/\b≠X.env.locals/\(∀x c,X.env.cells.lookup x=some c->c≠b)/\∀p∈X.pn++pins,p.1≠b) :
  Inv X pins σ H' { s with heap:=h',gens:=g',drawn:=d',toks:=t' }:=by
 obtain⟨m,⟨o,es,ep,ho,r⟩,_⟩:=id I.loc
 obtain⟨sl,hL⟩:=u.any ho I.free fun z=>(hch _ z).2.1 rfl
 exact I.step (ch:=ch) hch (fun b o hL hb hc e n=>u.keep b o e n (fun z=>(List.mem_cons.mp (I.stkSub b z)).elim hL hb) hc) (fun b o _ _ hc e n=>u.any e n hc) (fun b o hc e n=>u.free b o e n hc) (fun b o hc e=>u.there b o e hc) u.tups u.frzs u.tbls (fun m' hm=>by
  obtain⟨o',es',ep',ho',r'⟩:=hm
  rw[ho] at ho';cases ho'
  exact⟨_,es',ep',hL,r'⟩) hok hg
theorem Inv.turned{t':Nat}{it:Addr}(I:Inv X pins σ H s)(k:∀b o,b≠it->s.heap.get? b=some o->h'.get? b=some o)(hn:H it=none)(hL:it≠X.env.locals)
  (h1:it∈X.ex\/X.s₀.heap.objs.size<=it) (h2:∀x c,X.env.cells.lookup x=some c->c≠it) (h3:∀p∈X.pn++pins,p.1≠it):Inv X pins σ H { s with heap:=h',toks:=t' }:=by
 have nit:∀b u,H b=some u->b≠it:=fun b u e z=>by rw[z,hn] at e;cases e
 refine I.step (g':=s.gens) (d':=s.drawn) (ch:=[it]) (fun b hb=>?_) (fun b o _ _ hc e _=>k b o (fun z=>hc (by simp[z])) e) (fun b o _ _ hc e _=>⟨o.slots,k b o (fun z=>hc (by simp[z])) e⟩) (fun _ _ _ _ n=>n)
  (fun b o hc e=>⟨o,k b o (fun z=>hc (by simp[z])) e⟩) (fun _ _ e=>e) (fun _ _ _ e=>e) (fun b ps e=>⟨#[],by rw[e];simp⟩) (fun m hm=>?_) (fun b u e=>?_) I.bare
 ·have e:b=it:=by simpa using hb
  subst e
  exact⟨h1,hL,h2,h3⟩
 ·obtain⟨o,es,ep,ho,r⟩:=hm
  exact⟨o,es,ep,k _ o (Ne.symm hL) ho,r⟩
 ·refine(I.hok b u e).stay (fun c v hc q=>k c v ?_ q) (fun _ q=>q) fun _ _ q=>q
  rcases hc with z | z
  ·rw[z];exact nit b u e
  ·exact nit c _ z
theorem Inv.tok(I:Inv X pins σ H s)(t:Nat):Inv X pins σ H { s with toks:=t }:=I.un (h':=s.heap) (t':=t) Un.refl I.hok
theorem Inv.kept{t':Nat}(I:Inv X pins σ H s)(k:∀b u,s.heap.get? b=some u->h'.get? b=some u):Inv X pins σ H { s with heap:=h',toks:=t' }:=I.un (Un.kept k) (I.hok.kept k)
theorem Inv.laid{a:Addr}{o:HO}{t':Nat}(I:Inv X pins σ H s)(k:∀b u,s.heap.get? b=some u->h'.get? b=some u)(hp:s.heap.objs.size<=a)(new:ObjOk X.prog X.w (upd H a o) h' a o) :
  Inv X pins σ (upd H a o) { s with heap:=h',toks:=t' }:=I.un (Un.laid k hp (I.hok.fresh hp)) (I.hok.laid k hp new)
theorem Inv.write{x e:Addr}{o:HO}{t':Nat}(I:Inv X pins σ H s)(mu:Vl (H x))(he:e=x\/H e=some (.own x))(k:∀b u,b≠e->s.heap.get? b=some u->h'.get? b=some u)(heo:∃u,h'.get? e=some u)
  (new:ObjOk X.prog X.w (upd H x o) h' x o):Inv X pins σ (upd H x o) { s with heap:=h',toks:=t' }:=I.un (Un.write mu he k heo) (I.hok.write mu he k heo new)
theorem Inv.weak{σ':List (Option V)}(I:Inv X pins σ H s)(hl:σ'.length=σ.length)(w:∀(i:Nat) v,σ'[i]?=some (some v)->σ[i]?=some (some v)):Inv X pins σ' H s:=
 ⟨I.ok,I.os,I.bare,I.base,let⟨m,hn,hl'⟩:=I.loc;⟨m,hn,fun i x v e1 e2 e3=>hl' i x v e1 (w i v e2) e3⟩,I.cell,I.free,I.freeC,I.pin,I.hok,hl.trans I.len⟩
theorem Inv.pins_of{pins':List (Addr×Obj)}(I:Inv X pins σ H s)(h:∀p∈pins',s.heap.get? p.1=some p.2/\H p.1=none/\p.1≠X.env.locals/\p.1∉X.fs/\∀v,p.2.data≠.cell v):Inv X pins' σ H s:=
 ⟨I.ok,I.os,I.bare,I.base,I.loc,I.cell,I.free,I.freeC,fun p hp=>(List.mem_append.mp hp).elim (fun z=>I.pin p (List.mem_append_left _ z)) (h p),I.hok,I.len⟩
theorem RJ{N:List Str}(hN:N.Nodup){i j:Nat}{x:Str}(a:N[i]?=some x)(b:N[j]?=some x):i=j:=by
 obtain⟨h1,e1⟩:=List.getElem?_eq_some_iff.mp a
 obtain⟨h2,e2⟩:=List.getElem?_eq_some_iff.mp b
 exact(List.getElem_inj hN).mp (e1.trans e2.symm)
theorem K3{M:Model}{A:Around}{E:Value->Shared->Prop}{i:Nat}{x:Str}{v:V}{u:Value}{Q:Unit->Shared->Prop}(I:Inv X pins σ H s)(hN:X.N.Nodup)(hi:X.N[i]?=some x)(hx:C2 X.env.scope x)(r:RelV v u)
  (h:∀s',Inv X pins (σ.set i (some v)) H s'->(∃a,Heap.SameBut a s.heap s'.heap/\(a=X.env.locals\/X.env.cells.lookup x=some a))->Q () s') (hf:X.fn x=true\/X.env.scope.names.lookup x=some .local:=by first | exact .inl rfl | exact .inr rfl | assumption):wpAny M A (storeName X.env x u) Q E s:=by
 obtain⟨m,hn,hl⟩:=id I.loc
 have hcls:(X.env.scope.kind==.class || (X.env.scope.kind==.module&&X.env.locals != X.env.globals))=false:=by rw[I.ok.kind];rfl
 have hiσ:i<σ.length:=by rw[I.len];exact(List.getElem?_eq_some_iff.mp hi).1
 have cne:=I.cne
 have tracked:∀{a:Addr}{h':Heap},(∃o,s.heap.get? a=some o/\H a=none)->Heap.SameBut a s.heap h'->HOk X.prog X.w H h':=fun{a h'} ha hs b ob e=>by
  obtain⟨_,_,hfree⟩:=ha
  refine(I.hok b ob e).stay (fun c w' hc q=>(hs.2 c ?_).trans q) (fun _ q=>q) fun _ _ q=>q
  rintro rfl
  rcases hc with rfl | hc
  ·rw[hfree] at e;cases e
  ·rw[hfree] at hc;cases hc
 rcases hx with hk | hk
 ·refine wpAny_storeName_local hk hn (fun h' hn' hs=>?_) hcls
  obtain⟨oL,_,_,hoL,_⟩:=id hn
  refine h _ ⟨I.ok,I.os,I.bare,⟨fun b o e n hb hx=>?_,fun b o e n hb hx=>?_,I.base.free,fun b o e hx=>?_,I.base.tups,I.base.frzs,I.base.tbls⟩,⟨_,hn',fun j y v' e1 e2 e3=>?_⟩,fun y c e=>?_,I.free,I.freeC,fun p hp=>?_,tracked ⟨oL,hoL,I.free⟩ hs,by simpa using I.len⟩ ⟨_,hs,.inl rfl⟩
  ·exact(hs.2 b (Nat.ne_of_lt (Nat.lt_of_lt_of_le (Heap.lt_size e) I.ok.above))).trans (I.base.keep b o e n hb hx)
  ·obtain⟨sl,e1⟩:=I.base.slot b o e n hb hx
   exact⟨sl,(hs.2 b (Nat.ne_of_lt (Nat.lt_of_lt_of_le (Heap.lt_size e) I.ok.above))).trans e1⟩
  ·obtain⟨o',e1⟩:=I.base.there b o e hx
   exact⟨o',(hs.2 b (Nat.ne_of_lt (Nat.lt_of_lt_of_le (Heap.lt_size e) I.ok.above))).trans e1⟩
  ·by_cases hj:j=i
   ·subst hj
    rw[hi] at e1;cases e1;rw[List.getElem?_set_self hiσ] at e2;cases e2
    exact⟨u,r,.inl ⟨hk,by simp⟩⟩
   ·rw[List.getElem?_set_ne (Ne.symm hj)] at e2
    obtain⟨u',r',q⟩:=hl j y v' e1 e2 e3
    refine⟨u',r',?_⟩
    rcases q with⟨k,e⟩ | ⟨k,c,e,z⟩
    ·refine .inl ⟨k,?_⟩
     have:y≠x:=fun e=>hj (RJ hN e1 (e▸hi))
     simp[this,e]
    ·exact .inr ⟨k,c,e,z.sameBut hs (cne y c e)⟩
  ·obtain⟨w',z⟩:=I.cell y c e
   exact⟨w',z.sameBut hs (cne y c e)⟩
  ·obtain⟨e,n,ne,nf,d⟩:=I.pin p hp
   exact⟨(hs.2 p.1 ne).trans e,n,ne,nf,d⟩
 ·have hfn:X.fn x=true:=by
   rcases hf with z | z
   ·exact z
   ·rw[z] at hk;cases hk
  obtain⟨c,hc⟩:=I.ok.has x (.inl hk)
  obtain⟨w',z⟩:=I.cell x c hc
  refine wpAny_storeName_cell I.ok.kind hk hc z (fun h' hc' hs=>?_)
  obtain⟨oc,hoc,hocd⟩:=id z
  refine h { s with heap:=h' } ⟨I.ok,I.os,I.bare,⟨fun b o e n hb hx=>?_,fun b o e n hb hx=>?_,I.base.free,fun b o e hx=>?_,I.base.tups,I.base.frzs,I.base.tbls⟩,⟨m,hn.sameBut hs (Ne.symm (cne x c hc)),fun j y v' e1 e2 e3=>?_⟩,fun y c' e=>?_,I.free,I.freeC,fun p hp=>?_,tracked ⟨oc,hoc,I.freeC x c hc⟩ hs,by simpa using I.len⟩ ⟨c,hs,.inr hc⟩
  ·exact(hs.2 b (Nat.ne_of_lt (Nat.lt_of_lt_of_le (Heap.lt_size e) (I.ok.cab x c hfn hc)))).trans (I.base.keep b o e n hb hx)
  ·obtain⟨sl,e1⟩:=I.base.slot b o e n hb hx
   exact⟨sl,(hs.2 b (Nat.ne_of_lt (Nat.lt_of_lt_of_le (Heap.lt_size e) (I.ok.cab x c hfn hc)))).trans e1⟩
  ·obtain⟨o',e1⟩:=I.base.there b o e hx
   exact⟨o',(hs.2 b (Nat.ne_of_lt (Nat.lt_of_lt_of_le (Heap.lt_size e) (I.ok.cab x c hfn hc)))).trans e1⟩
  ·by_cases hj:j=i
   ·subst hj
    rw[hi] at e1;cases e1;rw[List.getElem?_set_self hiσ] at e2;cases e2
    exact⟨u,r,.inr ⟨.inl hk,c,hc,hc'⟩⟩
   ·rw[List.getElem?_set_ne (Ne.symm hj)] at e2
    obtain⟨u',r',q⟩:=hl j y v' e1 e2 e3
    refine⟨u',r',?_⟩
    rcases q with q | ⟨k,c',e,z'⟩
    ·exact .inl q
    ·refine .inr ⟨k,c',e,z'.sameBut hs ?_⟩
     rintro rfl
     exact hj (RJ hN e1 (I.ok.inj _ _ _ e hc▸hi))
  ·by_cases hcc:c'=c
   ·subst hcc;exact⟨_,hc'⟩
   ·obtain⟨w2,z2⟩:=I.cell y c' e
    exact⟨w2,z2.sameBut hs hcc⟩
  ·obtain⟨e,n,ne,nf,d⟩:=I.pin p hp
   refine⟨(hs.2 p.1 ?_).trans e,n,ne,nf,d⟩
   intro q;rw[q,hoc] at e
   have q':oc=p.2:=Option.some.inj e
   exact d w' (by rw[<-q'];exact hocd)
theorem Uc{M:Model}{A:Around}{E:Value->Shared->Prop}{i:Nat}{x:Str}{v:V}{u:Value}{Q:Unit->Shared->Prop}(I:Inv X pins σ H s)(hN:X.N.Nodup)(hi:X.N[i]?=some x)(hx:C2 X.env.scope x)(r:RelV v u)
  (h:∀s',Inv X pins (σ.set i (some v)) H s'->Q () s') (hf:X.fn x=true\/X.env.scope.names.lookup x=some .local:=by first | exact .inl rfl | exact .inr rfl | assumption):wpAny M A (storeName X.env x u) Q E s:=
 K3 I hN hi hx r (fun s' I' _=>h s' I') hf
theorem Inv.call'{s':Shared}{ch:List Addr}(I:Inv X pins σ H s)(ho:s'.os=s.os)(u:Un (OZ X.stack) ch H H' s.heap s'.heap)(hok:HOk X.prog X.w H' s'.heap)(hg:AllBare s'.gens)
  (hch:∀b∈ch,(b∈X.ex\/X.s₀.heap.objs.size<=b)/\b≠X.env.locals/\(∀x c,X.env.cells.lookup x=some c->c≠b)/\∀p∈X.pn++pins,p.1≠b):Inv X pins σ H' s':=by
 obtain⟨h',g',d',t',o'⟩:=s'
 have e:o'=s.os:=ho
 subst e
 exact I.call (g':=g') (t':=t') (d':=d') u hok hg hch
end
abbrev XK:=Value->Option Addr->Hp->Prop
abbrev St:=List (Option V)
abbrev VK:=V->Hp->Prop
abbrev TE:=St->Hp->VK->Prop
abbrev TT:=St->Hp->(Bool->Hp->Prop)->Prop
abbrev TA:=St->Hp->(List V->Hp->Prop)->Prop
structure V9 where
 nx:St->Hp->Prop
 rt:VK
 bk:St->Hp->Prop:=fun _ _=>False
 ct:St->Hp->Prop:=fun _ _=>False
abbrev TS:=V9->St->Hp->Prop
def EP(X:Cx)(pins:List (Addr×Obj))(σ:St)(Q:VK)(u:Value)(s':Shared):Prop:=∃v H',Inv X pins σ H' s'/\RelV v u/\Q v H'
def TP(X:Cx)(pins:List (Addr×Obj))(σ:St)(Q:Bool->Hp->Prop)(b:Bool)(s':Shared):Prop:=∃H',Inv X pins σ H' s'/\Q b H'
def AP(X:Cx)(pins:List (Addr×Obj))(σ:St)(Q:List V->Hp->Prop)(us:List Value)(s':Shared):Prop:=∃vs H',Inv X pins σ H' s'/\Vals vs us/\Q vs H'
def SP(X:Cx)(pins:List (Addr×Obj))(D:V9)(f:Flow)(s':Shared):Prop:=
 match f with
 | .next=>∃σ' H',Inv X pins σ' H' s'/\D.nx σ' H'
 | .brk=>∃σ' H',Inv X pins σ' H' s'/\D.bk σ' H'
 | .cont=>∃σ' H',Inv X pins σ' H' s'/\D.ct σ' H'
 | .ret u=>∃v σ' H',Inv X pins σ' H' s'/\RelV v u/\D.rt v H'
def PE(X:Cx)(e:Expr)(t:TE):Prop:=
 ∀(pins:List (Addr×Obj))(s:Shared)(σ:St)(H:Hp)(Q:VK),Inv X pins σ H s->t σ H Q->wpAny (model X.prog X.w) X.A (eval e X.env) (EP X pins σ Q) X.xe s
def PT(X:Cx)(e:Expr)(t:TT):Prop:=
 ∀(pins:List (Addr×Obj))(s:Shared)(σ:St)(H:Hp)(Q:Bool->Hp->Prop),Inv X pins σ H s->t σ H Q->wpAny (model X.prog X.w) X.A (isTrue e X.env (eval e X.env)) (TP X pins σ Q) X.xe s
def PW(X:Cx)(e:Expr)(t:TT):Prop:=
 ∀(whole:Sem Value)(pins:List (Addr×Obj))(s:Shared)(σ:St)(H:Hp)(Q:Bool->Hp->Prop),Inv X pins σ H s->t σ H Q->wpAny (model X.prog X.w) X.A (isTrue e X.env whole) (TP X pins σ Q) X.xe s
theorem PW.pt{X:Cx}{e:Expr}{t:TT}(h:PW X e t):PT X e t:=h _
def PA(X:Cx)(es:List Expr)(t:TA):Prop:=
 ∀(pos:Pos)(pins:List (Addr×Obj))(s:Shared)(σ:St)(H:Hp)(Q:List V->Hp->Prop),Inv X pins σ H s->t σ H Q->wpAny (model X.prog X.w) X.A (spliced (backTo pos (starEach es X.env))) (AP X pins σ Q) X.xe s
def PS(X:Cx)(st:Stmt)(t:TS):Prop:=
 ∀(pins:List (Addr×Obj))(s:Shared)(σ:St)(H:Hp)(D:V9),Inv X pins σ H s->t D σ H->wpAny (model X.prog X.w) X.A (exec st X.env) (SP X pins D) X.xe s
def PSs(X:Cx)(st:List Stmt)(t:TS):Prop:=
 ∀(pins:List (Addr×Obj))(s:Shared)(σ:St)(H:Hp)(D:V9),Inv X pins σ H s->t D σ H->wpAny (model X.prog X.w) X.A (execs st X.env) (SP X pins D) X.xe s
theorem YI{α:Type}{t:Sem α}{Q Q':α->Shared->Prop}{M:Model}{A:Around}{E:Value->Shared->Prop}{s:Shared}(h:wpAny M A t Q E s)(hQ:∀a s,Q a s->Q' a s):wpAny M A t Q' E s:=wpAny_mono h hQ fun _ _ x=>x
section
variable {X:Cx}
theorem bin{a b:Expr}{ta tb:TE}(ha:PE X a ta)(hb:PE X b tb){pins:List (Addr×Obj)}{s:Shared}{σ:St}{H:Hp}{R:V->V->Hp->Prop}(I:Inv X pins σ H s)(h:ta σ H fun x H1=>tb σ H1 fun y H2=>R x y H2)
  {α:Type} {Q:α->Shared->Prop} {f:Value->Value->Sem α}
  (hf:∀v u s2 x y H2,Inv X pins σ H2 s2->RelV x v->RelV y u->R x y H2->wpAny (model X.prog X.w) X.A (f v u) Q X.xe s2) :
  wpAny (model X.prog X.w) X.A (eval a X.env) (fun v s₁=>wpAny (model X.prog X.w) X.A (eval b X.env) (fun u s₂=>wpAny (model X.prog X.w) X.A (f v u) Q X.xe s₂) X.xe s₁) X.xe s:=by
 refine YI (ha pins s σ H _ I h) fun v s1 ⟨x,H1,I1,r1,q1⟩=>?_
 refine YI (hb pins s1 σ H1 _ I1 q1) fun u s2 ⟨y,H2,I2,r2,q2⟩=>?_
 exact hf v u s2 x y H2 I2 r1 r2 q2
def Ua(i:Nat):TE:=fun σ H Q=>∃v,σ[i]?=some (some v)/\Q v H
def tC(v:V):TE:=fun _ H Q=>Q v H
theorem Dm{i:Nat}{x:Str}{pos:Pos}(hN:X.N[i]?=some x)(hv:Au X.env.scope x)(hd:(x==("__debug__" : Str))=false:=by decide)(hcd:(x==("__classdict__" : Str))=false:=by decide):PE X (.Name x pos) (Ua i):=by
 intro pins s σ H Q I h
 obtain⟨v,e,h⟩:=h
 obtain⟨m,hn,hl⟩:=I.loc
 obtain⟨u,r,l⟩:=hl i x v hN e hv
 have fin:EP X pins σ Q u s:=⟨v,H,I,r,h⟩
 rcases l with⟨hk,hm⟩ | ⟨hk,c,hc,hcell⟩
 ·exact wpAny_Name (wpAny_loadName_local I.ok.kind hk hn hm fin) hd
 ·rcases hk with hk | hk
  ·exact wpAny_Name (wpAny_loadName_cell I.ok.kind hk hc hcell fin) hd
  ·exact wpAny_Name (wpAny_loadName_free I.ok.kind hk hc hcell fin hcd) hd
theorem Dn{i j pos}:PE X (.Constant (.int i) j pos) (tC (.int i)):=fun _ _ _ H _ I h=>wpAny_Constant_int ⟨.int i,H,I.tok _,⟨_,rfl⟩,h⟩
theorem C3{b j pos}:PE X (.Constant (.bool b) j pos) (tC (.bl b)):=fun _ _ _ H _ I h=>Constant_bool ⟨.bl b,H,I,rfl,h⟩
theorem Iy{j pos}:PE X (.Constant .none j pos) (tC .non):=fun _ _ _ H _ I h=>Constant_none ⟨.non,H,I,rfl,h⟩
theorem Dp{x j pos}:PE X (.Constant (.str x) j pos) (tC (.str x)):=fun _ _ _ H _ I h=>Calls.Constant_str ⟨.str x,H,I.tok _,⟨_,rfl⟩,h⟩
def Gl(X:Cx)(x:Str):Prop:=X.env.kindOf x=some .globalImplicit
theorem Vz{E:Value->Shared->Prop}{pins:List (Addr×Obj)}{s:Shared}{σ:St}{H:Hp}{x:Str}{u:Value}{pos:Pos}{Q:Value->Shared->Prop}(I:Inv X pins σ H s)(hg:Gl X x)(hm:X.mg x=some u)(h:Q u s)
  (hd:(x==("__debug__" : Str))=false:=by decide):wpAny (model X.prog X.w) X.A (eval (.Name x pos) X.env) Q E s:=
 Calls.Name_function_global I.ok.kind hg (Calls.loadGlobal_global (by rw[I.ok.glob];exact I.mod.glob.keeps I.bk) hm h) hd
theorem Vg{E:Value->Shared->Prop}{pins:List (Addr×Obj)}{s:Shared}{σ:St}{H:Hp}{x:Str}{u:Value}{pos:Pos}{Q:Value->Shared->Prop}(I:Inv X pins σ H s)(hg:Gl X x)(hm:X.mg x=none)(hv:bootBuiltins x=some u)(h:Q u s)
  (hn:x≠"__name__":=by decide) (hd:(x==("__debug__" : Str))=false:=by decide):wpAny (model X.prog X.w) X.A (eval (.Name x pos) X.env) Q E s:=by
 obtain⟨mb,h1,h2⟩:=I.mod.blt
 exact Calls.Name_function_global I.ok.kind hg (Calls.loadGlobal_builtin (by rw[I.ok.glob];exact I.mod.glob.keeps I.bk) hm (by rw[I.ok.blt];exact h1.keeps I.bk) ((h2 x hn).trans hv) h) hd
theorem GR{x:Str}{v:V}{u:Value}{pos:Pos}(hg:Gl X x)(hm:X.mg x=none)(hv:bootBuiltins x=some u)(r:RelV v u)(hn:x≠"__name__":=by decide)(hd:(x==("__debug__" : Str))=false:=by decide):PE X (.Name x pos) (tC v):=
 fun _ _ _ H _ I h=>Vg I hg hm hv ⟨v,H,I,r,h⟩ hn hd
variable {a b:Expr} {ta tb:TE} {pos:Pos}
def PC(X:Cx)(op:CmpOp)(a b:Expr)(t:TE):Prop:=
 ∀(pins:List (Addr×Obj))(s:Shared)(σ:St)(H:Hp)(Q:VK),Inv X pins σ H s->t σ H Q->
  wpAny (model X.prog X.w) X.A (eval a X.env) (fun v s₁=>wpAny (model X.prog X.w) X.A (eval b X.env) (fun u s₂=>wpAny (model X.prog X.w) X.A (compareOp op v u) (EP X pins σ Q) X.xe s₂) X.xe s₁) X.xe s
theorem O4(b:Expr){op:CmpOp}(h:op≠.In)(h2:op≠.NotIn):behindInMarks op b=false:=by
 have e1:(op==CmpOp.In)=false:=by cases op<;>first | rfl | exact absurd rfl h
 have e2:(op==CmpOp.NotIn)=false:=by cases op<;>first | rfl | exact absurd rfl h2
 cases b<;>simp[behindInMarks,e1,e2]
def EE(ta:TE):TE:=fun σ H Q=>ta σ H fun x H1=>Q (.bl (!decide (x = .non))) H1
theorem RelV.none_iff{x:V}{v:Value}(r:RelV x v):(v==Value.none)=decide (x = .non):=by
 cases x with
 | non=>cases r;rfl
 | bl _=>cases r;rfl
 | int _=>obtain⟨t,rfl⟩:=r;rfl
 | str _=>obtain⟨t,rfl⟩:=r;rfl
 | byt _=>obtain⟨t,rfl⟩:=r;rfl
 | flt _=>obtain⟨t,rfl⟩:=r;rfl
 | ref _=>cases r;rfl
 | ty _=>cases r;rfl
theorem LI{j pos'}(ha:PE X a ta):PC X .IsNot a (.Constant .none j pos') (EE ta):=by
 intro pins s σ H Q I h
 refine YI (ha pins s σ H _ I h) fun v s1 ⟨x,H1,I1,r1,q1⟩=>?_
 exact Constant_none (isnot_none_gen ⟨.bl _,H1,I1,by rw[r1.none_iff];rfl,q1⟩)
def tB(t:TE):TT:=fun σ H Q=>t σ H fun x H1=>∃c,x = .bl c/\Q c H1
theorem Dq{op:CmpOp}{t:TE}(h:PC X op a b t)(h1:behindInMarks op b=false:=by first | exact O4 _ (by decide) (by decide) | rfl):PE X (.Compare a [op] [b] pos) t:=fun pins s σ H Q I hw=>wpAny_Compare1 (h pins s σ H Q I hw) h1
theorem Iz{op:CmpOp}{t:TE}(h:PC X op a b t)(h1:behindInMarks op b=false:=by first | exact O4 _ (by decide) (by decide) | rfl):PT X (.Compare a [op] [b] pos) (tB t):=by
 intro pins s σ H Q I hw
 refine wpAny_isTrue_Compare1 (YI (h pins s σ H _ I hw) fun v s1 h1=>YI h1 fun u s2 h2=>YI h2 fun c s3 ⟨x,H1,I1,r1,q1⟩=>?_) h1
 obtain⟨d,rfl,q⟩:=q1
 cases r1
 exact wpAny_truthy_bool ⟨H1,I1,q⟩
theorem Dr{e:Expr}{t:TE}(h:PE X e t)(he:∀whole,isTrue e X.env whole=(do let v <-whole;standAt e.pos;holding [v] (truthy v)):=by intro _;rfl):PT X e (tB t):=by
 intro pins s σ H Q I hw
 refine isTrue_plain (YI (h pins s σ H _ I hw) fun v s1 ⟨x,H1,I1,r1,q1⟩=>?_) (he _)
 obtain⟨d,rfl,q⟩:=q1
 cases r1
 exact wpAny_truthy_bool ⟨H1,I1,q⟩
variable {tA tB':TT} {rest:List Expr}
def C4(t u:TT):TT:=fun σ H Q=>t σ H fun c H1=>if c=true then u σ H1 Q else Q false H1
def A3(t u:TT):TT:=fun σ H Q=>t σ H fun c H1=>if c=true then Q true H1 else u σ H1 Q
def Aw(t:TT):TT:=fun σ H Q=>t σ H fun c H1=>Q (!c) H1
theorem GS(ha:PT X a tA):PW X (.BoolOp .And [a] pos) tA:=by
 intro wh pins s σ H Q I h
 refine isTrue_and (YI (ha pins s σ H Q I h) fun c s1 e=>?_)
 cases c with
 | true=>exact isTrue_and_nil e
 | false=>exact e
theorem Ds(ha:PT X a tA):PW X (.BoolOp .Or [a] pos) tA:=by
 intro wh pins s σ H Q I h
 refine isTrue_or (YI (ha pins s σ H Q I h) fun c s1 e=>?_)
 cases c with
 | false=>exact isTrue_or_nil e
 | true=>exact e
theorem Dt(ha:PT X a tA)(hb:PW X (.BoolOp .And (b::rest) pos) tB'):PW X (.BoolOp .And (a::b::rest) pos) (C4 tA tB'):=by
 intro wh pins s σ H Q I h
 refine isTrue_and (YI (ha pins s σ H _ I h) fun c s1 ⟨H1,I1,q1⟩=>?_)
 cases c with
 | true=>exact hb wh pins s1 σ H1 Q I1 q1
 | false=>exact⟨H1,I1,q1⟩
theorem C5(ha:PT X a tA)(hb:PW X (.BoolOp .Or (b::rest) pos) tB'):PW X (.BoolOp .Or (a::b::rest) pos) (A3 tA tB'):=by
 intro wh pins s σ H Q I h
 refine isTrue_or (YI (ha pins s σ H _ I h) fun c s1 ⟨H1,I1,q1⟩=>?_)
 cases c with
 | true=>exact⟨H1,I1,q1⟩
 | false=>exact hb wh pins s1 σ H1 Q I1 q1
theorem Du(ha:PT X a tA):PT X (.UnaryOp .Not a pos) (Aw tA):=by
 intro pins s σ H Q I h
 exact isTrue_not (ha pins s σ H (fun c H1=>Q (!c) H1) I h)
def C6(ta tb:TE):TE:=fun σ H Q=>ta σ H fun x H1=>∃c,x = .bl c/\if c=true then tb σ H1 Q else Q (.bl false) H1
def C7(ta:TE):TE:=fun σ H Q=>ta σ H fun x H1=>∃c,x = .bl c/\Q (.bl (!c)) H1
theorem Dv{op}{t:TE}(h:PE X a t):PE X (.BoolOp op [a] pos) t:=fun pins s σ H Q I hw=>BoolOp_one (h pins s σ H Q I hw)
theorem Dw(ha:PE X a ta)(hb:PE X (.BoolOp .And (b::rest) pos) tb):PE X (.BoolOp .And (a::b::rest) pos) (C6 ta tb):=by
 intro pins s σ H Q I h
 refine BoolOp_and (YI (ha pins s σ H _ I h) fun v s1 ⟨x,H1,I1,r1,q1⟩=>?_)
 obtain⟨c,rfl,q1⟩:=q1
 cases r1
 refine wpAny_truthy_bool ?_
 cases c with
 | true=>exact hb pins s1 σ H1 Q I1 q1
 | false=>exact⟨.bl false,H1,I1,rfl,q1⟩
theorem Dx(ha:PE X a ta):PE X (.UnaryOp .Not a pos) (C7 ta):=by
 intro pins s σ H Q I h
 refine UnaryOp_ (YI (ha pins s σ H _ I h) fun v s1 ⟨x,H1,I1,r1,q1⟩=>?_)
 obtain⟨c,rfl,q1⟩:=q1
 cases r1
 exact not_of (wpAny_truthy_bool ⟨.bl (!c),H1,I1,rfl,q1⟩)
def tIf(t:TT)(ta tb:TE):TE:=fun σ H Q=>t σ H fun c H1=>if c=true then ta σ H1 Q else tb σ H1 Q
theorem IA{c:Expr}(hc:PT X c tA)(ha:PE X a ta)(hb:PE X b tb):PE X (.IfExp c a b pos) (tIf tA ta tb):=by
 intro pins s σ H Q I h
 refine wpAny_IfExp (YI (hc pins s σ H _ I h) fun d s1 ⟨H1,I1,q1⟩=>?_)
 cases d with
 | true=>exact ha pins s1 σ H1 Q I1 q1
 | false=>exact hb pins s1 σ H1 Q I1 q1
end
def SqL(K:PySem.W.Frag)(H:Hp)(a:Addr)(xs:List V):Prop:=
 Rd H a (.lst xs)\/
  ∃(o:Obj) (its:Array Value) (n:Nat),K.lookup a=some o/\o.cls = .type "list"/\o.dict=none/\o.data = .seq its n/\its.size<=sizeLine/\Vals xs its.toList
def SqT(K:PySem.W.Frag)(H:Hp)(a:Addr)(xs:List V):Prop:=
 Rd H a (.tup xs)\/
  ∃(o:Obj) (its:Array Value) (n:Nat),K.lookup a=some o/\o.cls = .type "tuple"/\o.data = .seq its n/\its.size<=sizeLine/\Vals xs its.toList
def Ax:Value->Option V
 | .none=>some .non
 | .bool b=>some (.bl b)
 | .int i _=>some (.int i)
 | .str x _=>some (.str x)
 | .bytes b _=>some (.byt b)
 | .float b _=>some (.flt b)
 | .ref a=>some (.ref a)
 | .type n=>some (.ty n)
 | _=>none
theorem RelV.abs{x:V}{u:Value}(r:RelV x u):Ax u=some x:=by
 cases x with
 | non=>cases r;rfl
 | bl _=>cases r;rfl
 | int _=>obtain⟨t,rfl⟩:=r;rfl
 | str _=>obtain⟨t,rfl⟩:=r;rfl
 | byt _=>obtain⟨t,rfl⟩:=r;rfl
 | flt _=>obtain⟨t,rfl⟩:=r;rfl
 | ref _=>cases r;rfl
 | ty _=>cases r;rfl
theorem RelV.inj{x y:V}{u:Value}(r:RelV x u)(q:RelV y u):x=y:=Option.some.inj (r.abs.symm.trans q.abs)
theorem Vals.inj:∀{xs ys:List V}{us:List Value},Vals xs us->Vals ys us->xs=ys
 | _,_,_,.nil,.nil=>rfl
 | _,_,_,.cons r t,.cons r' t'=>by rw[r.inj r',Vals.inj t t']
section
variable {X:Cx} {pins:List (Addr×Obj)} {σ:St} {H:Hp} {s:Shared} {a:Addr} {xs ys:List V}
theorem SqL.of{K:PySem.W.Frag}(h:H a=some (.lst xs)):SqL K H a xs:=.inl (.inl h)
theorem SqT.of{K:PySem.W.Frag}(h:H a=some (.tup xs)):SqT K H a xs:=.inl (.inl h)
theorem Inv.list(I:Inv X pins σ H s)(h:SqL X.K H a xs):∃its:List Value,Vals xs its/\PlainL s.heap a its.toArray/\xs.length<=sizeLine:=by
 rcases h with h | ⟨o,its,n,hk,hc,hd,hs,hz,r⟩
 ·obtain⟨z,its,n,r,e⟩:=h.ok I.hok
  exact⟨its,r,⟨_,n,e,rfl,rfl,rfl⟩,z⟩
 ·refine⟨its.toList,r,⟨o,n,I.kIn a o hk,hc,hd,by simpa using hs⟩,?_⟩
  have e:=r.length;simp only[Array.length_toList] at e;omega
theorem Inv.tuple(I:Inv X pins σ H s)(h:SqT X.K H a xs):∃its:List Value,Vals xs its/\IsTup s.heap a its.toArray/\xs.length<=sizeLine:=by
 rcases h with h | ⟨o,its,n,hk,hc,hs,hz,r⟩
 ·obtain⟨z,its,r,p⟩:=h.ok I.hok
  exact⟨its,r,p,z⟩
 ·refine⟨its.toList,r,⟨o,I.kIn a o hk,hc,n,by simpa using hs⟩,?_⟩
  have e:=r.length;simp only[Array.length_toList] at e;omega
theorem Inv.list_inj(I:Inv X pins σ H s)(h:SqL X.K H a xs)(h':SqL X.K H a ys):xs=ys:=by
 obtain⟨its,r,⟨o,n,e,_,_,d⟩,_⟩:=I.list h
 obtain⟨its',r',⟨o',n',e',_,_,d'⟩,_⟩:=I.list h'
 rw[e] at e';cases e'
 rw[d] at d'
 injection d' with d1 _
 have:its=its':=by simpa using congrArg Array.toList d1
 subst this
 exact r.inj r'
theorem Inv.tuple_inj(I:Inv X pins σ H s)(h:SqT X.K H a xs)(h':SqT X.K H a ys):xs=ys:=by
 obtain⟨its,r,⟨o,e,_,n,d⟩,_⟩:=I.tuple h
 obtain⟨its',r',⟨o',e',_,n',d'⟩,_⟩:=I.tuple h'
 rw[e] at e';cases e'
 rw[d] at d'
 injection d' with d1 _
 have:its=its':=by simpa using congrArg Array.toList d1
 subst this
 exact r.inj r'
end
abbrev Cx.wish(X:Cx)(E:Value->Shared->Prop):Cx:={ X with xe:=E }
abbrev Cx.nox(X:Cx):Cx:=X.wish fun _ _=>False
theorem Cx.Ok.wish{X:Cx}(ok:X.Ok)(E:Value->Shared->Prop):(X.wish E).Ok:=
 ⟨ok.mod,ok.kind,ok.glob,ok.blt,ok.above,ok.inj,ok.has,ok.cab,ok.hd,ok.frames,ok.stk,ok.exf,ok.bs,ok.bsz,ok.noex,ok.exfs,ok.funs,ok.frf⟩
theorem Cx.Ok.unwish{X:Cx}{E:Value->Shared->Prop}(ok:(X.wish E).Ok):X.Ok:=
 ⟨ok.mod,ok.kind,ok.glob,ok.blt,ok.above,ok.inj,ok.has,ok.cab,ok.hd,ok.frames,ok.stk,ok.exf,ok.bs,ok.bsz,ok.noex,ok.exfs,ok.funs,ok.frf⟩
section
variable {X:Cx} {pins:List (Addr×Obj)} {σ:St} {H:Hp} {s:Shared} {E:Value->Shared->Prop}
theorem Inv.wish(I:Inv X pins σ H s)(E:Value->Shared->Prop):Inv (X.wish E) pins σ H s:=⟨I.ok.wish E,I.os,I.bare,I.base,I.loc,I.cell,I.free,I.freeC,I.pin,I.hok,I.len⟩
theorem Inv.unwish(I:Inv (X.wish E) pins σ H s):Inv X pins σ H s:=⟨I.ok.unwish,I.os,I.bare,I.base,I.loc,I.cell,I.free,I.freeC,I.pin,I.hok,I.len⟩
theorem SP.unwish{D:V9}{f:Flow}{s':Shared}(h:SP (X.wish E) pins D f s'):SP X pins D f s':=by
 cases f with
 | next=>obtain⟨σ',H',I,q⟩:=h;exact⟨σ',H',I.unwish,q⟩
 | brk=>obtain⟨σ',H',I,q⟩:=h;exact⟨σ',H',I.unwish,q⟩
 | cont=>obtain⟨σ',H',I,q⟩:=h;exact⟨σ',H',I.unwish,q⟩
 | ret u=>obtain⟨v,σ',H',I,r,q⟩:=h;exact⟨v,σ',H',I.unwish,r,q⟩
theorem PSs.nox{st:List Stmt}{t:TS}(h:PSs X.nox st t):PSs X st t:=fun pins s σ H D I hw=>
 wpAny_mono (h pins s σ H D (I.wish _) hw) (fun _ _ q=>q.unwish) fun _ _ z=>False.elim z
end
section
variable {X:Cx} {st:Stmt} {rest:List Stmt} {t u:TS} {e:Expr} {te:TE} {pos:Pos}
def EF:TS:=fun D σ H=>D.nx σ H
def C8(t u:TS):TS:=fun D σ H=>t { D with nx:=u D } σ H
theorem GU:PSs X [] EF:=fun _ _ σ H _ I h=>wpAny_execs_nil ⟨σ,H,I,h⟩
theorem RK(h1:PS X st t)(h2:PSs X rest u):PSs X (st::rest) (C8 t u):=by
 intro pins s σ H D I h
 refine wpAny_execs_cons (YI (h1 pins s σ H { D with nx:=u D } I h) fun f s1 q=>?_)
 cases f with
 | next=>
  obtain⟨σ',H',I',q⟩:=q
  exact h2 pins s1 σ' H' D I' q
 | ret v=>exact q
 | brk=>exact q
 | cont=>exact q
theorem P5(h1:PS X st t):PSs X [st] t:=by
 intro pins s σ H D I h
 refine wpAny_execs_cons (YI (h1 pins s σ H D I h) fun f s1 q=>?_)
 cases f with
 | next=>exact wpAny_execs_nil q
 | ret v=>exact q
 | brk=>exact q
 | cont=>exact q
theorem Inv.quiet{pins:List (Addr×Obj)}{σ:St}{H:Hp}{s:Shared}(I:Inv X pins σ H s):interactive X.env=false:=by simp[interactive,I.ok.kind]
def O5(te:TE):TS:=fun D σ H=>te σ H fun _ H1=>D.nx σ H1
theorem WX(he:PE X e te)(hs:swapsWith e none pos.line X.env=pure false:=by rfl):PS X (.Expr e pos) (O5 te):=by
 intro pins s σ H D I h
 exact wpAny_Expr_any (YI (he pins s σ H _ I h) fun v s1 ⟨x,H1,I1,r1,q1⟩=>⟨σ,H1,I1,q1⟩) I.quiet hs
def Ay(te:TE):TS:=fun D σ H=>te σ H D.rt
theorem P6(he:PE X e te):PS X (.Return (some e) pos) (Ay te):=by
 intro pins s σ H D I h
 exact wpAny_Return_some (YI (he pins s σ H _ I h) fun v s1 ⟨x,H1,I1,r1,q1⟩=>⟨x,σ,H1,I1,r1,q1⟩)
def Az(c:TT)(t u:TS):TS:=fun D σ H=>c σ H fun b H1=>if b=true then t D σ H1 else u D σ H1
theorem EG{c:Expr}{a b:List Stmt}{tc:TT}(hc:PT X c tc)(ha:PSs X a t)(hb:PSs X b u):PS X (.If c a b pos) (Az tc t u):=by
 intro pins s σ H D I h
 refine wpAny_If (YI (hc pins s σ H _ I h) fun d s1 ⟨H1,I1,q1⟩=>?_)
 cases d with
 | true=>exact ha pins s1 σ H1 D I1 q1
 | false=>exact hb pins s1 σ H1 D I1 q1
end
abbrev TG:=V->St->Hp->(St->Hp->Prop)->Prop
abbrev EH:=List V->St->Hp->(St->Hp->Prop)->Prop
def PG(X:Cx)(target:Expr)(t:TG):Prop:=
 ∀(pins:List (Addr×Obj))(s:Shared)(σ:St)(H:Hp)(v:V)(u:Value)(Q:St->Hp->Prop),Inv X pins σ H s->RelV v u->t v σ H Q->
  wpAny (model X.prog X.w) X.A (assign target X.env u) (fun _ s'=>∃σ' H',Inv X pins σ' H' s'/\Q σ' H') X.xe s
def Ag(X:Cx)(ts:List Expr)(t:EH):Prop:=
 ∀(pins:List (Addr×Obj))(s:Shared)(σ:St)(H:Hp)(vs:List V)(us:List Value)(Q:St->Hp->Prop),Inv X pins σ H s->Vals vs us->t vs σ H Q->
  wpAny (model X.prog X.w) X.A (assignInOrder ((assignEach ts X.env).map (·.2)) us) (fun _ s'=>∃σ' H',Inv X pins σ' H' s'/\Q σ' H') X.xe s
abbrev Dy:=V->V->V->Hp->(Hp->Prop)->Prop
def C9(X:Cx)(t:Dy):Prop:=
 ∀(pins:List (Addr×Obj))(s:Shared)(σ:St)(H:Hp)(o i v:V)(ov iv u:Value)(Q:Hp->Prop),Inv X pins σ H s->RelV o ov->RelV i iv->RelV v u->t o i v H Q->
  wpAny (model X.prog X.w) X.A (setItem ov iv u) (fun _ s'=>∃H',Inv X pins σ H' s'/\Q H') X.xe s
section
variable {X:Cx} {pos:Pos}
def S4(i:Nat):TG:=fun v σ H Q=>Q (σ.set i (some v)) H
theorem Zr{i:Nat}{x:Str}(hN:X.N.Nodup)(hi:X.N[i]?=some x)(hx:C2 X.env.scope x)(hf:X.fn x=true\/X.env.scope.names.lookup x=some .local:=by first | exact .inl rfl | exact .inr rfl | assumption):PG X (.Name x pos) (S4 i):=by
 intro pins s σ H v u Q I r h
 exact wpAny_assign_Name (Uc I hN hi hx r (fun s' I'=>⟨_,H,I',h⟩) hf)
def Ba:EH:=fun vs σ H Q=>vs=[]/\Q σ H
def EI(t:TG)(u:EH):EH:=fun vs σ H Q=>∃v r,vs=v::r/\t v σ H fun σ' H'=>u r σ' H' Q
theorem VB:Ag X [] Ba:=by
 intro pins s σ H vs us Q I r h
 obtain⟨e,h⟩:=h
 subst e;cases r
 exact assignInOrder_nil ⟨σ,H,I,h⟩
theorem YD{e:Expr}{es:List Expr}{t:TG}{u:EH}(h1:PG X e t)(h2:Ag X es u)
  (hs:(assignEach (e::es) X.env).map (·.2)=assign e X.env::(assignEach es X.env).map (·.2):=by rfl):Ag X (e::es) (EI t u):=by
 intro pins s σ H vs us Q I r h
 obtain⟨v,vr,e1,h⟩:=h
 subst e1
 cases r with
 | cons r rr=>
  rw[hs]
  refine assignInOrder_cons (YI (h1 pins s σ H _ _ _ I r h) fun _ s1 ⟨σ1,H1,I1,q1⟩=>?_)
  exact h2 pins s1 σ1 H1 _ _ Q I1 rr q1
def Bb(K:PySem.W.Frag)(n:Nat)(t:EH):TG:=fun v σ H Q=>∃a xs,v = .ref a/\SqT K H a xs/\xs.length=n/\t xs σ H Q
theorem U8{es:List Expr}{k:Nat}{t:EH}{n:Nat}(hc:X.calm=true)(h:Ag X es t)
  (hn:(assignEach es X.env).length=n:=by rfl) (hst:(assignEach es X.env).findIdx? (·.1)=none:=by rfl):PG X (.Tuple es k pos) (Bb X.K n t):=by
 intro pins s σ H v u Q I r hw
 obtain⟨a,xs,e1,hq,hl,hw⟩:=hw
 subst e1;cases r
 obtain⟨its,rv,ht,hz⟩:=I.tuple hq
 refine assign_Tuple_tuple (I.ok.hd hc) ht (by simp[hn,<-hl,rv.length]) hst fun h' hx=>?_
 have I1:Inv X pins σ H { s with heap:=h' }:=I.kept (t':=s.toks) fun b o e=>hx b o (Nat.ne_of_lt (Heap.lt_size e)) e
 exact h pins _ σ H xs _ Q I1 (by simpa using rv) hw
def Bc(to ti:TE)(t:Dy):TG:=fun v σ H Q=>to σ H fun o H1=>ti σ H1 fun i H2=>t o i v H2 fun H3=>Q σ H3
theorem IB{o i:Expr}{to ti:TE}{t:Dy}(ho:PE X o to)(hi:PE X i ti)(hs:C9 X t)
  (ha:∀v,assign (.Subscript o i pos) X.env v=(do
   let ov <-holding [v] (eval o X.env)
   let iv <-holding [v,ov] (eval i X.env)
   standAt pos
   holding [v,ov,iv] (setItem ov iv v)
   release [v,ov,iv] []):=by intro _;rfl):PG X (.Subscript o i pos) (Bc to ti t):=by
 intro pins s σ H v u Q I r h;rw[ha]
 refine wpAny_bind (wpAny_holding (YI (ho pins s σ H _ I h) fun ov s1 ⟨x,H1,I1,r1,q1⟩=>?_))
 refine wpAny_bind (wpAny_holding (YI (hi pins s1 σ H1 _ I1 q1) fun iv s2 ⟨y,H2,I2,r2,q2⟩=>?_))
 refine wpAny_bind (wpAny_standAt (wpAny_bind (wpAny_holding (YI (hs pins s2 σ H2 x y v ov iv u _ I2 r1 r2 r q2) fun _ s3 ⟨H3,I3,q3⟩=>?_))))
 exact wpAny_release ⟨σ,H3,I3,q3⟩
def MD(te:TE)(g:TG):TS:=fun D σ H=>te σ H fun x H1=>g x σ H1 D.nx
theorem ME{tg e:Expr}{te:TE}{g:TG}(he:PE X e te)(hg:PG X tg g)(hs:swapsWithSole [tg] e pos.line X.env=pure false:=by rfl)(hw:swappedStores [tg] e X.env=pure none:=by rfl)
  (h1:(assignEach [tg] X.env).map (·.2)=[assign tg X.env]:=by rfl):PS X (.Assign [tg] e pos) (MD te g):=by
 intro pins s σ H D I h
 refine wpAny_Assign_stores (YI (he pins s σ H _ I h) fun v s1 ⟨x,H1,I1,r1,q1⟩=>?_) hs hw
 rw[h1]
 exact YI (hg pins s1 σ H1 x v _ I1 r1 q1) fun _ s2 q=>q
theorem Dz{i:Nat}{x:Str}{e:Expr}{te:TE}{pos':Pos}(hN:X.N.Nodup)(hi:X.N[i]?=some x)(hx:C2 X.env.scope x)(he:PE X e te)(hs:swapsWith e (some (.Name x pos')) pos.line X.env=pure false:=by rfl)(hf:X.fn x=true\/X.env.scope.names.lookup x=some .local:=by first | exact .inl rfl | exact .inr rfl | assumption) :
  PS X (.Assign [.Name x pos'] e pos) (MD te (S4 i)):=by
 intro pins s σ H D I h
 refine wpAny_Assign_Name (YI (he pins s σ H _ I h) fun v s1 ⟨y,H1,I1,r1,q1⟩=>?_) hs
 exact Uc I1 hN hi hx r1 (fun s2 I2=>⟨_,H1,I2,q1⟩) hf
end
structure It where
 go:Nat->Hp->Prop
 yld:Nat->Hp->V->Hp->Prop
 stop:Nat->Hp->Prop
def Tu(X:Cx)(pins:List (Addr×Obj))(H:Hp)(b:Addr):Prop:=
 H b=none/\b≠X.env.locals/\b∉X.fs/\(b∈X.ex\/X.s₀.heap.objs.size<=b)/\(∀x c,X.env.cells.lookup x=some c->c≠b)/\∀p∈X.pn++pins,p.1≠b
theorem Inv.fpOk{X:Cx}{pins:List (Addr×Obj)}{σ:St}{H H':Hp}{s:Shared}{b:Addr}(I:Inv X pins σ H s)(hb:s.heap.objs.size<=b)(hn:H' b=none):Tu X pins H' b:=by
 refine⟨hn,Nat.ne_of_gt (Nat.lt_of_lt_of_le I.lt hb),I.nofs hb,.inr (Nat.le_trans I.sz hb),fun x c e z=>?_,fun p hp z=>?_⟩
 ·obtain⟨v,q⟩:=I.cell x c e
  exact absurd (Nat.lt_of_lt_of_le q.lt (by rw[z];exact hb)) (Nat.lt_irrefl _)
 ·exact absurd (Nat.lt_of_lt_of_le (Heap.lt_size (I.pin p hp).1) (by rw[z];exact hb)) (Nat.lt_irrefl _)
structure O6(P:Program)(w:World)(K:PySem.W.Frag)(tg:Expr)(J:It)(fp:List Addr)(it:Addr)(tn:Nat->Heap->Prop):Prop where
 mem:it∈fp
 obj:∀i h,tn i h->∀b∈fp,∃o,h.get? b=some o/\∀v,o.data≠.cell v
 keep:∀i h h',tn i h->(∀b∈fp,∀o,h.get? b=some o->h'.get? b=some o)->tn i h'
 item:∀(X:Cx),X.prog=P->X.w=w->X.K=K->X.calm=true->∀(i:Nat)(pins:List (Addr×Obj))(s:Shared)(σ:St)(H:Hp)(E:Value->Shared->Prop),Inv X pins σ H s->(∀b∈fp,Tu X pins H b)->tn i s.heap->J.go i H->
  wpAny (model P w) X.A (pyNext (.ref it)) (fun r s1=>∃u,r=some u/\
   wpAny (model P w) X.A (letOwnedTupleGo tg (.ref it) u) (fun _ s2=>∃x H',Inv X pins σ H' s2/\RelV x u/\J.yld i H x H'/\tn (i+1) s2.heap/\∀b∈fp,H' b=none) E s1) E s
 done:∀(X:Cx),X.prog=P->X.w=w->X.K=K->X.calm=true->∀(i:Nat)(pins:List (Addr×Obj))(s:Shared)(σ:St)(H:Hp)(E:Value->Shared->Prop),Inv X pins σ H s->(∀b∈fp,Tu X pins H b)->tn i s.heap->J.stop i H->
  wpAny (model P w) X.A (pyNext (.ref it)) (fun r s1=>r=none/\Inv X pins σ H s1) E s
 self:∀(A:Around)(i:Nat)(s:Shared)(Q:Value->Shared->Prop)(E:Value->Shared->Prop),tn i s.heap->Q (.ref it) s->wpAny (model P w) A (pyIter (.ref it)) Q E s
abbrev TI:=St->Hp->(It->Hp->Prop)->Prop
def AA(X:Cx)(pins:List (Addr×Obj))(σ:St)(tg:Expr)(R:It->Hp->Prop)(itv:Value)(s2:Shared):Prop:=
 ∃(it:Addr) (fp:List Addr) (tn:Nat->Heap->Prop) (J:It) (H':Hp),itv = .ref it/\Inv X pins σ H' s2/\O6 X.prog X.w X.K tg J fp it tn/\tn 0 s2.heap/\(∀b∈fp,Tu X pins H' b)/\R J H'
def PI(X:Cx)(tg iter:Expr)(wi:TI):Prop:=
 ∀(pins:List (Addr×Obj))(s:Shared)(σ:St)(H:Hp)(R:It->Hp->Prop),Inv X pins σ H s->wi σ H R->
  wpAny (model X.prog X.w) X.A (eval iter X.env) (fun v s1=>wpAny (model X.prog X.w) X.A (pyIter v) (AA X pins σ tg R) X.xe s1) X.xe s
theorem LJ{M:Model}{A:Around}{E:Value->Shared->Prop}{s:Shared}{tg:Expr}{it:Addr}{u:Value}{o:Obj}{n:String}{vs:Array Value}{Q:Unit->Shared->Prop}(ho:s.heap.get? it=some o)(hc:o.cls = .type n)(hd:o.data = .fields vs)
    (hn:["enumerate","zip","dict_itemiterator","dict_reverseitemiterator","odict_iterator","itertools.zip_longest","itertools.pairwise"].contains n=false) (hQ:Q () s):wpAny M A (letOwnedTupleGo tg (.ref it) u) Q E s:=by
  unfold letOwnedTupleGo
  cases tg<;>first
    | exact wpAny_pure hQ
    | (cases u<;>first
        | exact wpAny_pure hQ
        | (refine wpAny_bind (wpAny_load ho ?_)
           rw[hc,hd]
           show wpAny M A (if(["enumerate","zip","dict_itemiterator","dict_reverseitemiterator","odict_iterator","itertools.zip_longest","itertools.pairwise"].contains n&&vs[0]?==some (rawInt _))=true then _ else _) Q E s
           rw[if_neg (by intro h;rw[hn,Bool.false_and] at h;cases h)]
           exact wpAny_pure hQ))
def AB(K:PySem.W.Frag)(a:Addr):It:=
 ⟨fun i H=>∃xs x,SqL K H a xs/\xs[i]?=some x,fun i H x H'=>H'=H/\∀xs,SqL K H a xs->xs[i]?=some x,fun i H=>∃xs,SqL K H a xs/\xs.length<=i⟩
def A4(K:PySem.W.Frag)(a:Addr):It:=
 ⟨fun i H=>∃xs x,SqT K H a xs/\xs[i]?=some x,fun i H x H'=>H'=H/\∀xs,SqT K H a xs->xs[i]?=some x,fun i H=>∃xs,SqT K H a xs/\xs.length<=i⟩
def Bd(lo:Int)(n:Nat):It:=⟨fun i _=>i<n,fun i H x H'=>H'=H/\x = .int (lo+i),fun i _=>n<=i⟩
theorem K4{P:Program}{w:World}{K:PySem.W.Frag}{tg:Expr}(a it:Addr):O6 P w K tg (AB K a) [it] it (fun i h=>h.IsListIter it a i) where
 mem:=by simp
 obj:=fun i h st b hb=>by
  have e:b=it:=by simpa using hb
  subst e
  obtain⟨o,e,c,d⟩:=st
  exact⟨o,e,fun v z=>by rw[d] at z;cases z⟩
 keep:=fun i h h' st k=>st.at fun o e=>k it (by simp) o e
 item:=by
  intro X hP hw hK hc i pins s σ H E I hf st hg
  subst hP hw hK
  obtain⟨xs,x,hq,hx⟩:=hg
  obtain⟨its,rv,p,hz⟩:=I.list hq
  obtain⟨u,hu,ru⟩:=rv.get hx
  obtain⟨f0,f1,f2,f3,f4,f5⟩:=hf it (by simp)
  refine wpAny_pyNext_list_item st p.isList (x:=u) (by simpa using hu) fun h' st' sb=>?_
  have I1:Inv X pins σ H { s with heap:=h' }:=I.turned (t':=s.toks) (fun b o hb e=>(sb.2 b hb).trans e) f0 f1 f3 f4 f5
  obtain⟨o,e,c,d⟩:=id st'
  exact⟨u,rfl,LJ (s:={ s with heap:=h' }) e c d (by decide) ⟨x,H,I1,ru,⟨rfl,fun ys hy=>by rw[I.list_inj hy hq];exact hx⟩,st',fun b hb=>(hf b hb).1⟩⟩
 done:=by
  intro X hP hw hK hc i pins s σ H E I hf st hg
  subst hP hw hK
  obtain⟨xs,hq,hx⟩:=hg
  obtain⟨its,rv,p,hz⟩:=I.list hq
  obtain⟨f0,f1,f2,f3,f4,f5⟩:=hf it (by simp)
  have hl:=rv.length
  exact wpAny_pyNext_list_end (I.ok.hd hc) st p.isList (by simp;omega) fun h' eb=>⟨rfl,I.turned (t':=s.toks) (fun b o hb e=>eb b o hb e) f0 f1 f3 f4 f5⟩
 self:=fun _ _ _ _ _ st h=>wpAny_pyIter_listiter st h
theorem MF{P:Program}{w:World}{K:PySem.W.Frag}{tg:Expr}(a it:Addr):O6 P w K tg (A4 K a) [it] it (fun i h=>h.IsTupleIter it a i) where
 mem:=by simp
 obj:=fun i h st b hb=>by
  have e:b=it:=by simpa using hb
  subst e
  obtain⟨o,e,c,d⟩:=st
  exact⟨o,e,fun v z=>by rw[d] at z;cases z⟩
 keep:=fun i h h' st k=>st.at fun o e=>k it (by simp) o e
 item:=by
  intro X hP hw hK hc i pins s σ H E I hf st hg
  subst hP hw hK
  obtain⟨xs,x,hq,hx⟩:=hg
  obtain⟨its,rv,p,hz⟩:=I.tuple hq
  obtain⟨u,hu,ru⟩:=rv.get hx
  obtain⟨f0,f1,f2,f3,f4,f5⟩:=hf it (by simp)
  refine wpAny_pyNext_tuple_item st (show s.heap.IsTuple a its.toArray from p) (x:=u) (by simpa using hu) fun h' st' sb=>?_
  have I1:Inv X pins σ H { s with heap:=h' }:=I.turned (t':=s.toks) (fun b o hb e=>(sb.2 b hb).trans e) f0 f1 f3 f4 f5
  obtain⟨o,e,c,d⟩:=id st'
  exact⟨u,rfl,LJ (s:={ s with heap:=h' }) e c d (by decide) ⟨x,H,I1,ru,⟨rfl,fun ys hy=>by rw[I.tuple_inj hy hq];exact hx⟩,st',fun b hb=>(hf b hb).1⟩⟩
 done:=by
  intro X hP hw hK hc i pins s σ H E I hf st hg
  subst hP hw hK
  obtain⟨xs,hq,hx⟩:=hg
  obtain⟨its,rv,p,hz⟩:=I.tuple hq
  obtain⟨f0,f1,f2,f3,f4,f5⟩:=hf it (by simp)
  have hl:=rv.length
  exact wpAny_pyNext_tuple_end (I.ok.hd hc) st (show s.heap.IsTuple a its.toArray from p) (by simp;omega) fun h' eb=>⟨rfl,I.turned (t':=s.toks) (fun b o hb e=>eb b o hb e) f0 f1 f3 f4 f5⟩
 self:=fun _ _ _ _ _ st h=>wpAny_pyIter_tupleiter st h
theorem MG{P:Program}{w:World}{K:PySem.W.Frag}{tg:Expr}(it:Addr)(lo:Int)(n:Nat):O6 P w K tg (Bd lo n) [it] it (fun i h=>IsRangeIter h it (lo+(i:Nat)*1) ((n:Int)-(i:Nat)) 1) where
 mem:=by simp
 obj:=fun i h st b hb=>by
  have e:b=it:=by simpa using hb
  subst e
  exact⟨_,st,fun v z=>by
   have z':Data.fields _=Data.cell v:=z
   cases z'⟩
 keep:=fun i h h' st k=>k it (by simp) _ st
 item:=by
  intro X hP hw hK hc i pins s σ H E I hf st hg
  subst hP hw hK
  obtain⟨f0,f1,f2,f3,f4,f5⟩:=hf it (by simp)
  have W:=Walks.range (prog:=X.prog) (w:=X.w) (I.ok.hd hc) it lo 1 n
  refine W.item i s _ _ hg st fun v h' tk hv st' kk=>?_
  obtain⟨t,rfl⟩:=hv
  have I1:Inv X pins σ H { s with heap:=h',toks:=tk }:=I.turned (fun b o hb e=>kk b o (by simpa using hb) e) f0 f1 f3 f4 f5
  refine⟨_,rfl,LJ (s:={ s with heap:=h',toks:=tk }) (n:="range_iterator") st' rfl rfl (by decide) ⟨.int (lo+i),H,I1,⟨t,?_⟩,⟨rfl,rfl⟩,st',fun b hb=>(hf b hb).1⟩⟩
  rw[Int.mul_one]
 done:=by
  intro X hP hw hK hc i pins s σ H E I hf st hg
  subst hP hw hK
  obtain⟨f0,f1,f2,f3,f4,f5⟩:=hf it (by simp)
  exact wpAny_pyNext_range_end (I.ok.hd hc) st (by have:n<=i:=hg;omega) fun h' eb=>⟨rfl,I.turned (t':=s.toks) (fun b o hb e=>eb b o hb e) f0 f1 f3 f4 f5⟩
 self:=fun _ _ _ _ _ st h=>wpAny_pyIter_rangeiter st h
section
variable {X:Cx} {tg:Expr}
def Be(K:PySem.W.Frag)(tl:TE):TI:=fun σ H R=>tl σ H fun x H1=>∃a,x = .ref a/\(∃xs,SqL K H1 a xs)/\R (AB K a) H1
def AD(K:PySem.W.Frag)(tl:TE):TI:=fun σ H R=>tl σ H fun x H1=>∃a,x = .ref a/\(∃xs,SqT K H1 a xs)/\R (A4 K a) H1
theorem GV{l:Expr}{tl:TE}(hl:PE X l tl):PI X tg l (Be X.K tl):=by
 intro pins s σ H R I h
 refine YI (hl pins s σ H _ I h) fun v s1 ⟨x,H1,I1,r1,q1⟩=>?_
 obtain⟨a,e,⟨xs,hq⟩,q⟩:=q1
 subst e;cases r1
 obtain⟨its,rv,p,hz⟩:=I1.list hq
 refine wpAny_pyIter_list p.isList ?_
 refine⟨s1.heap.objs.size,[s1.heap.objs.size],_,_,H1,rfl,I1.kept (t':=s1.toks) fun b o e=>Heap.get?_push_of_some _ e,K4 a _,⟨_,Heap.get?_push_size _ rfl,rfl,rfl⟩,fun b hb=>?_,q⟩
 have e:b=s1.heap.objs.size:=by simpa using hb
 subst e
 exact I1.fpOk (Nat.le_refl _) (I1.hok.fresh (Nat.le_refl _))
theorem DA{l:Expr}{tl:TE}(hl:PE X l tl):PI X tg l (AD X.K tl):=by
 intro pins s σ H R I h
 refine YI (hl pins s σ H _ I h) fun v s1 ⟨x,H1,I1,r1,q1⟩=>?_
 obtain⟨a,e,⟨xs,hq⟩,q⟩:=q1
 subst e;cases r1
 obtain⟨its,rv,p,hz⟩:=I1.tuple hq
 refine wpAny_pyIter_tuple (show s1.heap.IsTuple a its.toArray from p) ?_
 refine⟨s1.heap.objs.size,[s1.heap.objs.size],_,_,H1,rfl,I1.kept (t':=s1.toks) fun b o e=>Heap.get?_push_of_some _ e,MF a _,⟨_,Heap.get?_push_size _ rfl,rfl,rfl⟩,fun b hb=>?_,q⟩
 have e:b=s1.heap.objs.size:=by simpa using hb
 subst e
 exact I1.fpOk (Nat.le_refl _) (I1.hok.fresh (Nat.le_refl _))
theorem O7{pins:List (Addr×Obj)}{σ:St}{H:Hp}{s:Shared}{R:It->Hp->Prop}{E:Value->Shared->Prop}{lo hi:Int}{t u v:Tok}{tk:Nat}(I:Inv X pins σ H s)(h1 : -(2^62)<=lo)(h2:lo<2^62)(h3 : -(2^62)<=hi)(h4:hi<2^62)
  (q:R (Bd lo (hi-lo).toNat) H):wpAny (model X.prog X.w) X.A (pyIter (.ref s.heap.objs.size)) (AA X pins σ tg R) E { s with heap:=s.heap.push { cls:=.type "range",data:=.fields #[.int lo t,.int hi u,.int 1 v] },toks:=tk }:=by
 refine wpAny_pyIter_range (IsRange.new ..) (small_one h1 h2 h3 h4) ?_
 have I1:Inv X pins σ H { s with heap:=s.heap.push { cls:=.type "range",data:=.fields #[.int lo t,.int hi u,.int 1 v] },toks:=tk }:=I.kept fun b o e=>Heap.get?_push_of_some _ e
 refine⟨(s.heap.push { cls:=.type "range",data:=.fields #[.int lo t,.int hi u,.int 1 v] }).objs.size,[(s.heap.push { cls:=.type "range",data:=.fields #[.int lo t,.int hi u,.int 1 v] }).objs.size],_,_,H,rfl,
  I1.kept (t':=tk) fun b o e=>Heap.get?_push_of_some _ e,MG _ lo (hi-lo).toNat,?_,fun b hb=>?_,q⟩
 ·have e1:lo+((0:Nat):Int)*1=lo:=by simp
  have e2:(((hi-lo).toNat:Nat):Int)-((0:Nat):Int)=Builtin.Range.rangeSize lo hi 1:=by rw[rangeSize_one];split<;>omega
  show IsRangeIter _ _ (lo+((0:Nat):Int)*1) ((((hi-lo).toNat:Nat):Int)-((0:Nat):Int)) 1
  rw[e1,e2]
  exact Heap.get?_push_size _ rfl
 ·have e:b=(s.heap.push { cls:=.type "range",data:=.fields #[.int lo t,.int hi u,.int 1 v] }).objs.size:=by simpa using hb
  subst e
  exact I1.fpOk (Nat.le_refl _) (I1.hok.fresh (Nat.le_refl _))
def Bf(ta:TA):TI:=fun σ H R=>ta σ H fun vs H1=>∃j:Int,vs=[.int j]/\-(2^62)<=j/\j<2^62/\R (Bd 0 j.toNat) H1
def Bg(ta:TA):TI:=fun σ H R=>ta σ H fun vs H1=>∃i j:Int,vs=[.int i,.int j]/\(-(2^62)<=i/\i<2^62/\-(2^62)<=j/\j<2^62)/\R (Bd i (j-i).toNat) H1
theorem K5{a:Expr}{ta:TA}{p pos:Pos}(hg:Gl X "range")(hm:X.mg "range" = none)(ha:PA X [a] ta)(hs:starEach [a] X.env=[(false,eval a X.env)]:=by rfl):PI X tg (.Call (.Name "range" p) [a] [] pos) (Bf ta):=by
 intro pins s σ H R I h
 refine Call_ (Vg I hg hm boot_range (PyProof.Rows.callWith_type1 (YI (ha pos pins s σ H _ I h) fun us s1 ⟨vs,H1,I1,r1,q1⟩=>?_) hs rfl))
 obtain⟨j,e,q1,q2,q⟩:=q1
 subst e
 cases r1 with
 | cons r rr=>
  cases rr
  obtain⟨t,rfl⟩:=r
  exact call_range_1 (O7 I1 (by omega) (by omega) q1 q2 (by simpa using q))
theorem Pa{a b:Expr}{ta:TA}{p pos:Pos}(hg:Gl X "range")(hm:X.mg "range" = none)(ha:PA X [a,b] ta)(hs:starEach [a,b] X.env=[(false,eval a X.env),(false,eval b X.env)]:=by rfl)(hs2:starEach [b] X.env=[(false,eval b X.env)]:=by rfl) :
  PI X tg (.Call (.Name "range" p) [a,b] [] pos) (Bg ta):=by
 intro pins s σ H R I h
 refine Call_ (Vg I hg hm boot_range (PyProof.Rows.callWith_type1 (YI (ha pos pins s σ H _ I h) fun us s1 ⟨vs,H1,I1,r1,q1⟩=>?_) (by rw[hs,hs2]) (by rw[hs2];rfl)))
 obtain⟨i,j,e,⟨q1,q2,q3,q4⟩,q⟩:=q1
 subst e
 cases r1 with
 | cons r rr=>
  cases rr with
  | cons r' rr=>
   cases rr
   obtain⟨t,rfl⟩:=r
   obtain⟨t',rfl⟩:=r'
   exact call_range_2 (O7 I1 q1 q2 q3 q4 q)
def GW(wi:TI)(g:TG)(tb:TS):TS:=fun D σ H=>wi σ H fun J H1=>∃W:Nat->Nat->St->Hp->Prop,(∃m,W 0 m σ H1)/\∀i m σ H,W i m σ H->
 (J.stop i H/\D.nx σ H)\/(J.go i H/\∃N:St->Hp->Prop,(∀σ' H',N σ' H'->∃m',m'<m/\W (i+1) m' σ' H')/\∀x H',J.yld i H x H'->g x σ H' fun σ2 H2=>tb { D with nx:=N,ct:=N,bk:=D.nx } σ2 H2)
def Ss(fp:List Addr)(h:Heap):List (Addr×Obj):=fp.filterMap fun b=>(h.get? b).map fun o=>(b,o)
theorem VC{fp:List Addr}{h:Heap}{b:Addr}{o:Obj}(hb:b∈fp)(e:h.get? b=some o):(b,o)∈Ss fp h:=List.mem_filterMap.mpr ⟨b,hb,by rw[e];rfl⟩
theorem K6{fp:List Addr}{h:Heap}{p:Addr×Obj}(hp:p∈Ss fp h):p.1∈fp/\h.get? p.1=some p.2:=by
 obtain⟨b,hb,e⟩:=List.mem_filterMap.mp hp
 cases q:h.get? b with
 | none=>rw[q] at e;cases e
 | some o=>
  rw[q] at e
  have e':(b,o)=p:=Option.some.inj e
  subst e'
  exact⟨hb,q⟩
theorem Inv.pinned{pins:List (Addr×Obj)}{σ:St}{H:Hp}{s:Shared}{fp:List Addr}(I:Inv X pins σ H s)(hf:∀b∈fp,Tu X pins H b)(ho:∀b∈fp,∃o,s.heap.get? b=some o/\∀v,o.data≠.cell v):Inv X (pins++Ss fp s.heap) σ H s:=
 I.pins_of fun p hp=>(List.mem_append.mp hp).elim (fun z=>I.pin p (List.mem_append_right _ z)) fun z=>by
  obtain⟨hb,e⟩:=K6 z
  obtain⟨f0,f1,f2,_⟩:=hf p.1 hb
  obtain⟨o,e',d⟩:=ho p.1 hb
  rw[e] at e';cases e'
  exact⟨e,f0,f1,f2,d⟩
theorem Inv.unpinned{pins pl:List (Addr×Obj)}{σ:St}{H:Hp}{s:Shared}(I:Inv X (pins++pl) σ H s):Inv X pins σ H s:=I.pins_of fun p hp=>I.pin p (List.mem_append_right _ (List.mem_append_left _ hp))
theorem RL{iter:Expr}{body:List Stmt}{wi:TI}{g:TG}{tb:TS}{pos:Pos}(hp:PassesOwn (model X.prog X.w) X.A X.env X.xe)(hc:X.calm=true)(hi:PI X tg iter wi)(hg:PG X tg g)(hb:PSs X body tb)
  (hs:∀x,foldedSetIterable iter X.env x=pure x:=by intro _;rfl):PS X (.For tg iter body [] pos) (GW wi g tb):=by
 intro pins s σ H D I h
 refine wpAny_For (YI (hi pins s σ H _ I h) fun v s1 h1=>YI h1 fun itv s2 h2=>?_) hs
 obtain⟨it,fp,tn,J,H2,e,I2,T,st2,f2,W,⟨m0,w0⟩,turn⟩:=h2
 subst e
 -- what stays true of the iterator's objects through the loop
 have stat:∀{H':Hp},(∀b∈fp,H' b=none)->∀b∈fp,Tu X pins H' b:=fun hn b hb=>⟨hn b hb,(f2 b hb).2⟩
 refine codeAny_forLoop_any (fun n s'=>∃i σ' H',Inv X pins σ' H' s'/\tn i s'.heap/\(∀b∈fp,H' b=none)/\W i n σ' H') ?_ m0 ⟨0,σ,H2,I2,st2,fun b hb=>(f2 b hb).1,w0⟩
 rintro n s3 ⟨i,σ3,H3,I3,st3,fr3,w3⟩
 rcases turn i n σ3 H3 w3 with⟨stop,qn⟩ | ⟨go,N,hN,step⟩
 ·refine wpAny_passesOwn hp (YI (T.done X rfl rfl rfl hc i pins s3 σ3 H3 X.xe I3 (stat fr3) st3 stop) fun r s4 ⟨hr,I4⟩=>?_)
  subst hr
  exact wpAny_execs_nil ⟨σ3,H3,I4,qn⟩
 ·refine wpAny_passesOwn hp (YI (T.item X rfl rfl rfl hc i pins s3 σ3 H3 X.xe I3 (stat fr3) st3 go) fun r s4 ⟨u,hr,h4⟩=>?_)
  subst hr
  refine wpAny_passesOwn hp (YI h4 fun _ s5 ⟨x,H5,I5,r5,y5,st5,fr5⟩=>?_)
  have I5':=I5.pinned (stat fr5) (T.obj _ _ st5)
  refine wpAny_passesOwn hp (YI (hg _ s5 σ3 H5 x u _ I5' r5 (step x H5 y5)) fun _ s6 ⟨σ6,H6,I6,q6⟩=>?_)
  refine wpAny_passesOwn hp (YI (hb _ s6 σ6 H6 _ I6 q6) fun f s7 q7=>?_)
  have again:∀{σ7:St}{H7:Hp},Inv X (pins++Ss fp s5.heap) σ7 H7 s7->N σ7 H7->∃m,m<n/\∃i σ' H',Inv X pins σ' H' s7/\tn i s7.heap/\(∀b∈fp,H' b=none)/\W i m σ' H':=fun{σ7 H7} I7 n7=>by
   obtain⟨m',hm,w7⟩:=hN σ7 H7 n7
   refine⟨m',hm,i+1,σ7,H7,I7.unpinned,T.keep _ _ _ st5 fun b hb o e=>(I7.pin (b,o) (List.mem_append_right _ (List.mem_append_right _ (VC hb e)))).1,fun b hb=>?_,w7⟩
   obtain⟨o,e,d⟩:=T.obj _ _ st5 b hb
   exact(I7.pin (b,o) (List.mem_append_right _ (List.mem_append_right _ (VC hb e)))).2.1
  cases f with
  | next=>obtain⟨σ7,H7,I7,n7⟩:=q7;exact again I7 n7
  | cont=>obtain⟨σ7,H7,I7,n7⟩:=q7;exact again I7 n7
  | brk=>obtain⟨σ7,H7,I7,q7⟩:=q7;exact⟨σ7,H7,I7.unpinned,q7⟩
  | ret v=>obtain⟨x7,σ7,H7,I7,r7,q7⟩:=q7;exact⟨x7,σ7,H7,I7.unpinned,r7,q7⟩
end
abbrev R2:=V->V->Hp->VK->Prop
def U2(X:Cx)(f:Value->Value->Sem Value)(r:R2):Prop:=
 ∀(pins:List (Addr×Obj))(s:Shared)(σ:St)(H:Hp)(x y:V)(v u:Value)(Q:VK),Inv X pins σ H s->RelV x v->RelV y u->r x y H Q->
  wpAny (model X.prog X.w) X.A (f v u) (EP X pins σ Q) X.xe s
def AE(X:Cx)(f:Value->Sem Value)(r:V->Hp->VK->Prop):Prop:=
 ∀(pins:List (Addr×Obj))(s:Shared)(σ:St)(H:Hp)(x:V)(v:Value)(Q:VK),Inv X pins σ H s->RelV x v->r x H Q->
  wpAny (model X.prog X.w) X.A (f v) (EP X pins σ Q) X.xe s
def Wa(X:Cx)(f:Value)(r:List V->Hp->VK->Prop):Prop:=
 ∀(pins:List (Addr×Obj))(s:Shared)(σ:St)(H:Hp)(xs:List V)(us:List Value)(Q:VK),Inv X pins σ H s->Vals xs us->r xs H Q->
  wpAny (model X.prog X.w) X.A (call f us) (EP X pins σ Q) X.xe s
def AF(X:Cx)(r:V->Hp->(Bool->Hp->Prop)->Prop):Prop:=
 ∀(pins:List (Addr×Obj))(s:Shared)(σ:St)(H:Hp)(x:V)(v:Value)(Q:Bool->Hp->Prop),Inv X pins σ H s->RelV x v->r x H Q->
  wpAny (model X.prog X.w) X.A (truthy v) (TP X pins σ Q) X.xe s
def DB(r:R2)(ta tb:TE):TE:=fun σ H Q=>ta σ H fun x H1=>tb σ H1 fun y H2=>r x y H2 Q
def tUn(r:V->Hp->VK->Prop)(ta:TE):TE:=fun σ H Q=>ta σ H fun x H1=>r x H1 Q
def rI(C:Int->Int->Prop)(g:Int->Int->V):R2:=fun x y H Q=>∃i j,x = .int i/\y = .int j/\C i j/\Q (g i j) H
def GI(g:Int->Int->V):R2:=fun x y H Q=>∃i j,x = .int i/\y = .int j/\Q (g i j) H
def rU(g:Int->V):V->Hp->VK->Prop:=fun x H Q=>∃i,x = .int i/\Q (g i) H
section
variable {X:Cx} {a b c:Expr} {ta tb tc:TE} {pos:Pos}
theorem DC(ha:PE X a ta)(hb:PE X b tb){pins:List (Addr×Obj)}{s:Shared}{σ:St}{H:Hp}{R:V->V->Hp->Prop}(I:Inv X pins σ H s)
  (h:ta σ H fun x H1=>tb σ H1 fun y H2=>R x y H2) {Q:Value->Shared->Prop} {f:Value->Value->Sem Value}
  (hf:∀v u s2 x y H2,Inv X pins σ H2 s2->RelV x v->RelV y u->R x y H2->wpAny (model X.prog X.w) X.A (f v u) Q X.xe s2) :
  wpAny (model X.prog X.w) X.A (eval a X.env) (fun v s₁=>wpAny (model X.prog X.w) X.A (eval b X.env) (fun u s₂=>wpAny (model X.prog X.w) X.A (f v u) Q X.xe s₂) X.xe s₁) X.xe s:=by
 refine YI (ha pins s σ H _ I h) fun v s1 ⟨x,H1,I1,r1,q1⟩=>?_
 refine YI (hb pins s1 σ H1 _ I1 q1) fun u s2 ⟨y,H2,I2,r2,q2⟩=>?_
 exact hf v u s2 x y H2 I2 r1 r2 q2
theorem IC{op:Operator}{r:R2}(ho:U2 X (binaryOp op) r)(ha:PE X a ta)(hb:PE X b tb):PE X (.BinOp a op b pos) (DB r ta tb):=by
 intro pins s σ H Q I h
 exact wpAny_BinOp (DC ha hb I h fun v u s2 x y H2 I2 rx ry q=>ho pins s2 σ H2 x y v u Q I2 rx ry q)
theorem Bh{op:UnaryOp}{r:V->Hp->VK->Prop}(ho:AE X (unaryOp op) r)(ha:PE X a ta):PE X (.UnaryOp op a pos) (tUn r ta):=by
 intro pins s σ H Q I h
 exact UnaryOp_ (YI (ha pins s σ H _ I h) fun v s1 ⟨x,H1,I1,r1,q1⟩=>ho pins s1 σ H1 x v Q I1 r1 q1)
theorem Bi{f:Value->Value->Sem Value}{C:Int->Int->Prop}{g:Int->Int->Int}
  (rule:∀(i j:Int)(t u:Tok)(s:Shared)(Q:Value->Shared->Prop)(E:Value->Shared->Prop),C i j->Q (.int (g i j) s.toks) { s with toks:=s.toks+1 }->wpAny (model X.prog X.w) X.A (f (.int i t) (.int j u)) Q E s) :
  U2 X f (rI C fun i j=>.int (g i j)):=by
 intro pins s σ H x y v u Q I rx ry h
 obtain⟨i,j,rfl,rfl,hc,q⟩:=h
 obtain⟨t,rfl⟩:=rx
 obtain⟨t',rfl⟩:=ry
 exact rule i j t t' s _ _ hc ⟨.int (g i j),H,I.tok _,⟨_,rfl⟩,q⟩
theorem Bj{f:Value->Value->Sem Value}{g:Int->Int->Int}
  (rule:∀(i j:Int)(t u:Tok)(s:Shared)(Q:Value->Shared->Prop)(E:Value->Shared->Prop),Q (.int (g i j) s.toks) { s with toks:=s.toks+1 }->wpAny (model X.prog X.w) X.A (f (.int i t) (.int j u)) Q E s) :
  U2 X f (GI fun i j=>.int (g i j)):=by
 intro pins s σ H x y v u Q I rx ry h
 obtain⟨i,j,rfl,rfl,q⟩:=h
 obtain⟨t,rfl⟩:=rx
 obtain⟨t',rfl⟩:=ry
 exact rule i j t t' s _ _ ⟨.int (g i j),H,I.tok _,⟨_,rfl⟩,q⟩
theorem GX{f:Value->Value->Sem Value}{g:Int->Int->Bool}
  (rule:∀(i j:Int)(t u:Tok)(s:Shared)(Q:Value->Shared->Prop)(E:Value->Shared->Prop),Q (.bool (g i j)) s->wpAny (model X.prog X.w) X.A (f (.int i t) (.int j u)) Q E s) :
  U2 X f (GI fun i j=>.bl (g i j)):=by
 intro pins s σ H x y v u Q I rx ry h
 obtain⟨i,j,rfl,rfl,q⟩:=h
 obtain⟨t,rfl⟩:=rx
 obtain⟨t',rfl⟩:=ry
 exact rule i j t t' s _ _ ⟨.bl (g i j),H,I,rfl,q⟩
def Su(i j:Int):Prop:=0<j/\j<1073741824
def EJ(i j:Int):Prop:=j≠0/\j.natAbs<1073741824
def Bk(i j:Int):Prop:=0<=j/\j<=1000000/\i.natAbs<2^64
def CMul(i j:Int):Prop:=(-(2^64)<i/\i<2^64)\/(-(2^64)<j/\j<2^64)
theorem CMul.ok{i j:Int}(h:CMul i j):IntMulOk i j:=by
 rcases h with⟨h1,h2⟩ | ⟨h1,h2⟩
 ·exact .of_left (intBits_le_64 h1 h2)
 ·exact .of_right (intBits_le_64 h1 h2)
theorem DD:U2 X (binaryOp .Add) (GI fun i j=>.int (i+j)):=Bj fun _ _ _ _ _ _ _ q=>add_int q
theorem DE:U2 X (binaryOp .Sub) (GI fun i j=>.int (i-j)):=Bj fun _ _ _ _ _ _ _ q=>sub_int q
theorem DF:U2 X (binaryOp .Mult) (rI CMul fun i j=>.int (i*j)):=Bi fun _ _ _ _ _ _ _ hc q=>mul_int q hc.ok
theorem GY:U2 X (binaryOp .FloorDiv) (rI Su fun i j=>.int (i/j)):=Bi fun i j _ _ _ _ _ hc q=>by
 have h1:(0:Int)<j:=hc.1
 have h2:j<1073741824:=hc.2
 exact floordiv_int (by omega) (by rw[Int.fdiv_eq_ediv_of_nonneg i (by omega)];exact q) (.inl (PyProof.noPylong_small (by omega)))
theorem DG:U2 X (binaryOp .Mod) (rI (fun _ j=>0<j) fun i j=>.int (i%j)):=Bi fun i j _ _ _ _ _ hc q=>by
 have h1:(0:Int)<j:=hc
 exact mod_int' (by omega) (by rw[Int.fmod_eq_emod_of_nonneg i (by omega)];exact q)
theorem unI{f:Value->Sem Value}{g:Int->Int}
  (rule:∀(i:Int)(t:Tok)(s:Shared)(Q:Value->Shared->Prop)(E:Value->Shared->Prop),Q (.int (g i) s.toks) { s with toks:=s.toks+1 }->wpAny (model X.prog X.w) X.A (f (.int i t)) Q E s) :
  AE X f (rU fun i=>.int (g i)):=by
 intro pins s σ H x v Q I rx h
 obtain⟨i,rfl,q⟩:=h
 obtain⟨t,rfl⟩:=rx
 exact rule i t s _ _ ⟨.int (g i),H,I.tok _,⟨_,rfl⟩,q⟩
theorem DH:AE X (unaryOp .USub) (rU fun i=>.int (-i)):=unI fun _ _ _ _ _ q=>neg_int q
end
section
variable {X:Cx} {a b c:Expr} {ta tb tc:TE} {pos:Pos}
theorem EK:U2 X (compareOp .Lt) (GI fun i j=>.bl (decide (i<j))):=GX fun _ _ _ _ _ _ _ q=>lt_int q
theorem Bl:U2 X (compareOp .LtE) (GI fun i j=>.bl (decide (i<=j))):=GX fun _ _ _ _ _ _ _ q=>le_int q
theorem EL:U2 X (compareOp .Gt) (GI fun i j=>.bl (decide (j<i))):=GX fun _ _ _ _ _ _ _ q=>gt_int q
theorem Bm:U2 X (compareOp .GtE) (GI fun i j=>.bl (decide (j<=i))):=GX fun _ _ _ _ _ _ _ q=>ge_int q
theorem Vh(b:Expr){op:CmpOp}(h:op≠.In:=by decide)(h2:op≠.NotIn:=by decide):behindInMarks op b=false:=by
 have e1:(op==CmpOp.In)=false:=by cases op<;>first | rfl | exact absurd rfl h
 have e2:(op==CmpOp.NotIn)=false:=by cases op<;>first | rfl | exact absurd rfl h2
 cases b<;>simp[behindInMarks,e1,e2]
theorem GZ{op:CmpOp}{r:R2}(ho:U2 X (compareOp op) r)(ha:PE X a ta)(hb:PE X b tb)(hm:behindInMarks op b=false):PE X (.Compare a [op] [b] pos) (DB r ta tb):=by
 intro pins s σ H Q I h
 exact wpAny_Compare1 (DC ha hb I h fun v u s2 x y H2 I2 rx ry q=>ho pins s2 σ H2 x y v u Q I2 rx ry q) hm
def O8(t:TE):TT:=fun σ H Q=>t σ H fun x H'=>∃k,x = .bl k/\Q k H'
theorem G0{op:CmpOp}{r:R2}(ho:U2 X (compareOp op) r)(ha:PE X a ta)(hb:PE X b tb)(hm:behindInMarks op b=false):PT X (.Compare a [op] [b] pos) (O8 (DB r ta tb)):=by
 intro pins s σ H Q I h
 refine wpAny_isTrue_Compare1 (YI (ha pins s σ H _ I h) fun v s1 ⟨x,H1,I1,r1,q1⟩=>YI (hb pins s1 σ H1 _ I1 q1) fun u s2 ⟨y,H2,I2,r2,q2⟩=>
  YI (ho pins s2 σ H2 x y v u _ I2 r1 r2 q2) fun c s3 ⟨z,H3,I3,r3,k,e,q3⟩=>?_) hm
 subst e;cases r3
 exact wpAny_truthy_bool ⟨H3,I3,q3⟩
def ID(r r':R2)(ta tb tc:TE):TE:=fun σ H Q=>ta σ H fun x H1=>tb σ H1 fun y H2=>r x y H2 fun z H3=>∃k,z = .bl k/\
 (if k=true then tc σ H3 fun w' H4=>r' y w' H4 Q else Q (.bl false) H3)
theorem IE{op op':CmpOp}{r r':R2}(ho:U2 X (compareOp op) r)(ho':U2 X (compareOp op') r')(ha:PE X a ta)(hb:PE X b tb)(hc:PE X c tc)
  (hm:lastMarks [op,op'] [b,c]=false:=by with_unfolding_all rfl):PT X (.Compare a [op,op'] [b,c] pos) (O8 (ID r r' ta tb tc)):=by
 intro pins s σ H Q I h
 refine isTrue_chain (YI (ha pins s σ H _ I h) fun v s1 ⟨x,H1,I1,r1,q1⟩=>test_link (YI (hb pins s1 σ H1 _ I1 q1) fun u s2 ⟨y,H2,I2,r2,q2⟩=>
  YI (ho pins s2 σ H2 x y v u _ I2 r1 r2 q2) fun d s3 ⟨z,H3,I3,r3,k,e,q3⟩=>?_)) hm
 subst e;cases r3
 refine wpAny_truthy_bool ?_
 cases k with
 | false=>
  obtain⟨k',e',q'⟩:=q3
  cases e'
  exact ite_ff ⟨H3,I3,q'⟩
 | true=>
  refine ite_tt (test_last (YI (hc pins s3 σ H3 _ I3 q3) fun w' s4 ⟨z',H4,I4,r4,q4⟩=>YI (ho' pins s4 σ H4 y z' u w' _ I4 r2 r4 q4) fun d' s5 ⟨z2,H5,I5,r5,k2,e2,q5⟩=>?_))
  subst e2;cases r5
  exact wpAny_truthy_bool ⟨H5,I5,q5⟩
def AG(K:PySem.W.Frag)(x:V)(H:Hp)(k:Bool):Prop:=
 match x with
 | .non=>k=false
 | .bl b=>k=b
 | .int i=>k=(i != 0)
 | .str y=>y.length<=sizeLine/\k=((y.length:Int) != 0)
 | .byt y=>y.size<=sizeLine/\k=((y.size:Int) != 0)
 | .ref p=>(∃xs,SqL K H p xs/\k = !xs.isEmpty)\/(∃xs,SqT K H p xs/\k = !xs.isEmpty)\/∃kvs,H p=some (.dK kvs)/\k = !kvs.isEmpty
 | _=>False
theorem MH{κ:Type}{kvs:List (κ×V)}{vs:List (κ×Value)}(r:KV kvs vs):(!vs.isEmpty) = !kvs.isEmpty:=by
 cases r<;>rfl
theorem RM{xs:List V}{its:List Value}(r:Vals xs its):(!its.toArray.isEmpty) = !xs.isEmpty:=by
 cases r<;>simp
theorem Sv:(sizeLine:Nat)<2^63:=by rw[sizeLine_eq];decide
theorem tru_ok:AF X (fun x H Q=>∃k,AG X.K x H k/\Q k H):=by
 intro pins s σ H x v Q I rx h
 obtain⟨k,e,q⟩:=h
 have hl:=Sv
 have hs:sizeLine=16777216:=sizeLine_eq
 cases x with
 | non=>
  cases rx
  have e':k=false:=e
  subst e'
  exact truthy_none ⟨H,I,q⟩
 | bl b=>
  cases rx
  have e':k=b:=e
  subst e'
  exact wpAny_truthy_bool ⟨H,I,q⟩
 | int i=>
  obtain⟨t,rfl⟩:=rx
  have e':k=(i != 0):=e
  subst e'
  exact PySem.P.truthy_int ⟨H,I,q⟩
 | str y=>
  obtain⟨t,rfl⟩:=rx
  obtain⟨hy,e'⟩:y.length<=sizeLine/\k=((y.length:Int) != 0):=e
  subst e'
  exact PySem.P.truthy_str (by omega) ⟨H,I.tok _,q⟩
 | byt y=>
  obtain⟨t,rfl⟩:=rx
  obtain⟨hy,e'⟩:y.size<=sizeLine/\k=((y.size:Int) != 0):=e
  subst e'
  exact PySem.W.truthy_bytes (by omega) ⟨H,I.tok _,q⟩
 | ref p=>
  cases rx
  have e':(∃xs,SqL X.K H p xs/\k = !xs.isEmpty)\/(∃xs,SqT X.K H p xs/\k = !xs.isEmpty)\/∃kvs,H p=some (.dK kvs)/\k = !kvs.isEmpty:=e
  rcases e' with⟨xs,hx,e'⟩ | ⟨xs,hx,e'⟩ | ⟨kvs,hx,e'⟩
  ·subst e'
   obtain⟨its,r,pl,hz⟩:=I.list hx
   have hlen:=r.length
   exact wpAny_truthy_list pl.isList (by simp only[List.size_toArray];omega) ⟨H,I.tok _,by rw[RM r];exact q⟩
  ·subst e'
   obtain⟨its,r,pl,hz⟩:=I.tuple hx
   have hlen:=r.length
   exact truthy_tuple pl (by simp only[List.size_toArray];omega) ⟨H,I.tok _,by rw[RM r];exact q⟩
  ·subst e'
   obtain⟨hz,hS,vs,r,m⟩:kvs.length<=sizeLine/\(p==sysModules)=false/\∃vs,KV kvs vs/\s.heap.DictOf (YW X.prog X.w) p vs:=I.hok p _ hx
   have hlen:kvs.length=vs.length:=Paired.length r
   exact wpAny_truthy_dict hS m (by omega) ⟨H,I.tok _,by rw[MH r];exact q⟩
 | _=>exact(show False from e).elim
theorem Ud{x:V}{us:List Value}(r:Vals [x] us):∃u,us=[u]/\RelV x u:=by
 cases r with
 | cons r1 r2=>cases r2;exact⟨_,rfl,r1⟩
theorem LK{x y:V}{us:List Value}(r:Vals [x,y] us):∃u w',us=[u,w']/\RelV x u/\RelV y w':=by
 cases r with
 | cons r1 r2=>
  cases r2 with
  | cons r3 r4=>cases r4;exact⟨_,_,rfl,r1,r3⟩
theorem K7(hc:X.calm=true):Wa X (.builtin "max") (fun xs H Q=>∃i j,xs=[.int i,.int j]/\Q (.int (if j>i then j else i)) H):=by
 intro pins s σ H xs us Q I r h
 obtain⟨i,j,rfl,q⟩:=h
 obtain⟨u,w',rfl,⟨t,rfl⟩,⟨t',rfl⟩⟩:=LK r
 refine max_two_ints (I.ok.hd hc) fun h' tk k=>⟨_,H,I.kept k,?_,q⟩
 by_cases hj:j>i
 ·rw[if_pos hj,if_pos hj];exact⟨_,rfl⟩
 ·rw[if_neg hj,if_neg hj];exact⟨_,rfl⟩
theorem Sw(hc:X.calm=true):Wa X (.builtin "min") (fun xs H Q=>∃i j,xs=[.int i,.int j]/\Q (.int (if j<i then j else i)) H):=by
 intro pins s σ H xs us Q I r h
 obtain⟨i,j,rfl,q⟩:=h
 obtain⟨u,w',rfl,⟨t,rfl⟩,⟨t',rfl⟩⟩:=LK r
 refine min_two_ints (I.ok.hd hc) fun h' tk k=>⟨_,H,I.kept k,?_,q⟩
 by_cases hj:j<i
 ·rw[if_pos hj,if_pos hj];exact⟨_,rfl⟩
 ·rw[if_neg hj,if_neg hj];exact⟨_,rfl⟩
theorem UJ:Wa X (.type "int") (fun xs H Q=>(∃i,xs=[.int i]/\Q (.int i) H)\/∃k,xs=[.bl k]/\Q (.int (if k then 1 else 0)) H):=by
 intro pins s σ H xs us Q I r h
 rcases h with⟨i,rfl,q⟩ | ⟨k,rfl,q⟩
 ·obtain⟨u,rfl,t,rfl⟩:=Ud r
  exact call_int_int ⟨.int i,H,I,⟨_,rfl⟩,q⟩
 ·obtain⟨u,rfl,r1⟩:=Ud r
  cases r1
  exact call_int_bool ⟨.int (if k then 1 else 0),H,I.tok _,⟨_,rfl⟩,q⟩
def Bn(K:PySem.W.Frag)(x:V)(H:Hp)(n:Nat):Prop:=
 match x with
 | .str y=>y.length<=sizeLine/\n=y.length
 | .byt y=>y.size<=sizeLine/\n=y.size
 | .ref p=>(∃xs,SqL K H p xs/\n=xs.length)\/∃xs,SqT K H p xs/\n=xs.length
 | _=>False
theorem ZO:Wa X (.builtin "len") (fun xs H Q=>∃x n,xs=[x]/\Bn X.K x H n/\Q (.int n) H):=by
 intro pins s σ H xs us Q I r h
 obtain⟨x,n,rfl,e,q⟩:=h
 obtain⟨u,rfl,rx⟩:=Ud r
 have hl:=Sv
 have hs:sizeLine=16777216:=sizeLine_eq
 cases x with
 | str y=>
  obtain⟨t,rfl⟩:=rx
  obtain⟨hy,e'⟩:y.length<=sizeLine/\n=y.length:=e
  subst e'
  exact len_str (by omega) ⟨.int _,H,I.tok _,⟨_,rfl⟩,q⟩
 | byt y=>
  obtain⟨t,rfl⟩:=rx
  obtain⟨hy,e'⟩:y.size<=sizeLine/\n=y.size:=e
  subst e'
  exact PySem.W.len_bytes (by omega) ⟨.int _,H,I.tok _,⟨_,rfl⟩,q⟩
 | ref p=>
  cases rx
  have e':(∃xs,SqL X.K H p xs/\n=xs.length)\/∃xs,SqT X.K H p xs/\n=xs.length:=e
  rcases e' with⟨xs,hx,e'⟩ | ⟨xs,hx,e'⟩
  ·subst e'
   obtain⟨its,r',pl,hz⟩:=I.list hx
   have hlen:=r'.length
   exact Calls.call_len_list pl.isList (by simp only[List.size_toArray];omega) ⟨.int xs.length,H,I.tok _,⟨_,by simp only[List.size_toArray];rw[hlen]⟩,q⟩
  ·subst e'
   obtain⟨its,r',pl,hz⟩:=I.tuple hx
   have hlen:=r'.length
   exact len_tuple pl (by simp only[List.size_toArray];omega) ⟨.int xs.length,H,I.tok _,⟨_,by simp only[List.size_toArray];rw[hlen]⟩,q⟩
 | _=>exact(show False from e).elim
end
structure ObjM(h:Heap)(x dx C:Addr)(mA:Str->Option Value):Prop where
 obj:h.get? x=some (PySem.W.instObj C dx)
 ns:h.Ns1 dx mA
 ne:dx≠x
theorem K8{h:Heap}{dx:Addr}{mA:Str->Option Value}(n:h.Ns1 dx mA):∃od,h.get? dx=some od/\∀name,PySem.W.lookIn name od=some (mA name):=by
 obtain⟨o,es,ep,ho,hd,hk,_,hm⟩:=n
 refine⟨o,ho,fun name=>?_⟩
 have e:=hm name;unfold nsFind findBy at e;rw[<-Array.find?_toList] at e;unfold PySem.W.lookIn;rw[hd]
 dsimp only
 split
 ·rename_i y q
  rw[q] at e
  exact congrArg some e
 ·rename_i q
  rw[q] at e
  have a:es.toList.any (·.refKey)=false:=by
   rw[List.any_eq_false];intro y hy
   obtain⟨z,t,hkey⟩:=hk y (Array.mem_toList_iff.mp hy)
   simp[DictEntry.refKey,hkey]
  have a':¬es.toList.any (·.refKey)=true:=by rw[a];exact Bool.false_ne_true
  rw[if_neg a']
  exact congrArg some e
theorem ObjM.look{h:Heap}{x dx C:Addr}{mA:Str->Option Value}(I:ObjM h x dx C mA):∃od,PySem.W.InstAt h x (PySem.W.instObj C dx) C (some od)/\∀name,PySem.W.lookIn name od=some (mA name):=
 let⟨od,ho,hl⟩:=K8 I.ns
 ⟨od,⟨I.obj,rfl,rfl,ho⟩,hl⟩
theorem RelO.some_of{v:V}{o:Option Value}(r:RelO (some v) o):∃u,o=some u/\RelV v u:=by
 cases o with
 | none=>exact(show False from r).elim
 | some u=>exact⟨u,rfl,r⟩
section
variable {P:Program} {w:World} {H H':Hp} {h h':Heap} {a C dx:Addr} {fs fs':List (Str×V)}
theorem G1(hok:HOk P w H h)(e:H a=some (.ins C dx fs)):∃mA,ObjM h a dx C mA/\(∀f,RelO (fs.lookup f) (mA f))/\PySem.Within mA (fs.map (·.1))/\fs.length<=1000/\H dx=some (.own a):=by
 obtain⟨d,z,ne,ob,mA,n,r,q⟩:=(show ObjOk P w H h a (.ins C dx fs) from hok a _ e)
 exact⟨mA,⟨ob,n,ne⟩,r,q,z,d⟩
end
structure Cls(K:PySem.W.Frag)(C:Addr):Prop where
 pg:PySem.W.plainGet K C Str.empty=true
 hd:PySem.W.hasDictIn K C=true
 po:PySem.W.plainOver K C=true
 sa:PySem.W.findIn K (.ref C) "__setattr__" = some (some (.builtin "object.__setattr__"))
theorem Cls.get{K:PySem.W.Frag}{C:Addr}(c:Cls K C)(f:Str):PySem.W.plainGet K C f=true:=c.pg
section
variable {X:Cx} {pins:List (Addr×Obj)} {σ:St} {H:Hp} {s:Shared} {a C dx:Addr} {fs:List (Str×V)} {f:Str} {v:V} {A:Around} {E:Value->Shared->Prop}
theorem G3{prog:Program}{w:World}{env:Env}{e:Expr}{f:Str}{pos:Pos}{s:Shared}{Q:Value->Shared->Prop}(hb:attributeBase e f env (eval e env)=eval e env)
  (h:wpAny (model prog w) A (eval e env) (fun o s₁=>wpAny (model prog w) A (getAttr o f true) Q E s₁) E s):wpAny (model prog w) A (eval (.Attribute e f pos) env) Q E s:=
 Attribute_any_ h (by rw[arm_eval_Attribute,hb])
end
section
variable {X:Cx} {pins:List (Addr×Obj)} {σ:St} {H:Hp} {s:Shared} {A:Around} {E:Value->Shared->Prop} {Q:Value->Shared->Prop} {c:Value} {b:Bool}
inductive TyOf(K:PySem.W.Frag)(H:Hp):V->Value->Prop where
 | non:TyOf K H .non (.type "NoneType")
 | bl (x:Bool):TyOf K H (.bl x) (.type "bool")
 | int (i:Int):TyOf K H (.int i) (.type "int")
 | str (x:Str):TyOf K H (.str x) (.type "str")
 | flt (x:UInt64):TyOf K H (.flt x) (.type "float")
 | lst {a:Addr} {xs:List V} (e:H a=some (.lst xs)):TyOf K H (.ref a) (.type "list")
 | frz {a:Addr} {o:Obj} {xs:List V} (e:H a=some (.frz o (.lst xs))):TyOf K H (.ref a) (.type "list")
 | tup {a:Addr} {xs:List V} (e:H a=some (.tup xs)):TyOf K H (.ref a) (.type "tuple")
 | dK {a:Addr} {kvs:List (YO×V)} (e:H a=some (.dK kvs)):TyOf K H (.ref a) (.type "dict")
 | dT {a:Addr} {kvs:List (List YO×V)} (e:H a=some (.dT kvs)):TyOf K H (.ref a) (.type "dict")
 | ins {a C dx:Addr} {fs:List (Str×V)} (e:H a=some (.ins C dx fs)) (cl:Cls K C) (ha:PySem.W.findIn K (.ref C) "__class__" = some (some (.builtin "object.__class__")))
   (hn:PySem.W.specialIn K (.builtin "object.__class__") "__get__" = some (some (.builtin "getset_descriptor.__get__"))) (htk:PySem.W.takesIn K (.builtin "object.__class__")=some true)
   (hm:PySem.W.mroIn K C (.type "object")=some true):TyOf K H (.ref a) (.ref C)
theorem K9{x:V}{u t:Value}(I:Inv X pins σ H s)(rx:RelV x u)(ty:TyOf X.K H x t)(e:PySem.W.kitOne X.K t c=some b)(h:∀tk,Q (.bool b) { s with toks:=tk }) :
  wpAny (model X.prog X.w) A (call (.builtin "isinstance") [u,c]) Q E s:=by
 cases ty with
 | non=>cases (show u=Value.none from rx);exact PySem.W.kia_one PySem.W.kitx_none I.kIn True.intro e (fun z=>nomatch z) h
 | bl y=>cases (show u=Value.bool y from rx);exact PySem.W.kia_one PySem.W.kitx_bool I.kIn True.intro e (fun z=>nomatch z) h
 | int i=>obtain⟨t,q⟩:=(show ∃t,u=Value.int i t from rx);cases q;exact PySem.W.kia_one PySem.W.kitx_int I.kIn True.intro e (fun z=>nomatch z) h
 | str y=>obtain⟨t,q⟩:=(show ∃t,u=Value.str y t from rx);cases q;exact PySem.W.kia_one PySem.W.kitx_str I.kIn True.intro e (fun z=>nomatch z) h
 | flt y=>obtain⟨t,q⟩:=(show ∃t,u=Value.float y t from rx);cases q;exact PySem.W.kia_one PySem.W.kitx_float I.kIn True.intro e (fun z=>nomatch z) h
 | @lst a xs ea=>
  cases (show u=Value.ref a from rx)
  obtain⟨_,_,n,_,h1⟩:=(show ObjOk X.prog X.w H s.heap a (.lst xs) from I.hok a _ ea)
  exact PySem.W.kia_one PySem.W.kitx_list I.kIn ⟨_,h1,rfl⟩ e (fun z=>nomatch z) h
 | @frz a ob xs ea=>
  cases (show u=Value.ref a from rx)
  obtain⟨_,_,_,n,_,h1⟩:=(show ObjOk X.prog X.w H s.heap a (.frz ob (.lst xs)) from I.hok a _ ea)
  exact PySem.W.kia_one PySem.W.kitx_list I.kIn ⟨_,h1,rfl⟩ e (fun z=>nomatch z) h
 | @tup a xs ea=>
  cases (show u=Value.ref a from rx)
  obtain⟨_,_,_,p⟩:=(show ObjOk X.prog X.w H s.heap a (.tup xs) from I.hok a _ ea)
  obtain⟨o,h1,h2,_⟩:=p
  exact PySem.W.kia_one PySem.W.kitx_tuple I.kIn ⟨o,h1,h2⟩ e (fun z=>nomatch z) h
 | @dK a kvs ea=>
  cases (show u=Value.ref a from rx)
  obtain⟨_,_,vs,_,p⟩:=(show ObjOk X.prog X.w H s.heap a (.dK kvs) from I.hok a _ ea)
  obtain⟨o,es,ep,h1,h2,_⟩:=p
  exact PySem.W.kia_one PySem.W.kitx_dict I.kIn ⟨o,h1,h2.1⟩ e (fun z=>nomatch z) h
 | @dT a kvs ea=>
  cases (show u=Value.ref a from rx)
  obtain⟨_,_,xs,_,o,es,ep,h1,h2,_⟩:=(show ObjOk X.prog X.w H s.heap a (.dT kvs) from I.hok a _ ea)
  exact PySem.W.kia_one PySem.W.kitx_dict I.kIn ⟨o,h1,h2.1⟩ e (fun z=>nomatch z) h
 | @ins a C dx fs ea cl ha hn htk hm=>
  cases (show u=Value.ref a from rx)
  obtain⟨mA,O,_⟩:=G1 I.hok ea
  obtain⟨od,J,_⟩:=O.look
  exact PySem.W.kia_one (PySem.W.kitx_own (cl.get _) cl.hd ha hn htk hm) I.kIn J e (fun z=>nomatch z) h
end
structure Room(k:Nat)(A:Around):Prop where
 hd:A.handled=none
 dp:A.depth+3*k+5<recursionLimit
 un:A.units+16*k+200<cLine
 gd:A.guards=some []
theorem Room.mono{j k:Nat}{A:Around}(r:Room k A)(h:j<=k):Room j A:=⟨r.hd,by have:=r.dp;omega,by have:=r.un;omega,r.gd⟩
theorem Room.deeper{k:Nat}{A:Around}(r:Room (k+1) A)(env:Env):Room k (A.deeper env):=
 ⟨r.hd,by have:=r.dp;show A.depth+1+3*k+5<_;omega,by have:=r.un;show A.units+3+16*k+200<_;omega,r.gd⟩
theorem MI{A:Around}{C:Addr}{us:List Value}{kw:List (Str×Value)}:(A.under (.builtin "type.__call__" ⟨.ref C::us,kw⟩)).depth=A.depth+1:=by
 first | rfl | simp[Around.under,Code.weight,Code.isCreation,Code.isGuard,Code.isCaller,Code.frames,Code.isFrame,guardIds]
theorem MJ{A:Around}{C:Addr}{us:List Value}{kw:List (Str×Value)}:(A.under (.builtin "type.__call__" ⟨.ref C::us,kw⟩)).units=A.units+1:=by
 first | rfl | simp[Around.under,Code.cUnits,Code.frames,Code.isFrame]
theorem Room.make{k:Nat}{A:Around}(r:Room (k+1) A)(C:Addr)(us:List Value)(kw:List (Str×Value)):Room k (A.under (.builtin "type.__call__" ⟨.ref C::us,kw⟩)):=
 ⟨r.hd,by have:=r.dp;rw[MI];omega,by have:=r.un;rw[MJ];omega,by first | exact r.gd | (simpa [Around.under,pushGuards,Code.guards,Code.isGuard,guardIds] using r.gd)⟩
theorem Room.depth{k:Nat}{A:Around}(r:Room k A):A.depth<recursionLimit:=by have:=r.dp;omega
theorem Room.units{k:Nat}{A:Around}(r:Room k A):A.units+64<cLine:=by have:=r.un;omega
def O9:TA:=fun _ H Q=>Q [] H
def V5(ta:TE)(tr:TA):TA:=fun σ H Q=>ta σ H fun x H1=>tr σ H1 fun xs H2=>Q (x::xs) H2
section
variable {X:Cx} {e:Expr} {es:List Expr} {te:TE} {t:TA} {pos:Pos}
theorem XU:PA X [] O9:=fun _ _ _ _ H Q I h=>Calls.spliced_nil ⟨[],H,I,.nil,h⟩
theorem Yv(ha:PE X e te)(hr:PA X es t)(hs:starEach (e::es) X.env=(false,eval e X.env)::starEach es X.env:=by rfl):PA X (e::es) (V5 te t):=by
 intro pos pins s σ H Q I h;rw[hs]
 show wpAny _ _ (spliced ((false,eval e X.env)::backTo pos (starEach es X.env))) _ _ s
 refine Calls.spliced_cons (YI (ha pins s σ H _ I h) fun u s1 ⟨x,H1,I1,r1,q1⟩=>?_)
 exact YI (hr pos pins s1 σ H1 _ I1 q1) fun us s2 ⟨xs,H2,I2,r2,q2⟩=>⟨x::xs,H2,I2,.cons r1 r2,q2⟩
def Bo(t:TA):TE:=fun σ H Q=>t σ H fun xs H1=>xs.length<=sizeLine/\∀p,H1 p=none->Q (.ref p) (upd H1 p (.tup xs))
def Bp(t:TA):TE:=fun σ H Q=>t σ H fun xs H1=>xs.length<=sizeLine/\∀p,H1 p=none->Q (.ref p) (upd H1 p (.lst xs))
theorem IF{x1}(h:PA X es t):PE X (.Tuple es x1 pos) (Bo t):=by
 intro pins s σ H Q I hq
 refine wpAny_Tuple_spliced (YI (h pos pins s σ H _ I hq) fun us s1 ⟨xs,H1,I1,r,z,q⟩=>⟨by rw[<-r.length];exact z,?_⟩)
 have hf:H1 s1.heap.objs.size=none:=I1.hok.fresh (Nat.le_refl _)
 refine⟨.ref s1.heap.objs.size,upd H1 s1.heap.objs.size (.tup xs),I1.laid (t':=s1.toks) (fun b u e=>Heap.get?_push_of_some _ e) (Nat.le_refl _) ?_,rfl,q _ hf⟩
 exact⟨z,us,r,⟨_,Heap.get?_push_size _ rfl,rfl,_,rfl⟩⟩
theorem MK(h:PA X es t):PE X (.List es pos) (Bp t):=by
 intro pins s σ H Q I hq
 refine wpAny_List_spliced (YI (h pos pins s σ H _ I hq) fun us s1 ⟨xs,H1,I1,r,z,q⟩=>⟨by rw[<-r.length];exact z,?_⟩)
 have hf:H1 s1.heap.objs.size=none:=I1.hok.fresh (Nat.le_refl _)
 refine⟨.ref s1.heap.objs.size,upd H1 s1.heap.objs.size (.lst xs),I1.laid (t':=s1.toks) (fun b u e=>Heap.get?_push_of_some _ e) (Nat.le_refl _) ?_,rfl,q _ hf⟩
 exact⟨z,us,0,r,Heap.get?_push_size _ rfl⟩
end
abbrev Sp:=List V->Hp->VK->XK->Prop
abbrev GJ:=List Env->Hp->Shared->XK->Value->Shared->Prop
structure Env0(P:Program)(w:World)(K:PySem.W.Frag)(mg:Str->Option Value)(base:Heap)(A:Around)(outer:List Env)(s:Shared)(H:Hp):Prop where
 frames:A.frames=some outer
 mod:Mod K mg base
 bs:∀b o,base.get? b=some o->s.heap.get? b=some o/\H b=none
 bsz:base.objs.size<=s.heap.objs.size
 funs:s.heap.FunFrames base outer
 frf:∀b∈OZ outer,H b=none
 hok:HOk P w H s.heap
 bare:AllBare s.gens
def CE(outer:List Env)(P:Program)(w:World)(H:Hp)(s:Shared)(Q:VK)(u:Value)(s':Shared):Prop:=
 ∃v H',s'.os=s.os/\AllBare s'.gens/\Un (OZ outer) [] H H' s.heap s'.heap/\HOk P w H' s'.heap/\RelV v u/\Q v H'
def CR(CX:GJ)(outer:List Env)(P:Program)(w:World)(H:Hp)(s:Shared)(Q:VK)(E:XK)(r:Result)(s':Shared):Prop:=
 match r with
 | .ok (.ret u)=>CE outer P w H s Q u s'
 | .ok _=>False
 | .error e=>CX outer H s E e s'
structure Ue(P:Program)(w:World)(K:PySem.W.Frag)(mg:Str->Option Value)(base:Heap)(CX:GJ)(k:Nat)(f:Addr)(fd:FuncData)(ps:List Str)(sp:Sp):Prop where
 len:∀vs H Q E,sp vs H Q E->vs.length=ps.length
 run:∀(A:Around)(outer:List Env)(s:Shared)(H:Hp)(args:Args)(us:List Value)(vs:List V)(Q:VK)(E:XK),Room k A->Env0 P w K mg base A outer s H->BindsTo s fd args (ps.zip us)->Vals vs us->sp vs H Q E->
  codeAny (model P w) A (.call (.ref f) args) (CR CX outer P w H s Q E) s
theorem Env0.make{P:Program}{w:World}{K:PySem.W.Frag}{mg:Str->Option Value}{base:Heap}{A:Around}{outer:List Env}{s:Shared}{H:Hp}(e:Env0 P w K mg base A outer s H)(C:Addr)(us:List Value)(kw:List (Str×Value)) :
  Env0 P w K mg base (A.under (.builtin "type.__call__" ⟨.ref C::us,kw⟩)) outer s H:=⟨by first | exact e.frames | (simpa [Around.under,Code.envs,Code.isFrame,pushEnvs] using e.frames),e.mod,e.bs,e.bsz,e.funs,e.frf,e.hok,e.bare⟩
section
variable {X:Cx} {pins:List (Addr×Obj)} {σ:St} {H:Hp} {s s':Shared}
theorem Inv.env0(I:Inv X pins σ H s):Env0 X.prog X.w X.K X.mg X.base X.A X.stack s H:=
 ⟨I.ok.frames,I.ok.mod,I.bs,Nat.le_trans I.ok.bsz I.sz,I.stack,I.stkFree,I.hok,I.bare⟩
theorem Inv.after{Q:VK}{u:Value}(I:Inv X pins σ H s)(h:CE X.stack X.prog X.w H s Q u s'):EP X pins σ Q u s':=by
 obtain⟨v,H',os,bare,un,hok,r,q⟩:=h
 obtain⟨hh,g,d,t,os'⟩:=s'
 obtain rfl:os'=s.os:=os
 exact⟨v,H',I.call (h':=hh) (g':=g) (d':=d) (t':=t) (ch:=[]) un hok bare (fun b z=>absurd z (by simp)),r,q⟩
end
def EM(sp:Sp)(dvs:List V)(E:XK)(t:TA):TE:=fun σ H Q=>t σ H fun vs H1=>sp (vs++dvs) H1 Q E
def Binds(K:PySem.W.Frag)(fd:FuncData)(ps:List Str)(ds:List Value):Prop:=
 ∀(s:Shared)(us:List Value),K.In s.heap->(us++ds).length=ps.length->BindsTo s fd ⟨us,[]⟩ (ps.zip (us++ds))
theorem Binds.all{K:PySem.W.Frag}{fd:FuncData}{ps:List Str}(h:∀us:List Value,us.length=ps.length->bindArgs fd ⟨us,[]⟩=pure (ps.zip us)):Binds K fd ps []:=fun s us _ hl=>by
 rw[List.append_nil] at hl ⊢
 exact .of_eq (h us hl)
def ML(CX:GJ)(X:Cx)(E:XK):Prop:=∀(pins:List (Addr×Obj))(σ:St)(H:Hp)(s:Shared)(e:Value)(s':Shared),Inv X pins σ H s->CX X.stack H s E e s'->X.xe e s'
section
variable {X:Cx} {CX:GJ} {k:Nat} {f C:Addr} {fd:FuncData} {ps:List Str} {sp:Sp} {dvs:List V} {ds:List Value} {E:XK} {x m:Str} {p pos apos:Pos} {e o:Expr} {es:List Expr} {ta:TE} {t:TA}
theorem DI{pins:List (Addr×Obj)}{σ:St}{H:Hp}{s:Shared}{Q:VK}{us:List Value}{vs:List V}(F:Ue X.prog X.w X.K X.mg X.base CX k f fd ps sp)(hr:Room k X.A)(hb:Binds X.K fd ps ds)(hd:Vals dvs ds)(hx:ML CX X E)
  (I:Inv X pins σ H s) (r:Vals vs us) (h:sp (vs++dvs) H Q E):wpAny (model X.prog X.w) X.A (call (.ref f) us) (EP X pins σ Q) X.xe s:=by
 have r2:Vals (vs++dvs) (us++ds):=r.append hd
 have hl:(us++ds).length=ps.length:=by rw[<-r2.length];exact F.len _ _ _ _ h
 refine wpAny_call (codeAny_mono (F.run X.A X.stack s H ⟨us,[]⟩ (us++ds) (vs++dvs) Q E hr I.env0 (hb s us I.kIn hl) r2 h) fun r s' hq=>?_)
 cases r with
 | error e=>exact hx pins σ H s e s' I hq
 | ok fl=>
  cases fl with
  | ret u=>exact I.after hq
  | next=>exact False.elim hq
  | brk=>exact False.elim hq
  | cont=>exact False.elim hq
theorem LL(F:Ue X.prog X.w X.K X.mg X.base CX k f fd ps sp)(hr:Room k X.A)(hg:Gl X x)(hm:X.mg x=some (.ref f))(hk:PySem.W.keepIn X.K (.ref f)=true)(hb:Binds X.K fd ps ds)(hd:Vals dvs ds)(hx:ML CX X E)
  (ha:PA X (e::es) t) (hdb:(x==("__debug__" : Str))=false:=by decide) (he:starEach (e::es) X.env=(false,eval e X.env)::starEach es X.env:=by rfl) (hpl:(backTo pos (starEach es X.env)).any (·.1)=false:=by rfl) :
  PE X (.Call (.Name x p) (e::es) [] pos) (EM sp dvs E t):=by
 intro pins s σ H Q I h
 refine wpAny_Call_Name_kw (Vz I hg hm ?_ hdb)
 refine PySem.W.callWith_K (h₀:=X.base) I.ok.mod.kin hk (YI (ha pos pins s σ H _ I h) fun us s1 ⟨vs,H1,I1,r,q⟩=>⟨I1.kIn,?_⟩) he hpl
 exact DI F hr hb hd hx I1 r q
end
structure Zy(N P:List Str)(sc:Scope):Prop where
 kind:sc.kind = .function
 co:sc.isCoroutine=false
 gen:sc.isGenerator=false
 nd:N.Nodup
 pre:N.take P.length=P
 par:∀x∈P,sc.names.lookup x=some .local\/sc.names.lookup x=some .cell
 nofree:∀y∈sc.names,y.2≠.free
theorem Pb{kindOf:Str->Option NameKind}{x:Str}:∀{binds:List (Str×Value)}{m:Str->Option Value},(∀v,(x,v)∉binds)->bindL kindOf binds m x=m x
 | [],_,_=>rfl
 | (n,v)::r,m,h=>by
  unfold bindL;rw[Pb fun w hw=>h w (List.mem_cons_of_mem _ hw)]
  split
  ·have:x≠n:=by rintro rfl;exact h v List.mem_cons_self
   simp[this]
  ·rfl
theorem Pc{kindOf:Str->Option NameKind}{x:Str}:∀{binds:List (Str×Value)}{m:Str->Option Value},(∀v,(x,v)∉binds)->bindC kindOf binds m x=m x
 | [],_,_=>rfl
 | (n,v)::r,m,h=>by
  unfold bindC;rw[Pc fun w hw=>h w (List.mem_cons_of_mem _ hw)]
  split
  ·rfl
  ·have:x≠n:=by rintro rfl;exact h v List.mem_cons_self
   simp[this]
theorem Pd{kindOf:Str->Option NameKind}{x:Str}{v:Value}:∀{P:List Str}{vs:List Value}{i:Nat}{m:Str->Option Value},P.Nodup->P[i]?=some x->vs[i]?=some v->kindOf x=some .local->
  bindL kindOf (P.zip vs) m x=some v
 | [],_,_,_,_,h,_,_=>by simp at h
 | _::_,[],_,_,_,_,h,_=>by simp at h
 | p::P,w::vs,0,m,nd,h1,h2,hk=>by
  simp at h1 h2;subst h1;subst h2
  show bindL kindOf ((p,w)::P.zip vs) m p=_
  unfold bindL;rw[Pb fun v hv=>(List.nodup_cons.mp nd).1 (List.of_mem_zip hv).1,if_pos hk]
  simp
 | p::P,w::vs,i+1,m,nd,h1,h2,hk=>by
  show bindL kindOf ((p,w)::P.zip vs) m x=_
  unfold bindL
  exact Pd (i:=i) (List.nodup_cons.mp nd).2 (by simpa using h1) (by simpa using h2) hk
theorem Pe{kindOf:Str->Option NameKind}{x:Str}{v:Value}:∀{P:List Str}{vs:List Value}{i:Nat}{m:Str->Option Value},P.Nodup->P[i]?=some x->vs[i]?=some v->kindOf x≠some .local->
  bindC kindOf (P.zip vs) m x=some v
 | [],_,_,_,_,h,_,_=>by simp at h
 | _::_,[],_,_,_,_,h,_=>by simp at h
 | p::P,w::vs,0,m,nd,h1,h2,hk=>by
  simp at h1 h2;subst h1;subst h2
  show bindC kindOf ((p,w)::P.zip vs) m p=_
  unfold bindC;rw[Pc fun v hv=>(List.nodup_cons.mp nd).1 (List.of_mem_zip hv).1,if_neg hk]
  simp
 | p::P,w::vs,i+1,m,nd,h1,h2,hk=>by
  show bindC kindOf ((p,w)::P.zip vs) m x=_
  unfold bindC
  exact Pe (i:=i) (List.nodup_cons.mp nd).2 (by simpa using h1) (by simpa using h2) hk
def start(N:List Str)(vs:List V):St:=vs.map some++List.replicate (N.length-vs.length) none
def Tv(CX:GJ)(P:Program)(w:World)(K:PySem.W.Frag)(mg:Str->Option Value)(base:Heap)(N:List Str)(qual:Str)(scope:Scope)(f:Addr)(cd:Value)(A:Around)(outer:List Env)(s:Shared)(H:Hp)(E:XK):Cx where
 prog:=P
 w:=w
 K:=K
 mg:=mg
 base:=base
 A:=A.deeper (envOfC qual scope s.heap.objs.size f cd)
 N:=N
 s₀:=s
 H₀:=H
 env:=envOfC qual scope s.heap.objs.size f cd
 outer:=outer
 stack:=envOfC qual scope s.heap.objs.size f cd::outer
 ex:=[]
 calm:=true
 fn:=fun _=>true
 pn:=[]
 xe:=fun e s'=>wpAny (model P w) (A.deeper (envOfC qual scope s.heap.objs.size f cd)) (leaving (envOfC qual scope s.heap.objs.size f cd) e) (fun _ s''=>CX outer H s E e s'') (fun e' s''=>CX outer H s E e' s'') s'
theorem Na{sc:Scope}{n:Nat}{x:Str}(h:sc.names.lookup x=some .cell):∃c,(cellsFrom n sc.names []).lookup x=some c:=by
 have q:=PySem.W.cellsFrom_some sc.names n [] (.inl h)
 exact Option.isSome_iff_exists.mp q
theorem Ja{CX:GJ}{P:Program}{w:World}{K:PySem.W.Frag}{mg:Str->Option Value}{base:Heap}{N ps:List Str}{qual:Str}{scope:Scope}{f:Addr}{cd:Value}{A:Around}{outer:List Env}{s s1:Shared}{H:Hp}{E:XK}{us:List Value}{vs:List V}
  (S:Zy N ps scope) (hd:A.handled=none) (e0:Env0 P w K mg base A outer s H) (hl:vs.length=ps.length) (r:Vals vs us)
  (x:InCallC s s.heap.objs.size (bindL (envOfC qual scope s.heap.objs.size f cd).kindOf (ps.zip us) fun _=>none) (cellsFrom (s.heap.objs.size+1) scope.names []) (bindC (envOfC qual scope s.heap.objs.size f cd).kindOf (ps.zip us) fun _=>none) s1) :
  Inv (Tv CX P w K mg base N qual scope f cd A outer s H E) [] (start N vs) H s1:=by
 have hpl:ps.length<=N.length:=by have:=congrArg List.length S.pre;rw[List.length_take] at this;omega
 obtain⟨h1,tk,rfl,hk⟩:=x.done
 have noA:∀b:Addr,b∉(Tv CX P w K mg base N qual scope f cd A outer s H E).ex:=fun b z=>absurd (show b∈([]:List Addr) from z) (by simp)
 refine⟨⟨e0.mod,S.kind,rfl,rfl,Nat.le_refl _,fun y z c h1 h2=>?_,fun y hy=>?_,fun y c _ h=>?_,fun _=>hd,Around.frames_deeper e0.frames,.inr ⟨rfl,rfl⟩,fun b z=>absurd z (noA b),e0.bs,e0.bsz,fun b _ _=>noA b,fun b z=>absurd z (noA b),e0.funs,e0.frf⟩,
  rfl,e0.bare,Un.kept hk,⟨_,x.toInCall.ns,fun i y v h1 h2 h3=>?_⟩,fun y c h=>⟨_,x.cell y c h⟩,e0.hok.fresh (Nat.le_refl _),fun y c h=>?_,fun p hp=>absurd (show p∈([]:List (Addr×Obj)) from hp) (by simp),e0.hok.kept hk,?_⟩
 ·exact name_of_addr x.apart (PySem.mem_of_lookup h1) (PySem.mem_of_lookup h2)
 ·have hy:scope.names.lookup y=some .cell\/scope.names.lookup y=some .free:=hy
  rcases hy with hy | hy
  ·exact Na hy
  ·exact absurd rfl (S.nofree _ (PySem.mem_of_lookup hy))
 ·exact Nat.le_of_lt (x.above y c (PySem.mem_of_lookup h))
 ·have hi:i<vs.length:=by
   unfold start at h2
   by_cases hi:i<vs.length
   ·exact hi
   ·rw[List.getElem?_append_right (by simpa using hi)] at h2
    rw[List.getElem?_replicate] at h2
    split at h2<;>cases h2
  have ha:vs[i]?=some v:=by
   unfold start at h2;rw[List.getElem?_append_left (by simpa using hi),List.getElem?_map] at h2
   cases e:vs[i]? with
   | none=>rw[e] at h2;cases h2
   | some a=>rw[e] at h2;cases h2;rfl
  obtain⟨u,hu,rv⟩:=r.get ha
  have hp:ps[i]?=some y:=by
   rw[<-S.pre,List.getElem?_take_of_lt (by omega)];exact h1
  have ndP:ps.Nodup:=by rw[<-S.pre];exact S.nd.sublist (List.take_sublist _ _)
  refine⟨u,rv,?_⟩
  rcases S.par y (List.mem_of_getElem? hp) with k | k
  ·exact .inl ⟨k,Pd ndP hp hu k⟩
  ·obtain⟨c,e⟩:=Na (n:=s.heap.objs.size+1) k
   refine .inr ⟨.inl k,c,e,?_⟩
   have q:=x.cell y c e
   rw[Pe ndP hp hu (by show scope.names.lookup y≠_;rw[k];decide)] at q
   exact q
 ·exact e0.hok.fresh (Nat.le_of_lt (x.above y c (PySem.mem_of_lookup h)))
 ·unfold start
  show _=N.length
  rw[List.length_append,List.length_map,List.length_replicate];omega
theorem Nc{CX:GJ}{P:Program}{w:World}{K:PySem.W.Frag}{mg:Str->Option Value}{base:Heap}{k:Nat}{f:Addr}{name qual:Str}{params:Arguments}{body:List Stmt}{scope:Scope}{dV kV doc pm cdv ct oc:Value}{an od:Option Addr}
  {osl:Array (Option Value)} {N ps:List Str} {sp:Sp} (lk:K.lookup f=some ⟨oc,od,.func (PySem.W.fnOf name qual params body scope dV kV doc pm an cdv ct),osl⟩) (hcd:PySem.W.codeIn K cdv qual=true) (S:Zy N ps scope)
  (len:∀vs H Q E,sp vs H Q E->vs.length=ps.length)
  (hbody:∀(A:Around)(outer:List Env)(s:Shared)(H:Hp)(vs:List V)(Q:VK)(E:XK),Room k (A.deeper (envOfC qual scope s.heap.objs.size f cdv))->sp vs H Q E->
   ∃t,PSs (Tv CX P w K mg base N qual scope f cdv A outer s H E) body t/\t { nx:=fun _ H'=>Q .non H',rt:=Q } (start N vs) H) :
  Ue P w K mg base CX (k+1) f (PySem.W.fnOf name qual params body scope dV kV doc pm an cdv ct) ps sp:=by
 refine⟨len,fun A outer s H args us vs Q E hr e0 hb r hsp=>?_⟩
 have hl:=len _ _ _ _ hsp
 have KX:K.In s.heap:=e0.mod.kin.keeps fun b o e=>(e0.bs b o e).1
 have lim:s.heap.NoLimit:=e0.mod.nolimit.keeps fun b o e=>(e0.bs b o e).1
 have hkind:∀y∈ps.zip us,scope.names.lookup y.1=some .local\/(scope.names.lookup y.1=some .cell/\((cellsFrom (s.heap.objs.size+1) scope.names []).lookup y.1).isSome=true):=fun⟨n,v⟩ hy=>by
  rcases S.par n (List.of_mem_zip hy).1 with q | q
  ·exact .inl q
  ·exact .inr ⟨q,PySem.W.cellsFrom_some _ _ _ (.inl q)⟩
 refine codeAny_call_function hr.depth (KX _ _ lk) rfl S.co S.gen rfl (PySem.W.codeRec_of KX hcd) (hb _ _ _ _ ?_)
 refine wpAny_newFunctionEnv_cells S.kind hkind fun env he s1 x=>?_
 subst he
 refine⟨lim.keeps x.toInCall.keep,codeAny_func ?_⟩
 obtain⟨t,ht,hq⟩:=hbody A outer s H vs Q E (hr.deeper _) hsp
 have I:Inv (Tv CX P w K mg base N qual scope f cdv A outer s H E) [] (start N vs) H s1:=Ja S hr.hd e0 hl r x
 refine wpAny_mono (ht [] s1 (start N vs) H _ I hq) (fun fl s' hs=>?_) fun e s' hs=>hs
 have fin:∀{σ':St}{H':Hp}{v:V}{u:Value},Inv (Tv CX P w K mg base N qual scope f cdv A outer s H E) [] σ' H' s'->RelV v u->Q v H'->CE outer P w H s Q u s':=
  fun{σ' H' v u} J rv q=>⟨v,H',J.os,J.bare,J.base,J.hok,rv,q⟩
 cases fl with
 | ret u=>
  obtain⟨v,σ',H',J,rv,q⟩:=hs
  exact fin J rv q
 | next=>
  obtain⟨σ',H',J,q⟩:=hs
  exact fin (v:=V.non) (u:=Value.none) J rfl q
 | brk=>
  obtain⟨_,_,_,q⟩:=hs
  exact False.elim q
 | cont=>
  obtain⟨_,_,_,q⟩:=hs
  exact False.elim q
section
variable {X:Cx} {x:Str} {p pos:Pos} {e:Expr} {es:List Expr} {t:TA} {id T:String} {r:List V->Hp->VK->Prop}
def Ah(r:List V->Hp->VK->Prop)(t:TA):TE:=fun σ H Q=>t σ H fun vs H1=>r vs H1 Q
theorem RN(hc:Wa X (.builtin id) r)(hg:Gl X x)(hm:X.mg x=none)(hv:bootBuiltins x=some (.builtin id))(ha:PA X (e::es) t)(hn:x≠"__name__":=by decide)(hdb:(x==("__debug__" : Str))=false:=by decide)
  (he:starEach (e::es) X.env=(false,eval e X.env)::starEach es X.env:=by rfl) (hpl:(backTo pos (starEach es X.env)).any (·.1)=false:=by rfl):PE X (.Call (.Name x p) (e::es) [] pos) (Ah r t):=by
 intro pins s σ H Q I h
 refine wpAny_Call_Name_kw (Vg I hg hm hv ?_ hn hdb)
 exact PyProof.Rows.callWith_builtin1 (YI (ha pos pins s σ H _ I h) fun us s1 ⟨vs,H1,I1,r1,q1⟩=>hc pins s1 σ H1 vs us Q I1 r1 q1) he hpl
theorem Pf(hc:Wa X (.type T) r)(hg:Gl X x)(hm:X.mg x=none)(hv:bootBuiltins x=some (.type T))(ha:PA X (e::es) t)(hn:x≠"__name__":=by decide)(hdb:(x==("__debug__" : Str))=false:=by decide)
  (he:starEach (e::es) X.env=(false,eval e X.env)::starEach es X.env:=by rfl) (hpl:(backTo pos (starEach es X.env)).any (·.1)=false:=by rfl):PE X (.Call (.Name x p) (e::es) [] pos) (Ah r t):=by
 intro pins s σ H Q I h
 refine wpAny_Call_Name_kw (Vg I hg hm hv ?_ hn hdb)
 exact PyProof.Rows.callWith_type1 (YI (ha pos pins s σ H _ I h) fun us s1 ⟨vs,H1,I1,r1,q1⟩=>hc pins s1 σ H1 vs us Q I1 r1 q1) he hpl
end
end L2
namespace HT
open PySem PyProof.Rows
def lexLt:List Int->List Int->Bool
 | [],[]=>false
 | [],_::_=>true
 | _::_,[]=>false
 | x::xs,y::ys=>if x=y then lexLt xs ys else decide (x<y)
theorem lexLt_cons(x y:Int)(xs ys:List Int):lexLt (x::xs) (y::ys)=if x=y then lexLt xs ys else decide (x<y):=rfl
section
variable {prog:Program} {w:World} {A:Around} {E:Value->Shared->Prop} {s:Shared}
theorem cat_tup{t b:Addr}{vs ws:List Value}{Q:Value->Shared->Prop}(ht:IsTup s.heap t vs.toArray)(hb:IsTup s.heap b ws.toArray)(hv:vs≠[])
  (h1:ws=[]->Q (.ref t) s) (h2:ws≠[]->Q (.ref s.heap.objs.size) { s with heap:=s.heap.push { cls:=.type "tuple",data:=.seq (vs++ws).toArray } })
  (hsz:vs.length+ws.length<=sizeLine):wpAny (model prog w) A (binaryOp .Add (.ref t) (.ref b)) Q E s:=by
 obtain⟨⟨cls,dd,data,sl⟩,ho,hc,n,hd⟩:=id ht
 obtain⟨⟨cls2,dd2,data2,sl2⟩,ho2,hc2,n2,hd2⟩:=id hb
 simp only at hc hd hc2 hd2
 subst hc hd hc2 hd2
 have e:vs.toArray++ws.toArray=(vs++ws).toArray:=by simp
 by_cases hw:ws=[]
 ·exact concat_meets ⟨_,ho,rfl⟩ ⟨_,ho2,rfl⟩ noFill_tuple_add seq_tuple_add PySem.F.slot_tuple_add PySem.F.entry_tuple_add (PySem.F.args_tuple_add_2 _ _)
   (tuple_addW1 t b vs.toArray ws.toArray n n2 dd dd2 sl sl2 (by simpa using hv) (by simp[hw])) ⟨ho,ho2,h1 hw⟩
 ·refine concat_meets ⟨_,ho,rfl⟩ ⟨_,ho2,rfl⟩ noFill_tuple_add seq_tuple_add PySem.F.slot_tuple_add PySem.F.entry_tuple_add (PySem.F.args_tuple_add_2 _ _)
   (tuple_addW2 t b vs.toArray ws.toArray n n2 dd dd2 sl sl2 (by simpa using hv) (by simpa using hw) (by rw[List.size_toArray,List.size_toArray];exact hsz)) ⟨ho,ho2,?_⟩
  rw[e]
  exact h2 hw
def sIx(n d:Nat):Option Int->Nat
 | none=>d
 | some v=>if v<0 then(v+(n:Int)).toNat else min v.toNat n
theorem sIx_nat(n d k:Nat):sIx n d (some (k:Int))=min k n:=by
 show(if(k:Int)<0 then((k:Int)+(n:Int)).toNat else min (k:Int).toNat n)=min k n
 rw[if_neg (by omega),Int.toNat_natCast]
end
end HT
namespace L2
open PySem PySem.Spec PyProof.Rows
abbrev TO:=St->Hp->(Option Int->Hp->Prop)->Prop
def PO(X:Cx)(e:Option Expr)(t:TO):Prop:=
 ∀(pins:List (Addr×Obj))(s:Shared)(σ:St)(H:Hp)(Q:Option Int->Hp->Prop),Inv X pins σ H s->t σ H Q->
  wpAny (model X.prog X.w) X.A (evalPart e X.env) (fun u s'=>∃o H',Inv X pins σ H' s'/\IsPart u o/\Q o H') X.xe s
def Bq(t:TE):TO:=fun σ H Q=>t σ H fun x H1=>∃i,x = .int i/\Q (some i) H1
theorem U9{ns:List Int}:∀{us:List Value},Vals (ns.map V.int) us->IntsAre us ns:=by
 induction ns with
 | nil=>intro us r;rw[List.map_nil] at r;cases r;exact .nil
 | cons n ns ih=>
  intro us r;rw[List.map_cons] at r
  cases r with
  | cons r1 r2=>
   obtain⟨t,e⟩:=r1
   subst e
   exact .cons n t (ih r2)
section
variable {X:Cx} {e:Expr} {te:TE} {lo hi:Option Expr} {tl th:TO} {pos p2:Pos}
theorem G4(h:PE X e te):PO X (some e) (Bq te):=by
 intro pins s σ H Q I hw;rw[evalPart_some]
 refine YI (h pins s σ H _ I hw) fun u s1 ⟨x,H1,I1,r1,q1⟩=>?_
 obtain⟨i,rfl,q⟩:=q1
 obtain⟨t,rfl⟩:=r1
 exact⟨some i,H1,I1,.int i t,q⟩
def A5(X:Cx)(r:V->Option Int->Option Int->Hp->VK->Prop):Prop:=
 ∀(pins:List (Addr×Obj))(s:Shared)(σ:St)(H:Hp)(x:V)(v vl vu:Value)(lo hi:Option Int)(sl:Addr)(Q:VK),Inv X pins σ H s->RelV x v->s.heap.IsSliceOf sl vl vu .none->IsPart vl lo->IsPart vu hi->r x lo hi H Q->
  ∃T id,typeLookup (.type T) "__getitem__" = pure (some (.builtin id))/\s.TypeIs v T/\wpAny (model X.prog X.w) X.A (getItem v (.ref sl)) (EP X pins σ Q) X.xe s
def tSl(r:V->Option Int->Option Int->Hp->VK->Prop)(te:TE)(tl th:TO):TE:=fun σ H Q=>te σ H fun x H1=>tl σ H1 fun l H2=>th σ H2 fun u H3=>r x l u H3 Q
theorem IG{r:V->Option Int->Option Int->Hp->VK->Prop}(hr:A5 X r)(he:PE X e te)(hl:PO X lo tl)(hu:PO X hi th):PE X (.Subscript e (.Slice lo hi none p2) pos) (tSl r te tl th):=by
 intro pins s σ H Q I h
 refine Subscript_ (YI (he pins s σ H _ I h) fun v s1 ⟨x,H1,I1,r1,q1⟩=>?_)
 refine wpAny_Slice (YI (hl pins s1 σ H1 _ I1 q1) fun vl s2 ⟨l,H2,I2,pl,q2⟩=>YI (hu pins s2 σ H2 _ I2 q2) fun vu s3 ⟨u,H3,I3,pu,q3⟩=>?_)
 rw[evalPart_none]
 refine wpAny_pure ?_
 have I4:Inv X pins σ H3 { s3 with heap:=s3.heap.push { cls:=.type "slice",data:=.fields #[vl,vu,.none] } }:=I3.kept (t':=s3.toks) fun b ob q=>Heap.get?_push_of_some _ q
 obtain⟨T,id,hT,ht,hg⟩:=hr pins { s3 with heap:=s3.heap.push { cls:=.type "slice",data:=.fields #[vl,vu,.none] } } σ H3 x v vl vu l u s3.heap.objs.size Q I4 r1 (Heap.IsSliceOf.new ..) pl pu q3
 show wpAny (model X.prog X.w) X.A (subscriptTail e (.Slice lo hi none p2) v (.ref s3.heap.objs.size)) (EP X pins σ Q) X.xe { s3 with heap:=s3.heap.push { cls:=.type "slice",data:=.fields #[vl,vu,.none] } }
 exact tail_any (ops:=[.ref s3.heap.objs.size,v]) ht hT hg (by with_unfolding_all rfl)
def Jb(xs:List V)(lo hi:Option Int):List V:=(xs.drop (HT.sIx xs.length 0 lo)).take (HT.sIx xs.length xs.length hi-HT.sIx xs.length 0 lo)
theorem Nd(xs:List V)(lo hi:Option Int):(Jb xs lo hi).length<=xs.length:=by
 unfold Jb;rw[List.length_take,List.length_drop];omega
def Br(K:PySem.W.Frag):R2:=fun x y H Q=>∃a b xs ys,x = .ref a/\y = .ref b/\SqT K H a xs/\SqT K H b ys/\xs≠[]/\xs.length+ys.length<=sizeLine/\
 (ys=[]->Q (.ref a) H)/\(ys≠[]->∀p,H p=none->Q (.ref p) (upd H p (.tup (xs++ys))))
theorem Vals.nil_iff{xs:List V}{us:List Value}(r:Vals xs us):us=[]↔xs=[]:=by
 cases r with
 | nil=>simp
 | cons _ _=>simp
theorem G5:U2 X (binaryOp .Add) (Br X.K):=by
 intro pins s σ H x y v u Q I rx ry h
 obtain⟨a,b,xs,ys,rfl,rfl,ha,hb,hx,hz,q1,q2⟩:=h
 cases rx;cases ry
 obtain⟨its,r1,p1,_⟩:=I.tuple ha
 obtain⟨its2,r2,p2,_⟩:=I.tuple hb
 refine HT.cat_tup p1 p2 (fun z=>hx (r1.nil_iff.mp z)) (fun z=>⟨.ref a,H,I,rfl,q1 (r2.nil_iff.mp z)⟩) (fun z=>?_) (by rw[<-r1.length,<-r2.length];exact hz)
 refine⟨.ref s.heap.objs.size,_,I.laid (t':=s.toks) (o:=.tup (xs++ys)) (fun b ob q=>Heap.get?_push_of_some _ q) (Nat.le_refl _) ?_,rfl,q2 (fun w=>z (r2.nil_iff.mpr w)) _ (I.hok.fresh (Nat.le_refl _))⟩
 exact⟨by rw[List.length_append];exact hz,_,r1.append r2,IsTup.new _ _⟩
end
def MA(n:Nat)(i:Int):Option Nat:=if 0<=i then(if i<n then some i.toNat else none) else if -(n:Int)<=i then some (i+n).toNat else none
def Ub{α:Type}(xs:List α)(i:Int):Option α:=(MA xs.length i).bind fun j=>xs[j]?
theorem LM{n:Nat}{i:Int}{j:Nat}(h:MA n i=some j):seqIndex? i n=some j/\j<n/\-(n:Int)<=i/\i<n:=by
 unfold MA at h
 by_cases h0:0<=i
 ·rw[if_pos h0] at h
  by_cases h1:i<n
  ·rw[if_pos h1] at h
   have e:i.toNat=j:=Option.some.inj h
   exact⟨by rw[seqIndex_of h0 h1,e],by omega,by omega,h1⟩
  ·rw[if_neg h1] at h;cases h
 ·rw[if_neg h0] at h
  by_cases h1 : -(n:Int)<=i
  ·rw[if_pos h1] at h
   have e:(i+n).toNat=j:=Option.some.inj h
   exact⟨by rw[seqIndex_neg (by omega) h1,e],by omega,h1,by omega⟩
  ·rw[if_neg h1] at h;cases h
theorem P7{α:Type}{xs:List α}{i:Int}{v:α}(h:Ub xs i=some v):∃j,seqIndex? i xs.length=some j/\xs[j]?=some v/\j<xs.length/\-(xs.length:Int)<=i/\i<xs.length:=by
 unfold Ub at h
 cases e:MA xs.length i with
 | none=>rw[e] at h;cases h
 | some j=>
  rw[e] at h
  obtain⟨h1,h2,h3,h4⟩:=LM e
  exact⟨j,h1,h,h2,h3,h4⟩
theorem VD{α:Type}{xs:List α}{j:Nat}{v:α}(h:xs[j]?=some v):Ub xs (j:Int)=some v:=by
 have hj:j<xs.length:=(List.getElem?_eq_some_iff.mp h).1
 have e:MA xs.length (j:Int)=some j:=by
  unfold MA
  rw[if_pos (by omega),if_pos (by omega)];simp
 unfold Ub;rw[e];exact h
def P8(b:Expr):Prop:=∀o i,subscripted b false o i=operate [o,i] (getItem o i)
def IxR(X:Cx)(r:R2):Prop:=
 ∀(value slice:Expr)(pins:List (Addr×Obj))(s:Shared)(σ:St)(H:Hp)(x y:V)(v u:Value)(Q:VK),Inv X pins σ H s->RelV x v->RelV y u->r x y H Q->
  subscripted slice false v u=operate [v,u] (getItem v u)->wpAny (model X.prog X.w) X.A (subscriptTail value slice v u) (EP X pins σ Q) X.xe s
def AH(X:Cx)(id:String)(r:V->List V->Hp->VK->Prop):Prop:=
 ∀(pins:List (Addr×Obj))(s:Shared)(σ:St)(H:Hp)(x:V)(xs:List V)(v:Value)(us:List Value)(Q:VK),Inv X pins σ H s->RelV x v->Vals xs us->r x xs H Q->
  wpAny (model X.prog X.w) X.A (call (.builtin id) (v::us)) (EP X pins σ Q) X.xe s
section
variable {X:Cx} {a b:Expr} {ta tb:TE} {pos:Pos}
theorem IxR.or{r r':R2}(h:IxR X r)(h':IxR X r'):IxR X (fun x y H Q=>r x y H Q\/r' x y H Q):=by
 intro value slice pins s σ H x y v u Q I rx ry q hs
 rcases q with q | q
 ·exact h value slice pins s σ H x y v u Q I rx ry q hs
 ·exact h' value slice pins s σ H x y v u Q I rx ry q hs
theorem LN{r:R2}(hr:IxR X r)(ha:PE X a ta)(hb:PE X b tb)(hs:P8 b):PE X (.Subscript a b pos) (DB r ta tb):=by
 intro pins s σ H Q I h
 exact Subscript_ (DC ha hb I h fun v u s2 x y H2 I2 rx ry q=>hr a b pins s2 σ H2 x y v u Q I2 rx ry q (hs _ _))
def G6(K:PySem.W.Frag):R2:=fun x y H Q=>∃p xs i v,x = .ref p/\y = .int i/\SqL K H p xs/\Ub xs i=some v/\Q v H
def Bs(K:PySem.W.Frag):R2:=fun x y H Q=>∃p xs i v,x = .ref p/\y = .int i/\SqT K H p xs/\Ub xs i=some v/\Q v H
def Bt:R2:=fun x y H Q=>∃z i c,x = .str z/\y = .int i/\z.length<=sizeLine/\Ub z.cps.toList i=some c/\Q (.str ⟨#[c]⟩) H
theorem ix_list:IxR X (G6 X.K):=by
 intro value slice pins s σ H x y v u Q I rx ry h hs
 obtain⟨p,xs,i,z,rfl,rfl,hq,he,q⟩:=h
 cases rx
 obtain⟨t,rfl⟩:=ry
 obtain⟨its,r,pl,hz⟩:=I.list hq
 obtain⟨j,h1,h2,h3,h4,h5⟩:=P7 he
 obtain⟨w,ew,YM⟩:=r.get h2
 have hl:=r.length;have hn:=Sv
 have fin:EP X pins σ Q w s:=⟨z,H,I,YM,q⟩
 by_cases h0:0<=i
 ·have hj:i.toNat=j:=by
   rw[seqIndex_of h0 h5] at h1
   exact Option.some.inj h1
  exact item_listR pl.isList h0 (by omega) (by rw[hj];simpa using ew) fin hs
 ·have hj:(i+(its.toArray.size:Int)).toNat=j:=by
   rw[seqIndex_neg (by omega) h4] at h1;rw[List.size_toArray,<-hl]
   exact Option.some.inj h1
  exact subscriptTail_builtinR (x:=w) pl.isList.typeIs slot_list_getitem.lookup
   (wpAny_getItem_list_neg (Q:=fun r s'=>r=w/\EP X pins σ Q r s') pl.isList (by omega) (by rw[List.size_toArray]<;>omega) (by omega) (by rw[hj];simpa using ew) ⟨rfl,fin⟩) hs
theorem ix_tup:IxR X (Bs X.K):=by
 intro value slice pins s σ H x y v u Q I rx ry h hs
 obtain⟨p,xs,i,z,rfl,rfl,hq,he,q⟩:=h
 cases rx
 obtain⟨t,rfl⟩:=ry
 obtain⟨its,r,pl,hz⟩:=I.tuple hq
 obtain⟨j,h1,h2,h3,h4,h5⟩:=P7 he
 obtain⟨w,ew,YM⟩:=r.get h2
 have hl:=r.length;have hn:=Sv
 have fin:EP X pins σ Q w s:=⟨z,H,I,YM,q⟩
 exact subscriptTail_builtinR (x:=w) pl.typeIs slot_tuple_getitem.lookup
  (getItem_tuple (j:=j) (Q:=fun r s'=>r=w/\EP X pins σ Q r s') pl (by omega) (by omega) (by rw[List.size_toArray,<-hl];exact h1) (by simpa using ew) ⟨rfl,fin⟩) hs
theorem DJ:IxR X Bt:=by
 intro value slice pins s σ H x y v u Q I rx ry h hs
 obtain⟨z,i,c,rfl,rfl,hz,he,q⟩:=h
 obtain⟨t,rfl⟩:=rx
 obtain⟨t',rfl⟩:=ry
 obtain⟨j,h1,h2,h3,h4,h5⟩:=P7 he
 have hl:z.cps.toList.length=z.length:=by simp[Str.length]
 rw[hl] at h1 h4 h5
 have hn:=Sv
 exact tail_any (typeIs_str s z t) slot_str_getitem.lookup (getItem_str (c:=c) (by
  have e1:decide (i < -(2^63:Int))=false:=decide_eq_false (by omega)
  have e2:decide (i ≥ 2^63)=false:=decide_eq_false (by omega)
  rw[e1,e2,Bool.or_false]) (by rw[h1];simpa using h2) ⟨.str ⟨#[c]⟩,H,I.tok _,⟨_,rfl⟩,q⟩) hs
def A6(K:PySem.W.Frag):R2:=fun x y H Q=>G6 K x y H Q\/Bs K x y H Q\/Bt x y H Q
theorem DK:IxR X (A6 X.K):=ix_list.or (ix_tup.or DJ)
theorem MM(its:List Value)(n j:Nat)(u:Value):Obj.mapSeq (·.setIfInBounds j u) { cls:=.type "list",data:=.seq its.toArray n }={ cls:=.type "list",data:=.seq (its.set j u).toArray n }:=by
 simp[Obj.mapSeq]
theorem Inv.lst{pins:List (Addr×Obj)}{σ:St}{H:Hp}{s:Shared}{p:Addr}{xs:List V}(I:Inv X pins σ H s)(h:H p=some (.lst xs)) :
  ∃(its:List Value) (n:Nat),Vals xs its/\s.heap.get? p=some { cls:=.type "list",data:=.seq its.toArray n }/\xs.length<=sizeLine:=by
 obtain⟨z,its,n,r,e⟩:=I.hok p _ h
 exact⟨its,n,r,e,z⟩
theorem Inv.lstUpd{pins:List (Addr×Obj)}{σ:St}{H:Hp}{s:Shared}{p:Addr}{xs ys:List V}{its its':List Value}{n n':Nat}{f:Obj->Obj}(I:Inv X pins σ H s)(h:H p=some (.lst xs))
  (ho:s.heap.get? p=some { cls:=.type "list",data:=.seq its.toArray n }) (hf:f { cls:=.type "list",data:=.seq its.toArray n }={ cls:=.type "list",data:=.seq its'.toArray n' }) (r:Vals ys its') (hz:ys.length<=sizeLine) (t:Nat) :
  Inv X pins σ (upd H p (.lst ys)) { s with heap:=s.heap.update p f,toks:=t }:=by
 have e:(s.heap.update p f).get? p=some { cls:=.type "list",data:=.seq its'.toArray n' }:=by
  rw[Heap.get?_update_self f ho (by rw[hf]<;>rfl),hf]
 refine I.write (x:=p) (e:=p) (by rw[h];trivial) (.inl rfl) (fun b u hb q=>(Heap.get?_update_other _ _ (Ne.symm hb)).trans q) ⟨_,e⟩ ?_
 exact⟨hz,its',n',r,e⟩
def EN:V->V->V->Hp->(Hp->Prop)->Prop:=fun o i v H Q=>∃p xs k j,o = .ref p/\i = .int k/\H p=some (.lst xs)/\MA xs.length k=some j/\Q (upd H p (.lst (xs.set j v)))
theorem Nf:C9 X EN:=by
 intro pins s σ H o i v ov iv u Q I ro ri rv h
 obtain⟨p,xs,k,j,rfl,rfl,hp,hj,q⟩:=h
 cases ro
 obtain⟨t,rfl⟩:=ri
 obtain⟨its,n,r,ho,hz⟩:=I.lst hp
 obtain⟨h1,h2,h3,h4⟩:=LM hj
 have hl:=r.length;have hn:=Sv
 have I':Inv X pins σ (upd H p (.lst (xs.set j v))) { s with heap:=s.heap.update p (Obj.mapSeq (·.setIfInBounds j u)) }:=
  I.lstUpd hp ho (MM its n j u) (r.set rv j) (by rw[List.length_set];exact hz) s.toks
 by_cases h0:0<=k
 ·have hk:k.toNat=j:=by
   rw[seqIndex_of h0 h4] at h1
   exact Option.some.inj h1
  exact PySem.W.ki_setAt ho h0 (by omega) (by rw[List.size_toArray,<-hl];exact h4) (by rw[hk];exact⟨_,I',q⟩)
 ·have hk:(k+(its.toArray.size:Int)).toNat=j:=by
   rw[seqIndex_neg (by omega) h3] at h1;rw[List.size_toArray,<-hl]
   exact Option.some.inj h1
  exact PySem.W.ki_setBack ho (by omega) (by rw[List.size_toArray,<-hl];exact h3) (by omega) (by rw[hk];exact⟨_,I',q⟩)
theorem P9(lo hi:Option Int)(n:Nat):(sliceBounds lo hi none n).1=((HT.sIx n 0 lo:Nat):Int)/\(sliceBounds lo hi none n).2.1=((HT.sIx n n hi:Nat):Int)/\(sliceBounds lo hi none n).2.2=1:=by
 refine⟨?_,?_,rfl⟩
 ·cases lo with
  | none=>simp[sliceBounds,HT.sIx]
  | some i=>
   simp only[sliceBounds,HT.sIx,Option.getD_none,show(1:Int)>0 by decide,if_true]
   by_cases h:i<0
   ·simp only[h,if_true]<;>omega
   ·simp only[h,if_false]<;>omega
 ·cases hi with
  | none=>simp[sliceBounds,HT.sIx]
  | some i=>
   simp only[sliceBounds,HT.sIx,Option.getD_none,show(1:Int)>0 by decide,if_true]
   by_cases h:i<0
   ·simp only[h,if_true]<;>omega
   ·simp only[h,if_false]<;>omega
theorem QR(its:List Value)(lo hi:Option Int):slicePick its.toArray lo hi none=((its.drop (HT.sIx its.length 0 lo)).take (HT.sIx its.length its.length hi-HT.sIx its.length 0 lo)).toArray:=by
 obtain⟨h1,h2,h3⟩:=P9 lo hi its.toArray.size
 unfold slicePick;rw[h1,h2,h3]
 simp only[sliceRange_one,pick_run,List.size_toArray]<;>rfl
def AI(K:PySem.W.Frag):V->Option Int->Option Int->Hp->VK->Prop:=fun x lo hi H Q=>∃a xs,x = .ref a/\SqL K H a xs/\∀p,H p=none->Q (.ref p) (upd H p (.lst (Jb xs lo hi)))
theorem G7:A5 X (AI X.K):=by
 intro pins s σ H x v vl vu lo hi sl Q I rx hs pl pu h
 obtain⟨a,xs,rfl,hx,q⟩:=h
 cases rx
 obtain⟨its,r,ht,hz⟩:=I.list hx
 have hlen:=r.length
 refine⟨"list",_,slot_list_getitem.lookup,ht.isList.typeIs,?_⟩
 refine wpAny_getItem_list_slice ht.isList hs pl pu .none (by simp) ?_ (by rw[List.size_toArray]<;>omega)
 rw[QR,<-hlen]
 refine⟨.ref s.heap.objs.size,_,I.laid (t':=s.toks) (o:=.lst (Jb xs lo hi)) (fun b ob q=>Heap.get?_push_of_some _ q) (Nat.le_refl _) ?_,rfl,q _ (I.hok.fresh (Nat.le_refl _))⟩
 exact⟨Nat.le_trans (Nd xs lo hi) hz,_,0,(r.drop (HT.sIx xs.length 0 lo)).take (HT.sIx xs.length xs.length hi-HT.sIx xs.length 0 lo),Heap.get?_push_size _ rfl⟩
theorem VF:Wa X (.type "list") (fun xs H Q=>∃p ys,xs=[.ref p]/\(SqL X.K H p ys\/SqT X.K H p ys)/\∀l,H l=none->Q (.ref l) (upd H l (.lst ys))):=by
 intro pins s σ H xs us Q I r h
 obtain⟨p,ys,rfl,hq,q⟩:=h
 obtain⟨u,rfl,rx⟩:=Ud r
 cases rx
 have fin:∀(its:List Value),Vals ys its->ys.length<=sizeLine->∀(h':Heap)(c':Nat),(∀b o',s.heap.get? b=some o'->h'.get? b=some o')->
   h'.get? s.heap.objs.size=some { cls:=.type "list",dict:=none,data:=.seq its.toArray c',slots:=#[] }->EP X pins σ Q (.ref s.heap.objs.size) { s with heap:=h' }:=fun its r' hz h' c' kp e=>
  ⟨.ref s.heap.objs.size,_,I.laid (t':=s.toks) kp (Nat.le_refl _) (show ObjOk X.prog X.w _ h' _ (.lst ys) from⟨hz,its,c',r',e⟩),rfl,q _ (I.hok.fresh (Nat.le_refl _))⟩
 rcases hq with hq | hq
 ·obtain⟨its,r',pl,hz⟩:=I.list hq
  have hlen:=r'.length
  obtain⟨o,ho,hc,n,hd⟩:=pl.isList
  exact call_list_seq p (.inl rfl) ho hc hd (fun h' c' kp e=>fin its r' hz h' c' kp e) (by simp only[List.size_toArray]<;>omega)
 ·obtain⟨its,r',pl,hz⟩:=I.tuple hq
  have hlen:=r'.length
  obtain⟨o,ho,hc,n,hd⟩:=pl
  exact call_list_seq p (.inr rfl) ho hc hd (fun h' c' kp e=>fin its r' hz h' c' kp e) (by simp only[List.size_toArray]<;>omega)
theorem Xq:Wa X (.type "tuple") (fun xs H Q=>∃p ys,xs=[.ref p]/\((SqL X.K H p ys/\∀l,H l=none->Q (.ref l) (upd H l (.tup ys)))\/(SqT X.K H p ys/\Q (.ref p) H))):=by
 intro pins s σ H xs us Q I r h
 obtain⟨p,ys,rfl,h⟩:=h
 obtain⟨u,rfl,rx⟩:=Ud r
 cases rx
 rcases h with⟨hq,q⟩ | ⟨hq,q⟩
 ·obtain⟨its,r',pl,hz⟩:=I.list hq
  have hlen:=r'.length
  refine call_tuple_list pl.isList (fun h' kp=>?_) (by simp only[List.size_toArray]<;>omega)
  have I1:Inv X pins σ H { s with heap:=h' }:=I.kept (t':=s.toks) kp
  have I2:Inv X pins σ (upd H h'.objs.size (.tup ys)) { s with heap:=h'.push { cls:=.type "tuple",data:=.seq its.toArray } }:=
   I1.laid (t':=s.toks) (fun b o e=>Heap.get?_push_of_some _ e) (Nat.le_refl _) (show ObjOk X.prog X.w _ _ _ (.tup ys) from⟨hz,its,r',IsTup.new _ _⟩)
  exact⟨.ref h'.objs.size,_,I2,rfl,q _ (I1.hok.fresh (Nat.le_refl _))⟩
 ·obtain⟨its,r',pl,hz⟩:=I.tuple hq
  exact call_tuple_same pl ⟨.ref p,H,I,rfl,q⟩
def AJ(K:PySem.W.Frag)(T:String)(x:V)(H:Hp):Prop:=match x with
 | .str _=>T = "str"
 | .int _=>T = "int"
 | .ref p=>(T = "list"/\∃xs,SqL K H p xs)\/(T = "tuple"/\∃o,K.lookup p=some o/\o.cls = .type "tuple"/\o.dict=none)\/
   (T = "dict"/\((∃kvs,H p=some (.dK kvs))\/∃kvs,H p=some (.dT kvs)))\/(T = "set"/\∃S n,H p=some (.set S n))
 | _=>False
theorem DL{pins:List (Addr×Obj)}{σ:St}{H:Hp}{s:Shared}{T:String}{x:V}{v:Value}(I:Inv X pins σ H s)(r:RelV x v)(ty:AJ X.K T x H) :
  s.TypeIs v T/\∀a,v = .ref a->∃ob,s.heap.get? a=some ob/\ob.dict=none:=by
 cases x with
 | str z=>
  obtain⟨t,rfl⟩:=r
  cases (show T = "str" from ty)
  exact⟨typeIs_str s z t,fun _ e=>nomatch e⟩
 | int i=>
  obtain⟨t,rfl⟩:=r
  cases (show T = "int" from ty)
  exact⟨typeIs_int s i t,fun _ e=>nomatch e⟩
 | ref p=>
  cases r
  rcases ty with⟨rfl,xs,hq⟩ | ⟨rfl,o,hk,hc,hd⟩ | ⟨rfl,hk⟩ | ⟨rfl,S,n,hk⟩
  ·obtain⟨its,_,pl,_⟩:=I.list hq
   refine⟨pl.isList.typeIs,fun a e=>?_⟩
   cases e
   obtain⟨o,n,e,c,hd,_⟩:=pl
   exact⟨o,e,hd⟩
  ·refine⟨⟨o,I.kIn p o hk,hc⟩,fun a e=>?_⟩
   cases e
   exact⟨o,I.kIn _ o hk,hd⟩
  ·have z:∃o,s.heap.get? p=some o/\o.ExactDict:=by
    rcases hk with⟨kvs,hk⟩ | ⟨kvs,hk⟩
    ·obtain⟨_,_,_,_,o,_,_,e,ex,_⟩:=I.hok p _ hk
     exact⟨o,e,ex⟩
    ·obtain⟨_,_,_,_,o,_,_,e,ex,_⟩:=I.hok p _ hk
     exact⟨o,e,ex⟩
   obtain⟨o,e,ex⟩:=z
   refine⟨⟨o,e,ex.1⟩,fun a e2=>?_⟩
   cases e2
   exact⟨o,e,ex.2.1⟩
  ·obtain⟨o,_,_,_,e,ex,_⟩:=I.hok p _ hk
   refine⟨⟨o,e,ex.1⟩,fun a e2=>?_⟩
   cases e2
   exact⟨o,e,ex.2.1⟩
 | _=>exact False.elim ty
def Ai(K:PySem.W.Frag)(T:String)(r:V->List V->Hp->VK->Prop)(to:TE)(t:TA):TE:=fun σ H Q=>to σ H fun x H1=>AJ K T x H1/\t σ H1 fun xs H2=>r x xs H2 Q
variable {o e:Expr} {es:List Expr} {to:TE} {t:TA} {name:Str} {apos cpos:Pos} {T id:String} {r:V->List V->Hp->VK->Prop}
theorem S5(pa:PlainAttrs T)(slot:Slot T name id)(hty:typeOf (.builtin id)=pure (.type "method_descriptor"))(hm:AH X id r)(ho:PE X o to)(ha:PA X (e::es) t)
  (hbase:attributeBase o name X.env (eval o X.env)=eval o X.env:=by rfl)
  (hfew:((backTo cpos (starEach (e::es) X.env)).all (fun x=>!x.1)&&(backToKw cpos (keywordEach [] X.env)).all (fun x=>x.1.isSome)
   &&decide ((e::es).length+([]:List Keyword).length+(if([]:List Keyword).isEmpty then 0 else 1)<30))=true:=by rfl)
  (hline:(apos.endLine==cpos.line)=true:=by rfl) (hs:starEach (e::es) X.env=(false,eval e X.env)::starEach es X.env:=by rfl) (hplain:(backTo cpos (starEach es X.env)).any (·.1)=false:=by rfl) :
  PE X (.Call (.Attribute o name apos) (e::es) [] cpos) (Ai X.K T r to t):=by
 intro pins s σ H Q I h
 refine wpAny_Call_method_late hbase hfew hline rfl (YI (ho pins s σ H _ I h) fun v s1 ⟨x,H1,I1,r1,ty,q1⟩=>?_)
 obtain⟨h1,h2⟩:=DL I1 r1 ty
 refine⟨T,id,pa,slot,hty,h1,h2,?_⟩
 have hA:=ha cpos pins s1 σ H1 _ I1 q1
 rw[hs] at hA ⊢
 refine Calls.callWith_builtin (by show(false || (backTo cpos (starEach es X.env)).any (·.1))=false;rw[hplain]<;>rfl) (Calls.evalArgs_plain ?_)
 exact YI hA fun us s2 ⟨vs,H2,I2,r2,q2⟩=>hm pins s2 σ H2 x vs v us Q I2 r1 r2 q2
end
def AK(X:Cx)(id:String)(r:V->List V->Hp->VK->Prop):Prop:=
 ∀(pins:List (Addr×Obj))(s:Shared)(σ:St)(H:Hp)(x:V)(xs:List V)(v:Value)(us:List Value)(Q:VK),Inv X pins σ H s->RelV x v->Vals xs us->r x xs H Q->
  wpAny (model X.prog X.w) X.A (call (.builtin id) (v::us)) (EP X pins σ Q) X.xe s
theorem Vals.one:∀{x:V}{us:List Value},Vals [x] us->∃u,us=[u]/\RelV x u
 | _,_,.cons r .nil=>⟨_,rfl,r⟩
theorem Vals.two:∀{x y:V}{us:List Value},Vals [x,y] us->∃u v,us=[u,v]/\RelV x u/\RelV y v
 | _,_,_,.cons r (.cons q .nil)=>⟨_,_,rfl,r,q⟩
theorem Vals.dropLast{xs:List V}{us:List Value}(h:Vals xs us):Vals xs.dropLast us.dropLast:=by
 induction h with
 | nil=>exact .nil
 | cons r t ih=>
  cases t with
  | nil=>exact .nil
  | cons q t'=>exact .cons r ih
theorem Vals.rep{xs:List V}{us:List Value}(h:Vals xs us):∀k:Nat,Vals (List.replicate k xs).flatten (List.replicate k us).flatten
 | 0=>.nil
 | k+1=>by
  rw[List.replicate_succ,List.replicate_succ,List.flatten_cons,List.flatten_cons]
  exact Vals.append h (Vals.rep h k)
theorem Pg(its:List Value):∀(k:Nat)(acc:List Value),
  List.foldl (fun x1 x2=>x1++x2) acc.toArray (List.replicate k its.toArray)=(acc++(List.replicate k its).flatten).toArray
 | 0,acc=>by simp
 | k+1,acc=>by
  have e:acc.toArray++its.toArray=(acc++its).toArray:=by simp
  have e2:(acc++its)++(List.replicate k its).flatten=acc++(List.replicate (k+1) its).flatten:=by
   rw[List.replicate_succ,List.flatten_cons,List.append_assoc]
  rw[<-e2,<-Pg its k (acc++its),<-e,List.replicate_succ,List.foldl_cons]
section
variable {X:Cx} {pins:List (Addr×Obj)} {σ:St} {H:Hp} {s:Shared} {l b:Addr} {xs ys zs:List V}
theorem Inv.lset{its its':List Value}{n:Nat}{f:Array Value->Array Value}{t':Nat}(I:Inv X pins σ H s)(hH:H l=some (.lst xs))
  (e:s.heap.get? l=some { cls:=.type "list",data:=.seq its.toArray n }) (hf:f its.toArray=its'.toArray) (hv:Vals ys its') (hz:ys.length<=sizeLine) :
  Inv X pins σ (upd H l (.lst ys)) { s with heap:=s.heap.update l (Obj.mapSeq f),toks:=t' }:=by
 have q:=PySem.IsL.update e f;rw[hf] at q
 refine I.write (x:=l) (e:=l) (by rw[hH];exact trivial) (.inl rfl) (fun b' u hb hu=>(Heap.get?_update_other s.heap (Obj.mapSeq f) (Ne.symm hb)).trans hu) ⟨_,q⟩ ?_
 exact⟨hz,its',_,hv,q⟩
theorem Inv.lnew{its:List Value}{t':Nat}(I:Inv X pins σ H s)(hv:Vals ys its)(hz:ys.length<=sizeLine) :
  Inv X pins σ (upd H s.heap.objs.size (.lst ys)) { s with heap:=s.heap.push { cls:=.type "list",data:=.seq its.toArray },toks:=t' }:=
 I.laid (fun _ _ q=>Heap.get?_push_of_some _ q) (Nat.le_refl _) ⟨hz,its,0,hv,Heap.get?_push_size _ rfl⟩
theorem Inv.fresh(I:Inv X pins σ H s):H s.heap.objs.size=none:=I.hok.fresh (Nat.le_refl _)
theorem Inv.lstM(I:Inv X pins σ H s)(hH:H l=some (.lst xs)):xs.length<=sizeLine/\∃(its:List Value) (n:Nat),Vals xs its/\xs.length=its.length/\s.heap.get? l=some { cls:=.type "list",data:=.seq its.toArray n }:=by
 obtain⟨z,its,n,r,e⟩:=I.hok l _ hH
 exact⟨z,its,n,r,r.length,e⟩
theorem Ng{n:Nat}(h:n<=sizeLine):Builtin.List.listTooLong n=false:=by
 unfold Builtin.List.listTooLong
 exact decide_eq_false (by omega)
end
section
variable {X:Cx}
def LO:V->List V->Hp->VK->Prop:=fun x vs H Q=>∃l xs y,x = .ref l/\vs=[y]/\H l=some (.lst xs)/\xs.length<sizeLine/\Q .non (upd H l (.lst (xs++[y])))
theorem Sx:AK X "list.append" LO:=by
 intro pins s σ H x vs v us Q I rx rv h
 obtain⟨l,xs,y,rfl,rfl,hH,hz,q⟩:=h
 cases rx
 obtain⟨u,rfl,ru⟩:=rv.one
 obtain⟨z,its,n,r,hl,e⟩:=I.lstM hH
 refine call_meets F.slot_list_append ⟨_,e,rfl⟩ F.entry_list_append (F.args_list_append_2 _ _) (PySem.list_append l its.toArray n u (by rw[List.size_toArray];omega)) ⟨e,?_⟩
 refine⟨.non,_,I.lset (its':=its++[u]) hH e (by simp) (r.append (.cons ru .nil)) ?_,rfl,q⟩
 rw[List.length_append,List.length_singleton];omega
def LP:V->List V->Hp->VK->Prop:=fun x vs H Q=>∃l b xs zs,x = .ref l/\vs=[.ref b]/\H l=some (.lst xs)/\H b=some (.lst zs)/\xs.length+zs.length<=sizeLine/\Q .non (upd H l (.lst (xs++zs)))
theorem Ph:AK X "list.extend" LP:=by
 intro pins s σ H x vs v us Q I rx rv h
 obtain⟨l,b,xs,zs,rfl,rfl,hH,hB,hz,q⟩:=h
 cases rx
 obtain⟨u,rfl,ru⟩:=rv.one
 cases ru
 obtain⟨z,its,n,r,hl,e⟩:=I.lstM hH
 obtain⟨z2,its2,n2,r2,hl2,e2⟩:=I.lstM hB
 have hsz:its.toArray.size+its2.toArray.size<=sizeLine:=by rw[List.size_toArray,List.size_toArray];omega
 have hlong:¬(!its.toArray.isEmpty&&Builtin.List.listTooLong (its.toArray.size+its2.toArray.size))=true:=by
  rw[Ng hsz,Bool.and_false];exact Bool.false_ne_true
 refine call_meets F.slot_list_extend ⟨_,e,rfl⟩ F.entry_list_extend (F.args_list_extend_2 _ _)
  (AutoSeq1.list_extend_list_list_0 l its.toArray n b its2.toArray n2 hlong (by rw[List.size_toArray];omega) (by omega)) ⟨e,e2,?_⟩
 refine⟨.non,_,I.lset (its':=its++its2) hH e (by simp) (r.append r2) ?_,rfl,q⟩
 rw[List.length_append];omega
def AL:R2:=fun x y H Q=>∃l b xs zs,x = .ref l/\y = .ref b/\H l=some (.lst xs)/\H b=some (.lst zs)/\xs.length+zs.length<=sizeLine/\∀p,H p=none->Q (.ref p) (upd H p (.lst (xs++zs)))
theorem DM:U2 X (binaryOp .Add) AL:=by
 intro pins s σ H x y v u Q I rx ry h
 obtain⟨l,b,xs,zs,rfl,rfl,hH,hB,hz,q⟩:=h
 cases rx;cases ry
 obtain⟨z,its,n,r,hl,e⟩:=I.lstM hH
 obtain⟨z2,its2,n2,r2,hl2,e2⟩:=I.lstM hB
 refine PySem.P.add_list e e2 ?_ (by rw[List.size_toArray,List.size_toArray];omega)
 have ea:its.toArray++its2.toArray=(its++its2).toArray:=by simp
 rw[ea]
 exact⟨.ref _,_,I.lnew (t':=s.toks) (r.append r2) (by rw[List.length_append];omega),rfl,q _ I.fresh⟩
def AM:R2:=fun x y H Q=>∃l k xs,x = .ref l/\y = .int k/\H l=some (.lst xs)/\-(2^63)<=k/\k<2^63/\xs.length*k.toNat<=sizeLine/\
 ∀p,H p=none->Q (.ref p) (upd H p (.lst (List.replicate k.toNat xs).flatten))
theorem G8{α:Type}(xs:List α)(k:Nat):(List.replicate k xs).flatten.length=k*xs.length:=by
 induction k with
 | zero=>simp
 | succ k ih=>rw[List.replicate_succ,List.flatten_cons,List.length_append,ih,Nat.succ_mul,Nat.add_comm]
theorem DN:U2 X (binaryOp .Mult) AM:=by
 intro pins s σ H x y v u Q I rx ry h
 obtain⟨l,k,xs,rfl,rfl,hH,h1,h2,hz,q⟩:=h
 cases rx
 obtain⟨t,rfl⟩:=ry
 obtain⟨z,its,n,r,hl,e⟩:=I.lstM hH
 have hlen:its.toArray.size*k.toNat<=sizeLine:=by rw[List.size_toArray,<-hl];exact hz
 have hcap:¬its.toArray.size*k.toNat>(2^63-1)/8:=by
  have:(sizeLine:Nat)<=(2^63-1)/8:=by decide
  omega
 have hfit:¬(!Builtin.List.listFitsIndex k)=true:=by
  rw[fitsIndex_both h1 h2];exact Bool.false_ne_true
 have hlong:¬Builtin.List.listTooLong (its.toArray.size*k.toNat)=true:=by
  rw[Ng hlen];exact Bool.false_ne_true
 have hnew:List.foldl (fun x1 x2=>x1++x2) #[] (List.replicate (if its.toArray.isEmpty=true then 0 else k.toNat) its.toArray)=(List.replicate k.toNat its).flatten.toArray:=by
  have f0:∀m:Nat,List.foldl (fun x1 x2=>x1++x2) #[] (List.replicate m its.toArray)=(List.replicate m its).flatten.toArray:=fun m=>by
   have:=Pg its m []
   rw[List.nil_append] at this;exact this
  rw[f0]
  cases its with
  | nil=>simp
  | cons a r'=>rw[if_neg (by simp)]
 refine wpAny_binaryOp_repeat_ref (T:="list") (U:="int") (by decide) ⟨_,e,rfl⟩ (fun s'=>typeIs_int s' k t) noFill_list_mul F.fills_int_mul F.slot_int_rmul repeat_list F.slot_int_index.lookup
  (call_meets F.slot_int_rmul (typeIs_int s k t) F.entry_int_rmul (F.args_int_rmul_2 _ _) (int___rmul___int_list k t l its.toArray n)
   ⟨e,rfl,⟨_,e,rfl⟩,call_meets F.slot_list_mul ⟨_,e,rfl⟩ F.entry_list_mul (F.args_list_mul_2 _ _) (AutoListH.list___mul___list_int_3 l its.toArray n k t hfit hcap hlong) ⟨e,?_⟩⟩)
 rw[hnew]
 exact⟨.ref _,_,I.lnew (t':=s.toks) (r.rep k.toNat) (by rw[G8,Nat.mul_comm];exact hz),rfl,q _ I.fresh⟩
end
end L2
namespace Att
open PySem PySem.W PySem.Calls PyProof.Rows
theorem Rh{P:Params}{h:Heap}:∀(ns:List Int)(vs:List Value),WellAll P h vs (ns.map WData.int)->IntsAre vs ns:=by
 intro ns
 induction ns with
 | nil=>
  intro vs w;rw[List.map_nil] at w;cases w;exact .nil
 | cons n ns ih=>
  intro vs w;rw[List.map_cons] at w
  cases w with
  | cons a b=>
   cases a
   exact .cons _ _ (ih _ b)
theorem script_of{l:OpenLaw}{n:Nat}(hn:l.most=some n){P:Params}{h:Heap}{args:List WData}{vals:List Value}
  (hpre:l.row.toRowW.claim.pre args=true) (hwl:WellAll P h vals args) :
  ∃a vs ns,vals=[Value.ref a]/\args=[WData.list (ns.map WData.int)]/\h.get? a=some { cls:=.type "list",data:=.seq vs.toArray }/\IntsAre vs ns/\ns.length<=n:=by
 have hsh:WShape.hasAll [] args [.list .int]=true:=(pre_splitW hpre).1
 have hc:l.pre.holds [] { args:=args }=true:=(pre_splitW hpre).2
 obtain⟨d,r,rfl,h1,h2⟩:=hasAllW_cons hsh
 obtain rfl:=hasAllW_nil h2
 obtain⟨xs,rfl,h3⟩:=hasW_list h1
 obtain⟨ns,rfl⟩:=items_int h3
 have hlen:ns.length<=n:=by
  unfold OpenLaw.pre at hc
  have h4:(WTm.not (.lt (.lit (.int (n:Int))) (.len (.arg 0)))).holds [] { args:=[.list (ns.map .int)] }=true:=by
   have h4:=(holds_andW hc).1
   rw[hn] at h4;exact h4
  have h5:=condW_of h4 (w_not (w_lt w_lit (w_len_list (w_arg rfl))))
  rw[List.length_map] at h5
  refine Nat.le_of_not_lt fun q=>?_
  have q':(n:Int)<((ns.length:Nat):Int):=by omega
  first
   | (rw[decide_eq_true q'] at h5;exact absurd h5 (by decide))
   | (simp at h5;omega)
 cases hwl with
 | cons w1 w2=>
  cases w2
  cases w1 with
  | list ho hall=>exact⟨_,_,ns,rfl,rfl,ho,Rh ns _ hall,hlen⟩
theorem post_true(l:OpenLaw)(args:List WData):l.row.toRowW.claim.post args (.bool true) args=true:=
 postW_of (r:=l.row.toRowW) (X:=(true==true))
  (show WShape.has [] (.bool true) .bool=true by first | rfl | decide | simp[WShape.has,WShape.arms,WShape.armsAll])
  (show(WTm.eq .res (.lit (.bool true))).value [] { args:=args,res:=some (.bool true),after:=args }=some (.bool (true==true)) from w_eq_bool (w_res rfl) w_lit) rfl
end Att
namespace L2
open PySem PySem.Spec PyProof.Rows
section
variable {κ:Type} [DecidableEq κ]
def Ug(kvs:List (κ×V))(k:κ):Option V:=(kvs.find? fun kv=>decide (kv.1=k)).map (·.2)
def Vm(kvs:List (κ×V))(k:κ)(v:V):List (κ×V):=
 if(kvs.any fun kv=>decide (kv.1=k))=true then kvs.map (fun kv=>if kv.1=k then(kv.1,v) else kv) else kvs++[(k,v)]
theorem Tw{p:κ×V}{r:List (κ×V)}{k:κ}(e:p.1=k):Ug (p::r) k=some p.2:=by simp[Ug,List.find?_cons,e]
theorem Tx{p:κ×V}{r:List (κ×V)}{k:κ}(e:¬p.1=k):Ug (p::r) k=Ug r k:=by simp[Ug,List.find?_cons,e]
theorem RO(k:κ):∀kvs:List (κ×V),(kvs.any fun kv=>decide (kv.1=k))=(Ug kvs k).isSome
 | []=>rfl
 | p::r=>by
  rw[List.any_cons]
  by_cases e:p.1=k
  ·simp only[Tw e,decide_eq_true e,Bool.true_or,Option.isSome_some]
  ·rw[Tx e,decide_eq_false e,Bool.false_or];exact RO k r
theorem S6(kvs:List (κ×V))(k:κ)(v:V):(Vm kvs k v).length<=kvs.length+1:=by
 unfold Vm
 split
 ·rw[List.length_map];omega
 ·rw[List.length_append,List.length_cons,List.length_nil];omega
theorem IH{kvs:List (κ×V)}{k:κ}(v:V)(h:Ug kvs k=none):Vm kvs k v=kvs++[(k,v)]:=by
 unfold Vm;rw[RO,h]
 exact if_neg (by decide)
theorem RelO.isSome_eq{o:Option V}{u:Option Value}(r:RelO o u):o.isSome=u.isSome:=by
 cases o with
 | none=>cases u with
  | none=>rfl
  | some _=>exact(show False from r).elim
 | some _=>cases u with
  | none=>exact(show False from r).elim
  | some _=>rfl
theorem KV.val{kvs:List (κ×V)}{vs:List (κ×Value)}(r:KV kvs vs)(k:κ):RelO (Ug kvs k) (valueAt vs k):=by
 unfold KV at r
 induction r with
 | nil=>exact True.intro
 | @cons p q ps qs h t ih=>
  obtain⟨h1,h2⟩:=h
  by_cases e:p.1=k
  ·have e':q.1=k:=h1.symm.trans e
   have b:valueAt (q::qs) k=some q.2:=by simp[valueAt,List.find?_cons,e']
   rw[Tw e,b];exact h2
  ·have e':¬q.1=k:=fun z=>e (h1.trans z)
   have b:valueAt (q::qs) k=valueAt qs k:=by simp[valueAt,List.find?_cons,e']
   rw[Tx e,b];exact ih
theorem KV.any{kvs:List (κ×V)}{vs:List (κ×Value)}(r:KV kvs vs)(k:κ):(kvs.any fun kv=>decide (kv.1=k))=vs.any fun kv=>decide (kv.1=k):=by
 unfold KV at r
 induction r with
 | nil=>rfl
 | cons h t ih=>rw[List.any_cons,List.any_cons,ih,h.1]
theorem KV.repl{kvs:List (κ×V)}{vs:List (κ×Value)}(r:KV kvs vs)(k:κ){y:V}{u:Value}(ry:RelV y u) :
  KV (kvs.map fun kv=>if kv.1=k then(kv.1,y) else kv) (vs.map fun kv=>if kv.1=k then(kv.1,u) else kv):=by
 unfold KV at r ⊢
 induction r with
 | nil=>exact .nil
 | @cons p q ps qs h t ih=>
  rw[List.map_cons,List.map_cons]
  refine .cons ?_ ih
  obtain⟨h1,h2⟩:=h
  by_cases e:p.1=k
  ·rw[if_pos e,if_pos (h1.symm.trans e)];exact⟨h1,ry⟩
  ·rw[if_neg e,if_neg (fun z=>e (h1.trans z))];exact⟨h1,h2⟩
theorem KV.put{kvs:List (κ×V)}{vs:List (κ×Value)}(r:KV kvs vs)(k:κ){y:V}{u:Value}(ry:RelV y u):KV (Vm kvs k y) (stored vs k u):=by
 unfold Vm stored;rw[r.any k]
 by_cases e:(vs.any fun kv=>decide (kv.1=k))=true
 ·rw[if_pos e,if_pos e];exact r.repl k ry
 ·rw[if_neg e,if_neg e];exact Paired.snoc r ⟨rfl,ry⟩
theorem KV.length{kvs:List (κ×V)}{vs:List (κ×Value)}(r:KV kvs vs):kvs.length=vs.length:=Paired.length r
end
theorem LQ{P:Program}{w:World}{k:YO}{u:Value}(r:RelV (kV k) u):(YW P w).is k u=true:=by
 cases k with
 | inl i=>obtain⟨t,e⟩:=(show ∃t,u=Value.int i t from r);subst e;exact O2 P w i t
 | inr x=>obtain⟨t,e⟩:=(show ∃t,u=Value.str x t from r);subst e;exact O3 P w x t
theorem Pj{P:Program}{w:World}:∀{ks:List YO}{us:List Value},Vals (ks.map kV) us->ItemsAre (YW P w) ks us
 | [],_,r=>by rw[List.map_nil] at r;cases r;exact .nil
 | k::ks,_,r=>by
  rw[List.map_cons] at r
  cases r with
  | cons h t=>exact .cons (LQ h) (Pj t)
abbrev KT(H:Hp):List (List YO×V)->List (List YO×Addr×Value)->Prop:=Paired fun p q=>p.1=q.1/\H q.2.1=some (.tup (p.1.map kV))/\RelV p.2 q.2.2
theorem KT.val{H:Hp}{kvs:List (List YO×V)}{xs:List (List YO×Addr×Value)}(r:KT H kvs xs)(k:List YO):RelO (Ug kvs k) ((atKey xs k).map (·.2)):=by
 induction r with
 | nil=>exact True.intro
 | @cons p q ps qs h t ih=>
  obtain⟨h1,_,h2⟩:=h
  by_cases e:p.1=k
  ·have e':q.1=k:=h1.symm.trans e
   have b:atKey (q::qs) k=some q.2:=by simp[atKey,List.find?_cons,e']
   rw[Tw e,b];exact h2
  ·have e':¬q.1=k:=fun z=>e (h1.trans z)
   have b:atKey (q::qs) k=atKey qs k:=by simp[atKey,List.find?_cons,e']
   rw[Tx e,b];exact ih
theorem KT.repl{H:Hp}{kvs:List (List YO×V)}{xs:List (List YO×Addr×Value)}(r:KT H kvs xs)(k:List YO){y:V}{u:Value}(ry:RelV y u) :
  KT H (kvs.map fun kv=>if kv.1=k then(kv.1,y) else kv) (xs.map (putAt k u)):=by
 induction r with
 | nil=>exact .nil
 | @cons p q ps qs h t ih=>
  rw[List.map_cons,List.map_cons]
  refine .cons ?_ ih
  obtain⟨h1,h2,h3⟩:=h
  unfold putAt
  by_cases e:p.1=k
  ·rw[if_pos e,if_pos (h1.symm.trans e)];exact⟨h1,h2,ry⟩
  ·rw[if_neg e,if_neg (fun z=>e (h1.trans z))];exact⟨h1,h2,h3⟩
theorem KT.put{H:Hp}{kvs:List (List YO×V)}{xs:List (List YO×Addr×Value)}(r:KT H kvs xs)(k:List YO){b:Addr}{y:V}{u:Value}(hb:H b=some (.tup (k.map kV)))(ry:RelV y u) :
  KT H (Vm kvs k y) (storedH xs k b u):=by
 have e:(kvs.any fun kv=>decide (kv.1=k))=(atKey xs k).isSome:=by
  rw[RO,(r.val k).isSome_eq,Option.isSome_map]
 unfold Vm storedH;rw[e]
 by_cases q:(atKey xs k).isSome=true
 ·rw[if_pos q,if_pos q];exact r.repl k ry
 ·rw[if_neg q,if_neg q];exact Paired.snoc r ⟨rfl,hb,ry⟩
theorem KT.keeps{H H':Hp}{kvs:List (List YO×V)}{xs:List (List YO×Addr×Value)}(r:KT H kvs xs)(ht:∀b ys,H b=some (.tup ys)->H' b=some (.tup ys)):KT H' kvs xs:=
 Paired.mapP r fun _ _ z=>⟨z.1,ht _ _ z.2.1,z.2.2⟩
section
variable {P:Program} {w:World} {H:Hp} {h:Heap} {a:Addr}
theorem EO{u:HO}(ok:HOk P w H h)(e:Rd H a u):ObjOk P w H h a u:=e.ok ok
theorem LR{kvs:List (YO×V)}(ok:HOk P w H h)(e:Rd H a (.dK kvs)):kvs.length<=sizeLine/\(a==sysModules)=false/\∃vs,KV kvs vs/\h.DictOf (YW P w) a vs:=
 show ObjOk P w H h a (.dK kvs) from EO ok e
theorem Bu{kvs:List (YO×V)}(ok:HOk P w H h)(e:H a=some (.dK kvs)):kvs.length<=sizeLine/\(a==sysModules)=false/\∃vs,KV kvs vs/\h.DictOf (YW P w) a vs:=LR ok (.inl e)
theorem Oa{ks:List YO}(ok:HOk P w H h)(e:H a=some (.tup (ks.map kV))):(tupleKind (YW P w)).is h ks a:=by
 obtain⟨_,its,r,o,h1,h2,n,h3⟩:=(show ObjOk P w H h a (.tup (ks.map kV)) from ok a _ e)
 exact⟨o,its.toArray,n,h1,h2,h3,by simpa using Pj r⟩
theorem LS{kvs:List (List YO×V)}(ok:HOk P w H h)(e:Rd H a (.dT kvs)):kvs.length<=sizeLine/\(a==sysModules)=false/\
  ∃xs,KT H kvs xs/\h.DictOfH (tupleKind (YW P w)) a xs:=by
 obtain⟨z,y,xs,r,o,es,ep,h1,h2,h3,h4,h5⟩:=(show ObjOk P w H h a (.dT kvs) from EO ok e)
 refine⟨z,y,xs,r,o,es,ep,h1,h2,h3,h4,fun x hx=>?_,h5⟩
 have all:∀{l:List (List YO×V)}{m:List (List YO×Addr×Value)},KT H l m->∀x∈m,(tupleKind (YW P w)).is h x.1 x.2.1:=by
  intro l m q
  induction q with
  | nil=>intro x hx;exact nomatch hx
  | @cons p q ps qs hq t ih=>
   intro x hx
   rcases List.mem_cons.mp hx with e | hx
   ·subst e
    exact Oa ok (by rw[<-hq.1];exact hq.2.1)
   ·exact ih x hx
 exact all r x hx
theorem Bv{kvs:List (List YO×V)}(ok:HOk P w H h)(e:H a=some (.dT kvs)):kvs.length<=sizeLine/\(a==sysModules)=false/\
  ∃xs,KT H kvs xs/\h.DictOfH (tupleKind (YW P w)) a xs:=LS ok (.inl e)
end
def Jc(H:Hp)(a:Addr)(y:V)(r:Option V):Prop:=
 (∃kvs k,Rd H a (.dK kvs)/\y=kV k/\r=Ug kvs k)\/∃kvs k b,Rd H a (.dT kvs)/\y = .ref b/\H b=some (.tup (k.map kV))/\r=Ug kvs k
def Bw(H:Hp)(a:Addr)(y v:V)(H':Hp):Prop:=
 (∃kvs k,H a=some (.dK kvs)/\y=kV k/\kvs.length<sizeLine/\H'=upd H a (.dK (Vm kvs k v)))\/
 ∃kvs k b,H a=some (.dT kvs)/\y = .ref b/\H b=some (.tup (k.map kV))/\kvs.length<sizeLine/\H'=upd H a (.dT (Vm kvs k v))
section
variable {X:Cx} {pins:List (Addr×Obj)} {σ:St} {H:Hp} {s:Shared} {a:Addr} {y v:V} {u r:Value} {o:Option V} {A:Around} {E:Value->Shared->Prop}
theorem Inv.big(I:Inv X pins σ H s):sysModules<s.heap.objs.size:=by
 have h:mainGlobals<s.heap.objs.size:=(I.mod.glob.keeps I.bk).lt
 exact Nat.lt_trans (by decide) h
theorem Jd{Q:Value->Shared->Prop}(hu:A.units+1<cLine)(I:Inv X pins σ H s)(g:Jc H a y (some v))(ry:RelV y u)(h:∀w' s',Inv X pins σ H s'->RelV v w'->Q w' s') :
  wpAny (model X.prog X.w) A (getItem (.ref a) u) Q E s:=by
 rcases g with⟨kvs,k,e,ey,l⟩ | ⟨kvs,k,b,e,ey,eb,l⟩
 ·subst ey
  obtain⟨z,hd,vs,rel,dd⟩:=LR I.hok e
  obtain⟨w',hw,YM⟩:=RelO.some_of (v:=v) (o:=valueAt vs k) (by rw[l];exact rel.val k)
  exact wpAny_getItem_of (LQ ry) dd.mapOf hw (h w' _ (I.tok _) YM)
 ·subst ey
  cases (show u=Value.ref b from ry)
  obtain⟨z,hd,xs,rel,dd⟩:=LS I.hok e
  obtain⟨w',hw,YM⟩:=RelO.some_of (v:=v) (o:=(atKey xs k).map (·.2)) (by rw[l];exact rel.val k)
  obtain⟨p,hp,hp2⟩:=Option.map_eq_some_iff.mp hw
  refine wpAny_getItem_heap (tupleKind_room_in1 hu) (Oa I.hok eb) dd hp ?_
  rw[hp2]
  exact h w' _ (I.tok _) YM
theorem G9{Q:Value->Shared->Prop}(hu:A.units+1<cLine)(I:Inv X pins σ H s)(g:Jc H a y o)(ry:RelV y u)(h:∀s',Inv X pins σ H s'->Q (.bool (!o.isSome)) s') :
  wpAny (model X.prog X.w) A (compareOp .NotIn u (.ref a)) Q E s:=by
 rcases g with⟨kvs,k,e,ey,l⟩ | ⟨kvs,k,b,e,ey,eb,l⟩
 ·subst ey
  obtain⟨z,hd,vs,rel,dd⟩:=LR I.hok e
  refine wpAny_notIn_of (LQ ry) hd dd.mapOf ?_
  rw[<-(rel.val k).isSome_eq,<-l]
  exact h _ (I.tok _)
 ·subst ey
  cases (show u=Value.ref b from ry)
  obtain⟨z,hd,xs,rel,dd⟩:=LS I.hok e
  refine wpAny_notIn_heap (tupleKind_room_in1 hu) (Oa I.hok eb) hd dd ?_
  have q:=(rel.val k).isSome_eq
  rw[Option.isSome_map] at q;rw[<-q,<-l]
  exact h _ (I.tok _)
theorem LU{h':Heap}{t':Nat}{ob:HO}(I:Inv X pins σ H s)(mu:Vl (H a))(hs:Heap.SameBut a s.heap h')(he:∃q,h'.get? a=some q)(new:ObjOk X.prog X.w (upd H a ob) h' a ob) :
  Inv X pins σ (upd H a ob) { s with heap:=h',toks:=t' }:=
 I.write (x:=a) (e:=a) mu (.inl rfl) (fun b q hb z=>(hs.2 b hb).trans z) he new
theorem DO{P:Program}{w:World}{H':Hp}{h':Heap}{kvs:List (YO×V)}{vs:List (YO×Value)}(z:kvs.length<=sizeLine)(hd:(a==sysModules)=false)(rel:KV kvs vs)(dd:h'.DictOf (YW P w) a vs) :
  ObjOk P w H' h' a (.dK kvs):=⟨z,hd,vs,rel,dd⟩
theorem Je{H':Hp}{Q:Unit->Shared->Prop}(hu:A.units+1<cLine)(I:Inv X pins σ H s)(g:Bw H a y v H')(ry:RelV y u)(rv:RelV v r)(h:∀s',Inv X pins σ H' s'->Q () s') :
  wpAny (model X.prog X.w) A (setItem (.ref a) u r) Q E s:=by
 rcases g with⟨kvs,k,e,ey,l,eH⟩ | ⟨kvs,k,b,e,ey,eb,l,eH⟩
 ·subst ey eH
  obtain⟨z,hd,vs,rel,dd⟩:=Bu I.hok e
  have hz:vs.length<=sizeLine:=by rw[<-rel.length];exact z
  have hl:(Vm kvs k v).length<=sizeLine:=by have:=S6 kvs k v;omega
  refine wpAny_setItem_pairs (hsz:=hz) (LQ ry) dd fun h' dd' hs=>h _ ?_
  have he:∃q,h'.get? a=some q:=let⟨q,_,_,hq,_⟩:=dd';⟨q,hq⟩
  exact LU I (by rw[e];exact True.intro) hs he (DO hl hd (rel.put k rv) dd')
 ·subst ey eH
  cases (show u=Value.ref b from ry)
  obtain⟨z,hd,xs,rel,dd⟩:=Bv I.hok e
  have hz:xs.length<=sizeLine:=by rw[<-Paired.length rel];exact z
  have hl:(Vm kvs k v).length<=sizeLine:=by have:=S6 kvs k v;omega
  refine wpAny_setItem_heap (hsz:=hz) (tupleKind_room_in1 hu) (Oa I.hok eb) dd fun h' dd' hs=>h _ ?_
  obtain⟨q,es,ep,hq,h2,h3,h4,_,h5⟩:=dd'
  refine LU I (by rw[e];exact True.intro) hs ⟨q,hq⟩ ⟨hl,hd,_,(rel.put k eb rv).keeps fun c ys ec=>?_,q,es,ep,hq,h2,h3,h4,h5⟩
  rw[upd_ne (C1 ec e (fun z=>nomatch z))];exact ec
end
def DP(i:Expr):Prop:=∀ov iv,subscripted i false ov iv=operate [ov,iv] (getItem ov iv)
theorem Fb{prog:Program}{w:World}{A:Around}{E:Value->Shared->Prop}{s:Shared}{env:Env}{value slice:Expr}{pos:Pos}{T id:String}{Q:Value->Shared->Prop}
  (hl:typeLookup (.type T) "__getitem__" = pure (some (.builtin id))) (hs:DP slice)
  (h:wpAny (model prog w) A (eval value env) (fun o s₁=>wpAny (model prog w) A (eval slice env) (fun i s₂=>s₂.TypeIs o T/\wpAny (model prog w) A (getItem o i) Q E s₂) E s₁) E s) :
  wpAny (model prog w) A (eval (.Subscript value slice pos) env) Q E s:=by
 refine Subscript_ (wpAny_mono h (fun o s₁ h₁=>wpAny_mono h₁ (fun i s₂ h₂=>?_) fun _ _ x=>x) fun _ _ x=>x)
 obtain⟨hT,h₂⟩:=h₂
 unfold subscriptTail
 refine wpAny_bind ?_
 rw[getitemInPython_of_ne hT.not_modules]
 refine wpAny_bind (wpAny_specialOf hT hl ?_)
 have fin:wpAny (model prog w) A (subscripted slice false o i) (fun r s₃=>wpAny (model prog w) A (letTemporaryGo value o r >>= fun _=>pure r) Q E s₃) E s₂:=by
  rw[hs o i]
  exact wpAny_operating (wpAny_mono h₂ (fun r s₃ h₃=>wpAny_bind (wpAny_letTemporaryGo (wpAny_pure h₃))) fun _ _ x=>x)
 first
  | exact wpAny_pure (wpAny_bind fin)
  | exact wpAny_bind (wpAny_pure (wpAny_bind fin))
  | exact wpAny_bind fin
theorem Nh{X:Cx}{pins:List (Addr×Obj)}{σ:St}{H:Hp}{s:Shared}{a:Addr}{y:V}{o:Option V}(I:Inv X pins σ H s)(g:Jc H a y o):s.TypeIs (.ref a) "dict":=by
 rcases g with⟨kvs,k,e,_,_⟩ | ⟨kvs,k,b,e,_,_,_⟩
 ·obtain⟨_,_,vs,_,dd⟩:=LR I.hok e
  exact dd.typeIs
 ·obtain⟨_,_,xs,_,dd⟩:=LS I.hok e
  exact dd.typeIs
def ER(td ty:TE):TE:=fun σ H Q=>td σ H fun x H1=>ty σ H1 fun y H2=>∃a v,x = .ref a/\Jc H2 a y (some v)/\Q v H2
def LV(ty td:TE):TE:=fun σ H Q=>ty σ H fun y H1=>td σ H1 fun x H2=>∃a o,x = .ref a/\Jc H2 a y o/\Q (.bl (!o.isSome)) H2
def sDPut(td ty tv:TE):TS:=fun D σ H=>tv σ H fun v H1=>td σ H1 fun x H2=>ty σ H2 fun y H3=>∃a H4,x = .ref a/\Bw H3 a y v H4/\D.nx σ H4
section
variable {X:Cx} {o i e value:Expr} {pos pos' tpos:Pos} {td ty tv:TE}
theorem Fc(hu:X.A.units+1<cLine)(ho:PE X o td)(hi:PE X i ty)(hs:DP i):PE X (.Subscript o i pos) (ER td ty):=by
 intro pins s σ H Q I h
 refine Fb PySem.F.slot_dict_getitem.lookup hs (YI (ho pins s σ H _ I h) fun u s1 ⟨x,H1,I1,rx,q1⟩=>YI (hi pins s1 σ H1 _ I1 q1) fun iv s2 ⟨y,H2,I2,ry,a,v,ex,g,q2⟩=>?_)
 subst ex
 obtain rfl:u=Value.ref a:=rx
 exact⟨Nh I2 g,Jd hu I2 g ry fun w' s3 I3 YM=>⟨v,H2,I3,YM,q2⟩⟩
theorem Jf(hu:X.A.units+1<cLine)(hi:PE X i ty)(ho:PE X o td):PC X .NotIn i o (LV ty td):=by
 intro pins s σ H Q I h
 refine YI (hi pins s σ H _ I h) fun iv s1 ⟨y,H1,I1,ry,q1⟩=>YI (ho pins s1 σ H1 _ I1 q1) fun u s2 ⟨x,H2,I2,rx,a,ov,ex,g,q2⟩=>?_
 subst ex
 obtain rfl:u=Value.ref a:=rx
 exact G9 hu I2 g ry fun s3 I3=>⟨.bl (!ov.isSome),H2,I3,rfl,q2⟩
theorem Rt(hu:X.A.units+1<cLine)(ho:PE X o td)(hi:PE X i ty)(hv:PE X value tv)(hs:swapsWith value (some (.Subscript o i pos')) pos.line X.env=pure false) :
  PS X (.Assign [.Subscript o i pos'] value pos) (sDPut td ty tv):=by
 intro pins s σ H D I h
 refine wpAny_Assign_Subscript (YI (hv pins s σ H _ I h) fun r s1 ⟨v,H1,I1,rv,q1⟩=>YI (ho pins s1 σ H1 _ I1 q1) fun u s2 ⟨x,H2,I2,rx,q2⟩=>YI (hi pins s2 σ H2 _ I2 q2) fun iv s3 ⟨y,H3,I3,ry,a,H4,ex,g,q3⟩=>?_) hs
 subst ex
 obtain rfl:u=Value.ref a:=rx
 exact Je hu I3 g ry rv fun s4 I4=>⟨σ,H4,I4,q3⟩
end
theorem II{P:Program}{w:World}{H:Hp}(h:Heap)(hb:sysModules<h.objs.size):ObjOk P w H (h.push { cls:=.type "dict",data:=.dict #[] }) h.objs.size (.dT []):=
 ⟨Nat.zero_le _,beq_eq_false_iff_ne.mpr (Ne.symm (Nat.ne_of_lt hb)),[],.nil,_,#[],0,Heap.get?_push_size _ rfl,⟨rfl,rfl,rfl⟩,rfl,rfl,List.nodup_nil⟩
def DQ:TE:=fun _ H Q=>∀p,H p=none->Q (.ref p) (upd H p (.dT []))
section
variable {X:Cx} {pos:Pos}
theorem IJ:PE X (.Dict [] [] pos) DQ:=fun pins s σ H Q I h=>
 wpAny_Dict_empty ⟨.ref s.heap.objs.size,_,I.laid (a:=s.heap.objs.size) (o:=.dT []) (t':=s.toks) (fun _ _ q=>Heap.get?_push_of_some _ q) (Nat.le_refl _) (II s.heap I.big),rfl,h _ (I.hok.fresh (Nat.le_refl _))⟩
end
theorem Pk:∀{vs:List Value}{ns:List Int},IntsAre vs ns->Vals (ns.map V.int) vs
 | _,_,.nil=>.nil
 | _,_,.cons n t h=>.cons ⟨t,rfl⟩ (Pk h)
def DR(H:Hp):Prop:=∀b,H b=none\/∃o xs,H b=some (.frz o (.lst xs))
theorem law_call{P:Program}{w:World}{K:PySem.W.Frag}{mg mb:Str->Option Value}{CX:GJ}{k:Nat}{fa a:Addr}{fd:FuncData}{x:Str}{sp:Sp}{s₁:Shared}{vs:List Value}{ns:List Int}
  (KX:K.In s₁.heap) (hns:s₁.heap.Ns mainGlobals mg) (hb:s₁.heap.Ns builtinsNs mb) (hbb:∀x:Str,x≠"__name__"->mb x=bootBuiltins x) (hlim:s₁.heap.NoLimit) (hg:s₁.gens = #[])
  (ha:s₁.heap.get? a=some { cls:=.type "list",data:=.seq vs.toArray }) (hi:IntsAre vs ns) (hl:ns.length<=sizeLine) (hr:Room k callerA)
  (F:∀base:Heap,K.In base->base.Ns mainGlobals mg->Ue P w K mg base CX k fa fd [x] sp) (hbind:∀(s:Shared)(u:Value),BindsTo s fd ⟨[u],[]⟩ [(x,u)])
  (hsp:∀H:Hp,DR H->SqL K H a (ns.map V.int)->sp [.ref a] H (fun v _=>v = .bl true) fun _ _ _=>False)
  (hCX:∀H e s',CX [] H s₁ (fun _ _ _=>False) e s'->False) :
  codeAny (model P w) callerA (.call (.ref fa) ⟨[.ref a],[]⟩) (fun r s'=>r = .ok (.ret (.bool true))/\OldK s₁.heap s'.heap/\s'.os=s₁.os/\AllBare s'.gens) s₁:=by
 have rv:=Pk hi;have lenV:=hi.length
 -- from an abstract heap in which nothing but the script may be tracked
 have core:∀H:Hp,DR H->SqL K H a (ns.map V.int)->HOk P w H s₁.heap->(∀b,H b≠none->b=a)->(H a≠none->K.lookup a=none)->
   codeAny (model P w) callerA (.call (.ref fa) ⟨[.ref a],[]⟩) (fun r s'=>r = .ok (.ret (.bool true))/\OldK s₁.heap s'.heap/\s'.os=s₁.os/\AllBare s'.gens) s₁:=by
  intro H hO hS hok hA hK
  have base_of:∀{b:Addr}{o:Obj},s₁.heap.get? b=some o->H b=none->(P4 s₁.heap H).get? b=some o:=fun e n=>Iw e n
  have noA:∀{b:Addr}{o:Obj}{es:Array DictEntry}{ep:Nat},s₁.heap.get? b=some o->o.data = .dict es ep->H b=none:=fun{b o es ep} e d=>by
   cases q:H b with
   | none=>rfl
   | some u=>
    have e':b=a:=hA b (by rw[q];simp)
    subst e'
    rw[ha] at e;cases e
    have d':Data.seq vs.toArray _=Data.dict es ep:=d
    cases d'
  have nsK:∀{b:Addr}{m:Str->Option Value},s₁.heap.Ns b m->(P4 s₁.heap H).Ns b m:=fun{b m} ⟨o,es,ep,e,d,r⟩=>⟨o,es,ep,base_of e (noA e d),d,r⟩
  have hKb:K.In (P4 s₁.heap H):=fun b o e=>base_of (KX b o e) (by
   cases q:H b with
   | none=>rfl
   | some u=>
    have e':b=a:=hA b (by rw[q];simp)
    subst e'
    rw[hK (by rw[q];simp)] at e;cases e)
  have hM:Mod K mg (P4 s₁.heap H):=⟨hKb,nsK hns,⟨mb,nsK hb,hbb⟩,let⟨mc,h1,h2⟩:=hlim;⟨mc,nsK h1,h2⟩⟩
  have e0:Env0 P w K mg (P4 s₁.heap H) callerA [] s₁ H:=⟨rfl,hM,fun b o e=>GP e,Nat.le_of_eq (K2 _ _),trivial,fun b hb=>absurd (show b∈([]:List Addr) from hb) (by simp),hok,.of_eq hg⟩
  refine codeAny_mono ((F _ hKb (nsK hns)).run callerA [] s₁ H ⟨[.ref a],[]⟩ [.ref a] [.ref a] _ _ hr e0 (hbind s₁ (.ref a)) (.cons rfl .nil) (hsp H hO hS)) fun r s' h=>?_
  cases r with
  | error e=>exact(hCX H e s' h).elim
  | ok fl=>
   cases fl with
   | next=>exact False.elim h
   | brk=>exact False.elim h
   | cont=>exact False.elim h
   | ret u=>
    obtain⟨v,H',os,bare,un,hok',r',q⟩:=h
    have q':v = .bl true:=q
    subst q'
    obtain rfl:u=Value.bool true:=r'
    refine⟨rfl,OldK.of_keep fun b o e=>?_,os,bare⟩
    cases q:H b with
    | none=>exact un.keep b o e q (by intro z;exact absurd (show b∈([]:List Addr) from z) (by simp)) (by simp)
    | some u=>
     rcases hO b with z | ⟨ob,xs,z⟩
     ·rw[q] at z;cases z
     ·have z2:=un.frzs b ob _ z
      obtain⟨e1,_⟩:=hok b _ z
      obtain⟨e2,_⟩:=hok' b _ z2
      rw[e] at e1;cases e1;exact e2
 cases hk:K.lookup a with
 | some o=>
  -- the script is one of the module's own objects
  have e:=KX a o hk;rw[ha] at e;cases e
  refine core (fun _=>none) (fun _=>.inl rfl) (.inr ⟨_,vs.toArray,_,hk,rfl,rfl,rfl,by rw[List.size_toArray,lenV];exact hl,by simpa using rv⟩) (fun b u z=>by have z':(none:Option HO)=some u:=z;cases z') (fun b z=>absurd rfl z) fun z=>absurd rfl z
 | none=>
  refine core (fun b=>if b=a then some (.frz { cls:=.type "list",data:=.seq vs.toArray } (.lst (ns.map V.int))) else none) (fun b=>?_) (.inl (.inr ⟨{ cls:=.type "list",data:=.seq vs.toArray },if_pos rfl⟩)) (fun b u z=>?_) (fun b z=>?_) fun _=>hk
  ·by_cases hb:b=a
   ·exact .inr ⟨_,_,if_pos hb⟩
   ·exact .inl (if_neg hb)
  ·by_cases hb:b=a
   ·have z':=(if_pos hb).symm.trans z
    cases z'
    subst hb
    exact⟨ha,by rw[List.length_map];exact hl,vs,_,rv,ha⟩
   ·have z':=(if_neg hb).symm.trans z
    cases z'
  ·by_cases hb:b=a
   ·exact hb
   ·exact absurd (if_neg hb) z
def YX(s:Stmt):Arguments:=match s with
 | .FunctionDef _ a _ _ _ _ _ _ _ _=>a
 | _=>{ posonlyargs:=[],args:=[],vararg:=none,kwonlyargs:=[],kw_defaults:=[],kwarg:=none,defaults:=[] }
def ZZ(s:Stmt):List Stmt:=match s with
 | .FunctionDef _ _ b _ _ _ _ _ _ _=>b
 | _=>[]
def Zk(s:Stmt):Scope:=match s with
 | .FunctionDef _ _ _ _ _ _ sc _ _ _=>sc
 | _=>{ kind:=.function,names:=[],isGenerator:=false,isCoroutine:=false }
abbrev O0:GJ:=fun _ _ _ _ _ _=>False
abbrev E0:XK:=fun _ _ _=>False
theorem ES{X:Cx}:ML O0 X E0:=fun _ _ _ _ _ _ _ h=>h.elim
structure Fun(K:PySem.W.Frag)(x qual:Str)(st:Stmt)(f:Addr)(fd:FuncData):Prop where
 ex:∃(oc:Value) (od:Option Addr) (kV doc pm:Value) (an:Option Addr) (cdv ct:Value) (osl:Array (Option Value)),
  fd=PySem.W.fnOf x qual (YX st) (ZZ st) (Zk st) .none kV doc pm an cdv ct/\K.lookup f=some ⟨oc,od,.func fd,osl⟩/\PySem.W.codeIn K cdv qual=true
 kp:PySem.W.keepIn K (.ref f)=true
section
variable {P:Program} {w:World} {K:PySem.W.Frag} {mg:Str->Option Value} {base:Heap}
theorem Fun.ok{x qual:Str}{st:Stmt}{f:Addr}{fd:FuncData}{N ps:List Str}{k:Nat}{sp:Sp}(F:Fun K x qual st f fd)(S:Zy N ps (Zk st))(len:∀vs H Q E,sp vs H Q E->vs.length=ps.length)
  (hbody:∀(cdv:Value)(A:Around)(outer:List Env)(s:Shared)(H:Hp)(vs:List V)(Q:VK)(E:XK),Room k (A.deeper (envOfC qual (Zk st) s.heap.objs.size f cdv))->sp vs H Q E->
   ∃t,PSs (Tv O0 P w K mg base N qual (Zk st) f cdv A outer s H E).nox (ZZ st) t/\t { nx:=fun _ H'=>Q .non H',rt:=Q } (start N vs) H):Ue P w K mg base O0 (k+1) f fd ps sp:=by
 obtain⟨oc,od,kV,doc,pm,an,cdv,ct,osl,rfl,lk,hcd⟩:=F.ex
 refine Nc lk hcd S len fun A outer s H vs Q E hr hsp=>?_
 obtain⟨t,h,q⟩:=hbody cdv A outer s H vs Q E hr hsp
 exact⟨t,h.nox,q⟩
theorem Fun.binds{x qual:Str}{st:Stmt}{f:Addr}{fd:FuncData}{ps:List Str}(F:Fun K x qual st f fd)
  (h:∀(kV doc pm:Value)(an:Option Addr)(cdv ct:Value)(us:List Value),us.length=ps.length->bindArgs (PySem.W.fnOf x qual (YX st) (ZZ st) (Zk st) .none kV doc pm an cdv ct) ⟨us,[]⟩=pure (ps.zip us)):Binds K fd ps []:=by
 obtain⟨oc,od,kV,doc,pm,an,cdv,ct,osl,rfl,lk,hcd⟩:=F.ex
 exact .all (h kV doc pm an cdv ct)
theorem IK{x qual:Str}{st:Stmt}{f:Addr}{oc:Value}{od an:Option Addr}{osl:Array (Option Value)}{kV doc pm cdv ct:Value}(l:K.lookup f=some ⟨oc,od,.func (PySem.W.fnOf x qual (YX st) (ZZ st) (Zk st) .none kV doc pm an cdv ct),osl⟩)
  (c:PySem.W.codeIn K cdv qual=true) (k:PySem.W.keepIn K (.ref f)=true):Fun K x qual st f (PySem.W.fnOf x qual (YX st) (ZZ st) (Zk st) .none kV doc pm an cdv ct):=⟨⟨oc,od,kV,doc,pm,an,cdv,ct,osl,rfl,l,c⟩,k⟩
end
theorem S7{A:Around}{k:Nat}(hr:Room k A):A.units+1<cLine:=Nat.lt_of_le_of_lt (Nat.add_le_add_left (by decide:1<=64) _) hr.units
section
variable {X:Cx}
theorem pv(i:Nat){x:Str}{pos:Pos}(hN:X.N[i]?=some x:=by rfl)(hv:Au X.env.scope x:=by first | exact Or.inl rfl | exact Or.inr (Or.inl rfl) | exact Or.inr (Or.inr rfl))(hd:(x==("__debug__" : Str))=false:=by decide)
  (hcd:(x==("__classdict__" : Str))=false:=by decide):PE X (.Name x pos) (Ua i):=Dm hN hv hd hcd
end
theorem Bx{A B:Prop}(h:B):if false=true then A else B:=by
 rw[if_neg Bool.false_ne_true];exact h
theorem By{A B:Prop}(h:A):if true=true then A else B:=by
 rw[if_pos rfl];exact h
def Same(H H':Hp):Prop:=∀b o,H b=some o->H' b=some o
theorem Same.refl(H:Hp):Same H H:=fun _ _ h=>h
theorem Same.trans{H H1 H2:Hp}(a:Same H H1)(b:Same H1 H2):Same H H2:=fun c o h=>b c o (a c o h)
theorem Same.free{H H':Hp}(e:Same H H'){l:Addr}(h:H' l=Option.none):H l=Option.none:=by
 cases q:H l with
 | none=>rfl
 | some o=>
  rw[e l o q] at h;cases h
section
variable {κ:Type} [DecidableEq κ]
theorem Ob:∀{l:List κ}{k:κ},l.Nodup->¬k∈l->(l++[k]).Nodup
 | [],k,_,_=>by simp
 | a::r,k,h,hk=>by
  obtain⟨h1,h2⟩:=List.nodup_cons.mp h
  show(a::(r++[k])).Nodup
  refine List.nodup_cons.mpr ⟨fun m=>?_,Ob h2 fun m=>hk (List.mem_cons.mpr (Or.inr m))⟩
  rcases List.mem_append.mp m with q | q
  ·exact h1 q
  ·exact hk (List.mem_cons.mpr (Or.inl (List.mem_singleton.mp q).symm))
end
end L2
set_option maxHeartbeats 4000000
namespace L2
open PySem PySem.Spec PyProof.Rows
def Xi(cells:List (Str×Addr)):List (Str×NameKind)->List (Str×Addr)->List (Str×Addr)
 | [],acc=>acc
 | (n,k)::r,acc=>Xi cells r (if(k==NameKind.free)=true then(n,(cells.lookup n).getD 0)::acc else acc)
theorem U3{env:Env}:∀(names:List (Str×NameKind))(acc:List (Str×Addr)),(∀y∈names,y.2 = .free->(env.cells.lookup y.1).isSome=true)->
  (forIn (m:=Sem) names acc fun(x:Str×NameKind) (cs:List (Str×Addr))=>
   match x with
   | (name,kind)=>if(kind==NameKind.free)=true then do
     let c <-cellOf env name
     pure (ForInStep.yield ((name,c)::cs))
    else pure (ForInStep.yield cs))=pure (Xi env.cells names acc)
 | [],acc,_=>rfl
 | (n,k)::r,acc,h=>by
  rw[List.forIn_cons]
  have ih:=fun acc'=>U3 r acc' fun y hy=>h y (List.mem_cons_of_mem _ hy)
  cases hk:(k==NameKind.free) with
  | true=>
   have hs:=h (n,k) List.mem_cons_self (by simpa using hk)
   obtain⟨c,hc⟩:=Option.isSome_iff_exists.mp hs
   have hc:env.cells.lookup n=some c:=hc
   have e1:cellOf env n=pure c:=by unfold cellOf;rw[hc]
   dsimp only
   rw[hk,if_pos rfl,e1]
   refine Eq.trans (ih ((n,c)::acc)) ?_
   show _=pure (Xi env.cells r (if(k==NameKind.free)=true then(n,(env.cells.lookup n).getD 0)::acc else acc))
   rw[if_pos hk,hc];rfl
  | false=>
   dsimp only
   rw[hk,if_neg Bool.false_ne_true]
   refine Eq.trans (ih acc) ?_
   show _=pure (Xi env.cells r (if(k==NameKind.free)=true then(n,(env.cells.lookup n).getD 0)::acc else acc))
   rw[if_neg (by rw[hk];exact Bool.false_ne_true)]
theorem U4{scope:Scope}{env:Env}(h:∀y∈scope.names,y.2 = .free->(env.cells.lookup y.1).isSome=true):closureFor scope env=pure (Xi env.cells scope.names []):=by
 have e:=U3 (env:=env) scope.names [] h
 unfold closureFor
 dsimp only
 rw[e];rfl
theorem Sy{cells:List (Str×Addr)}{x:Str}{c:Addr}:∀(names:List (Str×NameKind))(acc:List (Str×Addr)),(∀y∈names,y.2 = .free->(cells.lookup y.1).isSome=true)->(acc.lookup x=some c->cells.lookup x=some c)->
  (Xi cells names acc).lookup x=some c->cells.lookup x=some c
 | [],_,_,h,e=>h e
 | (n,k)::r,acc,hf,h,e=>by
  refine Sy r _ (fun y hy=>hf y (List.mem_cons_of_mem _ hy)) ?_ e
  intro q
  by_cases hk:(k==NameKind.free)=true
  ·rw[if_pos hk,List.lookup_cons] at q
   cases hx:x==n with
   | true=>
    rw[hx] at q
    have exn:x=n:=by simpa using hx
    obtain⟨d,hd⟩:=Option.isSome_iff_exists.mp (hf (n,k) List.mem_cons_self (by simpa using hk))
    have hd:cells.lookup n=some d:=hd
    rw[hd] at q
    rw[exn,hd];exact q
   | false=>rw[hx] at q;exact h q
  ·rw[if_neg hk] at q;exact h q
theorem RP{cells:List (Str×Addr)}{x:Str}:∀(names:List (Str×NameKind))(acc:List (Str×Addr)),(acc.lookup x).isSome=true->((Xi cells names acc).lookup x).isSome=true
 | [],_,h=>h
 | (n,k)::r,acc,h=>by
  refine RP r _ ?_
  split
  ·rw[List.lookup_cons];split<;>simp_all
  ·exact h
theorem Sz{cells:List (Str×Addr)}{x:Str}:∀(names:List (Str×NameKind))(acc:List (Str×Addr)),(x,NameKind.free)∈names->((Xi cells names acc).lookup x).isSome=true
 | (n,k)::r,acc,h=>by
  rcases List.mem_cons.mp h with e | h
  ·cases e
   refine RP r _ ?_
   rw[if_pos (by decide),List.lookup_cons]
   simp
  ·exact Sz r _ h
structure CompScope(N:List Str)(around scope:Scope)(own fr:List Str)(ix:List Nat):Prop where
 kind:scope.kind = .function
 nocell:∀y∈scope.names,y.2≠.cell
 names:∀y∈scope.names,y.2 = .local->scope.names.lookup y.1=some .local
 frees:∀y∈scope.names,y.2 = .free->(around.names.lookup y.1=some .cell\/around.names.lookup y.1=some .free)
 slots:fr.map some=ix.map (fun i=>N[i]?)
 outs:∀x∈fr,(x,NameKind.free)∈scope.names
 apart:∀x∈fr,scope.names.lookup x≠some .local
def ZR(X:Cx)(N':List Str)(scope:Scope)(cl:List (Str×Addr))(C:Addr)(s:Shared)(H:Hp)(ex:List Addr):Cx:=
 { X with N:=N',s₀:=s,H₀:=H,env:=compEnvC scope cl C X.env,outer:=X.stack,ex:=ex,fn:=fun _=>false,pn:=[],xe:=fun _ _=>False }
def Yy(n:Nat)(ix:List Nat)(σ:St):St:=List.replicate n none++ix.map (fun i=>(σ[i]?).join)
theorem Wo{env:Env}{x:Str}:∀{names:List (Str×NameKind)}{k:NameKind},names.lookup x=some k->
  (names.map fun(n,k)=>if(k==NameKind.free&&env.scope.kind==.function&&env.kindOf n==some .cell) then(n,NameKind.cell) else(n,k)).lookup x =
   some (if(k==NameKind.free&&env.scope.kind==.function&&env.kindOf x==some .cell)=true then NameKind.cell else k)
 | [],_,h=>by simp at h
 | (n,k')::r,k,h=>by
  show List.lookup x ((if(k'==NameKind.free&&env.scope.kind==.function&&env.kindOf n==some .cell)=true then(n,NameKind.cell) else(n,k'))::_)=_
  cases hx:x==n with
  | true=>
   simp only[List.lookup_cons,hx] at h;cases h
   have e:x=n:=by simpa using hx
   subst e
   split
   ·simp[List.lookup_cons]
   ·simp[List.lookup_cons]
  | false=>
   simp only[List.lookup_cons,hx] at h
   split
   ·simp only[List.lookup_cons,hx];exact Wo h
   ·simp only[List.lookup_cons,hx];exact Wo h
theorem VG{env:Env}{x:Str}:∀{names:List (Str×NameKind)}{k':NameKind},
  (names.map fun(n,k)=>if(k==NameKind.free&&env.scope.kind==.function&&env.kindOf n==some .cell) then(n,NameKind.cell) else(n,k)).lookup x=some k'->∃k,names.lookup x=some k
 | [],_,h=>by simp at h
 | (n,k0)::r,k',h=>by
  have h:List.lookup x ((if(k0==NameKind.free&&env.scope.kind==.function&&env.kindOf n==some .cell)=true then(n,NameKind.cell) else(n,k0))::_)=some k':=h
  cases hx:x==n with
  | true=>exact⟨k0,by simp[List.lookup_cons,hx]⟩
  | false=>
   have:∃k,r.lookup x=some k:=by
    apply VG (env:=env) (k':=k')
    split at h<;>simpa [List.lookup_cons,hx] using h
   obtain⟨k,e⟩:=this
   exact⟨k,by simp[List.lookup_cons,hx,e]⟩
section
variable {X:Cx} {pins:List (Addr×Obj)} {σ:St} {H:Hp} {s:Shared} {own fr:List Str} {ix:List Nat} {scope:Scope}
theorem CompScope.clos(S:CompScope X.N X.env.scope scope own fr ix)(I:Inv X pins σ H s):∀y∈scope.names,y.2 = .free->(X.env.cells.lookup y.1).isSome=true:=fun y hy hf=>by
 obtain⟨c,e⟩:=I.ok.has y.1 (S.frees y hy hf)
 rw[e];rfl
end
theorem Oc{prog:Program}{w:World}{A:Around}{R:Result->Shared->Prop}{s:Shared}{elt target iter:Expr}{ifs:List Expr}{scope:Scope}{pos:Pos}{it acc:Value}{env:Env}(I:Nat->Shared->Prop)
  (turn:∀n s,I n s->wpAny (model prog w) A (pyNext it) (fun r s₁=>match r with
   | none=>R (.ok .next) s₁
   | some v=>wpAny (model prog w) A (letOwnedTupleGo target it v) (fun _ s₁'=>wpAny (model prog w) A (assign target env v) (fun _ s₂=>
     wpAny (model prog w) A (forIn ifs true fun c r=>if r=true then do let ok <-isTrue c env (eval c env);pure (ForInStep.yield ok) else pure (ForInStep.yield r)) (fun ok s₃=>
      if ok=true then wpAny (model prog w) A (eval elt env) (fun x s₄=>
       wpAny (model prog w) A (call (.builtin "list.append") [acc,x]) (fun _ s₅=>∃m,m<n/\I m s₅) (notedBy (model prog w) A env fun e s'=>R (.error e) s') s₄) (notedBy (model prog w) A env fun e s'=>R (.error e) s') s₃
      else ∃m,m<n/\I m s₃) (notedBy (model prog w) A env fun e s'=>R (.error e) s') s₂) (notedBy (model prog w) A env fun e s'=>R (.error e) s') s₁') (notedBy (model prog w) A env fun e s'=>R (.error e) s') s₁) (notedBy (model prog w) A env fun e s'=>R (.error e) s') s)
  (n:Nat) (h:I n s) :
  codeAny (model prog w) A (.compLoop (.ListComp elt [⟨target,iter,ifs,0⟩] scope pos) 0 it acc env) R s:=by
 refine codeAny_loop rfl I (fun n s hI=>?_) n h
 show wpAny _ A ((compTurn (.ListComp elt [⟨target,iter,ifs,0⟩] scope pos) 0 it acc env).onRaise (fun x=>do noteFrame x env;theTreesLotGoes x)) _ _ s
 refine wpAny_noted ?_
 rw[compTurn_list]
 refine wpAny_bind (wpAny_standAt (wpAny_bind (wpAny_mono (turn n s hI) (fun r s₁ h₁=>?_) fun _ _ h'=>h')))
 cases r with
 | none=>exact wpAny_pure h₁
 | some v=>
  refine wpAny_bind (wpAny_mono h₁ (fun _ s₁' h₁'=>?_) fun _ _ h'=>h')
  refine wpAny_bind (wpAny_mono h₁' (fun _ s₂ h₂=>wpAny_bind (wpAny_mono h₂ (fun ok s₃ h₃=>?_) fun _ _ h'=>h')) fun _ _ h'=>h')
  cases ok with
  | false=>exact wpAny_pure ⟨rfl,h₃⟩
  | true=>
   exact wpAny_bind (wpAny_bind (wpAny_mono h₃ (fun x s₄ h₄=>wpAny_bind (wpAny_mono h₄ (fun _ s₅ h₅=>wpAny_pure (wpAny_pure ⟨rfl,h₅⟩)) fun _ _ h'=>h')) fun _ _ h'=>h'))
def IL(X:Cx)(ifs:List Expr)(t:TT):Prop:=
 ∀(pins:List (Addr×Obj))(s:Shared)(σ:St)(H:Hp)(Q:Bool->Hp->Prop),Inv X pins σ H s->t σ H Q->
  wpAny (model X.prog X.w) X.A (forIn ifs true fun c r=>if r=true then do let ok <-isTrue c X.env (eval c X.env);pure (ForInStep.yield ok) else pure (ForInStep.yield r)) (TP X pins σ Q) X.xe s
def Bz:TT:=fun _ H Q=>Q true H
theorem Fe{X:Cx}:IL X [] Bz:=fun _ _ _ H _ I h=>wpAny_tests_nil ⟨H,I,h⟩
theorem Ff{X:Cx}{c:Expr}{t:TT}(h:PT X c t):IL X [c] t:=fun pins s σ H Q I hq=>wpAny_tests_one (h pins s σ H Q I hq)
def BA(n:Nat)(ix:List Nat)(g:TG)(tt:TT)(te:TE)(σ:St)(Q:VK)(J:It)(H1:Hp):Prop:=
 ∃W:Nat->Nat->List V->Hp->Prop,(∃m,W 0 m [] H1)/\∀i m ys H,W i m ys H->ys.length<=sizeLine/\
  ((J.stop i H/\∀p,H p=none->Q (.ref p) (upd H p (.lst ys)))\/
   (J.go i H/\∃N:List V->Hp->Prop,(∀ys' H',N ys' H'->∃m',m'<m/\W (i+1) m' ys' H')/\
    ∀x H',J.yld i H x H'->g x (Yy n ix σ) H' fun σ2 H2=>σ2.drop n=(Yy n ix σ).drop n/\tt σ2 H2 fun b H3=>if b=true then te σ2 H3 fun y H4=>N (ys++[y]) H4 else N ys H3))
def Pl(n:Nat)(ix:List Nat)(wi:TI)(g:TG)(tt:TT)(te:TE):TE:=fun σ H Q=>wi σ H fun J H1=>BA n ix g tt te σ Q J H1
theorem Jg{n:Nat}{ix:List Nat}{σ σ2:St}(hd:σ2.drop n=(Yy n ix σ).drop n):∀(i:Nat) v,(Yy n ix σ)[i]?=some (some v)->σ2[i]?=some (some v):=fun i v e=>by
 by_cases hi:i<n
 ·unfold Yy at e
  rw[List.getElem?_append_left (by simpa using hi),List.getElem?_replicate] at e
  rw[if_pos hi] at e;cases e
 ·have q:=congrArg (fun l=>l[i-n]?) hd
  simp only[List.getElem?_drop] at q;rw[show n+(i-n)=i by omega] at q
  rw[q];exact e
section
variable {X:Cx} {tg elt iter:Expr} {ifs:List Expr} {scope:Scope} {pos:Pos} {own fr:List Str} {ix:List Nat} {wi:TI} {g:TG} {tt:TT} {te:TE}
theorem IM{pins:List (Addr×Obj)}{σ:St}{H2:Hp}{s2:Shared}{fp:List Addr}{h₁:Heap}{tk:Nat}{C:Addr}(S:CompScope X.N X.env.scope scope own fr ix)(I2:Inv X pins σ H2 s2)(f2:∀b∈fp,Tu X pins H2 b)(hfp:∀b∈fp,b<s2.heap.objs.size)
  (hC:s2.heap.objs.size<=C) (hns:h₁.Ns C fun _=>none) (old:∀b o,s2.heap.get? b=some o->h₁.get? b=some o) :
  Inv (ZR X (own++fr) scope (Xi X.env.cells scope.names []) C s2 H2 fp) [] (Yy own.length ix σ) H2 { s2 with heap:=h₁,toks:=tk }:=by
 have cs:=S.clos I2
 have sub:∀x c,(Xi X.env.cells scope.names []).lookup x=some c->X.env.cells.lookup x=some c:=fun x c e=>Sy scope.names [] cs (fun h=>by simp at h) e
 have stk:=I2.stkSub
 have okk:(ZR X (own++fr) scope (Xi X.env.cells scope.names []) C s2 H2 fp).Ok:=by
  refine⟨I2.ok.mod,S.kind,I2.ok.glob,I2.ok.blt,hC,fun x y c h1 h2=>I2.ok.inj x y c (sub x c h1) (sub y c h2),fun x hx=>?_,fun x c h _=>?_,I2.ok.hd,I2.ok.frames,.inl rfl,fun b hb=>⟨?_,fun x c e=>?_⟩,I2.bs,?_,fun b o e hb=>?_,fun b hb z=>?_,I2.stack,I2.stkFree⟩
  ·-- the cells of the block's free names
   have hx:(relabel scope X.env).names.lookup x=some .cell\/(relabel scope X.env).names.lookup x=some .free:=hx
   have key:(x,NameKind.free)∈scope.names:=by
    have:∃k',(relabel scope X.env).names.lookup x=some k'/\(k' = .cell\/k' = .free):=by
     rcases hx with h | h
     ·exact⟨_,h,.inl rfl⟩
     ·exact⟨_,h,.inr rfl⟩
    obtain⟨k',e,hk'⟩:=this
    obtain⟨k,e0⟩:=VG e
    have e1:=Wo (env:=X.env) e0
    have e:(scope.names.map fun(n,k)=>if(k==NameKind.free&&X.env.scope.kind==.function&&X.env.kindOf n==some .cell) then(n,NameKind.cell) else(n,k)).lookup x=some k':=e
    rw[e1] at e;have m:=PySem.mem_of_lookup e0
    cases k with
    | free=>exact m
    | cell=>exact absurd rfl (S.nocell _ m)
    | _=>simp at e;subst e;rcases hk' with z | z<;>cases z
   exact Option.isSome_iff_exists.mp (Sz _ _ key)
  ·cases h
  ·-- fp differs from the frame
   exact Nat.ne_of_lt (Nat.lt_of_lt_of_le (hfp b hb) hC)
  ·exact(f2 b hb).2.2.2.2.1 x c (sub x c e)
  ·exact Nat.le_trans I2.ok.bsz I2.sz
  ·rcases(f2 b hb).2.2.2.1 with z | z
   ·exact I2.ok.noex b o e z
   ·exact absurd (Nat.lt_of_lt_of_le (Heap.lt_size (I2.ok.bs b o e).1) z) (Nat.lt_irrefl _)
  ·rcases List.mem_cons.mp (stk b z) with e | e
   ·exact(f2 b hb).2.1 e
   ·exact(f2 b hb).2.2.1 e
 have sl:fr.length=ix.length:=by simpa using congrArg List.length S.slots
 refine⟨okk,rfl,I2.bare,Un.kept old,⟨_,hns,fun i x v h1 h2 h3=>?_⟩,fun x c e=>?_,I2.hok.fresh hC,fun x c e=>I2.freeC x c (sub x c e),fun p hp=>absurd (show p∈([]:List (Addr×Obj)) from hp) (by simp),I2.hok.kept old,?_⟩
 ·-- a name of the def around
  have h1:(own++fr)[i]?=some x:=h1
  have hi:¬i<own.length:=fun hi=>by
   unfold Yy at h2;rw[List.getElem?_append_left (by simpa using hi),List.getElem?_replicate,if_pos hi] at h2;cases h2
  rw[List.getElem?_append_right (by omega)] at h1;unfold Yy at h2;rw[List.getElem?_append_right (by simpa using hi),List.length_replicate,List.getElem?_map] at h2
  cases ej:ix[i-own.length]? with
  | none=>rw[ej] at h2;cases h2
  | some j=>
   rw[ej] at h2
   have h2:(σ[j]?).join=some v:=by simpa using h2
   have h2:σ[j]?=some (some v):=by
    cases q:σ[j]? with
    | none=>rw[q] at h2;cases h2
    | some z=>rw[q] at h2;exact congrArg some h2
   have hN:X.N[j]?=some x:=by
    have q:=congrArg (fun l=>l[i-own.length]?) S.slots
    simp only[List.getElem?_map,h1,ej,Option.map_some] at q
    exact(Option.some.inj q).symm
   have hm:=S.outs x (List.mem_of_getElem? h1)
   have hk:=S.frees _ hm rfl
   have hk:X.env.scope.names.lookup x=some .cell\/X.env.scope.names.lookup x=some .free:=hk
   obtain⟨m,hn,hl⟩:=I2.loc
   obtain⟨u,r,l⟩:=hl j x v hN h2 (by rcases hk with k | k;exact .inr (.inl k);exact .inr (.inr k))
   refine⟨u,r,?_⟩
   rcases l with⟨k,_⟩ | ⟨_,c,hc,hcell⟩
   ·have k:X.env.scope.names.lookup x=some .local:=k
    rcases hk with q | q<;>rw[k] at q<;>cases q
   ·obtain⟨c',hc'⟩:=Option.isSome_iff_exists.mp (Sz (cells:=X.env.cells) _ [] hm)
    have ec:=sub x c' hc'
    rw[hc] at ec;cases ec
    refine .inr ⟨?_,c,hc',?_⟩
    ·have h3:(relabel scope X.env).names.lookup x=some .local\/(relabel scope X.env).names.lookup x=some .cell\/(relabel scope X.env).names.lookup x=some .free:=h3
     rcases h3 with h3 | h3
     ·obtain⟨k0,e0⟩:=VG h3
      have e1:=Wo (env:=X.env) e0
      have h3:(scope.names.map fun(n,k)=>if(k==NameKind.free&&X.env.scope.kind==.function&&X.env.kindOf n==some .cell) then(n,NameKind.cell) else(n,k)).lookup x=some .local:=h3
      rw[e1] at h3
      have k0l:k0 = .local:=by
       cases k0<;>simp at h3 ⊢
       split at h3<;>cases h3
      subst k0l
      exact absurd e0 (S.apart x (List.mem_of_getElem? h1))
     ·exact h3
    ·obtain⟨o,ho,hd⟩:=hcell
     exact⟨o,old _ _ ho,hd⟩
 ·obtain⟨v,o,ho,hd⟩:=I2.cell x c (sub x c e)
  exact⟨v,o,old _ _ ho,hd⟩
 ·show(Yy own.length ix σ).length=(own++fr).length
  unfold Yy;rw[List.length_append,List.length_replicate,List.length_map,List.length_append,sl]
theorem RQ{pins:List (Addr×Obj)}{σ:St}{H2:Hp}{s2:Shared}{fp:List Addr}{it:Addr}{tn:Nat->Heap->Prop}{J:It}{Fin:List V->Hp->Prop}{RR:Value->Addr->Result->Shared->Prop}{E:Value->Shared->Prop}
  (hcalm:X.calm=true) (S:CompScope X.N X.env.scope scope own fr ix)
  (hg:∀cl C s H ex,PG (ZR X (own++fr) scope cl C s H ex) tg g) (ht:∀cl C s H ex,IL (ZR X (own++fr) scope cl C s H ex) ifs tt) (he:∀cl C s H ex,PE (ZR X (own++fr) scope cl C s H ex) elt te)
  (I2:Inv X pins σ H2 s2) (T:O6 X.prog X.w X.K tg J fp it tn) (st2:tn 0 s2.heap) (f2:∀b∈fp,Tu X pins H2 b)
  {W:Nat->Nat->List V->Hp->Prop} {m0:Nat} (w0:W 0 m0 [] H2)
  (turn:∀i m ys H,W i m ys H->ys.length<=sizeLine/\
   ((J.stop i H/\Fin ys H)\/
    (J.go i H/\∃N:List V->Hp->Prop,(∀ys' H',N ys' H'->∃m',m'<m/\W (i+1) m' ys' H')/\
     ∀x H',J.yld i H x H'->g x (Yy own.length ix σ) H' fun σ2 H2=>σ2.drop own.length=(Yy own.length ix σ).drop own.length/\tt σ2 H2 fun b H3=>if b=true then te σ2 H3 fun y H4=>N (ys++[y]) H4 else N ys H3)))
  (hRR:∀(D C:Addr)(oC:Obj)(m:Str->Option Value)(s':Shared)(H':Hp)(ys:List V),Inv X (pins++[(C,oC)]) σ (upd H' D (.lst ys)) s'->s'.heap.get? C=some oC->s'.heap.Ns C m->Tu X pins (upd H' D (.lst ys)) C->H' D=none->Fin ys H'->RR (.ref D) C (.ok .next) s') :
  wpAny (model X.prog X.w) X.A (newList []) (fun acc s₃=>wpAny (model X.prog X.w) X.A (newFunctionEnv scope X.env.globals (Xi X.env.cells scope.names []) [] X.env.qual none .none (some X.env)) (fun cenv s₄=>
   codeAny (model X.prog X.w) X.A (.compStart (.ListComp elt [⟨tg,iter,ifs,0⟩] scope pos) 0 (.ref it) acc { cenv with scope:=relabel scope X.env }) (RR acc cenv.locals) s₄) E s₃) E s2:=by
 have hfp:∀b∈fp,b<s2.heap.objs.size:=fun b hb=>by
  obtain⟨o,e,_⟩:=T.obj 0 s2.heap st2 b hb
  exact Heap.lt_size e
 refine wpAny_newObj_type (wpAny_newFunctionEnv S.nocell (by intro y hy;simp at hy) (fun h₁ hns₁ hsb₁=>?_) S.kind)
 dsimp only at hns₁ hsb₁ ⊢
 generalize hH2:s2.heap.push { cls:=.type "list",dict:=none,data:=.seq ([]:List Value).toArray }=G2 at hns₁ hsb₁ ⊢
 have hC:G2.objs.size=s2.heap.objs.size+1:=by rw[<-hH2,Heap.size_push]
 generalize hCC:G2.objs.size=C at hns₁ hsb₁ hC ⊢
 generalize hDD:s2.heap.objs.size=D at hC ⊢
 have hDC:D≠C:=by omega
 have below:∀b,b<s2.heap.objs.size->b≠C/\b≠D:=fun b hb=>by
  rw[hDD] at hb
  exact⟨Nat.ne_of_lt (by omega),Nat.ne_of_lt hb⟩
 have old:∀b o,s2.heap.get? b=some o->h₁.get? b=some o:=fun b o e=>hsb₁.extBut b o (below b (Heap.lt_size e)).1 (Heap.get?_push_of_some _ (hH2▸Heap.get?_push_of_some _ e))
 have hacc:h₁.get? D=some { cls:=.type "list",data:=.seq ([]:List Value).toArray 0 }:=by
  have e0:G2.get? D=some { cls:=.type "list",data:=.seq ([]:List Value).toArray 0 }:=by
   rw[<-hH2,<-hDD]
   exact Heap.get?_push_size _ rfl
  exact hsb₁.extBut _ _ hDC (Heap.get?_push_of_some _ e0)
 have hns₁':h₁.Ns C fun _=>none:=by simpa using hns₁
 have I0:=fun tk=>IM (tk:=tk) S I2 f2 hfp (C:=C) (by omega) hns₁' old
 -- what stays true of the iterator's objects in the block
 have loop:∀s₃:Shared,s₃={ s2 with heap:=h₁,toks:=s2.toks+([]:List (Str×Value)).length }->
   codeAny (model X.prog X.w) X.A (.compLoop (.ListComp elt [⟨tg,iter,ifs,0⟩] scope pos) 0 (.ref it) (.ref D) (compEnvC scope (Xi X.env.cells scope.names []) C X.env)) (RR (.ref D) C) s₃:=by
  rintro s₃ rfl
  generalize hY:ZR X (own++fr) scope (Xi X.env.cells scope.names []) C s2 H2 fp=Y at I0
  have stat:∀{H':Hp}{pn:List (Addr×Obj)},(∀b∈fp,H' b=none)->(∀p∈pn,∀b∈fp,p.1≠b)->∀b∈fp,Tu Y pn H' b:=fun{H' pn} hn hp b hb=>by
   subst hY
   refine⟨hn b hb,(below b (hfp b hb)).1,fun z=>?_,.inl hb,fun x c e=>?_,fun p hp'=>hp p hp' b hb⟩
   ·exact(I0 0).ok.exfs b hb z
   ·exact((I0 0).ok.exf b hb).2 x c e
  have dfp:∀b∈fp,D≠b:=fun b hb=>Ne.symm (below b (hfp b hb)).2
  have hcellD:∀x c,Y.env.cells.lookup x=some c->c≠D:=fun x c e z=>by
   subst hY
   have e:(Xi X.env.cells scope.names []).lookup x=some c:=e
   have e':=Sy scope.names [] (S.clos I2) (fun h=>by simp at h) e
   obtain⟨v,q⟩:=I2.cell x c e'
   exact(below c q.lt).2 z
  have hfsD:D∉Y.fs:=fun z=>by
   subst hY
   obtain⟨_,o,ho,_⟩:=(I0 0).ok.funs.mem z
   have:=Heap.lt_size ho
   have:D<s2.heap.objs.size:=this
   omega
  have eL:Y.env.locals=C:=by subst hY;rfl
  have eS:Y.s₀=s2:=by subst hY;rfl
  have eP:Y.pn=[]:=by subst hY;rfl
  refine Oc (fun n s'=>∃i ys its nn H',Inv Y [] (Yy own.length ix σ) H' s'/\tn i s'.heap/\(∀b∈fp,H' b=none)/\s'.heap.get? D=some { cls:=.type "list",data:=.seq its nn }/\Vals ys its.toList/\H' D=none/\W i n ys H') ?_ m0
   ⟨0,[],#[],0,H2,I0 _,T.keep _ _ _ st2 fun b _ o e=>old b o e,fun b hb=>(f2 b hb).1,hacc,.nil,I2.hok.fresh (by omega),w0⟩
  rintro n s3 ⟨i,ys,its,nn,H3,I3,st3,fr3,oD,vD,nD,w3⟩
  obtain⟨hlen,cases3⟩:=turn i n ys H3 w3
  have hsize:its.size<=sizeLine:=by
   have:=vD.length
   simp only[Array.length_toList] at this;omega
  have pD:Inv Y [(D,{ cls:=.type "list",data:=.seq its nn })] (Yy own.length ix σ) H3 s3:=I3.pins_of fun p hp=>by
   rw[List.mem_singleton.mp hp]
   exact⟨oD,nD,by rw[eL];exact hDC,hfsD,fun v z=>by cases z⟩
  have YP:Y.prog=X.prog:=by subst hY;rfl
  have Yw:Y.w=X.w:=by subst hY;rfl
  have YK:Y.K=X.K:=by subst hY;rfl
  have YA:Y.A=X.A:=by subst hY;rfl
  have Yx:Y.xe=fun _ _=>False:=by subst hY;rfl
  have Ye:Y.env=compEnvC scope (Xi X.env.cells scope.names []) C X.env:=by subst hY;rfl
  have ne1:∀p∈[((D,{ cls:=.type "list",data:=.seq its nn }):Addr×Obj)],∀b∈fp,p.1≠b:=fun p hp b hb=>by rw[List.mem_singleton.mp hp];exact dfp b hb
  rcases cases3 with⟨stop,qn⟩ | ⟨go,N,hN,step⟩
  ·have d:=T.done Y YP Yw YK (by subst hY;exact hcalm) i _ s3 _ H3 (notedBy (model X.prog X.w) X.A (compEnvC scope (Xi X.env.cells scope.names []) C X.env) fun e s'=>RR (.ref D) C (.error e) s') pD (stat fr3 ne1) st3 stop
   rw[YA] at d
   refine YI d fun r s4 ⟨hr,I4⟩=>?_
   subst hr
   show RR (.ref D) C (.ok .next) s4
   obtain⟨oD4,nD4,_⟩:=I4.pin (D,_) (by rw[eP];exact List.mem_cons_self)
   obtain⟨m,hn,_⟩:=I4.loc
   rw[eL] at hn
   obtain⟨oC,es,ep,hoC,hdC,hrest⟩:=id hn
   have hfreeC:H3 C=none:=by have:=I4.free;rw[eL] at this;exact this
   have un:Un (OZ X.stack) fp H2 H3 s2.heap s4.heap:=by
    have:=I4.base
    subst hY;exact this
   have lt2:∀b o,s2.heap.get? b=some o->b≠D:=fun b o e=>(below b (Heap.lt_size e)).2
   have un':Un (OZ X.stack) fp H2 (upd H3 D (.lst ys)) s2.heap s4.heap:=by
    refine⟨un.keep,un.slot,fun b o e n hx=>?_,un.there,fun b xs e=>?_,fun b o u e=>?_,fun b ps e=>?_⟩
    ·rw[upd_ne (lt2 b o e)];exact un.free b o e n hx
    ·have q:=un.tups b xs e
     rw[upd_ne (Zw q nD4)];exact q
    ·have q:=un.frzs b o u e
     rw[upd_ne (Zw q nD4)];exact q
    ·obtain⟨more,q⟩:=un.tbls b ps e
     exact⟨more,by rw[upd_ne (Zw q nD4)];exact q⟩
   have hok4:HOk X.prog X.w H3 s4.heap:=by
    have:=I4.hok
    rw[YP,Yw] at this;exact this
   have hok':HOk X.prog X.w (upd H3 D (.lst ys)) s4.heap:=fun b u q=>by
    by_cases hb:b=D
    ·subst hb
     rw[upd_same] at q;cases q
     exact⟨hlen,its.toList,nn,vD,by simpa using oD4⟩
    ·rw[upd_ne hb] at q
     exact(hok4 b u q).stay (fun c v _ z=>z) (fun c z=>by rw[upd_ne (Zw z nD4)];exact z) fun c xs z=>by rw[upd_ne (Zw z nD4)];exact z
   have os4:s4.os=s2.os:=by rw[I4.os,eS]
   have I5:Inv X pins σ (upd H3 D (.lst ys)) s4:=I2.call' os4 un' hok' I4.bare fun b hb=>⟨(f2 b hb).2.2.2.1,(f2 b hb).2.1,(f2 b hb).2.2.2.2.1,(f2 b hb).2.2.2.2.2⟩
   have CL:C≠X.env.locals:=fun z=>by
    exact(below _ I2.lt).1 z.symm
   have fpC:Tu X pins (upd H3 D (.lst ys)) C:=I2.fpOk (by omega) (by rw[upd_ne (Ne.symm hDC)];exact hfreeC)
   refine hRR D C oC m s4 H3 ys (I5.pins_of fun p hp=>?_) hoC hn fpC nD4 qn
   rcases List.mem_append.mp hp with z | z
   ·exact I5.pin p (List.mem_append_right _ z)
   ·rw[List.mem_singleton.mp z]
    exact⟨hoC,fpC.1,fpC.2.1,fpC.2.2.1,fun v z=>by rw[hdC] at z;cases z⟩
  ·have d:=T.item Y YP Yw YK (by subst hY;exact hcalm) i _ s3 _ H3 (fun _ _=>False) pD (stat fr3 ne1) st3 go
   rw[YA] at d
   refine wpAny_mono d (fun r s4 ⟨u,hr,h4⟩=>?_) fun _ _ z=>z.elim
   subst hr
   refine wpAny_mono h4 (fun _ s5 ⟨x,H5,I5,r5,y5,st5,fr5⟩=>?_) fun _ _ z=>z.elim
   have I5':=I5.pinned (stat fr5 ne1) (T.obj _ _ st5)
   have hg':=hg (Xi X.env.cells scope.names []) C s2 H2 fp
   have ht':=ht (Xi X.env.cells scope.names []) C s2 H2 fp
   have he':=he (Xi X.env.cells scope.names []) C s2 H2 fp
   rw[hY] at hg' ht' he'
   have a6:=hg' _ s5 _ H5 x u _ I5' r5 (step x H5 y5)
   rw[YP,Yw,YA,Ye,Yx] at a6
   refine wpAny_mono a6 (fun _ s6 ⟨σ6,H6,I6,dr,q6⟩=>?_) fun _ _ z=>z.elim
   have a7:=ht' _ s6 σ6 H6 _ I6 q6;rw[YP,Yw,YA,Ye,Yx] at a7
   refine wpAny_mono a7 (fun ok s7 ⟨H7,I7,q7⟩=>?_) fun _ _ z=>z.elim
   have back:∀{H8:Hp}{s8:Shared},Inv Y ([((D,{ cls:=.type "list",data:=.seq its nn }):Addr×Obj)]++Ss fp s5.heap) σ6 H8 s8->
     s8.heap.get? D=some { cls:=.type "list",data:=.seq its nn }/\H8 D=none/\tn (i+1) s8.heap/\(∀b∈fp,H8 b=none):=fun{H8 s8} I8=>by
    obtain⟨e1,e2,_⟩:=I8.pin (D,{ cls:=.type "list",data:=.seq its nn }) (by rw[eP];exact List.mem_cons_self)
    refine⟨e1,e2,T.keep _ _ _ st5 fun b hb o e=>(I8.pin (b,o) (by rw[eP];exact List.mem_cons_of_mem _ (VC hb e))).1,fun b hb=>?_⟩
    obtain⟨o,e,_⟩:=T.obj _ _ st5 b hb
    exact(I8.pin (b,o) (by rw[eP];exact List.mem_cons_of_mem _ (VC hb e))).2.1
   have unp:∀{H8:Hp}{s8:Shared},Inv Y ([((D,{ cls:=.type "list",data:=.seq its nn }):Addr×Obj)]++Ss fp s5.heap) σ6 H8 s8->Inv Y [] (Yy own.length ix σ) H8 s8:=fun{H8 s8} I8=>
    (I8.pins_of (pins':=[]) fun p hp=>absurd hp (by simp)).weak (by
     have e1:=(I0 0).len
     have e2:=I8.len
     rw[e1,e2]) (Jg dr)
   cases ok with
   | false=>
    rw[if_neg Bool.false_ne_true] at q7
    show ∃m,m<n/\_
    obtain⟨e1,e2,e3,e4⟩:=back I7
    obtain⟨m',hm,w7⟩:=hN _ _ q7
    exact⟨m',hm,i+1,ys,its,nn,H7,unp I7,e3,e4,e1,vD,e2,w7⟩
   | true=>
    rw[if_pos rfl] at q7
    show wpAny _ _ _ _ _ _
    have a8:=he' _ s7 σ6 H7 _ I7 q7;rw[YP,Yw,YA,Ye,Yx] at a8
    refine wpAny_mono a8 (fun yv s8 ⟨y,H8,I8,ry,q8⟩=>?_) fun _ _ z=>z.elim
    obtain⟨e1,e2,e3,e4⟩:=back I8
    obtain⟨m',hm,w8⟩:=hN _ _ q8
    refine append_at e1 (fun h9 hs9 hD9=>?_) hsize
    have I9:Inv Y [] (Yy own.length ix σ) H8 { s8 with heap:=h9 }:=(unp I8).turned (t':=s8.toks) (it:=D) (fun b o hb e=>hs9.extBut b o hb e) e2 (by rw[eL];exact hDC) (.inr (by rw[eS];omega)) hcellD (fun p hp=>absurd (show p∈([]:List (Addr×Obj)) by rw[eP] at hp;exact hp) (by simp))
    refine⟨m',hm,i+1,ys++[y],its.push yv,nn+1,H8,I9,T.keep _ _ _ e3 fun b hb o e=>hs9.extBut b o (Ne.symm (dfp b hb)) e,e4,hD9,?_,e2,w8⟩
    rw[Array.toList_push]
    exact vD.append (.cons ry .nil)
 exact codeAny_compStart_list (loop _ rfl) (T.self X.A 0 _ _ _ (T.keep _ _ _ st2 fun b _ o e=>old b o e) (loop _ rfl))
theorem Fg(hcalm:X.calm=true)(hi:PI X tg iter wi)(S:CompScope X.N X.env.scope scope own fr ix)
  (hg:∀cl C s H ex,PG (ZR X (own++fr) scope cl C s H ex) tg g) (ht:∀cl C s H ex,IL (ZR X (own++fr) scope cl C s H ex) ifs tt) (he:∀cl C s H ex,PE (ZR X (own++fr) scope cl C s H ex) elt te)
  (hs:∀x,foldedSetIterable iter X.env x=pure x:=by intro _;rfl):PE X (.ListComp elt [⟨tg,iter,ifs,0⟩] scope pos) (Pl own.length ix wi g tt te):=by
 intro pins s σ H Q I h;rw[eval_ListComp]
 refine wpAny_comprehension_free (use:=none) (cl:=Xi X.env.cells scope.names []) rfl hs (U4 (S.clos I)) S.kind S.names (YI (hi pins s σ H _ I h) fun v s1 h1=>YI h1 fun itv s2 h2=>?_)
 obtain⟨it,fp,tn,J,H2,e,I2,T,st2,f2,W,⟨m0,w0⟩,turn⟩:=h2
 subst e
 refine RQ (Fin:=fun ys H=>∀p,H p=none->Q (.ref p) (upd H p (.lst ys))) (RR:=fun acc C=>compPost (model X.prog X.w) X.A X.xe none (EP X pins σ Q) acc C) hcalm S hg ht he I2 T st2 f2 w0 turn ?_
 intro D C oC m s' H' ys I5 hoC hn fpC nD fin
 refine⟨m,hn,fun h' hs'=>⟨.ref D,upd H' D (.lst ys),?_,rfl,fin D nD⟩⟩
 exact(I5.unpinned (pl:=[(C,oC)])).turned (t':=s'.toks) (it:=C) (fun b o hb e=>hs'.extBut b o hb e) fpC.1 fpC.2.1 fpC.2.2.2.1 fpC.2.2.2.2.1 fpC.2.2.2.2.2
theorem Fh{i:Nat}{y:Str}{py spos:Pos}(hN:X.N.Nodup)(hy:X.N[i]?=some y)(hloc:X.env.scope.names.lookup y=some .local)(hcalm:X.calm=true)(hi:PI X tg iter wi)(S:CompScope X.N X.env.scope scope own fr ix)
  (hg:∀cl C s H ex,PG (ZR X (own++fr) scope cl C s H ex) tg g) (ht:∀cl C s H ex,IL (ZR X (own++fr) scope cl C s H ex) ifs tt) (he:∀cl C s H ex,PE (ZR X (own++fr) scope cl C s H ex) elt te)
  (hsw:swapsWith (.ListComp elt [⟨tg,iter,ifs,0⟩] scope pos) (some (.Name y py)) spos.line X.env=pure true:=by rfl)
  (hs:∀x,foldedSetIterable iter X.env x=pure x:=by intro _;rfl):PS X (.Assign [.Name y py] (.ListComp elt [⟨tg,iter,ifs,0⟩] scope pos) spos) (MD (Pl own.length ix wi g tt te) (S4 i)):=by
 intro pins s σ H D0 I h;rw[exec_Assign_Name_used _ _ _ _ hsw]
 refine wpAny_bind (wpAny_standAt (wpAny_bind ?_))
 show wpAny _ X.A (do let _ <-comprehension (.ListComp elt [⟨tg,iter,ifs,0⟩] scope pos) scope X.env _ (newList []) false (eval iter X.env) (some (assign (.Name y py) X.env))) _ _ s
 refine wpAny_bind (wpAny_mono (wpAny_comprehension_free (cl:=Xi X.env.cells scope.names []) (use:=some (assign (.Name y py) X.env)) (Q:=fun _ s'=>SP X pins D0 .next s') (E:=X.xe) rfl hs (U4 (S.clos I)) S.kind S.names
  (YI (hi pins s σ H _ I h) fun v s1 h1=>YI h1 fun itv s2 h2=>?_)) (fun _ s' hq=>wpAny_pure (wpAny_pure hq)) fun _ _ e=>e)
 obtain⟨it,fp,tn,J,H2,e,I2,T,st2,f2,W,⟨m0,w0⟩,turn⟩:=h2
 subst e
 refine RQ (Fin:=fun ys H=>∀p,H p=none->S4 i (.ref p) σ (upd H p (.lst ys)) D0.nx) (RR:=fun acc C=>compPost (model X.prog X.w) X.A X.xe (some (assign (.Name y py) X.env)) (fun _ s'=>SP X pins D0 .next s') acc C) hcalm S hg ht he I2 T st2 f2 w0 turn ?_
 intro D C oC m s' H' ys I5 hoC hn fpC nD fin
 show wpAny _ X.A (assign (.Name y py) X.env (.ref D)) _ _ _
 refine wpAny_assign_Name (Uc I5 hN hy (.inl hloc) (v:=.ref D) rfl (fun s6 I6=>?_) (.inr hloc))
 obtain⟨e6,_⟩:=I6.pin (C,oC) (List.mem_append_right _ (List.mem_append_right _ List.mem_cons_self))
 obtain⟨o',es,ep,ho',r'⟩:=hn
 rw[hoC] at ho';cases ho'
 refine⟨m,⟨oC,es,ep,e6,r'⟩,fun h' hs'=>⟨_,upd H' D (.lst ys),?_,fin D nD⟩⟩
 exact(I6.unpinned (pl:=[(C,oC)])).turned (t':=s6.toks) (it:=C) (fun b o hb e=>hs'.extBut b o hb e) fpC.1 fpC.2.1 fpC.2.2.2.1 fpC.2.2.2.2.1 fpC.2.2.2.2.2
end
open AutoSeq1 (wpAny_loadPart')
section
variable {prog:Program} {w:World} {A:Around} {E:Value->Shared->Prop} {s:Shared}
theorem Tz{it l:Addr}{i:Nat}{items}{x:Value}{Q:Value->Shared->Prop}(hit:s.heap.IsTupleIter it l i)
  (hl:s.heap.IsTuple l items) (hx:items[i]?=some x)
  (hQ:∀h',h'.IsTupleIter it l (i+1)->Heap.SameBut it s.heap h'->Q x { s with heap:=h' }) :
  wpAny (model prog w) A (Builtin.SmallTypes.nextOf (.ref it)) Q E s:=by
 obtain⟨o,ho,hc,hd⟩:=id hit
 obtain⟨ol,hol,_,nl,hdl⟩:=hl
 unfold Builtin.SmallTypes.nextOf
 refine wpAny_bind (wpAny_callSpecial?_slot (name:=Str.ofString "__next__") hit.typeIs F.slot_tuple_iterator_next
  (wpAny_call_entry F.slot_tuple_iterator_next hit.typeIs F.entry_tuple_iterator_next ?_ (F.args_tuple_iterator_next_1 _)))
 show wpAny _ _ (field (.ref it) 0 >>= _) _ _ s
 refine wpAny_bind (wpAny_field ho hd (x:=.ref l) rfl ?_)
 show wpAny _ _ (if(Value.ref l==Value.none)=true then _ else _) _ _ s
 rw[if_neg (show ¬((Value.ref l==Value.none)=true) from Bool.false_ne_true)]
 show wpAny _ _ (field (.ref it) 1 >>= _) _ _ s
 refine wpAny_bind (wpAny_field ho hd (x:=.int i 0) rfl ?_)
 show wpAny _ _ (seqItems? (.ref l) >>= _) _ _ s
 refine wpAny_bind (wpAny_seqItems hol hdl ?_)
 simp only[Int.toNat_natCast,hx]
 refine wpAny_bind (wpAny_setField ho hd (by simp) (wpAny_pure ⟨x,rfl,wpAny_pure (hQ _ ?_ (Heap.SameBut.update ..))⟩))
 exact⟨_,Heap.get?_update_self _ ho (Obj.isFreed_of_fields (Obj.data_mapFields hd _)),(Obj.cls_mapFields ..).trans hc,by
  rw[Obj.data_mapFields hd];simp[rawInt]⟩
theorem SA{it l:Addr}{i:Nat}{items}{Q:Value->Shared->Prop}(hh:A.handled=none)
  (hit:s.heap.IsTupleIter it l i) (hl:s.heap.IsTuple l items) (hx:items[i]?=none)
  (hE:∀h' e,Heap.ExtBut it s.heap h'->(∃o,h'.get? e=some o/\o.cls = .type "StopIteration")->E (.ref e) { s with heap:=h' }) :
  wpAny (model prog w) A (Builtin.SmallTypes.nextOf (.ref it)) Q E s:=by
 obtain⟨o,ho,hc,hd⟩:=id hit
 obtain⟨ol,hol,_,nl,hdl⟩:=hl
 unfold Builtin.SmallTypes.nextOf
 refine wpAny_bind (wpAny_callSpecial?_slot (name:=Str.ofString "__next__") hit.typeIs F.slot_tuple_iterator_next
  (wpAny_call_entry F.slot_tuple_iterator_next hit.typeIs F.entry_tuple_iterator_next ?_ (F.args_tuple_iterator_next_1 _)))
 show wpAny _ _ (field (.ref it) 0 >>= _) _ _ s
 refine wpAny_bind (wpAny_field ho hd (x:=.ref l) rfl ?_)
 show wpAny _ _ (if(Value.ref l==Value.none)=true then _ else _) _ _ s
 rw[if_neg (show ¬((Value.ref l==Value.none)=true) from Bool.false_ne_true)]
 show wpAny _ _ (field (.ref it) 1 >>= _) _ _ s
 refine wpAny_bind (wpAny_field ho hd (x:=.int i 0) rfl ?_)
 show wpAny _ _ (seqItems? (.ref l) >>= _) _ _ s
 refine wpAny_bind (wpAny_seqItems hol hdl ?_)
 simp only[Int.toNat_natCast,hx]
 refine wpAny_bind (wpAny_rule (wpAny_bind (wpAny_setField ho hd (by simp) ?_)))
 show wpAny _ _ (newExc (.type "StopIteration") [] >>= _) _ _ _
 refine wpAny_bind ?_
 simp only[newExc,newTuple]
 refine wpAny_bind (wpAny_newObj_type ?_ (by size_fits))
 refine wpAny_bind (m:=firstArgMember _ _) (wpAny_of_eq (a:=Value.none) (by first | rfl | (simp only[firstArgMember];rfl)) ?_)
 refine wpAny_newObj_type ?_ (by size_fits)
 simp only[raiseNew]
 refine wpAny_bind (wpAny_handled ?_)
 first | rw[show A.in1.handled=none from hh] | rw[hh]
 refine wpAny_bind (wpAny_pure (wpAny_throw ?_))
 exact hE _ _ (((Heap.SameBut.update ..).extBut.push _).push _) ⟨_,Heap.get?_push_size _ rfl,rfl⟩
end
def SeqB(b:Bool)(h:Heap)(a:Addr)(its:Array Value):Prop:=if b=true then h.IsList a its else h.IsTuple a its
def IterB(b:Bool)(h:Heap)(it a:Addr)(i:Nat):Prop:=if b=true then h.IsListIter it a i else h.IsTupleIter it a i
def QS(b:Bool)(K:PySem.W.Frag)(H:Hp)(a:Addr)(xs:List V):Prop:=if b=true then SqL K H a xs else SqT K H a xs
def V6(b:Bool)(a:Addr):Obj:={ cls:=.type (if b=true then "list_iterator" else "tuple_iterator"),data:=.fields #[.ref a,.int 0 0] }
theorem SeqB.at{b:Bool}{h h':Heap}{a:Addr}{its:Array Value}(x:SeqB b h a its)(k:∀o,h.get? a=some o->h'.get? a=some o):SeqB b h' a its:=by
 cases b with
 | true=>obtain⟨o,e,r⟩:=(show h.IsList a its from x);exact⟨o,k o e,r⟩
 | false=>obtain⟨o,e,r⟩:=(show h.IsTuple a its from x);exact⟨o,k o e,r⟩
theorem SeqB.has{b:Bool}{h:Heap}{a:Addr}{its:Array Value}(x:SeqB b h a its):∃o,h.get? a=some o:=by
 cases b with
 | true=>obtain⟨o,e,r⟩:=(show h.IsList a its from x);exact⟨o,e⟩
 | false=>obtain⟨o,e,r⟩:=(show h.IsTuple a its from x);exact⟨o,e⟩
theorem IterB.at{b:Bool}{h h':Heap}{it a:Addr}{i:Nat}(x:IterB b h it a i)(k:∀o,h.get? it=some o->h'.get? it=some o):IterB b h' it a i:=by
 cases b with
 | true=>obtain⟨o,e,r⟩:=(show h.IsListIter it a i from x);exact⟨o,k o e,r⟩
 | false=>obtain⟨o,e,r⟩:=(show h.IsTupleIter it a i from x);exact⟨o,k o e,r⟩
theorem IterB.has{b:Bool}{h:Heap}{it a:Addr}{i:Nat}(x:IterB b h it a i):∃o,h.get? it=some o/\∀v,o.data≠.cell v:=by
 cases b with
 | true=>obtain⟨o,e,_,d⟩:=(show h.IsListIter it a i from x);exact⟨o,e,fun v z=>by rw[d] at z;cases z⟩
 | false=>obtain⟨o,e,_,d⟩:=(show h.IsTupleIter it a i from x);exact⟨o,e,fun v z=>by rw[d] at z;cases z⟩
theorem IterB.new{b:Bool}{h:Heap}{it a:Addr}(e:h.get? it=some (V6 b a)):IterB b h it a 0:=by
 cases b with
 | true=>exact⟨_,e,rfl,rfl⟩
 | false=>exact⟨_,e,rfl,rfl⟩
section
variable {X:Cx} {pins:List (Addr×Obj)} {σ:St} {H:Hp} {s:Shared} {a:Addr} {xs ys:List V} {b:Bool}
theorem Inv.seqB(I:Inv X pins σ H s)(h:QS b X.K H a xs):∃its:List Value,Vals xs its/\SeqB b s.heap a its.toArray/\xs.length<=sizeLine:=by
 cases b with
 | true=>
  obtain⟨its,r,p,z⟩:=I.list (show SqL X.K H a xs from h)
  exact⟨its,r,p.isList,z⟩
 | false=>
  obtain⟨its,r,p,z⟩:=I.tuple (show SqT X.K H a xs from h)
  exact⟨its,r,p,z⟩
theorem Inv.seqB_inj(I:Inv X pins σ H s)(h:QS b X.K H a xs)(h':QS b X.K H a ys):xs=ys:=by
 cases b with
 | true=>exact I.list_inj (show SqL X.K H a xs from h) (show SqL X.K H a ys from h')
 | false=>exact I.tuple_inj (show SqT X.K H a xs from h) (show SqT X.K H a ys from h')
end
theorem Draws.seq{prog:Program}{w:World}{A:Around}(b:Bool)(hh:A.handled=none)(it l:Addr)(hne:l≠it)(items:Array Value) :
  Draws prog w A it [it,l] items.size (fun i v=>items[i]?=some v) (fun i h=>IterB b h it l i/\SeqB b h l items) where
 live:=fun _ _ st=>let⟨o,ho,_⟩:=st.1.has;⟨o,ho⟩
 frame:=fun _ _ _ st hk=>⟨st.1.at fun o e=>hk it (by simp) o e,st.2.at fun o e=>hk l (by simp) o e⟩
 item:=fun i s Q E hi st hQ=>by
  cases b with
  | true=>
   refine wpAny_nextOf_list_item (show s.heap.IsListIter it l i from st.1) (show s.heap.IsList l items from st.2) (x:=items[i]) (by simp[hi]) fun h' hit' hs'=>?_
   exact hQ _ h' s.toks (by simp[hi]) ⟨hit',st.2.at fun o e=>hs'.extBut l o hne e⟩ hs'
  | false=>
   refine Tz (show s.heap.IsTupleIter it l i from st.1) (show s.heap.IsTuple l items from st.2) (x:=items[i]) (by simp[hi]) fun h' hit' hs'=>?_
   exact hQ _ h' s.toks (by simp[hi]) ⟨hit',st.2.at fun o e=>hs'.extBut l o hne e⟩ hs'
 done:=fun s Q E st hE=>by
  cases b with
  | true=>exact wpAny_nextOf_list_end hh (show s.heap.IsListIter it l _ from st.1) (show s.heap.IsList l items from st.2) (by simp) hE
  | false=>exact SA hh (show s.heap.IsTupleIter it l _ from st.1) (show s.heap.IsTuple l items from st.2) (by simp) hE
theorem Y5{prog:Program}{w:World}{A:Around}{E:Value->Shared->Prop}{s:Shared}{b:Bool}{a:Addr}{its:Array Value}{Q:Value->Shared->Prop}(h:SeqB b s.heap a its)
  (hQ:Q (.ref s.heap.objs.size) { s with heap:=s.heap.push (V6 b a) }):wpAny (model prog w) A (pyIter (.ref a)) Q E s:=by
 cases b with
 | true=>exact wpAny_pyIter_list (show s.heap.IsList a its from h) hQ
 | false=>exact wpAny_pyIter_tuple (show s.heap.IsTuple a its from h) hQ
set_option maxHeartbeats 4000000 in
theorem RS(b:Bool)(l:Addr)(items:Array Value) :
  Meets (Builtin.«enumerate.__new__» ⟨[.type "enumerate",.ref l],[]⟩) (fun _ R s=>SeqB b s.heap l items/\
   R (.ok (.ret (.ref (s.heap.push (V6 b l)).objs.size)))
    { s with heap:=(s.heap.push (V6 b l)).push { cls:=.type "enumerate",data:=.fields #[.none,.bool false,.ref s.heap.objs.size,rawInt 0,.none,.none] } }):=
 .of_wp fun prog w A R s h=>by
  obtain⟨hp,g,d,tk,os⟩:=s;obtain⟨hl,h⟩:=h
  have hsub:=sub_enumerate
  obtain⟨o,ho⟩:=hl.has
  have hL:SeqB b (Shared.heap ⟨hp,g,d,tk,os⟩) l items:=hl
  wp_walk using wpAny_loadPart' ho
  refine wpAny_stack_any fun st=>wpAny_pure ?_
  split
  ·rename_i c _ _ _ _ _
   cases (c==Value.type "enumerate")
   ·wp_walk using wpAny_loadPart' ho,Y5 hL
    exact⟨_,rfl,h⟩
   ·wp_walk using wpAny_loadPart' ho,Y5 hL
    exact⟨_,rfl,h⟩
  ·wp_walk using wpAny_loadPart' ho,Y5 hL
   exact⟨_,rfl,h⟩
section
variable {prog:Program} {w:World} {A:Around} {E:Value->Shared->Prop} {s:Shared}
theorem QT{b:Bool}{l:Addr}{items:Array Value}{Q:Value->Shared->Prop}(hL:SeqB b s.heap l items)
  (h:∀h',IsEnum h' (s.heap.objs.size+1) s.heap.objs.size 0 .none->IterB b h' s.heap.objs.size l 0->h'.objs.size=s.heap.objs.size+2->
   (∀b o,s.heap.get? b=some o->h'.get? b=some o)->Q (.ref (s.heap.objs.size+1)) { s with heap:=h' }) :
  wpAny (model prog w) A (call (.type "enumerate") [.ref l]) Q E s:=by
 refine callType_new F.called_enumerate (by decide) (F.typeCall_enumerate_1 _) (F.newCall_enumerate_1 _) (fun obj=>F.args_object_init_2 obj _) F.entry_enumerate_new
  (RS b l items) ⟨hL,?_⟩
 have hz:(s.heap.push (V6 b l)).objs.size=s.heap.objs.size+1:=Heap.size_push ..
 show _/\_
 rw[hz]
 have he:IsEnum ((s.heap.push (V6 b l)).push
   { cls:=.type "enumerate",data:=.fields #[.none,.bool false,.ref s.heap.objs.size,rawInt 0,.none,.none] }) (s.heap.objs.size+1) s.heap.objs.size 0 .none:=by
  have:=Heap.get?_push_size (s.heap.push (V6 b l))
   (o:={ cls:=.type "enumerate",data:=.fields #[.none,.bool false,.ref s.heap.objs.size,rawInt 0,.none,.none] }) rfl
  rw[hz] at this;exact this
 refine⟨⟨_,he,rfl⟩,h _ he (IterB.new (Heap.get?_push_of_some _ (Heap.get?_push_size _ rfl))) (by rw[Heap.size_push,hz]) fun b o x=>Heap.get?_push_of_some _ (Heap.get?_push_of_some _ x)⟩
end
def A7(b:Bool)(K:PySem.W.Frag)(a:Addr):It:=
  ⟨fun i H=>∃xs x,QS b K H a xs/\xs[i]?=some x,
   fun i H v H'=>∃p x,H p=none/\v = .ref p/\H'=upd H p (.tup [.int i,x])/\∀xs,QS b K H a xs->xs[i]?=some x,
   fun i H=>∃xs,QS b K H a xs/\xs.length=i⟩
theorem Jh{P:Program}{w:World}{K:PySem.W.Frag}{elts:List Expr}{k:Nat}{pos:Pos}(b:Bool)(a e it:Addr)(hei:e≠it) :
  O6 P w K (.Tuple elts k pos) (A7 b K a) [e,it] e (fun i h=>(∃old,IsEnum h e it i old)/\IterB b h it a i) where
 mem:=by simp
 obj:=fun i h st c hc=>by
  rcases List.mem_cons.mp hc with rfl | hc
  ·obtain⟨⟨old,q⟩,_⟩:=st
   exact⟨_,q,fun v z=>by cases z⟩
  ·rw[List.mem_singleton.mp hc]
   exact st.2.has
 keep:=fun i h h' st kk=>⟨let⟨old,q⟩:=st.1;⟨old,kk e (by simp) _ q⟩,st.2.at fun o q=>kk it (by simp) o q⟩
 item:=by
  intro X hP hw hK hc i pins s σ H E I hf st hg
  subst hP hw hK
  obtain⟨xs,x,hq,hx⟩:=hg
  obtain⟨its,rv,p,hz⟩:=I.seqB hq
  obtain⟨u,hu,ru⟩:=rv.get hx
  obtain⟨⟨old,he⟩,hit⟩:=st
  have fe:=hf e (by simp)
  have fi:=hf it (by simp)
  obtain⟨oa,hoa⟩:=p.has
  have tra:H a=none->a<X.s₀.heap.objs.size\/True:=fun _=>.inr trivial
  -- the sequence is neither record
  have ne_of_fp:∀c,Tu X pins H c->(∃oc,s.heap.get? c=some oc/\∃n vs,oc.cls = .type n/\oc.data = .fields vs)->a≠c:=fun c _ ⟨oc,hoc,n,vs,hn,hv⟩ z=>by
   subst z
   rw[hoa] at hoc;cases hoc
   cases b with
   | true=>obtain⟨o,e1,_,m,d⟩:=(show s.heap.IsList a its.toArray from p);rw[hoa] at e1;cases e1;rw[hv] at d;cases d
   | false=>obtain⟨o,e1,_,m,d⟩:=(show s.heap.IsTuple a its.toArray from p);rw[hoa] at e1;cases e1;rw[hv] at d;cases d
  have ae:a≠e:=ne_of_fp e fe ⟨_,he,_,_,rfl,rfl⟩
  have ai:a≠it:=ne_of_fp it fi (by
   cases b with
   | true=>obtain⟨o,e1,c1,d1⟩:=(show s.heap.IsListIter it a i from hit);exact⟨o,e1,_,_,c1,d1⟩
   | false=>obtain⟨o,e1,c1,d1⟩:=(show s.heap.IsTupleIter it a i from hit);exact⟨o,e1,_,_,c1,d1⟩)
  have D:=Draws.seq (prog:=X.prog) (w:=X.w) (A:=X.A.in1) b (I.ok.hd hc) it a ai its.toArray
  have hlt:i<its.toArray.size:=by
   have:=(List.getElem?_eq_some_iff.mp hu).1
   simpa using this
  refine wpAny_pyNext_enum_itemD D he ⟨hit,p⟩ hlt hei (by simp[hei,Ne.symm ae]) fun y h' tk hPy ho hs' hT hsz hk=>?_
  have ey:y=u:=by
   have q1:its.toArray[i]?=some y:=hPy
   have q2:its.toArray[i]?=some u:=by simpa using hu
   rw[q1] at q2;exact Option.some.inj q2
  subst ey
  refine⟨_,rfl,wpAny_letOwnedTupleGo_enum ho fun h2 he2 hs2=>?_⟩
  have hs2:Heap.SameBut e h' h2:=hs2
  have Tne:s.heap.objs.size≠e:=Nat.ne_of_gt (Heap.lt_size he)
  have hTn:H s.heap.objs.size=none:=I.hok.fresh (Nat.le_refl _)
  have kk:∀c o,c∉[e,it]->s.heap.get? c=some o->h2.get? c=some o:=fun c o hc' q=>hs2.extBut c o (fun z=>hc' (by simp[z])) (hk c o (fun z=>hc' (by simp[z])) (fun z=>hc' (by simp[z])) q)
  have hT2:h2.get? s.heap.objs.size=some { cls:=.type "tuple",data:=.seq #[.int i tk,y] }:=hs2.extBut _ _ Tne hT
  have hcs:∀c∈[e,it],(c∈X.ex\/X.s₀.heap.objs.size<=c)/\c≠X.env.locals/\(∀x d,X.env.cells.lookup x=some d->d≠c)/\∀p∈X.pn++pins,p.1≠c:=fun c hc'=>by
   have f:=hf c hc'
   exact⟨f.2.2.2.1,f.2.1,f.2.2.2.2.1,f.2.2.2.2.2⟩
  have nfp:∀c u',H c=some u'->c∉[e,it]:=fun c u' q hc'=>by rw[(hf c hc').1] at q;cases q
  have hok0:HOk X.prog X.w H h2:=fun c u' q=>(I.hok c u' q).stay (fun d v hd q'=>kk d v (by
    rcases hd with z | z
    ·rw[z];exact nfp c u' q
    ·exact nfp d _ z) q') (fun _ z=>z) fun _ _ z=>z
  have new:ObjOk X.prog X.w (upd H s.heap.objs.size (.tup [.int i,x])) h2 s.heap.objs.size (.tup [.int i,x]):=
   ⟨by show 2<=sizeLine;decide,[.int i tk,y],.cons ⟨tk,rfl⟩ (.cons ru .nil),⟨_,hT2,rfl,_,rfl⟩⟩
  have hok1:HOk X.prog X.w (upd H s.heap.objs.size (.tup [.int i,x])) h2:=fun c u' q=>by
   by_cases hb:c=s.heap.objs.size
   ·subst hb;rw[upd_same] at q;cases q;exact new
   ·rw[upd_ne hb] at q
    exact(hok0 c u' q).stay (fun d v _ q'=>q') (fun d z=>by rw[upd_ne (Zw z hTn)];exact z) fun d zs z=>by rw[upd_ne (Zw z hTn)];exact z
  have un:Un (OZ X.stack) [e,it] H (upd H s.heap.objs.size (.tup [.int i,x])) s.heap h2:=by
   refine⟨fun c o q _ _ hx'=>kk c o hx' q,fun c o q _ _ hx'=>⟨o.slots,kk c o hx' q⟩,fun c o q n _=>?_,fun c o q hx'=>⟨o,kk c o hx' q⟩,fun c zs q=>?_,fun c o zs q=>?_,fun c ps q=>⟨#[],?_⟩⟩
   ·rw[upd_ne (Nat.ne_of_lt (Heap.lt_size q))];exact n
   ·rw[upd_ne (Zw q hTn)];exact q
   ·rw[upd_ne (Zw q hTn)];exact q
   ·rw[upd_ne (Zw q hTn),q];simp
  have I2:Inv X pins σ (upd H s.heap.objs.size (.tup [.int i,x])) { s with heap:=h2,toks:=tk+1 }:=I.call (g':=s.gens) (d':=s.drawn) un hok1 I.bare hcs
  refine⟨.ref s.heap.objs.size,upd H s.heap.objs.size (.tup [.int i,x]),I2,rfl,⟨_,x,hTn,rfl,rfl,fun zs hzs=>by rw[I.seqB_inj hzs hq];exact hx⟩,⟨⟨y,by simpa using he2⟩,?_⟩,fun c hc'=>?_⟩
  ·exact hs'.1.at fun o q=>hs2.extBut it o (Ne.symm hei) q
  ·rw[upd_ne (Nat.ne_of_lt (by
    rcases List.mem_cons.mp hc' with rfl | hc'
    ·exact Heap.lt_size he
    ·rw[List.mem_singleton.mp hc'];obtain⟨o,q,_⟩:=hit.has;exact Heap.lt_size q))]
   exact(hf c hc').1
 done:=by
  intro X hP hw hK hc i pins s σ H E I hf st hg
  subst hP hw hK
  obtain⟨xs,hq,hx⟩:=hg
  obtain⟨its,rv,p,hz⟩:=I.seqB hq
  obtain⟨⟨old,he⟩,hit⟩:=st
  have fi:=hf it (by simp)
  obtain⟨oa,hoa⟩:=p.has
  have ai:a≠it:=fun z=>by
   subst z
   cases b with
   | true=>
    obtain⟨o,e1,_,m,d⟩:=(show s.heap.IsList a its.toArray from p)
    obtain⟨o',e2,_,d2⟩:=(show s.heap.IsListIter a a i from hit)
    rw[e1] at e2;cases e2;rw[d] at d2;cases d2
   | false=>
    obtain⟨o,e1,_,m,d⟩:=(show s.heap.IsTuple a its.toArray from p)
    obtain⟨o',e2,_,d2⟩:=(show s.heap.IsTupleIter a a i from hit)
    rw[e1] at e2;cases e2;rw[d] at d2;cases d2
  have D:=Draws.seq (prog:=X.prog) (w:=X.w) (A:=X.A.in1) b (I.ok.hd hc) it a ai its.toArray
  have hl:=rv.length
  have hi:i=its.toArray.size:=by simp;omega
  refine wpAny_pyNext_enum_endD D he (by rw[<-hi];exact⟨hit,p⟩) fun h' hx'=>⟨rfl,?_⟩
  obtain⟨f0,f1,f2,f3,f4,f5⟩:=fi
  exact I.turned (t':=s.toks) (fun c o hb q=>hx' c o hb q) f0 f1 f3 f4 f5
 self:=fun A i s Q E st hQ=>by
  obtain⟨⟨old,he⟩,_⟩:=st
  exact wpAny_pyIter_enum he hQ
end L2
namespace L2
open PySem PySem.Spec PyProof.Rows
section
variable {X:Cx}
def BB(b:Bool)(K:PySem.W.Frag)(ta:TA):TI:=fun σ H R=>ta σ H fun vs H1=>∃a,vs=[.ref a]/\(∃xs,QS b K H1 a xs)/\R (A7 b K a) H1
theorem Fj{elts:List Expr}{k:Nat}{tpos:Pos}(b:Bool){a:Expr}{ta:TA}{p pos:Pos}(hg:Gl X "enumerate")(hm:X.mg "enumerate" = none)(ha:PA X [a] ta)(hs:starEach [a] X.env=[(false,eval a X.env)]:=by rfl) :
  PI X (.Tuple elts k tpos) (.Call (.Name "enumerate" p) [a] [] pos) (BB b X.K ta):=by
 intro pins s σ H R I h
 refine Call_ (Vg I hg hm (by decide +kernel:bootBuiltins "enumerate" = some (.type "enumerate")) (PyProof.Rows.callWith_type1 (YI (ha pos pins s σ H _ I h) fun us s1 ⟨vs,H1,I1,r1,q1⟩=>?_) hs rfl))
 obtain⟨a,e,⟨xs,hq⟩,q⟩:=q1
 subst e
 cases r1 with
 | cons r rr=>
  cases rr;cases r
  obtain⟨its,rv,hseq,hz⟩:=I1.seqB hq
  refine QT hseq fun h' he hit hsz hk=>?_
  refine wpAny_pyIter_enum he ?_
  have I2:Inv X pins σ H1 { s1 with heap:=h' }:=I1.kept (t':=s1.toks) hk
  have ne:s1.heap.objs.size+1≠s1.heap.objs.size:=Nat.ne_of_gt (Nat.lt_succ_self _)
  refine⟨s1.heap.objs.size+1,[s1.heap.objs.size+1,s1.heap.objs.size],_,_,H1,rfl,I2,Jh b a (s1.heap.objs.size+1) s1.heap.objs.size ne,⟨⟨.none,he⟩,hit⟩,fun c hc=>?_,q⟩
  rcases List.mem_cons.mp hc with rfl | hc
  ·exact I1.fpOk (Nat.le_succ _) (I1.hok.fresh (Nat.le_succ _))
  ·rw[List.mem_singleton.mp hc]
   exact I1.fpOk (Nat.le_refl _) (I1.hok.fresh (Nat.le_refl _))
end
section
variable {prog:Program} {w:World} {A:Around} {E:Value->Shared->Prop} {s:Shared}
structure Pm(z TI TO i1 i2:Addr)(fp1 fp2:List Addr):Prop where
 TIz:TI≠z
 TOz:TO≠z
 i1z:i1≠z
 i2z:i2≠z
 TITO:TI≠TO
 TIi1:TI≠i1
 TIi2:TI≠i2
 TOi1:TO≠i1
 TOi2:TO≠i2
 i12:i1≠i2
 z1:z∉fp1
 TO1:TO∉fp1
 i21:i2∉fp1
 z2:z∉fp2
 TO2:TO∉fp2
 i12':i1∉fp2
theorem IP{z TI TO i1 i2:Addr}{fp1 fp2:List Addr}{n1 n2 k:Nat}{P1 P2:Nat->Value->Prop}{St1 St2:Nat->Heap->Prop}{a b:Value}{Q:Value->Shared->Prop}(D:Pm z TI TO i1 i2 fp1 fp2)
  (D1:Draws prog w A i1 fp1 n1 P1 St1) (D2:Draws prog w A i2 fp2 n2 P2 St2)
  (hz:IsZip s.heap z TI TO .none) (hTI:IsPair s.heap TI (.ref i1) (.ref i2)) (hTO:IsPair s.heap TO a b)
  (h1:St1 k s.heap) (h2:St2 k s.heap) (hx:k<n1) (hy:k<n2)
  (hQ:∀x y h' tk,P1 k x->P2 k y->IsZip h' z TI TO (rawInt s.heap.objs.size)->IsPair h' TO x y->St1 (k+1) h'->St2 (k+1) h'->IsPair h' s.heap.objs.size x y->h'.objs.size=s.heap.objs.size+1->
   (∀c o,c≠z->c≠TO->c≠i1->c≠i2->s.heap.get? c=some o->h'.get? c=some o)->Q (.ref s.heap.objs.size) { s with heap:=h',toks:=tk }) :
  wpAny (model prog w) A (Builtin.«zip.__next__» ⟨[.ref z],[]⟩) (fun fin s'=>∃v,fin = .done (.ret v)/\Q v s') E s:=by
 show wpAny _ _ (field (.ref z) 2 >>= _) _ _ _
 refine wpAny_bind (wpAny_field hz rfl (x:=.bool false) rfl ?_)
 show wpAny _ _ (field (.ref z) 3 >>= _) _ _ _
 refine wpAny_bind (wpAny_field hz rfl (x:=.ref TI) rfl ?_)
 refine wpAny_bind (wpAny_seqItems hTI rfl ?_)
 show wpAny _ _ (Builtin.SmallTypes.ownedTupleIsFree (.ref z) >>= _) _ _ _
 refine wpAny_bind ?_
 unfold Builtin.SmallTypes.ownedTupleIsFree
 refine wpAny_bind (wpAny_field hz rfl (x:=.none) rfl (wpAny_pure ?_))
 simp only[if_true]
 refine wpAny_bind (wpAny_rule ?_)
 refine wpAny_bind (wpAny_field hz rfl (x:=.ref TO) rfl ?_)
 refine wpAny_bind (wpAny_setField_rec hz (by simp) fun h₁ hz₁ hs₁=>?_)
 replace hz₁:IsZip h₁ z TI TO .ellipsis:=hz₁
 refine wpAny_bind ?_
 simp only[List.zipIdx_cons,List.zipIdx_nil,List.forIn_cons,List.forIn_nil]
 refine wpAny_bind (wpAny_bind (wpAny_onRaise ?_))
 show wpAny _ _ (Builtin.SmallTypes.nextOf (.ref i1) >>= _) _ _ _
 have st1:St1 k h₁:=D1.frame _ _ _ h1 fun c hc o e=>hs₁.extBut c o (fun q=>D.z1 (q▸hc)) e
 refine wpAny_bind (D1.item k _ _ _ hx st1 fun x h₂ tk₂ hPx h1₂ hs₂=>wpAny_pure ?_)
 replace hs₂:Heap.SameBut i1 h₁ h₂:=hs₂
 have hTO₂:IsPair h₂ TO a b:=hs₂.extBut _ _ D.TOi1 (hs₁.extBut _ _ D.TOz hTO)
 refine wpAny_bind (wpAny_seqItems hTO₂ rfl ?_)
 refine wpAny_bind (wpAny_updateSeq_pair hTO₂ fun h₃ hTO₃ hs₃=>?_)
 replace hTO₃:IsPair h₃ TO x b:=hTO₃
 replace hs₃:Heap.SameBut TO h₂ h₃:=hs₃
 refine wpAny_bind (wpAny_letGo (wpAny_pure ?_))
 refine wpAny_bind (wpAny_bind (wpAny_onRaise ?_))
 show wpAny _ _ (Builtin.SmallTypes.nextOf (.ref i2) >>= _) _ _ _
 have st2:St2 k h₃:=D2.frame _ _ _ h2 fun c hc o e=>hs₃.extBut c o (fun q=>D.TO2 (q▸hc)) (hs₂.extBut c o (fun q=>D.i12' (q▸hc)) (hs₁.extBut c o (fun q=>D.z2 (q▸hc)) e))
 refine wpAny_bind (D2.item k _ _ _ hy st2 fun y h₄ tk₄ hPy h2₄ hs₄=>wpAny_pure ?_)
 replace hs₄:Heap.SameBut i2 h₃ h₄:=hs₄
 have hTO₄:IsPair h₄ TO x b:=hs₄.extBut _ _ D.TOi2 hTO₃
 refine wpAny_bind (wpAny_seqItems hTO₄ rfl ?_)
 refine wpAny_bind (wpAny_updateSeq_pair hTO₄ fun h₅ hTO₅ hs₅=>?_)
 replace hTO₅:IsPair h₅ TO x y:=hTO₅
 replace hs₅:Heap.SameBut TO h₄ h₅:=hs₅
 refine wpAny_bind (wpAny_letGo (wpAny_pure (wpAny_pure ?_)))
 refine wpAny_bind (wpAny_seqItems hTO₅ rfl ?_)
 refine wpAny_bind (wpAny_newTuple ?_)
 have hsz:h₅.objs.size=s.heap.objs.size:=by rw[hs₅.1,hs₄.1,hs₃.1,hs₂.1,hs₁.1]
 have hz₅:IsZip h₅ z TI TO .ellipsis:=hs₅.extBut _ _ D.TOz.symm (hs₄.extBut _ _ D.i2z.symm (hs₃.extBut _ _ D.TOz.symm (hs₂.extBut _ _ D.i1z.symm hz₁)))
 have hk₅:∀c o,c≠z->c≠TO->c≠i1->c≠i2->s.heap.get? c=some o->h₅.get? c=some o:=fun c o c1 c2 c3 c4 e=>
  hs₅.extBut _ _ c2 (hs₄.extBut _ _ c4 (hs₃.extBut _ _ c2 (hs₂.extBut _ _ c3 (hs₁.extBut _ _ c1 e))))
 have h1₅:St1 (k+1) h₅:=D1.frame _ _ _ h1₂ fun c hc o e=>hs₅.extBut c o (fun q=>D.TO1 (q▸hc)) (hs₄.extBut c o (fun q=>D.i21 (q▸hc)) (hs₃.extBut c o (fun q=>D.TO1 (q▸hc)) e))
 have h2₅:St2 (k+1) h₅:=D2.frame _ _ _ h2₄ fun c hc o e=>hs₅.extBut c o (fun q=>D.TO2 (q▸hc)) e
 have hzlt:z<h₅.objs.size:=Heap.lt_size hz₅
 have hTOlt:TO<h₅.objs.size:=Heap.lt_size hTO₅
 show wpAny _ _ (Builtin.SmallTypes.ownedTupleHandOut (.ref z) (.ref h₅.objs.size) >>= _) _ _ _
 refine wpAny_bind ?_
 unfold Builtin.SmallTypes.ownedTupleHandOut
 have hz₆:IsZip (h₅.push { cls:=.type "tuple",data:=.seq #[x,y] }) z TI TO .ellipsis:=Heap.get?_push_of_some _ hz₅
 refine wpAny_bind (wpAny_setField_rec hz₆ (by simp) fun h₇ hz₇ hs₇=>?_)
 replace hz₇:IsZip h₇ z TI TO (rawInt h₅.objs.size):=hz₇
 refine wpAny_setField_rec hz₇ (by simp) fun h₈ hz₈ hs₈=>?_
 replace hz₈:IsZip h₈ z TI TO (rawInt h₅.objs.size):=hz₈
 have up:∀c o,c≠z->h₅.get? c=some o->h₈.get? c=some o:=fun c o c1 e=>hs₈.extBut _ _ c1 (hs₇.extBut _ _ c1 (Heap.get?_push_of_some _ e))
 have hT₈:IsPair h₈ h₅.objs.size x y:=hs₈.extBut _ _ (Nat.ne_of_gt hzlt) (hs₇.extBut _ _ (Nat.ne_of_gt hzlt) (Heap.get?_push_size _ rfl))
 have hz8:h₈.objs.size=h₅.objs.size+1:=by rw[hs₈.1,hs₇.1,Heap.size_push]
 rw[hsz] at hz₈ hT₈ hz8
 refine wpAny_pure ⟨_,rfl,?_⟩
 show Q (.ref h₅.objs.size) _
 rw[hsz]
 exact hQ x y h₈ tk₄ hPx hPy hz₈ (up _ _ D.TOz hTO₅) (D1.frame _ _ _ h1₅ fun c hc o e=>up c o (fun q=>D.z1 (q▸hc)) e) (D2.frame _ _ _ h2₅ fun c hc o e=>up c o (fun q=>D.z2 (q▸hc)) e) hT₈ hz8 fun c o c1 c2 c3 c4 e=>up c o c1 (hk₅ c o c1 c2 c3 c4 e)
theorem Fm{z TI TO i1 i2:Addr}{fp1 fp2:List Addr}{n1 n2 k:Nat}{P1 P2:Nat->Value->Prop}{St1 St2:Nat->Heap->Prop}{a b:Value}{Q:PySem.Fin->Shared->Prop}(D:Pm z TI TO i1 i2 fp1 fp2)
  (D1:Draws prog w A i1 fp1 n1 P1 St1) (D2:Draws prog w A i2 fp2 n2 P2 St2)
  (hz:IsZip s.heap z TI TO .none) (hTI:IsPair s.heap TI (.ref i1) (.ref i2)) (hTO:IsPair s.heap TO a b)
  (h1:St1 k s.heap) (h2:St2 k s.heap) (hend:k=n1\/(k<n1/\k=n2))
  (hE:∀h' tk e,(∀c o,c≠z->c≠TO->c≠i1->c≠i2->s.heap.get? c=some o->h'.get? c=some o)->(∃o,h'.get? e=some o/\o.cls = .type "StopIteration")->E (.ref e) { s with heap:=h',toks:=tk }) :
  wpAny (model prog w) A (Builtin.«zip.__next__» ⟨[.ref z],[]⟩) Q E s:=by
 show wpAny _ _ (field (.ref z) 2 >>= _) _ _ _
 refine wpAny_bind (wpAny_field hz rfl (x:=.bool false) rfl ?_)
 show wpAny _ _ (field (.ref z) 3 >>= _) _ _ _
 refine wpAny_bind (wpAny_field hz rfl (x:=.ref TI) rfl ?_)
 refine wpAny_bind (wpAny_seqItems hTI rfl ?_)
 show wpAny _ _ (Builtin.SmallTypes.ownedTupleIsFree (.ref z) >>= _) _ _ _
 refine wpAny_bind ?_
 unfold Builtin.SmallTypes.ownedTupleIsFree
 refine wpAny_bind (wpAny_field hz rfl (x:=.none) rfl (wpAny_pure ?_))
 simp only[if_true]
 refine wpAny_bind (wpAny_rule ?_)
 refine wpAny_bind (wpAny_field hz rfl (x:=.ref TO) rfl ?_)
 refine wpAny_bind (wpAny_setField_rec hz (by simp) fun h₁ hz₁ hs₁=>?_)
 replace hz₁:IsZip h₁ z TI TO .ellipsis:=hz₁
 replace hs₁:Heap.SameBut z s.heap h₁:=hs₁
 refine wpAny_bind ?_
 simp only[List.zipIdx_cons,List.zipIdx_nil,List.forIn_cons,List.forIn_nil]
 refine wpAny_bind (wpAny_bind (wpAny_onRaise ?_))
 show wpAny _ _ (Builtin.SmallTypes.nextOf (.ref i1) >>= _) _ _ _
 have st1:St1 k h₁:=D1.frame _ _ _ h1 fun c hc o e=>hs₁.extBut c o (fun q=>D.z1 (q▸hc)) e
 rcases hend with hk | ⟨hx,hk⟩
 ·rw[hk] at st1
  refine wpAny_bind (D1.done _ _ _ st1 fun h₂ e hs₂ he=>?_)
  replace hs₂:Heap.ExtBut i1 h₁ h₂:=hs₂
  obtain⟨oe,hoe,hce⟩:=he
  have hz₂:IsZip h₂ z TI TO .ellipsis:=hs₂ _ _ D.i1z.symm hz₁
  have hez:e≠z:=fun x=>by subst x;rw[hz₂] at hoe;cases hoe;simp at hce
  refine wpAny_setField_rec hz₂ (by simp) fun h₃ _ hs₃=>?_
  replace hs₃:Heap.SameBut z h₂ h₃:=hs₃
  exact hE h₃ _ e (fun c o c1 _ c3 _ x=>hs₃.extBut _ _ c1 (hs₂ _ _ c3 (hs₁.extBut _ _ c1 x))) ⟨oe,hs₃.extBut _ _ hez hoe,hce⟩
 ·refine wpAny_bind (D1.item k _ _ _ hx st1 fun x h₂ tk₂ hPx h1₂ hs₂=>wpAny_pure ?_)
  replace hs₂:Heap.SameBut i1 h₁ h₂:=hs₂
  have hTO₂:IsPair h₂ TO a b:=hs₂.extBut _ _ D.TOi1 (hs₁.extBut _ _ D.TOz hTO)
  refine wpAny_bind (wpAny_seqItems hTO₂ rfl ?_)
  refine wpAny_bind (wpAny_updateSeq_pair hTO₂ fun h₃ hTO₃ hs₃=>?_)
  replace hs₃:Heap.SameBut TO h₂ h₃:=hs₃
  refine wpAny_bind (wpAny_letGo (wpAny_pure ?_))
  refine wpAny_bind (wpAny_bind (wpAny_onRaise ?_))
  show wpAny _ _ (Builtin.SmallTypes.nextOf (.ref i2) >>= _) _ _ _
  have st2:St2 k h₃:=D2.frame _ _ _ h2 fun c hc o e=>hs₃.extBut c o (fun q=>D.TO2 (q▸hc)) (hs₂.extBut c o (fun q=>D.i12' (q▸hc)) (hs₁.extBut c o (fun q=>D.z2 (q▸hc)) e))
  rw[hk] at st2
  refine wpAny_bind (D2.done _ _ _ st2 fun h₄ e hs₄ he=>?_)
  replace hs₄:Heap.ExtBut i2 h₃ h₄:=hs₄
  obtain⟨oe,hoe,hce⟩:=he
  have hz₄:IsZip h₄ z TI TO .ellipsis:=hs₄ _ _ D.i2z.symm (hs₃.extBut _ _ D.TOz.symm (hs₂.extBut _ _ D.i1z.symm hz₁))
  have hez:e≠z:=fun x=>by subst x;rw[hz₄] at hoe;cases hoe;simp at hce
  refine wpAny_setField_rec hz₄ (by simp) fun h₅ _ hs₅=>?_
  replace hs₅:Heap.SameBut z h₄ h₅:=hs₅
  exact hE h₅ _ e (fun c o c1 c2 c3 c4 x=>hs₅.extBut _ _ c1 (hs₄ _ _ c4 (hs₃.extBut _ _ c2 (hs₂.extBut _ _ c3 (hs₁.extBut _ _ c1 x))))) ⟨oe,hs₅.extBut _ _ hez hoe,hce⟩
theorem Rj{z TI TO i1 i2:Addr}{fp1 fp2:List Addr}{n1 n2 k:Nat}{P1 P2:Nat->Value->Prop}{St1 St2:Nat->Heap->Prop}{a b:Value}{Q:Option Value->Shared->Prop}(D:Pm z TI TO i1 i2 fp1 fp2)
  (D1:Draws prog w A.in1 i1 fp1 n1 P1 St1) (D2:Draws prog w A.in1 i2 fp2 n2 P2 St2)
  (hz:IsZip s.heap z TI TO .none) (hTI:IsPair s.heap TI (.ref i1) (.ref i2)) (hTO:IsPair s.heap TO a b)
  (h1:St1 k s.heap) (h2:St2 k s.heap) (hx:k<n1) (hy:k<n2)
  (hQ:∀x y h' tk,P1 k x->P2 k y->IsZip h' z TI TO (rawInt s.heap.objs.size)->IsPair h' TO x y->St1 (k+1) h'->St2 (k+1) h'->IsPair h' s.heap.objs.size x y->h'.objs.size=s.heap.objs.size+1->
   (∀c o,c≠z->c≠TO->c≠i1->c≠i2->s.heap.get? c=some o->h'.get? c=some o)->Q (some (.ref s.heap.objs.size)) { s with heap:=h',toks:=tk }) :
  wpAny (model prog w) A (pyNext (.ref z)) Q E s:=by
 have hT:s.TypeIs (.ref z) "zip":=⟨_,hz,rfl⟩
 unfold pyNext
 exact wpAny_bind (wpAny_attempt (wpAny_callSpecial?_slot (name:=Str.ofString "__next__") hT F.slot_zip_next
  (wpAny_call_entry F.slot_zip_next hT F.entry_zip_next
   (IP D D1 D2 hz hTI hTO h1 h2 hx hy fun x y h' tk p1 p2 a1 a2 a3 a4 a5 a6 a7=>wpAny_pure (hQ x y h' tk p1 p2 a1 a2 a3 a4 a5 a6 a7)) (F.args_zip_next_1 _))))
theorem RT{z TI TO i1 i2:Addr}{fp1 fp2:List Addr}{n1 n2 k:Nat}{P1 P2:Nat->Value->Prop}{St1 St2:Nat->Heap->Prop}{a b:Value}{Q:Option Value->Shared->Prop}(D:Pm z TI TO i1 i2 fp1 fp2)
  (D1:Draws prog w A.in1 i1 fp1 n1 P1 St1) (D2:Draws prog w A.in1 i2 fp2 n2 P2 St2)
  (hz:IsZip s.heap z TI TO .none) (hTI:IsPair s.heap TI (.ref i1) (.ref i2)) (hTO:IsPair s.heap TO a b)
  (h1:St1 k s.heap) (h2:St2 k s.heap) (hend:k=n1\/(k<n1/\k=n2))
  (hQ:∀h' tk,(∀c o,c≠z->c≠TO->c≠i1->c≠i2->s.heap.get? c=some o->h'.get? c=some o)->Q none { s with heap:=h',toks:=tk }):wpAny (model prog w) A (pyNext (.ref z)) Q E s:=by
 have hT:s.TypeIs (.ref z) "zip":=⟨_,hz,rfl⟩
 unfold pyNext
 refine wpAny_bind (wpAny_attempt (wpAny_callSpecial?_slot (name:=Str.ofString "__next__") hT F.slot_zip_next
  (wpAny_call_entry F.slot_zip_next hT F.entry_zip_next (Fm D D1 D2 hz hTI hTO h1 h2 hend fun h' tk e hk he=>?_) (F.args_zip_next_1 _))))
 obtain⟨o,ho,hc⟩:=he
 refine wpAny_bind (wpAny_isInstance (T:="StopIteration") (b:=true) ⟨o,ho,hc⟩ isSubtype_stop ?_)
 exact wpAny_pure (hQ _ tk hk)
end
abbrev Aj(h:Heap)(b1:Bool)(l1:Addr):Heap:=h.push (V6 b1 l1)
abbrev Ak(h:Heap)(b1 b2:Bool)(l1 l2:Addr):Heap:=(Aj h b1 l1).push (V6 b2 l2)
abbrev Al(h:Heap)(b1 b2:Bool)(l1 l2:Addr):Heap:=(Ak h b1 b2 l1 l2).push { cls:=.type "tuple",data:=.seq #[.ref h.objs.size,.ref (Aj h b1 l1).objs.size] }
abbrev Am(h:Heap)(b1 b2:Bool)(l1 l2:Addr):Heap:=(Al h b1 b2 l1 l2).push { cls:=.type "tuple",data:=.seq #[.none,.none] }
abbrev DS(h:Heap)(b1 b2:Bool)(l1 l2:Addr):Heap:=(Am h b1 b2 l1 l2).push { cls:=.type "zip",data:=.fields #[.none,.bool false,.bool false,.ref (Ak h b1 b2 l1 l2).objs.size,.ref (Al h b1 b2 l1 l2).objs.size] }
theorem QU(b1 b2:Bool)(l1 l2:Addr)(xs ys:Array Value) :
  Meets (Builtin.«zip.__new__» ⟨[.type "zip",.ref l1,.ref l2],[]⟩) (fun _ R s=>SeqB b1 s.heap l1 xs/\SeqB b2 s.heap l2 ys/\
   R (.ok (.ret (.ref (Am s.heap b1 b2 l1 l2).objs.size))) { s with heap:=DS s.heap b1 b2 l1 l2 }):=
 .of_wp fun prog w A R s h=>by
  obtain⟨hp,g,d,tk,os⟩:=s;obtain⟨hl1,hl2,h⟩:=h
  have hsub:=sub_zip
  have hL1:SeqB b1 (Shared.heap ⟨hp,g,d,tk,os⟩) l1 xs:=hl1
  have hL2:SeqB b2 (Shared.heap ⟨hp.push (V6 b1 l1),g,d,tk,os⟩) l2 ys:=hl2.at fun o e=>Heap.get?_push_of_some _ e
  wp_walk using Y5 hL1,Y5 hL2
  exact⟨_,rfl,h⟩
section
variable {prog:Program} {w:World} {A:Around} {E:Value->Shared->Prop} {s:Shared}
theorem Od{b1 b2:Bool}{l1 l2:Addr}{xs ys:Array Value}{Q:Value->Shared->Prop}(hl1:SeqB b1 s.heap l1 xs)(hl2:SeqB b2 s.heap l2 ys)
  (h:∀h',IsZip h' (s.heap.objs.size+4) (s.heap.objs.size+2) (s.heap.objs.size+3) .none->IsPair h' (s.heap.objs.size+2) (.ref s.heap.objs.size) (.ref (s.heap.objs.size+1))->
   IsPair h' (s.heap.objs.size+3) .none .none->IterB b1 h' s.heap.objs.size l1 0->IterB b2 h' (s.heap.objs.size+1) l2 0->h'.objs.size=s.heap.objs.size+5->
   (∀c o,s.heap.get? c=some o->h'.get? c=some o)->Q (.ref (s.heap.objs.size+4)) { s with heap:=h' }) :
  wpAny (model prog w) A (call (.type "zip") [.ref l1,.ref l2]) Q E s:=by
 refine callType_new F.called_zip (by decide) (F.typeCall_zip_2 _ _) (F.newCall_zip_2 _ _) (fun obj=>F.args_object_init_3 obj _ _) F.entry_zip_new
  (QU b1 b2 l1 l2 xs ys) ⟨hl1,hl2,?_⟩
 have z1:(Aj s.heap b1 l1).objs.size=s.heap.objs.size+1:=Heap.size_push ..
 have z2:(Ak s.heap b1 b2 l1 l2).objs.size=s.heap.objs.size+2:=by rw[Heap.size_push,z1]
 have z3:(Al s.heap b1 b2 l1 l2).objs.size=s.heap.objs.size+3:=by rw[Heap.size_push,z2]
 have z4:(Am s.heap b1 b2 l1 l2).objs.size=s.heap.objs.size+4:=by rw[Heap.size_push,z3]
 have z5:(DS s.heap b1 b2 l1 l2).objs.size=s.heap.objs.size+5:=by rw[Heap.size_push,z4]
 have g5:(DS s.heap b1 b2 l1 l2).get? (Am s.heap b1 b2 l1 l2).objs.size=some _:=Heap.get?_push_size _ rfl
 have g4:(DS s.heap b1 b2 l1 l2).get? (Al s.heap b1 b2 l1 l2).objs.size=some _:=Heap.get?_push_of_some _ (Heap.get?_push_size _ rfl)
 have g3:(DS s.heap b1 b2 l1 l2).get? (Ak s.heap b1 b2 l1 l2).objs.size=some _:=Heap.get?_push_of_some _ (Heap.get?_push_of_some _ (Heap.get?_push_size _ rfl))
 have g2:(DS s.heap b1 b2 l1 l2).get? (Aj s.heap b1 l1).objs.size=some (V6 b2 l2):=Heap.get?_push_of_some _ (Heap.get?_push_of_some _ (Heap.get?_push_of_some _ (Heap.get?_push_size _ rfl)))
 have g1:(DS s.heap b1 b2 l1 l2).get? s.heap.objs.size=some (V6 b1 l1):=Heap.get?_push_of_some _ (Heap.get?_push_of_some _ (Heap.get?_push_of_some _ (Heap.get?_push_of_some _ (Heap.get?_push_size _ rfl))))
 show _/\_
 rw[z2,z3,z4] at g5;rw[z1,z2] at g3;rw[z3] at g4;rw[z1] at g2;rw[z4]
 exact⟨⟨_,g5,rfl⟩,h _ g5 g3 g4 (IterB.new g1) (IterB.new g2) z5 fun c o x=>
  Heap.get?_push_of_some _ (Heap.get?_push_of_some _ (Heap.get?_push_of_some _ (Heap.get?_push_of_some _ (Heap.get?_push_of_some _ x))))⟩
end
theorem Inv.newTup{X:Cx}{pins:List (Addr×Obj)}{σ:St}{H:Hp}{s:Shared}{fp:List Addr}{h2:Heap}{tk n:Nat}{us:List Value}{xs:List V}(I:Inv X pins σ H s)(hf:∀b∈fp,Tu X pins H b)
  (kk:∀c o,c∉fp->s.heap.get? c=some o->h2.get? c=some o) (hT:h2.get? s.heap.objs.size=some { cls:=.type "tuple",data:=.seq us.toArray n }) (rv:Vals xs us) (hz:xs.length<=sizeLine) :
  Inv X pins σ (upd H s.heap.objs.size (.tup xs)) { s with heap:=h2,toks:=tk }:=by
 have hTn:H s.heap.objs.size=none:=I.hok.fresh (Nat.le_refl _)
 have hcs:∀c∈fp,(c∈X.ex\/X.s₀.heap.objs.size<=c)/\c≠X.env.locals/\(∀x d,X.env.cells.lookup x=some d->d≠c)/\∀p∈X.pn++pins,p.1≠c:=fun c hc'=>by
  have f:=hf c hc'
  exact⟨f.2.2.2.1,f.2.1,f.2.2.2.2.1,f.2.2.2.2.2⟩
 have nfp:∀c u',H c=some u'->c∉fp:=fun c u' q hc'=>by rw[(hf c hc').1] at q;cases q
 have hok0:HOk X.prog X.w H h2:=fun c u' q=>(I.hok c u' q).stay (fun d v hd q'=>kk d v (by
   rcases hd with z | z
   ·rw[z];exact nfp c u' q
   ·exact nfp d _ z) q') (fun _ z=>z) fun _ _ z=>z
 have new:ObjOk X.prog X.w (upd H s.heap.objs.size (.tup xs)) h2 s.heap.objs.size (.tup xs):=
  ⟨hz,us,rv,⟨_,hT,rfl,_,rfl⟩⟩
 have hok1:HOk X.prog X.w (upd H s.heap.objs.size (.tup xs)) h2:=fun c u' q=>by
  by_cases hb:c=s.heap.objs.size
  ·subst hb;rw[upd_same] at q;cases q;exact new
  ·rw[upd_ne hb] at q
   exact(hok0 c u' q).stay (fun d v _ q'=>q') (fun d z=>by rw[upd_ne (Zw z hTn)];exact z) fun d zs z=>by rw[upd_ne (Zw z hTn)];exact z
 have un:Un (OZ X.stack) fp H (upd H s.heap.objs.size (.tup xs)) s.heap h2:=by
  refine⟨fun c o q _ _ hx'=>kk c o hx' q,fun c o q _ _ hx'=>⟨o.slots,kk c o hx' q⟩,fun c o q n _=>?_,fun c o q hx'=>⟨o,kk c o hx' q⟩,fun c zs q=>?_,fun c o zs q=>?_,fun c ps q=>⟨#[],?_⟩⟩
  ·rw[upd_ne (Nat.ne_of_lt (Heap.lt_size q))];exact n
  ·rw[upd_ne (Zw q hTn)];exact q
  ·rw[upd_ne (Zw q hTn)];exact q
  ·rw[upd_ne (Zw q hTn),q];simp
 exact I.call (g':=s.gens) (d':=s.drawn) un hok1 I.bare hcs
theorem Inv.turnedL{X:Cx}{pins:List (Addr×Obj)}{σ:St}{H:Hp}{s:Shared}{fp:List Addr}{h2:Heap}{tk:Nat}(I:Inv X pins σ H s)(hf:∀b∈fp,Tu X pins H b)
  (kk:∀c o,c∉fp->s.heap.get? c=some o->h2.get? c=some o):Inv X pins σ H { s with heap:=h2,toks:=tk }:=by
 have hcs:∀c∈fp,(c∈X.ex\/X.s₀.heap.objs.size<=c)/\c≠X.env.locals/\(∀x d,X.env.cells.lookup x=some d->d≠c)/\∀p∈X.pn++pins,p.1≠c:=fun c hc'=>by
  have f:=hf c hc'
  exact⟨f.2.2.2.1,f.2.1,f.2.2.2.2.1,f.2.2.2.2.2⟩
 have nfp:∀c u',H c=some u'->c∉fp:=fun c u' q hc'=>by rw[(hf c hc').1] at q;cases q
 have hok0:HOk X.prog X.w H h2:=fun c u' q=>(I.hok c u' q).stay (fun d v hd q'=>kk d v (by
   rcases hd with z | z
   ·rw[z];exact nfp c u' q
   ·exact nfp d _ z) q') (fun _ z=>z) fun _ _ z=>z
 have un:Un (OZ X.stack) fp H H s.heap h2:=
  ⟨fun c o q _ _ hx'=>kk c o hx' q,fun c o q _ _ hx'=>⟨o.slots,kk c o hx' q⟩,fun c o q n _=>n,fun c o q hx'=>⟨o,kk c o hx' q⟩,fun c zs q=>q,fun c o zs q=>q,fun c ps q=>⟨#[],by rw[q];simp⟩⟩
 exact I.call (g':=s.gens) (d':=s.drawn) un hok0 I.bare hcs
theorem SeqB.ne_rec{b:Bool}{h:Heap}{a c:Addr}{its:Array Value}{o:Obj}{vs:Array Value}(p:SeqB b h a its)(e:h.get? c=some o)(d:o.data = .fields vs):a≠c:=fun z=>by
 subst z
 cases b with
 | true=>obtain⟨o',e1,_,m,d'⟩:=(show h.IsList a its from p);rw[e] at e1;cases e1;rw[d] at d';cases d'
 | false=>obtain⟨o',e1,_,m,d'⟩:=(show h.IsTuple a its from p);rw[e] at e1;cases e1;rw[d] at d';cases d'
theorem IterB.rec{b:Bool}{h:Heap}{it a:Addr}{i:Nat}(x:IterB b h it a i):∃o,h.get? it=some o/\∃vs,o.data = .fields vs:=by
 cases b with
 | true=>obtain⟨o,e,_,d⟩:=(show h.IsListIter it a i from x);exact⟨o,e,_,d⟩
 | false=>obtain⟨o,e,_,d⟩:=(show h.IsTupleIter it a i from x);exact⟨o,e,_,d⟩
structure DT(a1 a2 TO TI:Addr):Prop where
 a:a1≠TO
 b:a2≠TO
 c:a1≠TI
 d:a2≠TI
def A8(b1 b2:Bool)(K:PySem.W.Frag)(a1 a2:Addr):It:=
  ⟨fun i H=>∃xs ys x y,QS b1 K H a1 xs/\QS b2 K H a2 ys/\xs[i]?=some x/\ys[i]?=some y,
   fun i H v H'=>∃p x y,H p=none/\v = .ref p/\H'=upd H p (.tup [x,y])/\(∀xs,QS b1 K H a1 xs->xs[i]?=some x)/\∀ys,QS b2 K H a2 ys->ys[i]?=some y,
   fun i H=>∃xs ys,QS b1 K H a1 xs/\QS b2 K H a2 ys/\(i=xs.length\/(i<xs.length/\i=ys.length))⟩
theorem IQ{P:Program}{w:World}{K:PySem.W.Frag}{elts:List Expr}{k:Nat}{pos:Pos}(b1 b2:Bool)(a1 a2 z TI TO i1 i2:Addr)(d:[z,TI,TO,i1,i2].Nodup) :
  O6 P w K (.Tuple elts k pos) (A8 b1 b2 K a1 a2) [z,TI,TO,i1,i2] z
   (fun i h=>IsZip h z TI TO .none/\IsPair h TI (.ref i1) (.ref i2)/\(∃u v,IsPair h TO u v/\DT a1 a2 TO TI)/\IterB b1 h i1 a1 i/\IterB b2 h i2 a2 i) where
 mem:=by simp
 obj:=fun i h st c hc=>by
  obtain⟨hz,hTI,⟨u,v,hTO,_⟩,h1,h2⟩:=st
  simp only[List.mem_cons,List.not_mem_nil,or_false] at hc
  rcases hc with rfl | rfl | rfl | rfl | rfl
  ·exact⟨_,hz,fun v q=>by cases q⟩
  ·exact⟨_,hTI,fun v q=>by cases q⟩
  ·exact⟨_,hTO,fun v q=>by cases q⟩
  ·exact h1.has
  ·exact h2.has
 keep:=fun i h h' st kk=>by
  obtain⟨hz,hTI,⟨u,v,hTO,f⟩,h1,h2⟩:=st
  exact⟨kk z (by simp) _ hz,kk TI (by simp) _ hTI,⟨u,v,kk TO (by simp) _ hTO,f⟩,h1.at fun o q=>kk i1 (by simp) o q,h2.at fun o q=>kk i2 (by simp) o q⟩
 item:=by
  intro X hP hw hK hc i pins s σ H E I hf st hg
  subst hP hw hK
  obtain⟨xs,ys,x,y,hq1,hq2,hx,hy⟩:=hg
  obtain⟨its1,rv1,p1,hz1⟩:=I.seqB hq1
  obtain⟨its2,rv2,p2,hz2⟩:=I.seqB hq2
  obtain⟨u,hu,ru⟩:=rv1.get hx
  obtain⟨v,hv,rv⟩:=rv2.get hy
  obtain⟨hz,hTI,⟨q1,q2,hTO,f⟩,h1,h2⟩:=st
  obtain⟨o1,e1,vs1,d1⟩:=h1.rec
  obtain⟨o2,e2,vs2,d2⟩:=h2.rec
  have A1z:a1≠z:=p1.ne_rec hz rfl
  have A2z:a2≠z:=p2.ne_rec hz rfl
  have A11:a1≠i1:=p1.ne_rec e1 d1
  have A12:a1≠i2:=p1.ne_rec e2 d2
  have A21:a2≠i1:=p2.ne_rec e1 d1
  have A22:a2≠i2:=p2.ne_rec e2 d2
  simp only[List.nodup_cons,List.mem_cons,List.not_mem_nil,or_false,not_or,List.nodup_nil,and_true,not_false_eq_true] at d
  obtain⟨⟨dzTI,dzTO,dz1,dz2⟩,⟨dIO,dI1,dI2⟩,⟨dO1,dO2⟩,d12⟩:=d
  obtain⟨f1,f2,f3,f4⟩:=f
  have D:Pm z TI TO i1 i2 [i1,a1] [i2,a2]:=⟨Ne.symm dzTI,Ne.symm dzTO,Ne.symm dz1,Ne.symm dz2,dIO,dI1,dI2,dO1,dO2,d12,by simp[dz1,Ne.symm A1z],by simp[dO1,Ne.symm f1],by simp[Ne.symm d12,Ne.symm A12],by simp[dz2,Ne.symm A2z],by simp[dO2,Ne.symm f2],by simp[d12,Ne.symm A21]⟩
  have D1:=Draws.seq (prog:=X.prog) (w:=X.w) (A:=X.A.in1) b1 (I.ok.hd hc) i1 a1 A11 its1.toArray
  have D2:=Draws.seq (prog:=X.prog) (w:=X.w) (A:=X.A.in1) b2 (I.ok.hd hc) i2 a2 A22 its2.toArray
  have l1:i<its1.toArray.size:=by simpa using(List.getElem?_eq_some_iff.mp hu).1
  have l2:i<its2.toArray.size:=by simpa using(List.getElem?_eq_some_iff.mp hv).1
  refine Rj D D1 D2 hz hTI hTO ⟨h1,p1⟩ ⟨h2,p2⟩ l1 l2 fun x' y' h' tk hPx hPy c1 c2 c3 c4 c5 c6 hk=>?_
  have ex':x'=u:=by
   have w1:its1.toArray[i]?=some x':=hPx
   have w2:its1.toArray[i]?=some u:=by simpa using hu
   rw[w1] at w2;exact Option.some.inj w2
  have ey':y'=v:=by
   have w1:its2.toArray[i]?=some y':=hPy
   have w2:its2.toArray[i]?=some v:=by simpa using hv
   rw[w1] at w2;exact Option.some.inj w2
  subst ex' ey'
  refine⟨_,rfl,wpAny_letOwnedTupleGo_zip c1 fun h3 hz3 hs3=>?_⟩
  replace hs3:Heap.SameBut z h' h3:=hs3
  have kk:∀c o,c∉[z,TI,TO,i1,i2]->s.heap.get? c=some o->h3.get? c=some o:=fun c o hc' q=>
   hs3.extBut c o (fun e=>hc' (by simp[e])) (hk c o (fun e=>hc' (by simp[e])) (fun e=>hc' (by simp[e])) (fun e=>hc' (by simp[e])) (fun e=>hc' (by simp[e])) q)
  have hTn:H s.heap.objs.size=none:=I.hok.fresh (Nat.le_refl _)
  have hT3:h3.get? s.heap.objs.size=some { cls:=.type "tuple",data:=.seq [x',y'].toArray }:=hs3.extBut _ _ (Nat.ne_of_gt (Heap.lt_size hz)) c5
  have I2:=I.newTup (tk:=tk) hf kk hT3 (.cons ru (.cons rv .nil)) (by show 2<=sizeLine;decide)
  refine⟨.ref s.heap.objs.size,_,I2,rfl,⟨_,x,y,hTn,rfl,rfl,fun zs hzs=>by rw[I.seqB_inj hzs hq1];exact hx,fun zs hzs=>by rw[I.seqB_inj hzs hq2];exact hy⟩,⟨hz3,hs3.extBut _ _ (Ne.symm dzTI) (hk _ _ (Ne.symm dzTI) dIO dI1 dI2 hTI),⟨_,_,hs3.extBut _ _ (Ne.symm dzTO) c2,f1,f2,f3,f4⟩,c3.1.at fun o q=>hs3.extBut _ o (Ne.symm dz1) q,c4.1.at fun o q=>hs3.extBut _ o (Ne.symm dz2) q⟩,fun c hc'=>?_⟩
  rw[upd_ne (Nat.ne_of_lt ?_)]
  ·exact(hf c hc').1
  ·simp only[List.mem_cons,List.not_mem_nil,or_false] at hc'
   rcases hc' with rfl | rfl | rfl | rfl | rfl
   ·exact Heap.lt_size hz
   ·exact Heap.lt_size hTI
   ·exact Heap.lt_size hTO
   ·exact Heap.lt_size e1
   ·exact Heap.lt_size e2
 done:=by
  intro X hP hw hK hc i pins s σ H E I hf st hg
  subst hP hw hK
  obtain⟨xs,ys,hq1,hq2,hx⟩:=hg
  obtain⟨its1,rv1,p1,hz1⟩:=I.seqB hq1
  obtain⟨its2,rv2,p2,hz2⟩:=I.seqB hq2
  obtain⟨hz,hTI,⟨q1,q2,hTO,f⟩,h1,h2⟩:=st
  obtain⟨o1,e1,vs1,d1⟩:=h1.rec
  obtain⟨o2,e2,vs2,d2⟩:=h2.rec
  have A1z:a1≠z:=p1.ne_rec hz rfl
  have A2z:a2≠z:=p2.ne_rec hz rfl
  have A11:a1≠i1:=p1.ne_rec e1 d1
  have A12:a1≠i2:=p1.ne_rec e2 d2
  have A21:a2≠i1:=p2.ne_rec e1 d1
  have A22:a2≠i2:=p2.ne_rec e2 d2
  simp only[List.nodup_cons,List.mem_cons,List.not_mem_nil,or_false,not_or,List.nodup_nil,and_true,not_false_eq_true] at d
  obtain⟨⟨dzTI,dzTO,dz1,dz2⟩,⟨dIO,dI1,dI2⟩,⟨dO1,dO2⟩,d12⟩:=d
  obtain⟨f1,f2,f3,f4⟩:=f
  have D:Pm z TI TO i1 i2 [i1,a1] [i2,a2]:=⟨Ne.symm dzTI,Ne.symm dzTO,Ne.symm dz1,Ne.symm dz2,dIO,dI1,dI2,dO1,dO2,d12,by simp[dz1,Ne.symm A1z],by simp[dO1,Ne.symm f1],by simp[Ne.symm d12,Ne.symm A12],by simp[dz2,Ne.symm A2z],by simp[dO2,Ne.symm f2],by simp[d12,Ne.symm A21]⟩
  have D1:=Draws.seq (prog:=X.prog) (w:=X.w) (A:=X.A.in1) b1 (I.ok.hd hc) i1 a1 A11 its1.toArray
  have D2:=Draws.seq (prog:=X.prog) (w:=X.w) (A:=X.A.in1) b2 (I.ok.hd hc) i2 a2 A22 its2.toArray
  have n1:=rv1.length;have n2:=rv2.length
  refine RT D D1 D2 hz hTI hTO ⟨h1,p1⟩ ⟨h2,p2⟩ (by simp only[List.size_toArray];omega) fun h' tk hk=>⟨rfl,?_⟩
  exact I.turnedL hf fun c o hc' q=>hk c o (fun e=>hc' (by simp[e])) (fun e=>hc' (by simp[e])) (fun e=>hc' (by simp[e])) (fun e=>hc' (by simp[e])) q
 self:=fun A i s Q E st hQ=>wpAny_pyIter_zip st.1 hQ
section
variable {X:Cx}
def AN(b1 b2:Bool)(K:PySem.W.Frag)(ta:TA):TI:=fun σ H R=>ta σ H fun vs H1=>∃a1 a2,vs=[.ref a1,.ref a2]/\(∃xs,QS b1 K H1 a1 xs)/\(∃ys,QS b2 K H1 a2 ys)/\R (A8 b1 b2 K a1 a2) H1
theorem DU{elts:List Expr}{k:Nat}{tpos:Pos}(b1 b2:Bool){a b:Expr}{ta:TA}{p pos:Pos}(hg:Gl X "zip")(hm:X.mg "zip" = none)(ha:PA X [a,b] ta)
  (hs:starEach [a,b] X.env=[(false,eval a X.env),(false,eval b X.env)]:=by rfl) (hs2:starEach [b] X.env=[(false,eval b X.env)]:=by rfl) :
  PI X (.Tuple elts k tpos) (.Call (.Name "zip" p) [a,b] [] pos) (AN b1 b2 X.K ta):=by
 intro pins s σ H R I h
 refine Call_ (Vg I hg hm boot_zip (PyProof.Rows.callWith_type1 (YI (ha pos pins s σ H _ I h) fun us s1 ⟨vs,H1,I1,r1,q1⟩=>?_) (by rw[hs,hs2]) (by rw[hs2];rfl)))
 obtain⟨a1,a2,e,⟨xs,hq1⟩,⟨ys,hq2⟩,q⟩:=q1
 subst e
 cases r1 with
 | cons r rr=>
  cases rr with
  | cons r' rr=>
   cases rr;cases r
   cases r'
   obtain⟨its1,rv1,p1,_⟩:=I1.seqB hq1
   obtain⟨its2,rv2,p2,_⟩:=I1.seqB hq2
   refine Od p1 p2 fun h' c1 c2 c3 c4 c5 c6 hk=>?_
   refine wpAny_pyIter_zip c1 ?_
   have I2:Inv X pins σ H1 { s1 with heap:=h' }:=I1.kept (t':=s1.toks) hk
   have L1:a1<s1.heap.objs.size:=let⟨_,e⟩:=p1.has;Heap.lt_size e
   have L2:a2<s1.heap.objs.size:=let⟨_,e⟩:=p2.has;Heap.lt_size e
   generalize hn:s1.heap.objs.size=n at *
   have ne:∀(a:Addr)(j:Nat),a<n->a≠n+j:=fun a j h=>Nat.ne_of_lt (Nat.lt_of_lt_of_le h (Nat.le_add_right _ _))
   have nd:([n+4,n+2,n+3,n,n+1]:List Addr).Nodup:=by
    have hh:∀(i j:Nat),i≠j->(n+i:Nat)≠n+j:=fun i j h e=>h (Nat.add_left_cancel e)
    have h0:∀(i:Nat),i≠0->(n+i:Nat)≠n:=fun i h e=>h (Nat.add_left_cancel (e.trans (Nat.add_zero n).symm))
    simp only[List.nodup_cons,List.mem_cons,List.not_mem_nil,or_false,not_or,List.nodup_nil,and_true,not_false_eq_true]
    exact⟨⟨hh 4 2 (by decide),hh 4 3 (by decide),h0 4 (by decide),hh 4 1 (by decide)⟩,⟨hh 2 3 (by decide),h0 2 (by decide),hh 2 1 (by decide)⟩,⟨h0 3 (by decide),hh 3 1 (by decide)⟩,(h0 1 (by decide)).symm⟩
   refine⟨n+4,[n+4,n+2,n+3,n,n+1],_,_,H1,rfl,I2,IQ b1 b2 a1 a2 (n+4) (n+2) (n+3) n (n+1) nd,⟨c1,c2,⟨_,_,c3,ne a1 3 L1,ne a2 3 L2,ne a1 2 L1,ne a2 2 L2⟩,c4,c5⟩,fun c hc=>?_,q⟩
   have hle:s1.heap.objs.size<=c:=by
    rw[hn];simp only[List.mem_cons,List.not_mem_nil,or_false] at hc
    rcases hc with rfl | rfl | rfl | rfl | rfl
    ·exact Nat.le_add_right _ _
    ·exact Nat.le_add_right _ _
    ·exact Nat.le_add_right _ _
    ·exact Nat.le_refl _
    ·exact Nat.le_add_right _ _
   exact I1.fpOk hle (I1.hok.fresh hle)
end
section
variable {prog:Program} {w:World} {A:Around} {E:Value->Shared->Prop} {s:Shared}
theorem Oe{d:Addr}{o:Obj}{es:Array DictEntry}{ep:Nat}{Q:Value->Shared->Prop}(hd:(d==sysModules)=false)(ho:s.heap.get? d=some o)(hc:o.ExactDict)(hdat:o.data = .dict es ep)
  (hQ:Q (.ref s.heap.objs.size) { s with heap:=s.heap.push { cls:=.type "dict_keyiterator",data:=.fields #[.ref d,.int 0 0,.int es.size 0,.int ep 0] } }) :
  wpAny (model prog w) A (pyIter (.ref d)) Q E s:=by
 have hT:s.TypeIs (.ref d) "dict":=⟨o,ho,hc.1⟩
 refine wpAny_pyIter_slot hT F.slot_dict_iter (wpAny_call_entry F.slot_dict_iter hT F.entry_dict_iter ?_ (F.args_dict_iter_1 _))
 unfold Builtin.«dict.__iter__»
 refine wpAny_bind ?_
 unfold Builtin.Dict.dictSlotNone
 refine wpAny_bind (wpAny_notOrdered_dict hT ?_)
 show wpAny _ _ (pure (Value.ref d)) _ _ s
 refine wpAny_pure ?_
 show wpAny _ _ (Builtin.Dict.showsAll d >>= _) _ _ s
 unfold Builtin.Dict.showsAll
 rw[if_neg (by rw[hd];exact Bool.false_ne_true)]
 refine wpAny_bind (wpAny_pure ?_)
 refine wpAny_bind (wpAny_dictEntries ho hdat ?_)
 refine wpAny_bind (wpAny_dictEpoch ho hdat ?_)
 refine wpAny_bind (wpAny_newObj_type (wpAny_pure ⟨_,rfl,"dict_keyiterator",_,⟨_,Heap.get?_push_size _ rfl,rfl⟩,F.slot_dict_keyiterator_next.lookup,?_⟩))
 simpa [rawInt] using hQ
theorem TC{it d:Addr}{i ep:Nat}{od:Obj}{es:Array DictEntry}{e:DictEntry}{Q:Option Value->Shared->Prop}(hit:s.heap.IsKeyIter it d i es.size ep)
  (hod:s.heap.get? d=some od) (hdd:od.data = .dict es ep) (hx:es[i]?=some e)
  (hQ:∀h',h'.IsKeyIter it d (i+1) es.size ep->Heap.SameBut it s.heap h'->Q (some e.key) { s with heap:=h' }) :
  wpAny (model prog w) A (pyNext (.ref it)) Q E s:=by
 obtain⟨o,ho,hc,hd⟩:=id hit
 unfold pyNext
 refine wpAny_bind (wpAny_attempt (wpAny_callSpecial?_slot (name:=Str.ofString "__next__") hit.typeIs F.slot_dict_keyiterator_next
  (wpAny_call_entry F.slot_dict_keyiterator_next hit.typeIs F.entry_dict_keyiterator_next ?_ (F.args_dict_keyiterator_next_1 _))))
 refine wpAny_bind (wpAny_pure ?_)
 refine wpAny_bind ?_
 refine wpAny_bind ?_
 first | refine wpAny_bind (wpAny_typeNameOfWhole_keyiter hit.typeIs (wpAny_pure ?_)) | refine wpAny_bind (wpAny_typeNameOf_keyiter hit.typeIs (wpAny_pure ?_))
 refine wpAny_bind (wpAny_fieldsOf ho hd ?_)
 have hown:Builtin.Dict_items.ownsTuple "dict_keyiterator" = false:=by decide
 simp only[hown,Bool.false_eq_true,if_false]
 show wpAny _ _ (if(Value.ref d==Value.none)=true then _ else _) _ _ s
 rw[if_neg (show ¬((Value.ref d==Value.none)=true) from Bool.false_ne_true)]
 refine wpAny_bind (wpAny_pure ?_)
 refine wpAny_bind (wpAny_dictEntries hod hdd ?_)
 rw[if_neg (by simp)]
 refine wpAny_bind (wpAny_pure ?_)
 refine wpAny_bind (wpAny_dictEpoch hod hdd ?_)
 rw[if_neg (by simp)]
 refine wpAny_pure ?_
 obtain⟨hlt',he⟩:=Array.getElem?_eq_some_iff.mp hx
 subst he;simp only[show ¬((i:Int)<0) from by omega,if_false,Int.toNat_natCast,Array.getElem?_eq_getElem hlt']
 refine wpAny_bind ?_
 first | refine wpAny_bind (wpAny_typeNameOfWhole_keyiter hit.typeIs (wpAny_pure ?_)) | refine wpAny_bind (wpAny_typeNameOf_keyiter hit.typeIs (wpAny_pure ?_))
 refine wpAny_bind (wpAny_isOneOf_keyiter hit.typeIs ?_)
 show wpAny _ _ (setField (.ref it) 1 (rawInt ((i:Int)+1)) >>= _) _ _ s
 refine wpAny_bind (wpAny_setField ho hd (by simp) ?_)
 have hit':(s.heap.update it (Obj.mapFields (·.setIfInBounds 1 (rawInt ((i:Int)+1))))).IsKeyIter it d (i+1) es.size ep:=
  ⟨_,Heap.get?_update_self _ ho (Obj.isFreed_of_fields (Obj.data_mapFields hd _)),(Obj.cls_mapFields ..).trans hc,by rw[Obj.data_mapFields hd];simp[rawInt]⟩
 refine wpAny_bind (wpAny_holding ?_)
 refine wpAny_bind (wpAny_isOneOf_keyiter (s:={ s with heap:=s.heap.update it (Obj.mapFields (·.setIfInBounds 1 (rawInt ((i:Int)+1)))) }) hit'.typeIs ?_)
 show wpAny _ _ (pure es[i].key) _ _ _
 exact wpAny_pure (wpAny_pure ⟨_,rfl,wpAny_pure (hQ _ hit' (Heap.SameBut.update ..))⟩)
theorem SD{it d:Addr}{ep:Nat}{od:Obj}{es:Array DictEntry}{Q:Option Value->Shared->Prop}(hh:A.handled=none)(hit:s.heap.IsKeyIter it d es.size es.size ep)
  (hod:s.heap.get? d=some od) (hdd:od.data = .dict es ep)
  (hQ:∀h',Heap.ExtBut it s.heap h'->Q none { s with heap:=h' }):wpAny (model prog w) A (pyNext (.ref it)) Q E s:=by
 obtain⟨o,ho,hc,hd⟩:=id hit
 unfold pyNext
 refine wpAny_bind (wpAny_attempt (wpAny_callSpecial?_slot (name:=Str.ofString "__next__") hit.typeIs F.slot_dict_keyiterator_next
  (wpAny_call_entry F.slot_dict_keyiterator_next hit.typeIs F.entry_dict_keyiterator_next ?_ (F.args_dict_keyiterator_next_1 _))))
 refine wpAny_bind (wpAny_pure ?_)
 refine wpAny_bind ?_
 refine wpAny_bind ?_
 first | refine wpAny_bind (wpAny_typeNameOfWhole_keyiter hit.typeIs (wpAny_pure ?_)) | refine wpAny_bind (wpAny_typeNameOf_keyiter hit.typeIs (wpAny_pure ?_))
 refine wpAny_bind (wpAny_fieldsOf ho hd ?_)
 have hown:Builtin.Dict_items.ownsTuple "dict_keyiterator" = false:=by decide
 simp only[hown,Bool.false_eq_true,if_false]
 show wpAny _ _ (if(Value.ref d==Value.none)=true then _ else _) _ _ s
 rw[if_neg (show ¬((Value.ref d==Value.none)=true) from Bool.false_ne_true)]
 refine wpAny_bind (wpAny_pure ?_)
 refine wpAny_bind (wpAny_dictEntries hod hdd ?_)
 rw[if_neg (by simp)]
 refine wpAny_bind (wpAny_pure ?_)
 refine wpAny_bind (wpAny_dictEpoch hod hdd ?_)
 rw[if_neg (by simp)]
 refine wpAny_pure ?_
 simp only[show ¬((es.size:Int)<0) from by omega,if_false,Int.toNat_natCast,Array.getElem?_eq_none (Nat.le_refl es.size)]
 refine wpAny_bind ?_
 first | refine wpAny_bind (wpAny_typeNameOfWhole_keyiter hit.typeIs (wpAny_pure ?_)) | refine wpAny_bind (wpAny_typeNameOf_keyiter hit.typeIs (wpAny_pure ?_))
 show wpAny _ _ (setField (.ref it) 0 .none >>= _) _ _ s
 refine wpAny_bind (wpAny_setField ho hd (by simp) ?_)
 show wpAny _ _ (newExc (.type "StopIteration") [] >>= _) _ _ _
 refine wpAny_bind ?_
 simp only[newExc,newTuple]
 refine wpAny_bind (wpAny_newObj_type ?_ (by size_fits))
 refine wpAny_bind (m:=firstArgMember _ _) (wpAny_of_eq (a:=Value.none) (by first | rfl | (simp only[firstArgMember];rfl)) ?_)
 refine wpAny_newObj_type ?_ (by size_fits)
 simp only[raiseNew]
 refine wpAny_bind (wpAny_handled ?_)
 rw[show A.in1.handled=none from hh]
 refine wpAny_bind (wpAny_pure (wpAny_throw ?_))
 refine wpAny_bind (wpAny_isInstance (T:="StopIteration") (b:=true) ⟨_,Heap.get?_push_size _ rfl,rfl⟩ isSubtype_stop ?_)
 exact wpAny_pure (hQ _ (((Heap.SameBut.update ..).extBut.push _).push _))
end
def DV(d:Addr)(o:Obj)(kvs:List (List YO×V)):It:=
  ⟨fun i H=>H d=some (.frz o (.dT kvs))/\i<kvs.length,
   fun i H v H'=>H'=H/\∃b k y,kvs[i]?=some (k,y)/\v = .ref b/\H b=some (.tup (k.map kV)),
   fun i H=>H d=some (.frz o (.dT kvs))/\i=kvs.length⟩
theorem KT.get{H:Hp}:∀{kvs:List (List YO×V)}{xs:List (List YO×Addr×Value)}{i:Nat}{p:List YO×V},KT H kvs xs->kvs[i]?=some p->∃q,xs[i]?=some q/\p.1=q.1/\H q.2.1=some (.tup (p.1.map kV))/\RelV p.2 q.2.2
 | _,_,_,_,.nil,e=>by simp at e
 | _,_,0,_,.cons r _,e=>by simp at e;subst e;exact⟨_,rfl,r⟩
 | _,_,i+1,p,.cons _ t,e=>by
  obtain⟨q,h1,h2⟩:=KT.get (i:=i) (p:=p) t (by simpa using e)
  exact⟨q,by simpa using h1,h2⟩
theorem Ji{P:Program}{w:World}{K:PySem.W.Frag}{tg:Expr}(d it:Addr)(o:Obj)(es:Array DictEntry)(ep:Nat)(kvs:List (List YO×V))(ho:o.data = .dict es ep)(hlen:es.size=kvs.length) :
  O6 P w K tg (DV d o kvs) [it] it (fun i h=>h.IsKeyIter it d i es.size ep) where
 mem:=by simp
 obj:=fun i h st b hb=>by
  rw[List.mem_singleton.mp hb]
  obtain⟨o,e,c,q⟩:=st
  exact⟨o,e,fun v z=>by rw[q] at z;cases z⟩
 keep:=fun i h h' st k=>by
  obtain⟨o,e,r⟩:=st
  exact⟨o,k it (by simp) o e,r⟩
 item:=by
  intro X hP hw hK hc i pins s σ H E I hf st hg
  subst hP hw hK
  obtain⟨hd,hi⟩:=hg
  obtain⟨e1,z,y,xs,r,o',es',ep',h1,h2,h3,h4,h5⟩:=(show ObjOk X.prog X.w H s.heap d (.frz o (.dT kvs)) from I.hok d _ hd)
  rw[e1] at h1;cases h1
  rw[ho] at h3;cases h3
  have hk:kvs[i]?=some kvs[i]:=List.getElem?_eq_getElem hi
  obtain⟨q,hq,eq,hb,rv⟩:=KT.get r hk
  have he:es[i]?=some (entryOfKey (tupleKind (YW X.prog X.w)) q):=by
   have:=congrArg (fun l=>l[i]?) h4
   simp only[List.getElem?_map,hq,Option.map_some] at this
   simpa using this
  obtain⟨f0,f1,f2,f3,f4,f5⟩:=hf it (by simp)
  refine TC st e1 ho he fun h' st' sb=>?_
  have I1:Inv X pins σ H { s with heap:=h' }:=I.turned (t':=s.toks) (fun b o hb e=>(sb.2 b hb).trans e) f0 f1 f3 f4 f5
  obtain⟨o2,e2,c2,d2⟩:=id st'
  exact⟨_,rfl,LJ (s:={ s with heap:=h' }) e2 c2 d2 (by decide) ⟨.ref q.2.1,H,I1,rfl,⟨rfl,q.2.1,_,_,hk,rfl,hb⟩,st',fun b hb=>(hf b hb).1⟩⟩
 done:=by
  intro X hP hw hK hc i pins s σ H E I hf st hg
  subst hP hw hK
  obtain⟨hd,hi⟩:=hg
  obtain⟨e1,_⟩:=(show ObjOk X.prog X.w H s.heap d (.frz o (.dT kvs)) from I.hok d _ hd)
  obtain⟨f0,f1,f2,f3,f4,f5⟩:=hf it (by simp)
  rw[hi,<-hlen] at st
  exact SD (I.ok.hd hc) st e1 ho fun h' eb=>⟨rfl,I.turned (t':=s.toks) (fun b o hb e=>eb b o hb e) f0 f1 f3 f4 f5⟩
 self:=fun A i s Q E st hQ=>by
  refine wpAny_pyIter_slot st.typeIs F.slot_dict_keyiterator_iter (wpAny_call_entry F.slot_dict_keyiterator_iter st.typeIs F.entry_dict_keyiterator_iter ?_ (F.args_dict_keyiterator_iter_1 _))
  show wpAny _ _ (ret (.ref it)) _ _ s
  exact wpAny_pure ⟨_,rfl,"dict_keyiterator",_,st.typeIs,F.slot_dict_keyiterator_next.lookup,hQ⟩
section
variable {X:Cx} {tg:Expr}
theorem Inv.freeze{pins:List (Addr×Obj)}{σ:St}{H:Hp}{s:Shared}{d:Addr}{kvs:List (List YO×V)}{o:Obj}(I:Inv X pins σ H s)(hd:H d=some (.dT kvs))(ho:s.heap.get? d=some o) :
  Inv X pins σ (upd H d (.frz o (.dT kvs))) s:=by
 have ne:∀b u,H b=some u->(∀k,u≠.dT k)->b≠d:=fun b u q n z=>by rw[z,hd] at q;exact n _ (Option.some.inj q).symm
 have nn:∀b,H b=none->b≠d:=fun b q z=>by rw[z,hd] at q;cases q
 have un:Un X.fs [] H (upd H d (.frz o (.dT kvs))) s.heap s.heap:=
  ⟨fun b o q _ _ _=>q,fun b o q _ _ _=>⟨o.slots,q⟩,fun b o q n _=>by rw[upd_ne (nn b n)];exact n,fun b o q _=>⟨o,q⟩,
   fun b xs q=>by rw[upd_ne (ne b _ q fun _ z=>nomatch z)];exact q,fun b o u q=>by rw[upd_ne (ne b _ q fun _ z=>nomatch z)];exact q,fun b ps q=>⟨#[],by rw[upd_ne (ne b _ q fun _ z=>nomatch z),q];simp⟩⟩
 have hok:HOk X.prog X.w (upd H d (.frz o (.dT kvs))) s.heap:=fun b u q=>by
  have hown:∀c y,H c=some (.own y)->upd H d (.frz o (.dT kvs)) c=some (.own y):=fun c y z=>by rw[upd_ne (ne c _ z fun _ z=>nomatch z)];exact z
  have htup:∀c xs,H c=some (.tup xs)->upd H d (.frz o (.dT kvs)) c=some (.tup xs):=fun c y z=>by rw[upd_ne (ne c _ z fun _ z=>nomatch z)];exact z
  by_cases hb:b=d
  ·subst hb
   rw[upd_same] at q;cases q
   exact⟨ho,(I.hok b _ hd).stay (fun _ _ _ z=>z) (fun c z=>hown c _ z) htup⟩
  ·rw[upd_ne hb] at q
   exact(I.hok b u q).stay (fun _ _ _ z=>z) (fun c z=>hown c _ z) htup
 have:=I.un (t':=s.toks) un hok
 exact this
def LW(tl:TE):TI:=fun σ H R=>tl σ H fun x H1=>∃d kvs,x = .ref d/\((H1 d=some (.dT kvs)/\∀o,R (DV d o kvs) (upd H1 d (.frz o (.dT kvs))))\/∃o,H1 d=some (.frz o (.dT kvs))/\R (DV d o kvs) H1)
theorem Of{l:Expr}{tl:TE}(hl:PE X l tl):PI X tg l (LW tl):=by
 intro pins s σ H R I h
 refine YI (hl pins s σ H _ I h) fun v s1 ⟨x,H1,I1,r1,q1⟩=>?_
 obtain⟨d,kvs,e,q⟩:=q1
 subst e;cases r1
 have core:∀(o:Obj)(H2:Hp),Inv X pins σ H2 s1->H2 d=some (.frz o (.dT kvs))->R (DV d o kvs) H2->wpAny (model X.prog X.w) X.A (pyIter (.ref d)) (AA X pins σ tg R) X.xe s1:=fun o H2 I2 e2 q2=>by
  obtain⟨e1,z,y,xs,r,o',es,ep,h1,h2,h3,h4,h5⟩:=(show ObjOk X.prog X.w H2 s1.heap d (.frz o (.dT kvs)) from I2.hok d _ e2)
  rw[e1] at h1;cases h1
  have hsz:es.size=kvs.length:=by
   have a1:=congrArg List.length h4;have a2:=Paired.length r;simp only[Array.length_toList,List.length_map] at a1;omega
  refine Oe y e1 h2 h3 ?_
  refine⟨s1.heap.objs.size,[s1.heap.objs.size],_,_,H2,rfl,I2.kept (t':=s1.toks) fun b o e=>Heap.get?_push_of_some _ e,Ji d _ o es ep kvs h3 hsz,⟨_,Heap.get?_push_size _ rfl,rfl,rfl⟩,fun b hb=>?_,q2⟩
  rw[List.mem_singleton.mp hb]
  exact I2.fpOk (Nat.le_refl _) (I2.hok.fresh (Nat.le_refl _))
 rcases q with⟨hd,q⟩ | ⟨o,hd,q⟩
 ·obtain⟨z,y,xs,r,o,es,ep,h1,h2,h3,h4,h5⟩:=(show ObjOk X.prog X.w H1 s1.heap d (.dT kvs) from I1.hok d _ hd)
  exact core o _ (I1.freeze hd h1) upd_same (q o)
 ·exact core o H1 I1 hd q
end
theorem Walks.seqB{prog:Program}{w:World}{A:Around}(b:Bool)(hh:A.handled=none)(I ax:Addr)(hne:ax≠I)(items:Array Value) :
  Walks prog w A I [I,ax] [I] items.size (fun i v=>items[i]?=some v) (fun i h=>IterB b h I ax i/\SeqB b h ax items):=by
 cases b with
 | true=>exact Walks.list hh I ax hne items
 | false=>exact Walks.tuple hh I ax hne items
section
variable {X:Cx}
theorem Jj(hc:X.calm=true):Wa X (.builtin "sum") (fun xs H Q=>∃(b:Bool) (p:Addr) (ns:List Int),xs=[.ref p]/\QS b X.K H p (ns.map V.int)/\Q (.int ns.sum) H):=by
 intro pins s σ H xs us Q I r h
 obtain⟨b,p,ns,rfl,hq,q⟩:=h
 obtain⟨u,rfl,rx⟩:=Ud r
 cases rx
 obtain⟨its,rv,hseq,hz⟩:=I.seqB hq
 have hp:p<s.heap.objs.size:=let⟨_,e⟩:=hseq.has;Heap.lt_size e
 refine call_sum_walkG (Y5 hseq ?_)
 refine⟨_,_,_,_,_,_,fun i=>ns.getD i 0,rfl,Walks.seqB (A:=X.A.in1) b (I.ok.hd hc) s.heap.objs.size p (Nat.ne_of_lt hp) its.toArray,⟨IterB.new (Heap.get?_push_size _ rfl),hseq.at fun o e=>Heap.get?_push_of_some _ e⟩,fun c hcm=>?_,fun i v hv=>?_,fun h' tk t' hk=>?_⟩
 ·show c<(s.heap.push _).objs.size
  rw[Heap.size_push]
  rcases List.mem_cons.mp hcm with rfl | hcm
  ·exact Nat.lt_succ_self _
  ·rw[List.mem_singleton.mp hcm];exact Nat.lt_succ_of_lt hp
 ·have hv:its.toArray[i]?=some v:=hv
  have hv:its[i]?=some v:=by simpa using hv
  have hl:=rv.length;rw[List.length_map] at hl
  have hi:i<ns.length:=by rw[hl];exact(List.getElem?_eq_some_iff.mp hv).1
  obtain⟨u,hu,ru⟩:=rv.get (i:=i) (x:=.int ns[i]) (by rw[List.getElem?_map,List.getElem?_eq_getElem hi];rfl)
  rw[hv] at hu;cases hu
  obtain⟨t,rfl⟩:=ru
  refine⟨t,?_⟩
  show Value.int ns[i] t=Value.int (ns.getD i 0) t
  rw[List.getD_eq_getElem?_getD,List.getElem?_eq_getElem hi];rfl
 ·have e:preSum (fun i=>ns.getD i 0) its.toArray.size=ns.sum:=by
   have hl:=rv.length;rw[List.length_map] at hl;rw[List.size_toArray,<-hl]
   have gen:∀k,k<=ns.length->preSum (fun i=>ns.getD i 0) k=(ns.take k).sum:=by
    intro k
    induction k with
    | zero=>intro _;simp[preSum]
    | succ k ih=>
     intro hk;rw[preSum,ih (by omega),List.take_add_one,List.getD_eq_getElem?_getD,List.getElem?_eq_getElem (by omega),List.sum_append]
     simp
   rw[gen _ (Nat.le_refl _),List.take_length]
  rw[e]
  refine⟨.int ns.sum,H,I.kept (fun c o hco=>hk c o ?_ (Heap.get?_push_of_some _ hco)),⟨_,rfl⟩,q⟩
  intro hm;rw[List.mem_singleton.mp hm] at hco
  exact absurd (Heap.lt_size hco) (Nat.lt_irrefl _)
theorem SE(hc:X.calm=true):Wa X (.builtin "all") (fun xs H Q=>∃(b:Bool) (p:Addr) (bs:List Bool),xs=[.ref p]/\QS b X.K H p (bs.map V.bl)/\Q (.bl (bs.all id)) H):=by
 intro pins s σ H xs us Q I r h
 obtain⟨b,p,bs,rfl,hq,q⟩:=h
 obtain⟨u,rfl,rx⟩:=Ud r
 cases rx
 obtain⟨its,rv,hseq,hz⟩:=I.seqB hq
 have hp:p<s.heap.objs.size:=let⟨_,e⟩:=hseq.has;Heap.lt_size e
 have hl:=rv.length;rw[List.length_map] at hl
 refine call_all_walk (Y5 hseq ?_)
 refine⟨_,_,_,_,_,_,fun i=>bs.getD i true,rfl,Walks.seqB (A:=X.A.in1) b (I.ok.hd hc) s.heap.objs.size p (Nat.ne_of_lt hp) its.toArray,⟨IterB.new (Heap.get?_push_size _ rfl),hseq.at fun o e=>Heap.get?_push_of_some _ e⟩,fun i v s' Q' E' hv hQ=>?_,fun h' tk hk=>?_⟩
 ·have hv:its.toArray[i]?=some v:=hv
  have hv:its[i]?=some v:=by simpa using hv
  have hi:i<bs.length:=by rw[hl];exact(List.getElem?_eq_some_iff.mp hv).1
  obtain⟨u,hu,ru⟩:=rv.get (i:=i) (x:=.bl bs[i]) (by rw[List.getElem?_map,List.getElem?_eq_getElem hi];rfl)
  rw[hv] at hu;cases hu;cases ru
  refine wpAny_truthy_bool ?_
  have e:bs.getD i true=bs[i]:=by rw[List.getD_eq_getElem?_getD,List.getElem?_eq_getElem hi];rfl
  rw[<-e];exact hQ
 ·have e:(List.range its.toArray.size).all (fun i=>bs.getD i true)=bs.all id:=by
   rw[List.size_toArray,<-hl,Bool.eq_iff_iff,List.all_eq_true,List.all_eq_true];constructor
   ·intro h x hx
    obtain⟨i,hi,rfl⟩:=List.mem_iff_getElem.mp hx
    have:=h i (List.mem_range.mpr hi)
    rw[List.getD_eq_getElem?_getD,List.getElem?_eq_getElem hi] at this;exact this
   ·intro h i hi
    have hi:=List.mem_range.mp hi;rw[List.getD_eq_getElem?_getD,List.getElem?_eq_getElem hi]
    exact h _ (List.getElem_mem hi)
  rw[e]
  refine⟨.bl (bs.all id),H,I.kept (fun c o hco=>hk c o ?_ (Heap.get?_push_of_some _ hco)),rfl,q⟩
  intro hm;rw[List.mem_singleton.mp hm] at hco
  exact absurd (Heap.lt_size hco) (Nat.lt_irrefl _)
theorem WY:Wa X (.builtin "isinstance") (fun xs H Q=>∃x T t b,xs=[x,.ty T]/\TyOf X.K H x t/\PySem.W.kitOne X.K t (.type T)=some b/\Q (.bl b) H):=by
 intro pins s σ H xs us Q I r h
 obtain⟨x,T,t,b,rfl,ht,hk,q⟩:=h
 obtain⟨u,v,rfl,ru,rv⟩:=LK r
 cases rv
 exact K9 I ru ht hk fun tk=>⟨.bl b,H,I.tok tk,rfl,q⟩
theorem Ni{K:PySem.W.Frag}:PySem.W.kitOne K (.type "int") (.type "int")=some true:=rfl
theorem Og{K:PySem.W.Frag}:PySem.W.kitOne K (.type "int") (.type "bool")=some false:=by first | rfl | decide | (unfold PySem.W.kitOne;rw[if_neg (by decide)];first | rfl | decide | kernel_rfl)
theorem Nj{K:PySem.W.Frag}:PySem.W.kitOne K (.type "tuple") (.type "tuple")=some true:=rfl
theorem QV{K:PySem.W.Frag}:PySem.W.kitOne K (.type "list") (.type "list")=some true:=rfl
theorem Nk{K:PySem.W.Frag}:PySem.W.kitOne K (.type "str") (.type "str")=some true:=rfl
def LX:V->List V->Hp->VK->Prop:=fun x vs H Q=>∃l xs k y,x = .ref l/\vs=[.int k,y]/\H l=some (.lst xs)/\0<=k/\k<2^63/\xs.length<sizeLine/\Q .non (upd H l (.lst (xs.take k.toNat++y::xs.drop k.toNat)))
theorem Jk:AK X "list.insert" LX:=by
 intro pins s σ H x vs v us Q I rx rv h
 obtain⟨l,xs,k,y,rfl,rfl,hH,h0,h1,hz,q⟩:=h
 cases rx
 obtain⟨u1,u2,rfl,r1,r2⟩:=rv.two
 obtain⟨t,rfl⟩:=r1
 obtain⟨z,its,n,r,hl,e⟩:=I.lstM hH
 have hfit:¬(!Builtin.List.listFitsIndex k)=true:=by
  rw[fitsIndex_both (by omega) h1];exact Bool.false_ne_true
 refine call_meets F.slot_list_insert ⟨_,e,rfl⟩ F.entry_list_insert (F.args_list_insert_3 _ _ _) (AutoListH.list_insert_list_int_val_1 l its.toArray n k t u2 hfit (by rw[List.size_toArray];omega)) ⟨e,?_⟩
 refine⟨.non,_,I.lset (its':=its.take k.toNat++u2::its.drop k.toNat) hH e ?_ ((r.take k.toNat).append (.cons r2 (r.drop k.toNat))) ?_,rfl,q⟩
 ·show(have j:=if k<0 then(k+((its.toArray.size:Nat):Int)).toNat else min k.toNat its.toArray.size;(its.toArray.extract 0 j).push u2++its.toArray.extract j)=_
  rw[if_neg (by omega)]
  dsimp only
  by_cases hle:k.toNat<=its.length
  ·rw[Nat.min_eq_left (by rw[List.size_toArray];exact hle)]
   simp
   rw[List.take_of_length_le (by rw[List.length_drop];exact Nat.le_refl _)]
  ·rw[Nat.min_eq_right (by rw[List.size_toArray];omega)]
   rw[List.take_of_length_le (by omega),List.drop_eq_nil_of_le (by omega)]
   simp
 ·rw[List.length_append,List.length_cons,List.length_take,List.length_drop]
  omega
end
def TK(H H':Hp):Prop:=∀b xs,H b=some (.tup xs)->H' b=some (.tup xs)
theorem Same.tk{H H':Hp}(s:Same H H'):TK H H':=fun b xs h=>s b _ h
theorem Same.new{H:Hp}{p:Addr}(h:H p=none)(o:HO):Same H (upd H p o):=fun b u q=>by rw[upd_ne (Zw q h)];exact q
structure Def(K:PySem.W.Frag)(mg:Str->Option Value)(x:Str)(st:Stmt):Prop where
 ex:∃f fd,mg x=some (.ref f)/\Fun K x x st f fd
theorem def_mk{K:PySem.W.Frag}{h:Heap}{mg:Str->Option Value}{x:Str}{st:Stmt}{f:Addr}{oc:Value}{od an:Option Addr}{osl:Array (Option Value)}{kV doc pm cdv ct:Value}(X:K.In h)(G:h.Ns mainGlobals mg)
  (a:PySem.W.nsIn K mainGlobals x=some (some (.ref f))) (l:K.lookup f=some ⟨oc,od,.func (PySem.W.fnOf x x (YX st) (ZZ st) (Zk st) .none kV doc pm an cdv ct),osl⟩)
  (c:PySem.W.codeIn K cdv x=true) (k:PySem.W.keepIn K (.ref f)=true):Def K mg x st:=⟨f,_,PySem.W.mg_of X G a,IK (st:=st) l c k⟩
structure Xj(P:Program)(w:World)(K:PySem.W.Frag)(mg:Str->Option Value)(base:Heap)(x:Str)(ps:List Str)(sp:Sp)(k:Nat):Prop where
 ex:∃f fd,mg x=some (.ref f)/\PySem.W.keepIn K (.ref f)=true/\Binds K fd ps []/\Ue P w K mg base O0 k f fd ps sp
section
variable {P:Program} {w:World} {K:PySem.W.Frag} {mg:Str->Option Value} {base:Heap}
theorem Def.cal{x:Str}{st:Stmt}{N ps:List Str}{k:Nat}{sp:Sp}(D:Def K mg x st)(S:Zy N ps (Zk st))
  (hb:∀(kV doc pm:Value)(an:Option Addr)(cdv ct:Value)(us:List Value),us.length=ps.length->bindArgs (PySem.W.fnOf x x (YX st) (ZZ st) (Zk st) .none kV doc pm an cdv ct) ⟨us,[]⟩=pure (ps.zip us))
  (len:∀vs H Q E,sp vs H Q E->vs.length=ps.length)
  (hbody:∀(f:Addr)(cdv:Value)(A:Around)(outer:List Env)(s:Shared)(H:Hp)(vs:List V)(Q:VK)(E:XK),Room k (A.deeper (envOfC x (Zk st) s.heap.objs.size f cdv))->sp vs H Q E->
   ∃t,PSs (Tv O0 P w K mg base N x (Zk st) f cdv A outer s H E).nox (ZZ st) t/\t { nx:=fun _ H'=>Q .non H',rt:=Q } (start N vs) H):Xj P w K mg base x ps sp (k+1):=by
 obtain⟨f,fd,hm,F⟩:=D.ex
 exact⟨f,fd,hm,F.kp,F.binds hb,F.ok S len fun cdv A outer s H vs Q E hr h=>hbody f cdv A outer s H vs Q E hr h⟩
end
section
variable {X:Cx} {x:Str} {ps:List Str} {sp:Sp} {k:Nat} {e:Expr} {es:List Expr} {t:TA} {p pos:Pos}
theorem DW(C:Xj X.prog X.w X.K X.mg X.base x ps sp k)(hr:Room k X.A)(hg:Gl X x)(ha:PA X (e::es) t)
  (hdb:(x==("__debug__" : Str))=false:=by decide) (he:starEach (e::es) X.env=(false,eval e X.env)::starEach es X.env:=by rfl) (hpl:(backTo pos (starEach es X.env)).any (·.1)=false:=by rfl) :
  PE X (.Call (.Name x p) (e::es) [] pos) (EM sp [] E0 t):=by
 obtain⟨f,fd,a,b,c,d⟩:=C.ex
 exact LL d hr hg a b c .nil ES ha hdb he hpl
end
def Ta(N:List Str)(around scope:Scope)(own fr:List Str)(ix:List Nat):Bool:=
 (match scope.kind with | .function=>true | _=>false)&&scope.names.all (fun y=>y.2 != .cell)&&scope.names.all (fun y=>y.2 != .local || scope.names.lookup y.1==some .local)&&
 scope.names.all (fun y=>y.2 != .free || (around.names.lookup y.1==some .cell || around.names.lookup y.1==some .free))&&(fr.map some==ix.map (fun i=>N[i]?))&&
 fr.all (fun x=>scope.names.contains (x,NameKind.free))&&fr.all (fun x=>scope.names.lookup x != some .local)
theorem Pn{N:List Str}{around scope:Scope}{own fr:List Str}{ix:List Nat}(h:Ta N around scope own fr ix=true):CompScope N around scope own fr ix:=by
 unfold Ta at h;simp only[Bool.and_eq_true] at h
 obtain⟨⟨⟨⟨⟨⟨h1,h2⟩,h3⟩,h4⟩,h5⟩,h6⟩,h7⟩:=h
 refine⟨?_,fun y hy=>?_,fun y hy e=>?_,fun y hy e=>?_,by simpa using h5,fun x hx=>?_,fun x hx=>?_⟩
 ·split at h1
  ·assumption
  ·cases h1
 ·simpa using List.all_eq_true.mp h2 y hy
 ·have:=List.all_eq_true.mp h3 y hy
  rw[e] at this
  simpa using this
 ·have:=List.all_eq_true.mp h4 y hy
  rw[e] at this
  simpa using this
 ·simpa using List.all_eq_true.mp h6 x hx
 ·simpa using List.all_eq_true.mp h7 x hx
section
variable {X:Cx} {tg elt iter:Expr} {ifs:List Expr} {scope:Scope} {pos:Pos} {wi:TI} {g:TG} {tt:TT} {te:TE}
theorem Nl(own fr:List Str)(ix:List Nat)(hcalm:X.calm=true)(hi:PI X tg iter wi)(S:Ta X.N X.env.scope scope own fr ix=true)
  (hg:∀cl C s H ex,PG (ZR X (own++fr) scope cl C s H ex) tg g) (ht:∀cl C s H ex,IL (ZR X (own++fr) scope cl C s H ex) ifs tt) (he:∀cl C s H ex,PE (ZR X (own++fr) scope cl C s H ex) elt te)
  (hs:∀x,foldedSetIterable iter X.env x=pure x:=by intro _;rfl):PE X (.ListComp elt [⟨tg,iter,ifs,0⟩] scope pos) (Pl own.length ix wi g tt te):=
 Fg hcalm hi (Pn S) hg ht he hs
theorem IS(own fr:List Str)(ix:List Nat){i:Nat}{y:Str}{py spos:Pos}(hN:X.N.Nodup)(hy:X.N[i]?=some y)(hloc:X.env.scope.names.lookup y=some .local)(hcalm:X.calm=true)(hi:PI X tg iter wi)(S:Ta X.N X.env.scope scope own fr ix=true)
  (hg:∀cl C s H ex,PG (ZR X (own++fr) scope cl C s H ex) tg g) (ht:∀cl C s H ex,IL (ZR X (own++fr) scope cl C s H ex) ifs tt) (he:∀cl C s H ex,PE (ZR X (own++fr) scope cl C s H ex) elt te)
  (hsw:swapsWith (.ListComp elt [⟨tg,iter,ifs,0⟩] scope pos) (some (.Name y py)) spos.line X.env=pure true:=by rfl)
  (hs:∀x,foldedSetIterable iter X.env x=pure x:=by intro _;rfl):PS X (.Assign [.Name y py] (.ListComp elt [⟨tg,iter,ifs,0⟩] scope pos) spos) (MD (Pl own.length ix wi g tt te) (S4 i)):=
 Fh hN hy hloc hcalm hi (Pn S) hg ht he hsw hs
end
structure Tb(mg:Str->Option Value):Prop where
 «len» : mg "len" = none
 «sum» : mg "sum" = none
 «range» : mg "range" = none
 «enumerate» : mg "enumerate" = none
 «zip» : mg "zip" = none
 «tuple» : mg "tuple" = none
 «list» : mg "list" = none
 «all» : mg "all" = none
 «any» : mg "any" = none
 «isinstance» : mg "isinstance" = none
 «int» : mg "int" = none
 «bool» : mg "bool" = none
 «str» : mg "str" = none
 «min» : mg "min" = none
 «max» : mg "max" = none
 «sorted» : mg "sorted" = none
 «abs» : mg "abs" = none
 «ValueError» : mg "ValueError" = none
 «reversed» : mg "reversed" = none
abbrev DY(g:TG)(tb:TS)(D:V9)(σ:St)(J:It)(H:Hp):Prop:=
 ∃W:Nat->Nat->St->Hp->Prop,(∃m,W 0 m σ H)/\∀i m σ H,W i m σ H->
   (J.stop i H/\D.nx σ H)\/(J.go i H/\∃N:St->Hp->Prop,(∀σ' H',N σ' H'->∃m',m'<m/\W (i+1) m' σ' H')/\∀x H',J.yld i H x H'->g x σ H' fun σ2 H2=>tb { D with nx:=N,ct:=N,bk:=D.nx } σ2 H2)
def YE(l:List Int)(i:Nat):Int:=l.getD i 0
theorem Jl(l:List Int):(List.range l.length).map (YE l)=l:=by
 apply List.ext_getElem?
 intro i;rw[List.getElem?_map]
 by_cases h:i<l.length
 ·rw[List.getElem?_eq_getElem (by simpa using h),List.getElem?_eq_getElem h]
  simp[YE,List.getD_eq_getElem?_getD,List.getElem?_eq_getElem h]
 ·rw[List.getElem?_eq_none (by simpa using h),List.getElem?_eq_none (by omega)];rfl
theorem QX{f:Nat->Int}{n i:Nat}(h:i<n):YE ((List.range n).map f) i=f i:=by
 unfold YE
 rw[List.getD_eq_getElem?_getD,List.getElem?_map,List.getElem?_range h];rfl
def ZD(w:List (List Int))(i:Nat):List Int:=w.getD i []
theorem RU{w:List (List Int)}{i:Nat}(h:i<w.length):w[i]?=some (ZD w i):=by
 unfold ZD
 rw[List.getD_eq_getElem?_getD,List.getElem?_eq_getElem h];rfl
def Z2(w:List (List Int))(i j:Nat):Int:=YE (ZD w i) j
structure WebOk(w:List (List Int)):Prop where
 pos:1<=w.length
 few:w.length<=7
 sq:∀i,i<w.length->(ZD w i).length=w.length
 lo:∀i j,i<w.length->j<w.length->0<=Z2 w i j
 hi:∀i j,i<w.length->j<w.length->Z2 w i j<=9
 sym:∀i j,i<w.length->j<w.length->Z2 w i j=Z2 w j i
 dia:∀i,i<w.length->Z2 w i i=0
def DZ(K:PySem.W.Frag):List V->Hp->VK->Prop:=fun xs H Q=>∃p ys,xs=[.ref p]/\((SqL K H p ys/\∀l,H l=none->Q (.ref l) (upd H l (.tup ys)))\/(SqT K H p ys/\Q (.ref p) H))
def Fo(K:PySem.W.Frag):List V->Hp->VK->Prop:=fun xs H Q=>∃p ys,xs=[.ref p]/\(SqL K H p ys\/SqT K H p ys)/\∀l,H l=none->Q (.ref l) (upd H l (.lst ys))
theorem Same.off{H Hc:Hp}{p:Addr}(s:Same H Hc)(n:Hc p=none):H p=none:=s.free n
abbrev Y6:=Nat×Nat×Int
def Jm(e:Y6):List YO×V:=([.inl (e.1:Int),.inl (e.2.1:Int)],.int e.2.2)
def dE(ts:List Y6):List (List YO×V):=ts.map Jm
structure DictOk(n:Nat)(ts:List Y6):Prop where
 ok:∀e∈ts,e.1<e.2.1/\e.2.1<n/\1<=e.2.2/\e.2.2<=9
 nd:(ts.map fun e=>(e.1,e.2.1)).Nodup
theorem Oh{a b a' b':Nat}(h:([Sum.inl (a:Int),Sum.inl (b:Int)]:List YO)=[Sum.inl (a':Int),Sum.inl (b':Int)]):a=a'/\b=b':=by
 have h1:=(List.cons.inj h).1
 have h2:=(List.cons.inj (List.cons.inj h).2).1
 have e1:=Sum.inl.inj h1;have e2:=Sum.inl.inj h2;omega
theorem DictOk.nil(n:Nat):DictOk n []:=⟨fun _ h=>by simp at h,by simp⟩
theorem Fp{ts:List Y6}{a b:Nat}:(∀t,(a,b,t)∉ts)->Ug (dE ts) [.inl (a:Int),.inl (b:Int)]=none:=by
 intro h;unfold Ug dE;rw[Option.map_eq_none_iff,List.find?_eq_none];intro x hx
 obtain⟨e,he,rfl⟩:=List.mem_map.mp hx
 intro q;have q:=of_decide_eq_true q
 obtain⟨h1,h2⟩:=Oh q
 obtain⟨a',b',t⟩:=e
 simp only at h1 h2
 subst h1 h2
 exact h t he
theorem D3{n:Nat}{ts:List Y6}{a b:Nat}{t:Int}(ok:DictOk n ts)(hab:a<b)(hb:b<n)(h1:1<=t)(h9:t<=9) :
  ∃ts',Vm (dE ts) [.inl (a:Int),.inl (b:Int)] (.int t)=dE ts'/\DictOk n ts'/\ts'.length<=ts.length+1:=by
 by_cases hm:∃t',(a,b,t')∈ts
 ·-- it is there: replaced
  obtain⟨t',hm⟩:=hm
  refine⟨ts.map fun e=>if(e.1,e.2.1)=(a,b) then(e.1,e.2.1,t) else e,?_,⟨?_,?_⟩,by simp⟩
  ·unfold Vm
   rw[if_pos ?_]
   ·unfold dE
    rw[List.map_map,List.map_map]
    apply List.map_congr_left
    intro e _
    show(if(Jm e).1=_ then((Jm e).1,V.int t) else Jm e)=Jm (if(e.1,e.2.1)=(a,b) then(e.1,e.2.1,t) else e)
    by_cases q:(e.1,e.2.1)=(a,b)
    ·rw[if_pos q,if_pos ?_]
     ·rfl
     ·have:=Prod.mk.inj q
      show([.inl (e.1:Int),.inl (e.2.1:Int)]:List YO)=_
      rw[this.1,this.2]
    ·rw[if_neg q,if_neg ?_]
     intro z
     obtain⟨h1,h2⟩:=Oh (show([.inl (e.1:Int),.inl (e.2.1:Int)]:List YO)=_ from z)
     exact q (by rw[h1,h2])
   ·rw[List.any_eq_true]
    exact⟨Jm (a,b,t'),List.mem_map.mpr ⟨_,hm,rfl⟩,decide_eq_true rfl⟩
  ·intro e he
   obtain⟨e',he',rfl⟩:=List.mem_map.mp he
   have:=ok.ok e' he'
   by_cases q:(e'.1,e'.2.1)=(a,b)
   ·rw[if_pos q];exact⟨this.1,this.2.1,h1,h9⟩
   ·rw[if_neg q];exact this
  ·rw[List.map_map]
   have e:((fun e:Y6=>(e.1,e.2.1)) ∘ fun e:Y6=>if(e.1,e.2.1)=(a,b) then(e.1,e.2.1,t) else e)=fun e:Y6=>(e.1,e.2.1):=by
    funext e
    show((if(e.1,e.2.1)=(a,b) then((e.1,e.2.1,t):Y6) else e).1,(if(e.1,e.2.1)=(a,b) then((e.1,e.2.1,t):Y6) else e).2.1)=_
    by_cases q:(e.1,e.2.1)=(a,b)
    ·rw[if_pos q]
    ·rw[if_neg q]
   rw[e];exact ok.nd
 ·have hn:∀t',(a,b,t')∉ts:=fun t' h=>hm ⟨t',h⟩
  refine⟨ts++[(a,b,t)],?_,⟨?_,?_⟩,by simp⟩
  ·rw[IH _ (Fp hn)]
   unfold dE
   rw[List.map_append];rfl
  ·intro e he
   rcases List.mem_append.mp he with q | q
   ·exact ok.ok e q
   ·rw[List.mem_singleton.mp q];exact⟨hab,hb,h1,h9⟩
  ·rw[List.map_append]
   refine Ob ok.nd ?_
   rw[List.mem_map]
   rintro⟨e,he,q⟩
   obtain⟨a',b',t'⟩:=e
   have:=Prod.mk.inj q
   simp only at this
   rw[this.1,this.2] at he
   exact hn t' he
def Wb(M:List (List Int))(a b:Nat)(t:Int):List (List Int):=M.set a ((ZD M a).set b t)
def Z6(M:List (List Int))(e:Y6):List (List Int):=Wb (Wb M e.1 e.2.1 e.2.2) e.2.1 e.1 e.2.2
def LY(n:Nat)(ts:List Y6):List (List Int):=ts.foldl Z6 (List.replicate n (List.replicate n 0))
structure MatOk(n:Nat)(M:List (List Int)):Prop where
 len:M.length=n
 row:∀i,i<n->(ZD M i).length=n
 lo:∀i j,i<n->j<n->0<=Z2 M i j
 hi:∀i j,i<n->j<n->Z2 M i j<=9
 sym:∀i j,i<n->j<n->Z2 M i j=Z2 M j i
 dia:∀i,i<n->Z2 M i i=0
theorem Po{M:List (List Int)}{a i:Nat}{r:List Int}(ha:a<M.length):ZD (M.set a r) i=if a=i then r else ZD M i:=by
 unfold ZD;rw[List.getD_eq_getElem?_getD,List.getD_eq_getElem?_getD,List.getElem?_set]
 by_cases h:a=i
 ·subst h;simp[ha]
 ·simp[h]
theorem Fq{l:List Int}{b j:Nat}{t:Int}(hb:b<l.length):YE (l.set b t) j=if b=j then t else YE l j:=by
 unfold YE;rw[List.getD_eq_getElem?_getD,List.getD_eq_getElem?_getD,List.getElem?_set]
 by_cases h:b=j
 ·subst h;simp[hb]
 ·simp[h]
theorem TF{n:Nat}{M:List (List Int)}{a b i j:Nat}{t:Int}(hl:M.length=n)(hr:∀i,i<n->(ZD M i).length=n)(ha:a<n)(hb:b<n):Z2 (Wb M a b t) i j=if a=i/\b=j then t else Z2 M i j:=by
 show YE (ZD (M.set a ((ZD M a).set b t)) i) j=_
 rw[Po (by omega)]
 by_cases h:a=i
 ·subst h
  rw[if_pos rfl,Fq (by rw[hr a ha];exact hb)]
  by_cases q:b=j
  ·rw[if_pos q,if_pos ⟨rfl,q⟩]
  ·rw[if_neg q,if_neg (fun z=>q z.2)];rfl
 ·rw[if_neg h,if_neg (fun z=>h z.1)];rfl
theorem VH{n:Nat}{M:List (List Int)}{a b:Nat}{t:Int}(hl:M.length=n)(hr:∀i,i<n->(ZD M i).length=n)(ha:a<n):(Wb M a b t).length=n/\∀i,i<n->(ZD (Wb M a b t) i).length=n:=by
 refine⟨by unfold Wb;rw[List.length_set];exact hl,fun i hi=>?_⟩
 show(ZD (M.set a ((ZD M a).set b t)) i).length=n
 rw[Po (by omega)]
 split
 ·rw[List.length_set];exact hr a ha
 ·exact hr i hi
theorem MatOk.step{n:Nat}{M:List (List Int)}{e:Y6}(ok:MatOk n M)(h:e.1<e.2.1/\e.2.1<n/\1<=e.2.2/\e.2.2<=9):MatOk n (Z6 M e):=by
 obtain⟨a,b,t⟩:=e
 obtain⟨hab,hb,h1,h9⟩:=h
 simp only at hab hb h1 h9
 have ha:a<n:=by omega
 obtain⟨l1,r1⟩:=VH (t:=t) (b:=b) ok.len ok.row ha
 obtain⟨l2,r2⟩:=VH (t:=t) (b:=a) l1 r1 hb
 have E:∀i j,Z2 (Wb (Wb M a b t) b a t) i j=if b=i/\a=j then t else if a=i/\b=j then t else Z2 M i j:=fun i j=>by
  rw[TF l1 r1 hb ha,TF ok.len ok.row ha hb]
 refine⟨l2,r2,fun i j hi hj=>?_,fun i j hi hj=>?_,fun i j hi hj=>?_,fun i hi=>?_⟩
 ·show 0<=Z2 (Wb (Wb M a b t) b a t) i j
  rw[E];split
  ·omega
  ·split
   ·omega
   ·exact ok.lo i j hi hj
 ·show Z2 (Wb (Wb M a b t) b a t) i j<=9
  rw[E];split
  ·omega
  ·split
   ·omega
   ·exact ok.hi i j hi hj
 ·show Z2 (Wb (Wb M a b t) b a t) i j=Z2 (Wb (Wb M a b t) b a t) j i
  rw[E,E];have s:=ok.sym i j hi hj
  by_cases q1:b=i/\a=j
  ·rw[if_pos q1]
   obtain⟨rfl,rfl⟩:=q1
   rw[if_neg (by omega),if_pos ⟨rfl,rfl⟩]
  ·rw[if_neg q1]
   by_cases q2:a=i/\b=j
   ·rw[if_pos q2]
    obtain⟨rfl,rfl⟩:=q2
    rw[if_pos ⟨rfl,rfl⟩]
   ·rw[if_neg q2,if_neg (fun z=>q2 ⟨z.2,z.1⟩),if_neg (fun z=>q1 ⟨z.2,z.1⟩),s]
 ·show Z2 (Wb (Wb M a b t) b a t) i i=0
  rw[E,if_neg (by omega),if_neg (by omega)]
  exact ok.dia i hi
theorem MatOk.zero(n:Nat):MatOk n (List.replicate n (List.replicate n 0)):=by
 have r:∀i,i<n->ZD (List.replicate n (List.replicate n (0:Int))) i=List.replicate n 0:=fun i hi=>by
  unfold ZD
  rw[List.getD_eq_getElem?_getD,List.getElem?_replicate,if_pos hi];rfl
 have z:∀i j,i<n->j<n->Z2 (List.replicate n (List.replicate n (0:Int))) i j=0:=fun i j hi hj=>by
  show YE (ZD _ i) j=0
  rw[r i hi];unfold YE
  rw[List.getD_eq_getElem?_getD,List.getElem?_replicate,if_pos hj];rfl
 exact⟨by simp,fun i hi=>by rw[r i hi];simp,fun i j hi hj=>by rw[z i j hi hj];omega,fun i j hi hj=>by rw[z i j hi hj];omega,fun i j hi hj=>by rw[z i j hi hj,z j i hj hi],fun i hi=>z i i hi hi⟩
theorem RV{n:Nat}{ts:List Y6}(ok:DictOk n ts):MatOk n (LY n ts):=by
 have gen:∀(l:List Y6)(M:List (List Int)),(∀e∈l,e.1<e.2.1/\e.2.1<n/\1<=e.2.2/\e.2.2<=9)->MatOk n M->MatOk n (l.foldl Z6 M):=by
  intro l
  induction l with
  | nil=>intro M _ h;exact h
  | cons e r ih=>
   intro M h hM;rw[List.foldl_cons]
   exact ih _ (fun e' he'=>h e' (List.mem_cons_of_mem _ he')) (hM.step (h e List.mem_cons_self))
 exact gen ts _ ok.ok (MatOk.zero n)
theorem MatOk.web{n:Nat}{M:List (List Int)}(h:MatOk n M)(h1:1<=n)(h7:n<=7):WebOk M:=by
 have e:=h.len;subst e
 exact⟨h1,h7,h.row,h.lo,h.hi,h.sym,h.dia⟩
theorem Fs(l:List Int):((List.range l.length).map (YE l)).sum=l.sum:=by rw[Jl]
theorem Nm{α:Type}(n:Nat)(x:α):(List.replicate n [x]).flatten=List.replicate n x:=by
 induction n with
 | zero=>rfl
 | succ n ih=>rw[List.replicate_succ,List.flatten_cons,ih];rfl
theorem MN{α β:Type}(f:β->α->β)(s:β){l:List α}{i:Nat}{x:α}(h:l[i]?=some x):(l.take (i+1)).foldl f s=f ((l.take i).foldl f s) x:=by
 rw[List.take_add_one,h]
 show List.foldl f s (l.take i++[x])=_
 rw[List.foldl_append];rfl
structure NamesOk(i:Nat)(l:List Int):Prop where
 len:l.length=i
 nd:l.Nodup
 lo:∀x∈l,0<=x
 hi:∀x∈l,x<i
theorem NamesOk.nil:NamesOk 0 []:=⟨rfl,List.nodup_nil,fun _ h=>by simp at h,fun _ h=>by simp at h⟩
theorem NamesOk.ins{i:Nat}{l:List Int}(h:NamesOk i l)(k:Nat):NamesOk (i+1) (l.take k++(i:Int)::l.drop k):=by
 have hp:(l.take k++(i:Int)::l.drop k).Perm ((i:Int)::l):=by
  have:=List.perm_middle (a:=(i:Int)) (l₁:=l.take k) (l₂:=l.drop k)
  rw[List.take_append_drop] at this;exact this
 refine⟨by rw[hp.length_eq,List.length_cons,h.len],?_,fun x hx=>?_,fun x hx=>?_⟩
 ·rw[hp.nodup_iff,List.nodup_cons]
  exact⟨fun hm=>by have:=h.hi _ hm;omega,h.nd⟩
 ·rcases List.mem_cons.mp (hp.mem_iff.mp hx) with e | e
  ·omega
  ·exact h.lo x e
 ·rcases List.mem_cons.mp (hp.mem_iff.mp hx) with e | e
  ·omega
  ·have:=h.hi x e;omega
theorem NamesOk.at{i:Nat}{l:List Int}(h:NamesOk i l){x:Nat}(hx:x<i):0<=YE l x/\YE l x<i:=by
 have e:YE l x=l[x]'(by rw[h.len];exact hx):=by
  unfold YE
  rw[List.getD_eq_getElem?_getD,List.getElem?_eq_getElem (by rw[h.len];exact hx)];rfl
 rw[e]
 exact⟨h.lo _ (List.getElem_mem _),h.hi _ (List.getElem_mem _)⟩
theorem NamesOk.ne{i:Nat}{l:List Int}(h:NamesOk i l){x y:Nat}(hx:x<i)(hy:y<i)(n:x≠y):YE l x≠YE l y:=by
 have ex:YE l x=l[x]'(by rw[h.len];exact hx):=by
  unfold YE
  rw[List.getD_eq_getElem?_getD,List.getElem?_eq_getElem (by rw[h.len];exact hx)];rfl
 have ey:YE l y=l[y]'(by rw[h.len];exact hy):=by
  unfold YE
  rw[List.getD_eq_getElem?_getD,List.getElem?_eq_getElem (by rw[h.len];exact hy)];rfl
 rw[ex,ey];intro e
 exact n ((List.getElem_inj h.nd).mp e)
theorem lt_size{n:Nat}(h:n<=10000):n<sizeLine:=Nat.lt_of_le_of_lt h (by decide)
end L2
namespace VL
open PySem PySem.Spec PyProof.Rows L2
variable {K:PySem.W.Frag}
def NsO(od:Obj)(f:Str)(u:Value):Prop:=∀(hp:Heap)(dx:Addr),hp.get? dx=some od->hp.Ns1 dx (fun n=>if n=f then some u else none)
def Wq(n:Str):Str:=if n = "NoWeb" then "place" else if n = "Apart" then "houses" else if n = "TooMany" then "most" else "total"
inductive PV where
 | non | bl (b:Bool) | int (i:Int) | str (x:Str) | ty (n:String) | exc (n:Str) | exf (n:Str) (l:PV)
 | tup (l:List PV) | lst (l:List PV) | cst (l:List PV)
 | dK (ks:List YO) (vs:List PV) | dT (ks:List (List YO)) (vs:List PV)
instance:Inhabited PV:=⟨.non⟩
mutual
/-- nothing in it can be changed -/
def ZT:PV->Bool
 | .tup l=>ZE l
 | .cst l=>ZE l
 | .lst _=>false
 | .dK _ _=>false
 | .dT _ _=>false
 | .non=>true
 | .bl _=>true
 | .int _=>true
 | .str _=>true
 | .ty _=>true
 | .exc _=>true
 | .exf _ _=>true
def ZE:List PV->Bool
 | []=>true
 | x::r=>ZT x&&ZE r
end
theorem Wy:∀l:List PV,ZE l=l.all ZT
 | []=>rfl
 | x::r=>by rw[List.all_cons,<-Wy r];rfl
def KL(K:PySem.W.Frag)(a:Addr)(xs:List V):Prop:=
 ∃(o:Obj) (its:Array Value) (n:Nat),K.lookup a=some o/\o.cls = .type "list"/\o.dict=none/\o.data = .seq its n/\its.size<=sizeLine/\Vals xs its.toList
def CsK(K:PySem.W.Frag)(H:Hp)(p:Addr)(xs:List V):Prop:=(∃o,H p=some (.frz o (.lst xs)))\/KL K p xs
theorem CsK.sq{K:PySem.W.Frag}{H:Hp}{p:Addr}{xs:List V}(h:CsK K H p xs):SqL K H p xs:=by
 rcases h with h | h
 ·exact .inl (.inr h)
 ·exact .inr h
mutual
/-- v is the tree l in the heap H;fp: the addresses of its lists and dicts -/
def Is(K:PySem.W.Frag)(H:Hp):PV->V->List Addr->Prop
 | .non,v,fp=>v = .non/\fp=[]
 | .bl b,v,fp=>v = .bl b/\fp=[]
 | .int i,v,fp=>v = .int i/\fp=[]
 | .str x,v,fp=>v = .str x/\fp=[]
 | .ty n,v,fp=>v = .ty n/\fp=[]
 | .exc n,v,fp=>(∃e o x C,v = .ref e/\H e=some (.frz o (.own x))/\o.cls = .ref C/\PySem.W.nsIn K mainGlobals n=some (some (.ref C))/\o.dict=none/\∃vs,o.data = .fields vs)/\fp=[]
 | .exf n l,v,fp=>(∃e o x C dx od u z,v = .ref e/\H e=some (.frz o (.own x))/\o.cls = .ref C/\PySem.W.nsIn K mainGlobals n=some (some (.ref C))/\o.dict=some dx/\(∃vs,o.data = .fields vs)/\H dx=some (.frz od (.own dx))/\NsO od (Wq n) u/\RelV z u/\Is K H l z [])/\fp=[]
 | .tup l,v,fp=>∃p xs,v = .ref p/\H p=some (.tup xs)/\Iss K H l xs fp
 | .lst l,v,fp=>∃p xs fq,v = .ref p/\H p=some (.lst xs)/\Iss K H l xs fq/\fp=p::fq
 | .cst l,v,fp=>∃p xs,v = .ref p/\CsK K H p xs/\Iss K H l xs fp
 | .dK ks l,v,fp=>∃p kvs fq,v = .ref p/\Rd H p (.dK kvs)/\kvs.map (·.1)=ks/\Iss K H l (kvs.map (·.2)) fq/\fp=p::fq
 | .dT ks l,v,fp=>∃p kvs fq,v = .ref p/\Rd H p (.dT kvs)/\kvs.map (·.1)=ks/\Iss K H l (kvs.map (·.2)) fq/\fp=p::fq
def Iss(K:PySem.W.Frag)(H:Hp):List PV->List V->List Addr->Prop
 | [],xs,fp=>xs=[]/\fp=[]
 | l::ls,xs,fp=>∃x r f1 f2,xs=x::r/\Is K H l x f1/\Iss K H ls r f2/\fp=f1++f2
end
def RdK(H H':Hp)(p:Addr):Prop:=(∀xs,H p=some (.lst xs)->H' p=some (.lst xs))/\(∀kvs,Rd H p (.dK kvs)->Rd H' p (.dK kvs))/\∀kvs,Rd H p (.dT kvs)->Rd H' p (.dT kvs)
theorem RdK.of{H H':Hp}{p:Addr}(h:∀o,H p=some o->H' p=some o):RdK H H' p:=by
 have r:∀u,Rd H p u->Rd H' p u:=fun u q=>by
  rcases q with q | ⟨o,q⟩
  ·exact .inl (h _ q)
  ·exact .inr ⟨o,h _ q⟩
 exact⟨fun _=>h _,fun _=>r _,fun _=>r _⟩
structure TK2(H H':Hp):Prop where
 tup:TK H H'
 frz:∀b o xs,H b=some (.frz o (.lst xs))->H' b=some (.frz o (.lst xs))
 exc:∀b o x,H b=some (.frz o (.own x))->H' b=some (.frz o (.own x))
theorem Same.tk2{H H':Hp}(s:Same H H'):TK2 H H':=⟨s.tk,fun b o xs h=>s b _ h,fun b o x h=>s b _ h⟩
theorem CsK.tr{K:PySem.W.Frag}{H H':Hp}(t:TK2 H H'){p:Addr}{xs:List V}(h:CsK K H p xs):CsK K H' p xs:=by
 rcases h with⟨o,h⟩ | h
 ·exact .inl ⟨o,t.frz p o xs h⟩
 ·exact .inr h
mutual
theorem Is.tr{H H':Hp}(ht:TK2 H H'):∀(l:PV)(v:V)(fp:List Addr),(∀p∈fp,RdK H H' p)->Is K H l v fp->Is K H' l v fp
 | .non,_,_,_,h=>by simpa only[Is] using h
 | .bl _,_,_,_,h=>by simpa only[Is] using h
 | .int _,_,_,_,h=>by simpa only[Is] using h
 | .str _,_,_,_,h=>by simpa only[Is] using h
 | .ty _,_,_,_,h=>by simpa only[Is] using h
 | .exc _,_,_,_,h=>by
  simp only[Is] at h ⊢
  obtain⟨⟨e,o,x,C,a,b,c⟩,d⟩:=h
  exact⟨⟨e,o,x,C,a,ht.exc e o x b,c⟩,d⟩
 | .exf _ l,_,_,_,h=>by
  simp only[Is] at h ⊢
  obtain⟨⟨e,o,x,C,dx,od,u,z,a,b,c1,c2,c3,c4,c5,c6,c7,c8⟩,d⟩:=h
  exact⟨⟨e,o,x,C,dx,od,u,z,a,ht.exc e o x b,c1,c2,c3,c4,ht.exc dx od dx c5,c6,c7,Is.tr ht l z [] (fun p hp=>by simp at hp) c8⟩,d⟩
 | .tup l,v,fp,hm,h=>by
  simp only[Is] at h ⊢
  obtain⟨p,xs,e,hp,hi⟩:=h
  exact⟨p,xs,e,ht.tup p xs hp,Iss.tr ht l xs fp hm hi⟩
 | .lst l,v,fp,hm,h=>by
  simp only[Is] at h ⊢
  obtain⟨p,xs,fq,e,hr,hi,rfl⟩:=h
  exact⟨p,xs,fq,e,(hm p List.mem_cons_self).1 _ hr,Iss.tr ht l xs fq (fun q hq=>hm q (List.mem_cons_of_mem _ hq)) hi,rfl⟩
 | .cst l,v,fp,hm,h=>by
  simp only[Is] at h ⊢
  obtain⟨p,xs,e,hr,hi⟩:=h
  exact⟨p,xs,e,hr.tr ht,Iss.tr ht l xs fp hm hi⟩
 | .dK ks l,v,fp,hm,h=>by
  simp only[Is] at h ⊢
  obtain⟨p,kvs,fq,e,hr,hk,hi,rfl⟩:=h
  exact⟨p,kvs,fq,e,(hm p List.mem_cons_self).2.1 _ hr,hk,Iss.tr ht l _ fq (fun q hq=>hm q (List.mem_cons_of_mem _ hq)) hi,rfl⟩
 | .dT ks l,v,fp,hm,h=>by
  simp only[Is] at h ⊢
  obtain⟨p,kvs,fq,e,hr,hk,hi,rfl⟩:=h
  exact⟨p,kvs,fq,e,(hm p List.mem_cons_self).2.2 _ hr,hk,Iss.tr ht l _ fq (fun q hq=>hm q (List.mem_cons_of_mem _ hq)) hi,rfl⟩
theorem Iss.tr{H H':Hp}(ht:TK2 H H'):∀(l:List PV)(xs:List V)(fp:List Addr),(∀p∈fp,RdK H H' p)->Iss K H l xs fp->Iss K H' l xs fp
 | [],_,_,_,h=>by simpa only[Iss] using h
 | l::ls,xs,fp,hm,h=>by
  simp only[Iss] at h ⊢
  obtain⟨x,r,f1,f2,e,h1,h2,rfl⟩:=h
  exact⟨x,r,f1,f2,e,Is.tr ht l x f1 (fun q hq=>hm q (List.mem_append_left _ hq)) h1,Iss.tr ht ls r f2 (fun q hq=>hm q (List.mem_append_right _ hq)) h2,rfl⟩
end
theorem Is.mono{H H':Hp}(s:Same H H'){l:PV}{v:V}{fp:List Addr}(h:Is K H l v fp):Is K H' l v fp:=Is.tr (Same.tk2 s) l v fp (fun p _=>RdK.of fun o q=>s p o q) h
theorem Iss.mono{H H':Hp}(s:Same H H'){l:List PV}{v:List V}{fp:List Addr}(h:Iss K H l v fp):Iss K H' l v fp:=Iss.tr (Same.tk2 s) l v fp (fun p _=>RdK.of fun o q=>s p o q) h
mutual
theorem Is.pure{H:Hp}:∀(l:PV)(v:V)(fp:List Addr),ZT l=true->Is K H l v fp->fp=[]
 | .non,_,_,_,h=>by simp only[Is] at h;exact h.2
 | .bl _,_,_,_,h=>by simp only[Is] at h;exact h.2
 | .int _,_,_,_,h=>by simp only[Is] at h;exact h.2
 | .str _,_,_,_,h=>by simp only[Is] at h;exact h.2
 | .ty _,_,_,_,h=>by simp only[Is] at h;exact h.2
 | .exc _,_,_,_,h=>by simp only[Is] at h;exact h.2
 | .exf _ _,_,_,_,h=>by simp only[Is] at h;exact h.2
 | .tup l,v,fp,hp,h=>by
  simp only[Is] at h
  obtain⟨p,xs,e,_,hi⟩:=h
  exact Iss.pure l xs fp (by simpa only[ZT] using hp) hi
 | .lst l,v,fp,hp,h=>by simp[ZT] at hp
 | .cst l,v,fp,hp,h=>by
  simp only[Is] at h
  obtain⟨p,xs,e,_,hi⟩:=h
  exact Iss.pure l xs fp (by simpa only[ZT] using hp) hi
 | .dK ks l,v,fp,hp,h=>by simp[ZT] at hp
 | .dT ks l,v,fp,hp,h=>by simp[ZT] at hp
theorem Iss.pure{H:Hp}:∀(l:List PV)(xs:List V)(fp:List Addr),ZE l=true->Iss K H l xs fp->fp=[]
 | [],_,_,_,h=>by simp only[Iss] at h;exact h.2
 | l::ls,xs,fp,hp,h=>by
  simp only[Iss] at h;simp only[ZE,Bool.and_eq_true] at hp
  obtain⟨x,r,f1,f2,e,h1,h2,rfl⟩:=h
  rw[Is.pure l x f1 hp.1 h1,Iss.pure ls r f2 hp.2 h2];rfl
end
section
variable {H H':Hp}
theorem Iss.len:∀{l:List PV}{xs:List V}{fp:List Addr},Iss K H l xs fp->xs.length=l.length
 | [],xs,fp,h=>by simp only[Iss] at h;rw[h.1];rfl
 | l::ls,xs,fp,h=>by
  simp only[Iss] at h
  obtain⟨x,r,f1,f2,rfl,_,h2,_⟩:=h
  rw[List.length_cons,List.length_cons,h2.len]
theorem Iss.get:∀{l:List PV}{xs:List V}{fp:List Addr}{i:Nat}{a:PV},Iss K H l xs fp->l[i]?=some a->∃x f1,xs[i]?=some x/\Is K H a x f1/\∀p∈f1,p∈fp
 | [],xs,fp,i,a,h,e=>by simp at e
 | l::ls,xs,fp,0,a,h,e=>by
  simp only[Iss] at h
  obtain⟨x,r,f1,f2,rfl,h1,_,rfl⟩:=h
  simp at e;subst e
  exact⟨x,f1,rfl,h1,fun p hp=>List.mem_append_left _ hp⟩
 | l::ls,xs,fp,i+1,a,h,e=>by
  simp only[Iss] at h
  obtain⟨x,r,f1,f2,rfl,_,h2,rfl⟩:=h
  obtain⟨y,g,h3,h4,h5⟩:=h2.get (i:=i) (a:=a) (by simpa using e)
  exact⟨y,g,by simpa using h3,h4,fun p hp=>List.mem_append_right _ (h5 p hp)⟩
theorem Iss.get'{l:List PV}{xs:List V}{fp:List Addr}{i:Nat}{x:V}(h:Iss K H l xs fp)(e:xs[i]?=some x):∃a f1,l[i]?=some a/\Is K H a x f1/\∀p∈f1,p∈fp:=by
 have hi:i<l.length:=by rw[<-h.len];exact(List.getElem?_eq_some_iff.mp e).1
 obtain⟨y,f1,h1,h2,h3⟩:=h.get (List.getElem?_eq_getElem hi)
 rw[e] at h1;cases h1
 exact⟨_,f1,List.getElem?_eq_getElem hi,h2,h3⟩
theorem Iss.nil:Iss K H [] [] []:=by simp[Iss]
theorem Iss.cons{l:PV}{ls:List PV}{x:V}{xs:List V}{f1 f2:List Addr}(h1:Is K H l x f1)(h2:Iss K H ls xs f2):Iss K H (l::ls) (x::xs) (f1++f2):=by
 simp only[Iss];exact⟨x,xs,f1,f2,rfl,h1,h2,rfl⟩
theorem Iss.inv{l:PV}{ls:List PV}{xs:List V}{fp:List Addr}(h:Iss K H (l::ls) xs fp):∃x r f1 f2,xs=x::r/\Is K H l x f1/\Iss K H ls r f2/\fp=f1++f2:=by
 simpa only[Iss] using h
theorem Iss.append:∀{l m:List PV}{xs ys:List V}{f1 f2:List Addr},Iss K H l xs f1->Iss K H m ys f2->Iss K H (l++m) (xs++ys) (f1++f2)
 | [],m,xs,ys,f1,f2,h,h'=>by
  simp only[Iss] at h
  rw[h.1,h.2];exact h'
 | l::ls,m,xs,ys,f1,f2,h,h'=>by
  obtain⟨x,r,g1,g2,rfl,a,b,rfl⟩:=h.inv
  rw[List.append_assoc]
  exact Iss.cons a (b.append h')
theorem Iss.one{l:PV}{x:V}{f:List Addr}(h:Is K H l x f):Iss K H [l] [x] f:=by
 have:=Iss.cons h (Iss.nil (H:=H))
 rwa [List.append_nil] at this
theorem Iss.take:∀{l:List PV}{xs:List V}{fp:List Addr}(n:Nat),Iss K H l xs fp->∃f1,Iss K H (l.take n) (xs.take n) f1/\∀p∈f1,p∈fp
 | l,xs,fp,0,h=>⟨[],by rw[List.take_zero,List.take_zero];exact Iss.nil,fun p hp=>by simp at hp⟩
 | [],xs,fp,n+1,h=>by
  simp only[Iss] at h;rw[h.1]
  exact⟨[],by rw[List.take_nil,List.take_nil];exact Iss.nil,fun p hp=>by simp at hp⟩
 | l::ls,xs,fp,n+1,h=>by
  obtain⟨x,r,f1,f2,rfl,h1,h2,rfl⟩:=h.inv
  obtain⟨f3,a,b⟩:=h2.take n
  refine⟨f1++f3,Iss.cons h1 a,fun p hp=>?_⟩
  rcases List.mem_append.mp hp with h | h
  ·exact List.mem_append_left _ h
  ·exact List.mem_append_right _ (b p h)
theorem Iss.drop:∀{l:List PV}{xs:List V}{fp:List Addr}(n:Nat),Iss K H l xs fp->∃f1,Iss K H (l.drop n) (xs.drop n) f1/\∀p∈f1,p∈fp
 | l,xs,fp,0,h=>⟨fp,h,fun p hp=>hp⟩
 | [],xs,fp,n+1,h=>by
  simp only[Iss] at h;rw[h.1]
  exact⟨[],by rw[List.drop_nil,List.drop_nil];exact Iss.nil,fun p hp=>by simp at hp⟩
 | l::ls,xs,fp,n+1,h=>by
  obtain⟨x,r,f1,f2,rfl,h1,h2,rfl⟩:=h.inv
  obtain⟨f3,a,b⟩:=h2.drop n
  exact⟨f3,a,fun p hp=>List.mem_append_right _ (b p hp)⟩
theorem Iss.setP:∀{l:List PV}{xs:List V}{a:PV}{x:V}(i:Nat),ZE l=true->ZT a=true->Iss K H l xs []->Is K H a x []->Iss K H (l.set i a) (xs.set i x) []
 | [],xs,a,x,i,_,_,h,_=>by
  simp only[Iss] at h
  rw[h.1];simp only[List.set_nil];exact Iss.nil
 | l::ls,xs,a,x,0,hp,_,h,ha=>by
  simp only[ZE,Bool.and_eq_true] at hp
  obtain⟨y,r,f1,f2,rfl,_,h2,e⟩:=h.inv
  have e2:=Iss.pure _ _ _ hp.2 h2;subst e2
  exact Iss.cons (f1:=[]) ha h2
 | l::ls,xs,a,x,i+1,hp,hq,h,ha=>by
  simp only[ZE,Bool.and_eq_true] at hp
  obtain⟨y,r,f1,f2,rfl,h1,h2,e⟩:=h.inv
  have e1:=Is.pure _ _ _ hp.1 h1;have e2:=Iss.pure _ _ _ hp.2 h2
  subst e1 e2
  exact Iss.cons (f1:=[]) h1 (Iss.setP i hp.2 hq h2 ha)
theorem Is.int_inv{i:Int}{v:V}{fp:List Addr}(h:Is K H (.int i) v fp):v = .int i/\fp=[]:=by simpa only[Is] using h
theorem Is.int(i:Int):Is K H (.int i) (.int i) []:=by simp[Is]
theorem Is.bl(i:Bool):Is K H (.bl i) (.bl i) []:=by simp[Is]
theorem Is.non:Is K H .non .non []:=by simp[Is]
theorem Is.str(x:Str):Is K H (.str x) (.str x) []:=by simp[Is]
theorem Is.ty(n:String):Is K H (.ty n) (.ty n) []:=by simp[Is]
theorem Is.bl_inv{i:Bool}{v:V}{fp:List Addr}(h:Is K H (.bl i) v fp):v = .bl i/\fp=[]:=by simpa only[Is] using h
theorem Is.str_inv{i:Str}{v:V}{fp:List Addr}(h:Is K H (.str i) v fp):v = .str i/\fp=[]:=by simpa only[Is] using h
theorem Is.non_inv{v:V}{fp:List Addr}(h:Is K H .non v fp):v = .non/\fp=[]:=by simpa only[Is] using h
theorem Is.ty_inv{n:String}{v:V}{fp:List Addr}(h:Is K H (.ty n) v fp):v = .ty n/\fp=[]:=by simpa only[Is] using h
theorem Is.tup_inv{l:List PV}{v:V}{fp:List Addr}(h:Is K H (.tup l) v fp):∃p xs,v = .ref p/\H p=some (.tup xs)/\Iss K H l xs fp:=by simpa only[Is] using h
theorem Is.tup{l:List PV}{p:Addr}{xs:List V}{fp:List Addr}(h:H p=some (.tup xs))(hi:Iss K H l xs fp):Is K H (.tup l) (.ref p) fp:=by simp only[Is];exact⟨p,xs,rfl,h,hi⟩
theorem Is.lst_inv{l:List PV}{v:V}{fp:List Addr}(h:Is K H (.lst l) v fp):∃p xs fq,v = .ref p/\H p=some (.lst xs)/\Iss K H l xs fq/\fp=p::fq:=by simpa only[Is] using h
theorem Is.lst{l:List PV}{p:Addr}{xs:List V}{fp:List Addr}(h:H p=some (.lst xs))(hi:Iss K H l xs fp):Is K H (.lst l) (.ref p) (p::fp):=by
 simp only[Is];exact⟨p,xs,fp,rfl,h,hi,rfl⟩
theorem Is.cst_inv{l:List PV}{v:V}{fp:List Addr}(h:Is K H (.cst l) v fp):∃p xs,v = .ref p/\CsK K H p xs/\Iss K H l xs fp:=by simpa only[Is] using h
theorem Is.cst{l:List PV}{p:Addr}{xs:List V}{fp:List Addr}(h:CsK K H p xs)(hi:Iss K H l xs fp):Is K H (.cst l) (.ref p) fp:=by
 simp only[Is];exact⟨p,xs,rfl,h,hi⟩
theorem Is.dT_inv{ks:List (List YO)}{l:List PV}{v:V}{fp:List Addr}(h:Is K H (.dT ks l) v fp):∃p kvs fq,v = .ref p/\Rd H p (.dT kvs)/\kvs.map (·.1)=ks/\Iss K H l (kvs.map (·.2)) fq/\fp=p::fq:=by simpa only[Is] using h
theorem Is.dT{ks:List (List YO)}{l:List PV}{p:Addr}{kvs:List (List YO×V)}{fp:List Addr}(h:H p=some (.dT kvs))(hk:kvs.map (·.1)=ks)(hi:Iss K H l (kvs.map (·.2)) fp):Is K H (.dT ks l) (.ref p) (p::fp):=by
 simp only[Is];exact⟨p,kvs,fp,rfl,.inl h,hk,hi,rfl⟩
theorem Is.dK_inv{ks:List YO}{l:List PV}{v:V}{fp:List Addr}(h:Is K H (.dK ks l) v fp):∃p kvs fq,v = .ref p/\Rd H p (.dK kvs)/\kvs.map (·.1)=ks/\Iss K H l (kvs.map (·.2)) fq/\fp=p::fq:=by simpa only[Is] using h
theorem Is.dK{ks:List YO}{l:List PV}{p:Addr}{kvs:List (YO×V)}{fp:List Addr}(h:H p=some (.dK kvs))(hk:kvs.map (·.1)=ks)(hi:Iss K H l (kvs.map (·.2)) fp):Is K H (.dK ks l) (.ref p) (p::fp):=by
 simp only[Is];exact⟨p,kvs,fp,rfl,.inl h,hk,hi,rfl⟩
end
abbrev iL(l:List Int):List PV:=l.map PV.int
theorem Xy(l:List Int):ZE (iL l)=true:=by
 rw[Wy,List.all_eq_true];intro x hx
 obtain⟨i,_,rfl⟩:=List.mem_map.mp hx
 rfl
theorem Iss.iL{H:Hp}:∀{l:List Int}{xs:List V}{fp:List Addr},Iss K H (VL.iL l) xs fp->xs=l.map V.int/\fp=[]
 | [],xs,fp,h=>by simpa only[VL.iL,List.map_nil,Iss] using h
 | i::l,xs,fp,h=>by
  obtain⟨x,r,f1,f2,rfl,h1,h2,rfl⟩:=Iss.inv (show Iss K H (PV.int i::VL.iL l) xs fp from h)
  obtain⟨rfl,rfl⟩:=h1.int_inv
  obtain⟨rfl,rfl⟩:=h2.iL
  exact⟨rfl,rfl⟩
theorem Iss.ofInts{H:Hp}:∀(l:List Int),Iss K H (VL.iL l) (l.map V.int) []
 | []=>Iss.nil
 | i::l=>Iss.cons (f1:=[]) (Is.int i) (Iss.ofInts l)
end VL
namespace VL
open PySem PySem.Spec PyProof.Rows L2
variable {K:PySem.W.Frag}
abbrev TH:=L2.St
abbrev ZP:=List (Option PV)
abbrev XE:=ZP->Option PV
structure EnvIs(K:PySem.W.Frag)(Rm:Addr->Prop)(H:Hp)(s:ZP)(σ:TH):Prop where
 is:∀(i:Nat) l,s[i]?=some (some l)->∃v fp,σ[i]?=some (some v)/\Is K H l v fp/\∀p∈fp,¬Rm p
theorem EnvIs.mono{Rm:Addr->Prop}{H H':Hp}{s:ZP}{σ:TH}(h:EnvIs K Rm H s σ)(e:Same H H'):EnvIs K Rm H' s σ:=⟨fun i l q=>by
 obtain⟨v,fp,a,b,c⟩:=h.is i l q
 exact⟨v,fp,a,b.mono e,c⟩⟩
theorem EnvIs.free{Rm:Addr->Prop}{H:Hp}{s:ZP}{σ:TH}(h:EnvIs K Rm H s σ):EnvIs K (fun _=>False) H s σ:=⟨fun i l q=>by
 obtain⟨v,fp,a,b,c⟩:=h.is i l q
 exact⟨v,fp,a,b,fun _ _ z=>z⟩⟩
theorem Same.mut{H H':Hp}(e:Same H H'){p:Addr}(h:Vl (H p)):Vl (H' p):=by
 cases q:H p with
 | none=>rw[q] at h;exact h.elim
 | some o=>rw[e p o q,<-q];exact h
theorem Xv{H:Hp}{p:Addr}(h:Vl (H p)):H p≠none:=fun z=>by rw[z] at h;exact h
def tF(K:PySem.W.Frag)(f:XE):TE:=fun σ H Q=>∃(Rm:Addr->Prop) (s:ZP) (l:PV),(∀p,Rm p->Vl (H p))/\EnvIs K Rm H s σ/\f s=some l/\∀v H' fp,Same H H'->Is K H' l v fp->(∀p∈fp,¬Rm p)->Q v H'
def tM(K:PySem.W.Frag)(f:XE):TE:=fun σ H Q=>∃(s:ZP) (l:PV),EnvIs K (fun _=>False) H s σ/\f s=some l/\∀v H' fp,Same H H'->Is K H' l v fp->fp.Nodup->(∀p∈fp,H p=none/\Vl (H' p))->Q v H'
def VE(X:Cx)(e:Expr)(f:XE):Prop:=PE X e (tF X.K f)
def VM(X:Cx)(e:Expr)(f:XE):Prop:=PE X e (tM X.K f)
section
variable {X:Cx} {e:Expr} {f g:XE} {t t':TE}
theorem PE.imp(h:PE X e t)(i:∀σ H Q,t' σ H Q->t σ H Q):PE X e t':=fun pins s σ H Q I q=>h pins s σ H Q I (i σ H Q q)
theorem VM.ve(h:VM X e f):VE X e f:=PE.imp h fun σ H Q ⟨Rm,s,l,hd,env,e,k⟩=>
 ⟨s,l,env.free,e,fun v H' fp sm i _ n=>k v H' fp sm i fun p hp z=>Xv (hd p z) (n p hp).1⟩
def eP(f:XE):XE:=fun s=>(f s).bind fun l=>if ZT l=true then some l else none
theorem Ft{s:ZP}{l:PV}(h:eP f s=some l):f s=some l/\ZT l=true:=by
 unfold eP at h
 cases q:f s with
 | none=>rw[q] at h;cases h
 | some a=>
  rw[q] at h;simp only[Option.bind_some] at h
  split at h
  ·cases h;exact⟨rfl,by assumption⟩
  ·cases h
theorem VE.pure(h:VE X e f):VM X e (eP f):=PE.imp h fun σ H Q ⟨s,l,env,e,k⟩=>by
 obtain⟨e1,e2⟩:=Ft e
 refine⟨fun _=>False,s,l,fun _ z=>z.elim,env,e1,fun v H' fp sm i n=>?_⟩
 have:=Is.pure l v fp e2 i
 subst this
 exact k v H' [] sm i List.nodup_nil fun p hp=>by simp at hp
end
def Za(i:Nat):XE:=fun s=>(s[i]?).join
def eC(l:PV):XE:=fun _=>some l
theorem SG{i:Nat}{s:ZP}{l:PV}(h:Za i s=some l):s[i]?=some (some l):=by
 unfold Za at h
 cases q:s[i]? with
 | none=>rw[q] at h;cases h
 | some o=>rw[q] at h;cases o with
  | none=>cases h
  | some a=>cases h;rfl
section
variable {X:Cx} {pos:Pos}
theorem Zd{e:Expr}{i:Nat}(h:PE X e (Ua i)):VE X e (Za i):=PE.imp h fun σ H Q ⟨Rm,s,l,hd,env,e,k⟩=>by
 obtain⟨v,fp,a,b,c⟩:=env.is i l (SG e)
 exact⟨v,a,k v H fp (Same.refl H) b c⟩
theorem Fu{e:Expr}{v:V}{l:PV}(h:PE X e (tC v))(hv:∀H,Is X.K H l v []):VE X e (eC l):=PE.imp h fun σ H Q ⟨Rm,s,l',hd,env,e,k⟩=>by
 cases e
 exact k v H [] (Same.refl H) (hv H) fun p hp=>by simp at hp
theorem Zj{i j}:VE X (.Constant (.int i) j pos) (eC (.int i)):=Fu Dn fun _=>Is.int i
theorem WZ{i j}:VE X (.Constant (.bool i) j pos) (eC (.bl i)):=Fu C3 fun _=>Is.bl i
theorem MO{j}:VE X (.Constant .none j pos) (eC .non):=Fu Iy fun _=>Is.non
end
def RB(K:PySem.W.Frag)(r:R2)(g:PV->PV->Option PV):Prop:=∀(H:Hp)(x y:V)(a b l:PV)(fa fb:List Addr),Is K H a x fa->Is K H b y fb->g a b=some l->∀Q:VK,
 (∀v H' fp,Same H H'->Is K H' l v fp->(∀p∈fp,p∈fa\/p∈fb\/H p=none)->Q v H')->r x y H Q
def Zi(g:PV->PV->Option PV)(a b:XE):XE:=fun s=>(a s).bind fun x=>(b s).bind fun y=>g x y
theorem Vn{g:PV->PV->Option PV}{a b:XE}{s:ZP}{l:PV}(h:Zi g a b s=some l):∃x y,a s=some x/\b s=some y/\g x y=some l:=by
 unfold Zi at h
 cases q:a s with
 | none=>rw[q] at h;cases h
 | some x=>cases q2:b s with
  | none=>rw[q,q2] at h;cases h
  | some y=>rw[q,q2] at h;exact⟨x,y,rfl,rfl,h⟩
section
variable {X:Cx} {a b:Expr} {fa fb:XE} {pos:Pos}
theorem LZ{r:R2}{g:PV->PV->Option PV}(hr:RB K r g):∀σ H Q,tF K (Zi g fa fb) σ H Q->DB r (tF K fa) (tF K fb) σ H Q:=fun σ H Q ⟨Rm,s,l,hd,env,e,k⟩=>by
 obtain⟨x',y',ex,ey,e⟩:=Vn e
 refine⟨Rm,s,x',hd,env,ex,fun x H1 f1 s1 i1 n1=>⟨Rm,s,y',fun p hp=>Same.mut s1 (hd p hp),env.mono s1,ey,fun y H2 f2 s2 i2 n2=>?_⟩⟩
 refine hr H2 x y x' y' l f1 f2 (i1.mono s2) i2 e Q fun v H3 fp s3 i3 n3=>k v H3 fp (s1.trans (s2.trans s3)) i3 fun p hp z=>?_
 rcases n3 p hp with h | h | h
 ·exact n1 p h z
 ·exact n2 p h z
 ·exact Xv (Same.mut (s1.trans s2) (hd p z)) h
theorem S8{op:Operator}{r:R2}{g:PV->PV->Option PV}(ho:U2 X (binaryOp op) r)(hr:RB X.K r g)(ha:VE X a fa)(hb:VE X b fb):VE X (.BinOp a op b pos) (Zi g fa fb):=
 PE.imp (IC ho ha hb) (LZ hr)
theorem Oi{op:CmpOp}{r:R2}{g:PV->PV->Option PV}(ho:U2 X (compareOp op) r)(hr:RB X.K r g)(ha:VE X a fa)(hb:VE X b fb)(hm:behindInMarks op b=false):VE X (.Compare a [op] [b] pos) (Zi g fa fb):=
 PE.imp (GZ ho ha hb hm) (LZ hr)
theorem BC{r:R2}{g:PV->PV->Option PV}(ho:IxR X r)(hr:RB X.K r g)(ha:VE X a fa)(hb:VE X b fb)(hs:P8 b):VE X (.Subscript a b pos) (Zi g fa fb):=
 PE.imp (LN ho ha hb hs) (LZ hr)
end
def gI(g:Int->Int->Int):PV->PV->Option PV
 | .int i,.int j=>some (.int (g i j))
 | _,_=>none
def gB(g:Int->Int->Bool):PV->PV->Option PV
 | .int i,.int j=>some (.bl (g i j))
 | _,_=>none
def GK(C:Int->Int->Prop)[∀i j,Decidable (C i j)](g:Int->Int->Int):PV->PV->Option PV
 | .int i,.int j=>if C i j then some (.int (g i j)) else none
 | _,_=>none
theorem Fv{g:Int->Int->Int}{a b l:PV}(h:gI g a b=some l):∃i j,a = .int i/\b = .int j/\l = .int (g i j):=by
 unfold gI at h;split at h
 ·cases h;exact⟨_,_,rfl,rfl,rfl⟩
 ·cases h
theorem Fw{g:Int->Int->Bool}{a b l:PV}(h:gB g a b=some l):∃i j,a = .int i/\b = .int j/\l = .bl (g i j):=by
 unfold gB at h;split at h
 ·cases h;exact⟨_,_,rfl,rfl,rfl⟩
 ·cases h
theorem IT{C:Int->Int->Prop}[∀i j,Decidable (C i j)]{g:Int->Int->Int}{a b l:PV}(h:GK C g a b=some l):∃i j,a = .int i/\b = .int j/\C i j/\l = .int (g i j):=by
 unfold GK at h;split at h
 ·split at h
  ·cases h;exact⟨_,_,rfl,rfl,by assumption,rfl⟩
  ·cases h
 ·cases h
theorem BD(g:Int->Int->Int):RB K (GI fun i j=>.int (g i j)) (gI g):=fun H x y a b l fa fb ha hb e Q k=>by
 obtain⟨i,j,rfl,rfl,rfl⟩:=Fv e
 exact⟨i,j,ha.int_inv.1,hb.int_inv.1,k _ H [] (Same.refl H) (Is.int _) fun p hp=>by simp at hp⟩
theorem Jn(g:Int->Int->Bool):RB K (GI fun i j=>.bl (g i j)) (gB g):=fun H x y a b l fa fb ha hb e Q k=>by
 obtain⟨i,j,rfl,rfl,rfl⟩:=Fw e
 exact⟨i,j,ha.int_inv.1,hb.int_inv.1,k _ H [] (Same.refl H) (Is.bl _) fun p hp=>by simp at hp⟩
theorem Nn(C:Int->Int->Prop)[∀i j,Decidable (C i j)](g:Int->Int->Int):RB K (rI C fun i j=>.int (g i j)) (GK C g):=fun H x y a b l fa fb ha hb e Q k=>by
 obtain⟨i,j,rfl,rfl,c,rfl⟩:=IT e
 exact⟨i,j,ha.int_inv.1,hb.int_inv.1,c,k _ H [] (Same.refl H) (Is.int _) fun p hp=>by simp at hp⟩
instance (i j:Int):Decidable (CMul i j):=by unfold CMul;infer_instance
instance (i j:Int):Decidable (Su i j):=by unfold Su;infer_instance
instance (i j:Int):Decidable (EJ i j):=by unfold EJ;infer_instance
instance (i j:Int):Decidable (Bk i j):=by unfold Bk;infer_instance
abbrev Yo:=gI (· + ·)
abbrev YQ:=gI (· - ·)
abbrev Fx:=GK CMul (· * ·)
abbrev Wj:=GK Su (· / ·)
abbrev Xa:=GK (fun _ j=>0<j) (· % ·)
abbrev Fy:=gB (fun i j=>decide (i<j))
abbrev An:=gB (fun i j=>decide (i<=j))
abbrev Tt:=gB (fun i j=>decide (j<i))
abbrev BE:=gB (fun i j=>decide (j<=i))
section
variable {X:Cx} {a b:Expr} {fa fb:XE} {pos:Pos}
theorem Xm(ha:VE X a fa)(hb:VE X b fb):VE X (.BinOp a .Add b pos) (Zi Yo fa fb):=S8 DD (BD _) ha hb
theorem Wk(ha:VE X a fa)(hb:VE X b fb):VE X (.BinOp a .Sub b pos) (Zi YQ fa fb):=S8 DE (BD _) ha hb
theorem D4(ha:VE X a fa)(hb:VE X b fb):VE X (.BinOp a .Mult b pos) (Zi Fx fa fb):=S8 DF (Nn _ _) ha hb
theorem XG(ha:VE X a fa)(hb:VE X b fb):VE X (.BinOp a .FloorDiv b pos) (Zi Wj fa fb):=S8 GY (Nn _ _) ha hb
theorem XW(ha:VE X a fa)(hb:VE X b fb):VE X (.BinOp a .Mod b pos) (Zi Xa fa fb):=S8 DG (Nn _ _) ha hb
theorem ET(ha:VE X a fa)(hb:VE X b fb):VE X (.Compare a [.Gt] [b] pos) (Zi Tt fa fb):=Oi EL (Jn _) ha hb (Vh _)
end
def ZK:PV->PV->Option PV
 | .lst l,.int i=>Ub l i
 | .cst l,.int i=>Ub l i
 | .tup l,.int i=>Ub l i
 | .str z,.int i=>if z.length<=sizeLine then(Ub z.cps.toList i).map fun c=>.str ⟨#[c]⟩ else none
 | _,_=>none
theorem MP{l:List PV}{xs:List V}{H:Hp}{fp:List Addr}{i:Int}{a:PV}(h:Iss K H l xs fp)(e:Ub l i=some a):∃x f1,Ub xs i=some x/\Is K H a x f1/\∀p∈f1,p∈fp:=by
 unfold Ub at e ⊢
 rw[h.len]
 cases q:MA l.length i with
 | none=>rw[q] at e;cases e
 | some j=>rw[q] at e;exact h.get e
theorem BF:RB K (A6 K) ZK:=fun H x y a b l fa fb ha hb e Q k=>by
 unfold ZK at e;split at e
 ·obtain⟨p,xs,fq,rfl,hp,hi,rfl⟩:=ha.lst_inv
  obtain⟨z,f1,h1,h2,h3⟩:=MP hi e
  exact .inl ⟨p,xs,_,z,rfl,hb.int_inv.1,SqL.of hp,h1,k z H f1 (Same.refl H) h2 fun q hq=>.inl (List.mem_cons_of_mem _ (h3 q hq))⟩
 ·obtain⟨p,xs,rfl,hp,hi⟩:=ha.cst_inv
  obtain⟨z,f1,h1,h2,h3⟩:=MP hi e
  exact .inl ⟨p,xs,_,z,rfl,hb.int_inv.1,hp.sq,h1,k z H f1 (Same.refl H) h2 fun q hq=>.inl (h3 q hq)⟩
 ·obtain⟨p,xs,rfl,hp,hi⟩:=ha.tup_inv
  obtain⟨z,f1,h1,h2,h3⟩:=MP hi e
  exact .inr (.inl ⟨p,xs,_,z,rfl,hb.int_inv.1,SqT.of hp,h1,k z H f1 (Same.refl H) h2 fun q hq=>.inl (h3 q hq)⟩)
 ·split at e
  ·cases q:Ub _ _ with
   | none=>rw[q] at e;cases e
   | some c=>
    rw[q] at e;cases e
    exact .inr (.inr ⟨_,_,c,ha.str_inv.1,hb.int_inv.1,by assumption,q,k _ H [] (Same.refl H) (Is.str _) fun p hp=>by simp at hp⟩)
  ·cases e
 ·cases e
section
variable {X:Cx} {a b:Expr} {fa fb:XE} {pos:Pos}
theorem Zu(ha:VE X a fa)(hb:VE X b fb)(hs:P8 b:=by exact fun _ _=>rfl):VE X (.Subscript a b pos) (Zi ZK fa fb):=BC DK BF ha hb hs
end
abbrev XT:=ZP->Option Bool
def MB(K:PySem.W.Frag)(f:XT):TT:=fun σ H Q=>∃(Rm:Addr->Prop) (s:ZP) (c:Bool),(∀p,Rm p->Vl (H p))/\EnvIs K Rm H s σ/\f s=some c/\∀H',Same H H'->Q c H'
def VT(X:Cx)(e:Expr)(f:XT):Prop:=PT X e (MB X.K f)
def VW(X:Cx)(e:Expr)(f:XT):Prop:=PW X e (MB X.K f)
section
variable {X:Cx} {e:Expr} {f:XT}
theorem PT.imp{t t':TT}(h:PT X e t)(i:∀σ H Q,t' σ H Q->t σ H Q):PT X e t':=fun pins s σ H Q I q=>h pins s σ H Q I (i σ H Q q)
theorem PW.imp{t t':TT}(h:PW X e t)(i:∀σ H Q,t' σ H Q->t σ H Q):PW X e t':=fun whole pins s σ H Q I q=>h whole pins s σ H Q I (i σ H Q q)
theorem VW.vt(h:VW X e f):VT X e f:=PW.pt h
end
def xB(f:XE):XT:=fun s=>match f s with | some (.bl c)=>some c | _=>none
theorem TJ{f:XE}{s:ZP}{c:Bool}(h:xB f s=some c):f s=some (.bl c):=by
 unfold xB at h;split at h
 ·cases h;assumption
 ·cases h
section
variable {X:Cx} {a b c:Expr} {rest:List Expr} {fa fb:XE} {ga gb:XT} {pos:Pos}
theorem Uh(h:VE X a fa)(he:∀whole,isTrue a X.env whole=(do let v <-whole;standAt a.pos;holding [v] (truthy v)):=by intro _;rfl):VT X a (xB fa):=
 PT.imp (Dr h he) fun σ H Q ⟨Rm,s,c,hd,env,e,k⟩=>⟨Rm,s,.bl c,hd,env,TJ e,fun v H' fp sm i n=>⟨c,i.bl_inv.1,k H' sm⟩⟩
theorem Np:∀σ H Q,MB K (xB fa) σ H Q->O8 (tF K fa) σ H Q:=fun σ H Q ⟨Rm,s,c,hd,env,e,k⟩=>⟨Rm,s,.bl c,hd,env,TJ e,fun v H' fp sm i n=>⟨c,i.bl_inv.1,k H' sm⟩⟩
theorem RW{t t':TE}(i:∀σ H Q,t' σ H Q->t σ H Q):∀σ H Q,O8 t' σ H Q->O8 t σ H Q:=fun σ H Q h=>i σ H _ h
theorem Ui{op:CmpOp}{r:R2}{g:PV->PV->Option PV}(ho:U2 X (compareOp op) r)(hr:RB X.K r g)(ha:VE X a fa)(hb:VE X b fb)(hm:behindInMarks op b=false):VT X (.Compare a [op] [b] pos) (xB (Zi g fa fb)):=
 PT.imp (G0 ho ha hb hm) fun σ H Q h=>RW (LZ hr) σ H Q (Np σ H Q h)
theorem BG(ha:VE X a fa)(hb:VE X b fb):VT X (.Compare a [.Lt] [b] pos) (xB (Zi Fy fa fb)):=Ui EK (Jn _) ha hb (Vh _)
theorem RX(ha:VE X a fa)(hb:VE X b fb):VT X (.Compare a [.Gt] [b] pos) (xB (Zi Tt fa fb)):=Ui EL (Jn _) ha hb (Vh _)
theorem BH(ha:VE X a fa)(hb:VE X b fb):VT X (.Compare a [.GtE] [b] pos) (xB (Zi BE fa fb)):=Ui Bm (Jn _) ha hb (Vh _)
def VJ(a b:XT):XT:=fun s=>(a s).bind fun c=>if c=true then b s else some false
def Nq(a b:XT):XT:=fun s=>(a s).bind fun c=>if c=true then some true else b s
def Uj(a:XT):XT:=fun s=>(a s).map not
theorem Fz:∀σ H Q,MB K (VJ ga gb) σ H Q->C4 (MB K ga) (MB K gb) σ H Q:=fun σ H Q ⟨Rm,s,c,hd,env,e,k⟩=>by
 unfold VJ at e
 cases q:ga s with
 | none=>rw[q] at e;cases e
 | some d=>
  rw[q] at e
  refine⟨Rm,s,d,hd,env,q,fun H1 s1=>?_⟩
  cases d with
  | true=>
   simp only[Option.bind_some,if_true] at e;rw[if_pos rfl]
   exact⟨Rm,s,c,fun p hp=>Same.mut s1 (hd p hp),env.mono s1,e,fun H2 s2=>k H2 (s1.trans s2)⟩
  | false=>
   simp only[Option.bind_some,Bool.false_eq_true,if_false] at e;cases e;rw[if_neg Bool.false_ne_true]
   exact k H1 s1
theorem D5:∀σ H Q,MB K (Nq ga gb) σ H Q->A3 (MB K ga) (MB K gb) σ H Q:=fun σ H Q ⟨Rm,s,c,hd,env,e,k⟩=>by
 unfold Nq at e
 cases q:ga s with
 | none=>rw[q] at e;cases e
 | some d=>
  rw[q] at e
  refine⟨Rm,s,d,hd,env,q,fun H1 s1=>?_⟩
  cases d with
  | true=>
   simp only[Option.bind_some,if_true] at e;cases e;rw[if_pos rfl]
   exact k H1 s1
  | false=>
   simp only[Option.bind_some,Bool.false_eq_true,if_false] at e;rw[if_neg Bool.false_ne_true]
   exact⟨Rm,s,c,fun p hp=>Same.mut s1 (hd p hp),env.mono s1,e,fun H2 s2=>k H2 (s1.trans s2)⟩
theorem UK(ha:VT X a ga):VW X (.BoolOp .And [a] pos) ga:=GS ha
theorem SH(ha:VT X a ga):VW X (.BoolOp .Or [a] pos) ga:=Ds ha
theorem SI(ha:VT X a ga)(hb:VW X (.BoolOp .And (b::rest) pos) gb):VW X (.BoolOp .And (a::b::rest) pos) (VJ ga gb):=PW.imp (Dt ha hb) Fz
theorem Pp(ha:VT X a ga)(hb:VW X (.BoolOp .Or (b::rest) pos) gb):VW X (.BoolOp .Or (a::b::rest) pos) (Nq ga gb):=PW.imp (C5 ha hb) D5
theorem Tc(ha:VT X a ga):VT X (.UnaryOp .Not a pos) (Uj ga):=PT.imp (Du ha) fun σ H Q ⟨Rm,s,c,hd,env,e,k⟩=>by
 unfold Uj at e
 cases q:ga s with
 | none=>rw[q] at e;cases e
 | some d=>rw[q] at e;cases e;exact⟨Rm,s,d,hd,env,q,k⟩
end
section
variable {X:Cx} {a b c:Expr} {rest:List Expr} {fa fb:XE} {gc:XT} {pos:Pos}
def Rk(a b:XE):XE:=fun s=>(xB a s).bind fun c=>if c=true then b s else some (.bl false)
def eOr(a b:XE):XE:=fun s=>(xB a s).bind fun c=>if c=true then some (.bl true) else b s
def FA(a:XE):XE:=fun s=>(xB a s).map fun c=>.bl !c
def O1(c:XT)(a b:XE):XE:=fun s=>(c s).bind fun k=>if k=true then a s else b s
theorem RY{op}(h:VE X a fa):VE X (.BoolOp op [a] pos) fa:=Dv h
theorem Uk(ha:VE X a fa)(hb:VE X (.BoolOp .And (b::rest) pos) fb):VE X (.BoolOp .And (a::b::rest) pos) (Rk fa fb):=PE.imp (Dw ha hb) fun σ H Q ⟨Rm,s,l,hd,env,e,k⟩=>by
 unfold Rk at e
 cases q:xB fa s with
 | none=>rw[q] at e;cases e
 | some d=>
  rw[q] at e
  refine⟨Rm,s,.bl d,hd,env,TJ q,fun v H1 fp s1 i1 _=>⟨d,i1.bl_inv.1,?_⟩⟩
  cases d with
  | true=>
   simp only[Option.bind_some,if_true] at e;rw[if_pos rfl]
   exact⟨Rm,s,l,fun p hp=>Same.mut s1 (hd p hp),env.mono s1,e,fun v2 H2 fp2 s2 i2 n2=>k v2 H2 fp2 (s1.trans s2) i2 n2⟩
  | false=>
   simp only[Option.bind_some,Bool.false_eq_true,if_false] at e;cases e;rw[if_neg Bool.false_ne_true]
   exact k _ H1 [] s1 (Is.bl false) fun p hp=>by simp at hp
theorem D6(ha:VE X a fa):VE X (.UnaryOp .Not a pos) (FA fa):=PE.imp (Dx ha) fun σ H Q ⟨Rm,s,l,hd,env,e,k⟩=>by
 unfold FA at e
 cases q:xB fa s with
 | none=>rw[q] at e;cases e
 | some d=>
  rw[q] at e;cases e
  exact⟨Rm,s,.bl d,hd,env,TJ q,fun v H1 fp s1 i1 _=>⟨d,i1.bl_inv.1,k _ H1 [] s1 (Is.bl _) fun p hp=>by simp at hp⟩⟩
theorem L5(hc:VT X c gc)(ha:VE X a fa)(hb:VE X b fb):VE X (.IfExp c a b pos) (O1 gc fa fb):=PE.imp (IA hc ha hb) fun σ H Q ⟨Rm,s,l,hd,env,e,k⟩=>by
 unfold O1 at e
 cases q:gc s with
 | none=>rw[q] at e;cases e
 | some d=>
  rw[q] at e
  refine⟨Rm,s,d,hd,env,q,fun H1 s1=>?_⟩
  cases d with
  | true=>
   simp only[Option.bind_some,if_true] at e;rw[if_pos rfl]
   exact⟨Rm,s,l,fun p hp=>Same.mut s1 (hd p hp),env.mono s1,e,fun v2 H2 fp2 s2 i2 n2=>k v2 H2 fp2 (s1.trans s2) i2 n2⟩
  | false=>
   simp only[Option.bind_some,Bool.false_eq_true,if_false] at e;rw[if_neg Bool.false_ne_true]
   exact⟨Rm,s,l,fun p hp=>Same.mut s1 (hd p hp),env.mono s1,e,fun v2 H2 fp2 s2 i2 n2=>k v2 H2 fp2 (s1.trans s2) i2 n2⟩
end
section
variable {X:Cx} {a b c:Expr} {fa fb fc:XE} {pos:Pos}
def D7(neg:Bool):PV->Option PV
 | .non=>some (.bl !neg)
 | _=>some (.bl neg)
def RZ:PV->Bool
 | .non=>true
 | _=>false
theorem MQ{H:Hp}{l:PV}{v:V}{fp:List Addr}(i:Is K H l v fp):decide (v=V.non)=RZ l:=by
 cases l with
 | non=>rw[i.non_inv.1];rfl
 | bl b=>rw[i.bl_inv.1];rfl
 | int j=>rw[i.int_inv.1];rfl
 | str y=>rw[i.str_inv.1];rfl
 | ty n=>rw[i.ty_inv.1];rfl
 | exc C=>simp only[Is] at i;obtain⟨⟨e,o,x,C,rfl,_⟩,_⟩:=i;rfl
 | exf C l=>simp only[Is] at i;obtain⟨⟨e,o,x,C,dx,od,u,z,rfl,_⟩,_⟩:=i;rfl
 | lst l=>obtain⟨p,xs,fq,rfl,_⟩:=i.lst_inv;rfl
 | cst l=>obtain⟨p,xs,rfl,_⟩:=i.cst_inv;rfl
 | tup l=>obtain⟨p,xs,rfl,_⟩:=i.tup_inv;rfl
 | dK ks l=>obtain⟨p,xs,fq,rfl,_⟩:=i.dK_inv;rfl
 | dT ks l=>obtain⟨p,xs,fq,rfl,_⟩:=i.dT_inv;rfl
def Rl(neg:Bool)(a:XE):XE:=fun s=>(a s).bind (D7 neg)
theorem Nr:∀σ H Q,tF K (Rl true fa) σ H Q->EE (tF K fa) σ H Q:=fun σ H Q ⟨Rm,s,l,hd,env,e,k⟩=>by
 unfold Rl at e
 cases q:fa s with
 | none=>rw[q] at e;cases e
 | some m=>
  rw[q] at e;simp only[Option.bind_some] at e
  refine⟨Rm,s,m,hd,env,q,fun v H1 fp s1 i1 _=>?_⟩
  show Q _ H1
  rw[MQ i1]
  have:l = .bl (!RZ m):=by cases m<;>cases e<;>rfl
  subst this
  exact k _ H1 [] s1 (Is.bl _) fun p hp=>by simp at hp
theorem FC{j pos'}(ha:VE X a fa):VE X (.Compare a [.IsNot] [.Constant .none j pos'] pos) (Rl true fa):=PE.imp (Dq (LI ha)) Nr
theorem EU:∀σ H Q,MB K (xB fa) σ H Q->tB (tF K fa) σ H Q:=fun σ H Q ⟨Rm,s,c,hd,env,e,k⟩=>⟨Rm,s,.bl c,hd,env,TJ e,fun v H' fp sm i n=>⟨c,i.bl_inv.1,k H' sm⟩⟩
theorem L6{t t':TE}(i:∀σ H Q,t' σ H Q->t σ H Q):∀σ H Q,tB t' σ H Q->tB t σ H Q:=fun σ H Q h=>i σ H _ h
theorem L7{j pos'}(ha:VE X a fa):VT X (.Compare a [.IsNot] [.Constant .none j pos'] pos) (xB (Rl true fa)):=PT.imp (Iz (LI ha)) fun σ H Q h=>L6 Nr σ H Q (EU σ H Q h)
def Rn:PV->Option PV
 | .int i=>some (.int (-i))
 | _=>none
def Nt(g:PV->Option PV)(a:XE):XE:=fun s=>(a s).bind g
theorem MR(ha:VE X a fa):VE X (.UnaryOp .USub a pos) (Nt Rn fa):=PE.imp (Bh DH ha) fun σ H Q ⟨Rm,s,l,hd,env,e,k⟩=>by
 unfold Nt at e
 cases q:fa s with
 | none=>rw[q] at e;cases e
 | some m=>
  rw[q] at e;simp only[Option.bind_some] at e;unfold Rn at e
  split at e
  ·cases e
   exact⟨Rm,s,_,hd,env,q,fun v H1 fp s1 i1 _=>⟨_,i1.int_inv.1,k _ H1 [] s1 (Is.int _) fun p hp=>by simp at hp⟩⟩
  ·cases e
end
end VL
namespace VL
open PySem PySem.Spec PyProof.Rows L2
variable {K:PySem.W.Frag}
def Td:List XE->ZP->Option (List PV)
 | [],_=>some []
 | f::fs,s=>(f s).bind fun x=>(Td fs s).map (x::·)
theorem R0{f:XE}{fs:List XE}{s:ZP}{ls:List PV}(h:Td (f::fs) s=some ls):∃x r,f s=some x/\Td fs s=some r/\ls=x::r:=by
 unfold Td at h
 cases q:f s with
 | none=>rw[q] at h;cases h
 | some x=>cases q2:Td fs s with
  | none=>rw[q,q2] at h;cases h
  | some r=>rw[q,q2] at h;cases h;exact⟨x,r,rfl,rfl,rfl⟩
theorem W0:∀{fs:List XE}{s:ZP}{ls:List PV},Td fs s=some ls->ls.length=fs.length
 | [],_,_,h=>by cases h;rfl
 | f::fs,s,ls,h=>by
  obtain⟨x,r,_,h2,rfl⟩:=R0 h
  rw[List.length_cons,List.length_cons,W0 h2]
def AO(K:PySem.W.Frag)(fs:List XE):TA:=fun σ H Q=>∃(Rm:Addr->Prop) (s:ZP) (ls:List PV),(∀p,Rm p->Vl (H p))/\EnvIs K Rm H s σ/\Td fs s=some ls/\∀vs H' fp,Same H H'->Iss K H' ls vs fp->(∀p∈fp,¬Rm p)->Q vs H'
def tMA(K:PySem.W.Frag)(fs:List XE):TA:=fun σ H Q=>∃(s:ZP) (ls:List PV),EnvIs K (fun _=>False) H s σ/\Td fs s=some ls/\∀vs H' fp,Same H H'->Iss K H' ls vs fp->fp.Nodup->(∀p∈fp,H p=none/\Vl (H' p))->Q vs H'
def VA(X:Cx)(es:List Expr)(fs:List XE):Prop:=PA X es (AO X.K fs)
def Ao(X:Cx)(es:List Expr)(fs:List XE):Prop:=PA X es (tMA X.K fs)
section
variable {X:Cx} {e:Expr} {es:List Expr} {f:XE} {fs:List XE} {pos:Pos} {k:Nat}
theorem PA.imp{t t':TA}(h:PA X es t)(i:∀σ H Q,t' σ H Q->t σ H Q):PA X es t':=fun pos pins s σ H Q I q=>h pos pins s σ H Q I (i σ H Q q)
theorem Zg:VA X [] []:=PA.imp XU fun σ H Q ⟨Rm,s,ls,hd,env,e,k⟩=>by
 cases e
 exact k [] H [] (Same.refl H) Iss.nil fun p hp=>by simp at hp
theorem Zc(ha:VE X e f)(hr:VA X es fs)(hs:starEach (e::es) X.env=(false,eval e X.env)::starEach es X.env:=by rfl):VA X (e::es) (f::fs):=PA.imp (Yv ha hr hs) fun σ H Q ⟨Rm,s,ls,hd,env,e,k⟩=>by
 obtain⟨x',r',h1,h2,rfl⟩:=R0 e
 refine⟨Rm,s,x',hd,env,h1,fun x H1 f1 s1 i1 n1=>⟨Rm,s,r',fun p hp=>Same.mut s1 (hd p hp),env.mono s1,h2,fun xs H2 f2 s2 i2 n2=>?_⟩⟩
 refine k _ H2 (f1++f2) (s1.trans s2) (Iss.cons (i1.mono s2) i2) fun p hp=>?_
 rcases List.mem_append.mp hp with h | h
 ·exact n1 p h
 ·exact n2 p h
theorem W3:Ao X [] []:=PA.imp XU fun σ H Q ⟨s,ls,env,e,k⟩=>by
 cases e
 exact k [] H [] (Same.refl H) Iss.nil List.nodup_nil fun p hp=>by simp at hp
theorem WC(ha:VM X e f)(hr:Ao X es fs)(hs:starEach (e::es) X.env=(false,eval e X.env)::starEach es X.env:=by rfl):Ao X (e::es) (f::fs):=PA.imp (Yv ha hr hs) fun σ H Q ⟨s,ls,env,e,k⟩=>by
 obtain⟨x',r',h1,h2,rfl⟩:=R0 e
 refine⟨s,x',env,h1,fun x H1 f1 s1 i1 d1 n1=>⟨s,r',env.mono s1,h2,fun xs H2 f2 s2 i2 d2 n2=>?_⟩⟩
 refine k _ H2 (f1++f2) (s1.trans s2) (Iss.cons (i1.mono s2) i2) ?_ fun p hp=>?_
 ·refine List.nodup_append.mpr ⟨d1,d2,fun a ha b hb z=>?_⟩
  subst z
  exact Xv (n1 a ha).2 (n2 a hb).1
 ·rcases List.mem_append.mp hp with h | h
  ·exact⟨(n1 p h).1,Same.mut s2 (n1 p h).2⟩
  ·exact⟨Same.off s1 (n2 p h).1,(n2 p h).2⟩
def Yq(fs:List XE):XE:=fun s=>(Td fs s).map .tup
def Yr(fs:List XE):XE:=fun s=>(Td fs s).map .lst
theorem map_some{α β:Type}{o:Option α}{g:α->β}{b:β}(h:o.map g=some b):∃a,o=some a/\b=g a:=by
 cases o with
 | none=>cases h
 | some a=>cases h;exact⟨a,rfl,rfl⟩
theorem YY(h:VA X es fs)(hl:fs.length<=1000:=by decide):VE X (.Tuple es k pos) (Yq fs):=PE.imp (IF h) fun σ H Q ⟨Rm,s,l,hd,env,e,q⟩=>by
 obtain⟨ls,e1,rfl⟩:=map_some e
 refine⟨Rm,s,ls,hd,env,e1,fun vs H1 fp s1 i1 n1=>⟨?_,fun p hp=>?_⟩⟩
 ·rw[i1.len,W0 e1];exact Nat.le_of_lt (lt_size (by omega))
 ·exact q _ _ fp (s1.trans (Same.new hp _)) (Is.tup upd_same (i1.mono (Same.new hp _))) n1
theorem WD(h:VA X es fs)(hl:fs.length<=1000:=by decide):VE X (.List es pos) (Yr fs):=PE.imp (MK h) fun σ H Q ⟨Rm,s,l,hd,env,e,q⟩=>by
 obtain⟨ls,e1,rfl⟩:=map_some e
 refine⟨Rm,s,ls,hd,env,e1,fun vs H1 fp s1 i1 n1=>⟨?_,fun p hp=>?_⟩⟩
 ·rw[i1.len,W0 e1];exact Nat.le_of_lt (lt_size (by omega))
 ·refine q _ _ (p::fp) (s1.trans (Same.new hp _)) (Is.lst upd_same (i1.mono (Same.new hp _))) fun a ha z=>?_
  rcases List.mem_cons.mp ha with rfl | ha
  ·exact Xv (Same.mut s1 (hd a z)) hp
  ·exact n1 a ha z
theorem Ul(h:Ao X es fs)(hl:fs.length<=1000:=by decide):VM X (.List es pos) (Yr fs):=PE.imp (MK h) fun σ H Q ⟨s,l,env,e,q⟩=>by
 obtain⟨ls,e1,rfl⟩:=map_some e
 refine⟨s,ls,env,e1,fun vs H1 fp s1 i1 d1 n1=>⟨?_,fun p hp=>?_⟩⟩
 ·rw[i1.len,W0 e1];exact Nat.le_of_lt (lt_size (by omega))
 ·refine q _ _ (p::fp) (s1.trans (Same.new hp _)) (Is.lst upd_same (i1.mono (Same.new hp _))) (List.nodup_cons.mpr ⟨fun z=>Xv (n1 p z).2 hp,d1⟩) fun a ha=>?_
  rcases List.mem_cons.mp ha with rfl | ha
  ·exact⟨Same.off s1 hp,by rw[upd_same];exact True.intro⟩
  ·exact⟨(n1 a ha).1,Same.mut (Same.new hp _) (n1 a ha).2⟩
theorem R1:VM X (.Dict [] [] pos) (eC (.dT [] [])):=PE.imp IJ fun σ H Q ⟨s,l,env,e,q⟩ p hp=>by
 cases e
 exact q _ _ [p] (Same.new hp _) (Is.dT upd_same rfl Iss.nil) (by simp) fun a ha=>by
  rw[List.mem_singleton.mp ha]
  exact⟨hp,by rw[upd_same];exact True.intro⟩
end
def YU(K:PySem.W.Frag)(D:List PV->Option PV)(n:Nat):Sp:=fun vs H Q _=>vs.length=n/\∃ls fp l,Iss K H ls vs fp/\D ls=some l/\∀v H' fq,Same H H'->Is K H' l v fq->fq.Nodup->(∀p∈fq,H p=none/\Vl (H' p))->Q v H'
def Ze(D:List PV->Option PV)(fs:List XE):XE:=fun s=>(Td fs s).bind D
theorem Zf{α β:Type}{o:Option α}{g:α->Option β}{b:β}(h:o.bind g=some b):∃a,o=some a/\g a=some b:=by
 cases o with
 | none=>cases h
 | some a=>exact⟨a,rfl,h⟩
section
variable {X:Cx} {x:Str} {ps:List Str} {k:Nat} {e:Expr} {es:List Expr} {fs:List XE} {p pos:Pos}
theorem Zp{D:List PV->Option PV}{n:Nat}(C:Xj X.prog X.w X.K X.mg X.base x ps (YU X.K D n) k)(hr:Room k X.A)(hg:Gl X x)(ha:VA X (e::es) fs)(hn:fs.length=n:=by rfl)
  (hdb:(x==("__debug__" : Str))=false:=by decide) (he:starEach (e::es) X.env=(false,eval e X.env)::starEach es X.env:=by rfl) (hpl:(backTo pos (starEach es X.env)).any (·.1)=false:=by rfl) :
  VM X (.Call (.Name x p) (e::es) [] pos) (Ze D fs):=PE.imp (DW C hr hg ha hdb he hpl) fun σ H Q ⟨s,l,env,e,q⟩=>by
 obtain⟨ls,e1,e2⟩:=Zf e
 refine⟨fun _=>False,s,ls,fun _ z=>z.elim,env,e1,fun vs H1 fp s1 i1 n1=>?_⟩
 show YU X.K D n (vs++[]) H1 Q E0
 rw[List.append_nil]
 exact⟨by rw[i1.len,W0 e1,hn],ls,fp,l,i1,e2,fun v H2 fq s2 i2 d2 n2=>q v H2 fq (s1.trans s2) i2 d2 fun a ha=>⟨Same.off s1 (n2 a ha).1,(n2 a ha).2⟩⟩
end
def RC(K:PySem.W.Frag)(r:List V->Hp->VK->Prop)(g:List PV->Option PV):Prop:=∀(H:Hp)(vs:List V)(ls:List PV)(l:PV)(fp:List Addr),Iss K H ls vs fp->g ls=some l->∀Q:VK,
 (∀v H' fq,Same H H'->Is K H' l v fq->(∀p∈fq,p∈fp\/H p=none)->Q v H')->r vs H Q
def BJ(K:PySem.W.Frag)(r:List V->Hp->VK->Prop)(g:List PV->Option PV):Prop:=∀(H:Hp)(vs:List V)(ls:List PV)(l:PV)(fp:List Addr),Iss K H ls vs fp->g ls=some l->∀Q:VK,
 (∀v H' fq,Same H H'->Is K H' l v fq->fq.Nodup->(∀p∈fq,H p=none/\Vl (H' p))->Q v H')->r vs H Q
theorem EV{r:List V->Hp->VK->Prop}{g:List PV->Option PV}{fs:List XE}(hr:RC K r g):∀σ H Q,tF K (Ze g fs) σ H Q->Ah r (AO K fs) σ H Q:=fun σ H Q ⟨Rm,s,l,hd,env,e,k⟩=>by
 obtain⟨ls,e1,e2⟩:=Zf e
 refine⟨Rm,s,ls,hd,env,e1,fun vs H1 fp s1 i1 n1=>hr H1 vs ls l fp i1 e2 Q fun v H2 fq s2 i2 n2=>k v H2 fq (s1.trans s2) i2 fun p hp z=>?_⟩
 rcases n2 p hp with h | h
 ·exact n1 p h z
 ·exact Xv (Same.mut s1 (hd p z)) h
theorem EW{r:List V->Hp->VK->Prop}{g:List PV->Option PV}{fs:List XE}(hr:BJ K r g):∀σ H Q,tM K (Ze g fs) σ H Q->Ah r (AO K fs) σ H Q:=fun σ H Q ⟨s,l,env,e,k⟩=>by
 obtain⟨ls,e1,e2⟩:=Zf e
 exact⟨fun _=>False,s,ls,fun _ z=>z.elim,env,e1,fun vs H1 fp s1 i1 n1=>hr H1 vs ls l fp i1 e2 Q fun v H2 fq s2 i2 d2 n2=>k v H2 fq (s1.trans s2) i2 d2 fun p hp=>⟨Same.off s1 (n2 p hp).1,(n2 p hp).2⟩⟩
section
variable {X:Cx} {x:Str} {k:Nat} {e:Expr} {es:List Expr} {fs:List XE} {p pos:Pos} {id T:String} {r:List V->Hp->VK->Prop} {g:List PV->Option PV}
theorem Zv(hc:Wa X (.builtin id) r)(hr:RC X.K r g)(hg:Gl X x)(hm:X.mg x=none)(hv:bootBuiltins x=some (.builtin id))(ha:VA X (e::es) fs)(hn:x≠"__name__":=by decide)(hdb:(x==("__debug__" : Str))=false:=by decide)
  (he:starEach (e::es) X.env=(false,eval e X.env)::starEach es X.env:=by rfl) (hpl:(backTo pos (starEach es X.env)).any (·.1)=false:=by rfl):VE X (.Call (.Name x p) (e::es) [] pos) (Ze g fs):=
 PE.imp (RN hc hg hm hv ha hn hdb he hpl) (EV hr)
theorem IU(hc:Wa X (.builtin id) r)(hr:BJ X.K r g)(hg:Gl X x)(hm:X.mg x=none)(hv:bootBuiltins x=some (.builtin id))(ha:VA X (e::es) fs)(hn:x≠"__name__":=by decide)(hdb:(x==("__debug__" : Str))=false:=by decide)
  (he:starEach (e::es) X.env=(false,eval e X.env)::starEach es X.env:=by rfl) (hpl:(backTo pos (starEach es X.env)).any (·.1)=false:=by rfl):VM X (.Call (.Name x p) (e::es) [] pos) (Ze g fs):=
 PE.imp (RN hc hg hm hv ha hn hdb he hpl) (EW hr)
theorem Xb(hc:Wa X (.type T) r)(hr:RC X.K r g)(hg:Gl X x)(hm:X.mg x=none)(hv:bootBuiltins x=some (.type T))(ha:VA X (e::es) fs)(hn:x≠"__name__":=by decide)(hdb:(x==("__debug__" : Str))=false:=by decide)
  (he:starEach (e::es) X.env=(false,eval e X.env)::starEach es X.env:=by rfl) (hpl:(backTo pos (starEach es X.env)).any (·.1)=false:=by rfl):VE X (.Call (.Name x p) (e::es) [] pos) (Ze g fs):=
 PE.imp (Pf hc hg hm hv ha hn hdb he hpl) (EV hr)
theorem SJ(hc:Wa X (.type T) r)(hr:BJ X.K r g)(hg:Gl X x)(hm:X.mg x=none)(hv:bootBuiltins x=some (.type T))(ha:VA X (e::es) fs)(hn:x≠"__name__":=by decide)(hdb:(x==("__debug__" : Str))=false:=by decide)
  (he:starEach (e::es) X.env=(false,eval e X.env)::starEach es X.env:=by rfl) (hpl:(backTo pos (starEach es X.env)).any (·.1)=false:=by rfl):VM X (.Call (.Name x p) (e::es) [] pos) (Ze g fs):=
 PE.imp (Pf hc hg hm hv ha hn hdb he hpl) (EW hr)
end
theorem Iss.one_inv{H:Hp}{l:PV}{vs:List V}{fp:List Addr}(h:Iss K H [l] vs fp):∃v,vs=[v]/\Is K H l v fp:=by
 obtain⟨x,r,f1,f2,rfl,a,b,rfl⟩:=h.inv
 simp only[Iss] at b
 rw[b.1,b.2,List.append_nil];exact⟨x,rfl,a⟩
theorem Iss.two_inv{H:Hp}{l m:PV}{vs:List V}{fp:List Addr}(h:Iss K H [l,m] vs fp):∃v w f1 f2,vs=[v,w]/\Is K H l v f1/\Is K H m w f2/\fp=f1++f2:=by
 obtain⟨x,r,f1,f2,rfl,a,b,rfl⟩:=h.inv
 obtain⟨y,rfl,c⟩:=b.one_inv
 exact⟨x,y,f1,f2,rfl,a,c,rfl⟩
def R3:PV->Option (List PV)
 | .lst l=>some l
 | .cst l=>some l
 | .tup l=>some l
 | _=>none
theorem UL{H:Hp}{l:PV}{v:V}{fp:List Addr}{m:List PV}(h:Is K H l v fp)(e:R3 l=some m):∃p xs fq,v = .ref p/\(SqL K H p xs\/SqT K H p xs)/\Iss K H m xs fq/\∀q∈fq,q∈fp:=by
 cases l with
 | lst l=>
  cases e
  obtain⟨p,xs,fq,rfl,hp,hi,rfl⟩:=h.lst_inv
  exact⟨p,xs,fq,rfl,.inl (SqL.of hp),hi,fun q hq=>List.mem_cons_of_mem _ hq⟩
 | cst l=>
  cases e
  obtain⟨p,xs,rfl,hp,hi⟩:=h.cst_inv
  exact⟨p,xs,fp,rfl,.inl hp.sq,hi,fun q hq=>hq⟩
 | tup l=>
  cases e
  obtain⟨p,xs,rfl,hp,hi⟩:=h.tup_inv
  exact⟨p,xs,fp,rfl,.inr (SqT.of hp),hi,fun q hq=>hq⟩
 | _=>cases e
def ZF:List PV->Option PV
 | [.str z]=>if z.length<=sizeLine then some (.int z.length) else none
 | [l]=>(R3 l).map fun m=>.int m.length
 | _=>none
theorem Yz:RC K (fun xs H Q=>∃x n,xs=[x]/\Bn K x H n/\Q (.int n) H) ZF:=fun H vs ls l fp h e Q k=>by
 unfold ZF at e
 split at e
 ·split at e
  ·cases e
   obtain⟨v,rfl,i⟩:=h.one_inv
   exact⟨v,_,rfl,by rw[i.str_inv.1];exact⟨by assumption,rfl⟩,k _ H [] (Same.refl H) (Is.int _) fun p hp=>by simp at hp⟩
  ·cases e
 ·obtain⟨m,e1,rfl⟩:=map_some e
  obtain⟨v,rfl,i⟩:=h.one_inv
  obtain⟨p,xs,fq,rfl,hp,hi,_⟩:=UL (K:=K) i e1
  refine⟨_,xs.length,rfl,?_,?_⟩
  ·rcases hp with hp | hp
   ·exact .inl ⟨xs,hp,rfl⟩
   ·exact .inr ⟨xs,hp,rfl⟩
  ·rw[hi.len]
   exact k _ H [] (Same.refl H) (Is.int _) fun p hp=>by simp at hp
 ·cases e
def WE:List PV->Option PV
 | [l]=>(R3 l).map .tup
 | _=>none
theorem Um:RC K (DZ K) WE:=fun H vs ls l fp h e Q k=>by
 unfold WE at e
 split at e
 ·obtain⟨m,e1,rfl⟩:=map_some e
  obtain⟨v,rfl,i⟩:=h.one_inv
  rename_i l0
  cases l0 with
  | tup l=>
   cases e1
   obtain⟨p,xs,rfl,hp,hi⟩:=id i.tup_inv
   exact⟨p,xs,rfl,.inr ⟨SqT.of hp,k _ H fp (Same.refl H) i fun a ha=>.inl ha⟩⟩
  | lst l=>
   cases e1
   obtain⟨p,xs,fq,rfl,hp,hi,rfl⟩:=i.lst_inv
   exact⟨p,xs,rfl,.inl ⟨SqL.of hp,fun q hq=>k _ _ fq (Same.new hq _) (Is.tup upd_same (hi.mono (Same.new hq _))) fun a ha=>.inl (List.mem_cons_of_mem _ ha)⟩⟩
  | cst l=>
   cases e1
   obtain⟨p,xs,rfl,hp,hi⟩:=i.cst_inv
   exact⟨p,xs,rfl,.inl ⟨hp.sq,fun q hq=>k _ _ fp (Same.new hq _) (Is.tup upd_same (hi.mono (Same.new hq _))) fun a ha=>.inl ha⟩⟩
  | _=>cases e1
 ·cases e
def Y3:List PV->Option PV
 | [l]=>(R3 l).bind fun m=>if ZE m=true then some (.lst m) else none
 | _=>none
theorem R4:BJ K (Fo K) Y3:=fun H vs ls l fp h e Q k=>by
 unfold Y3 at e
 split at e
 ·obtain⟨m,e1,e2⟩:=Zf e
  split at e2
  ·cases e2
   obtain⟨v,rfl,i⟩:=h.one_inv
   obtain⟨p,xs,fq,rfl,hp,hi,hs⟩:=UL (K:=K) i e1
   have:=Iss.pure _ _ _ (by assumption) hi
   subst this
   refine⟨p,xs,rfl,hp,fun q hq=>k _ _ [q] (Same.new hq _) (Is.lst upd_same (hi.mono (Same.new hq _))) (by simp) fun a ha=>?_⟩
   rw[List.mem_singleton.mp ha]
   exact⟨hq,by rw[upd_same];exact True.intro⟩
  ·cases e2
 ·cases e
def XH:List PV->Option (List Int)
 | []=>some []
 | .int i::r=>(XH r).map (i::·)
 | _=>none
theorem Wc:∀l:List Int,XH (iL l)=some l
 | []=>rfl
 | i::r=>by show(XH (iL r)).map (i::·)=_;rw[Wc r];rfl
theorem Xz:∀{m:List PV}{l:List Int},XH m=some l->m=iL l
 | [],l,h=>by cases h;rfl
 | .int i::r,l,h=>by
  obtain⟨a,e,rfl⟩:=map_some (show(XH r).map (i::·)=some l from h)
  rw[Xz e];rfl
 | .non::_,_,h=>by cases h
 | .bl _::_,_,h=>by cases h
 | .str _::_,_,h=>by cases h
 | .ty _::_,_,h=>by cases h
 | .exc _::_,_,h=>by cases h
 | .exf _ _::_,_,h=>by cases h
 | .tup _::_,_,h=>by cases h
 | .lst _::_,_,h=>by cases h
 | .cst _::_,_,h=>by cases h
 | .dK _ _::_,_,h=>by cases h
 | .dT _ _::_,_,h=>by cases h
abbrev bL(l:List Bool):List PV:=l.map PV.bl
def W4:List PV->Option (List Bool)
 | []=>some []
 | .bl i::r=>(W4 r).map (i::·)
 | _=>none
theorem U5:∀l:List Bool,W4 (bL l)=some l
 | []=>rfl
 | i::r=>by show(W4 (bL r)).map (i::·)=_;rw[U5 r];rfl
theorem Wr:∀{m:List PV}{l:List Bool},W4 m=some l->m=bL l
 | [],l,h=>by cases h;rfl
 | .bl i::r,l,h=>by
  obtain⟨a,e,rfl⟩:=map_some (show(W4 r).map (i::·)=some l from h)
  rw[Wr e];rfl
 | .non::_,_,h=>by cases h
 | .int _::_,_,h=>by cases h
 | .str _::_,_,h=>by cases h
 | .ty _::_,_,h=>by cases h
 | .exc _::_,_,h=>by cases h
 | .exf _ _::_,_,h=>by cases h
 | .tup _::_,_,h=>by cases h
 | .lst _::_,_,h=>by cases h
 | .cst _::_,_,h=>by cases h
 | .dK _ _::_,_,h=>by cases h
 | .dT _ _::_,_,h=>by cases h
theorem Iss.bL{H:Hp}:∀{l:List Bool}{xs:List V}{fp:List Addr},Iss K H (VL.bL l) xs fp->xs=l.map V.bl/\fp=[]
 | [],xs,fp,h=>by simpa only[VL.bL,List.map_nil,Iss] using h
 | i::l,xs,fp,h=>by
  obtain⟨x,r,f1,f2,rfl,h1,h2,rfl⟩:=Iss.inv (show Iss K H (PV.bl i::VL.bL l) xs fp from h)
  obtain⟨rfl,rfl⟩:=h1.bl_inv
  obtain⟨rfl,rfl⟩:=h2.bL
  exact⟨rfl,rfl⟩
theorem IV{H:Hp}{p:Addr}{xs:List V}(h:SqL K H p xs\/SqT K H p xs):∃b,QS b K H p xs:=by
 rcases h with h | h
 ·exact⟨true,h⟩
 ·exact⟨false,h⟩
def IW:List PV->Option PV
 | [l]=>(R3 l).bind fun m=>(XH m).map fun ns=>.int ns.sum
 | _=>none
def TM:List PV->Option PV
 | [l]=>(R3 l).bind fun m=>(W4 m).map fun bs=>.bl (bs.all id)
 | _=>none
theorem D8:RC K (fun xs H Q=>∃(b:Bool) (p:Addr) (ns:List Int),xs=[.ref p]/\QS b K H p (ns.map V.int)/\Q (.int ns.sum) H) IW:=fun H vs ls l fp h e Q k=>by
 unfold IW at e
 split at e
 ·obtain⟨m,e1,e2⟩:=Zf e
  obtain⟨ns,e3,rfl⟩:=map_some e2
  obtain⟨v,rfl,i⟩:=h.one_inv
  obtain⟨p,xs,fq,rfl,hp,hi,hs⟩:=UL (K:=K) i e1
  have em:=Xz e3;subst em
  obtain⟨rfl,rfl⟩:=hi.iL
  obtain⟨b,hb⟩:=IV hp
  exact⟨b,p,ns,rfl,hb,k _ H [] (Same.refl H) (Is.int _) fun p hp=>by simp at hp⟩
 ·cases e
theorem MS:RC K (fun xs H Q=>∃(b:Bool) (p:Addr) (bs:List Bool),xs=[.ref p]/\QS b K H p (bs.map V.bl)/\Q (.bl (bs.all id)) H) TM:=fun H vs ls l fp h e Q k=>by
 unfold TM at e
 split at e
 ·obtain⟨m,e1,e2⟩:=Zf e
  obtain⟨ns,e3,rfl⟩:=map_some e2
  obtain⟨v,rfl,i⟩:=h.one_inv
  obtain⟨p,xs,fq,rfl,hp,hi,hs⟩:=UL (K:=K) i e1
  have em:=Wr e3;subst em
  obtain⟨rfl,rfl⟩:=hi.bL
  obtain⟨b,hb⟩:=IV hp
  exact⟨b,p,ns,rfl,hb,k _ H [] (Same.refl H) (Is.bl _) fun p hp=>by simp at hp⟩
 ·cases e
def V7:List PV->Option PV
 | [.int i,.int j]=>some (.int (if j<i then j else i))
 | _=>none
def Pq:List PV->Option PV
 | [.int i,.int j]=>some (.int (if j>i then j else i))
 | _=>none
def Xk:List PV->Option PV
 | [.int i]=>some (.int i)
 | [.bl c]=>some (.int (if c then 1 else 0))
 | _=>none
theorem Oj:RC K (fun xs H Q=>∃i j,xs=[.int i,.int j]/\Q (.int (if j<i then j else i)) H) V7:=fun H vs ls l fp h e Q k=>by
 unfold V7 at e
 split at e
 ·cases e
  obtain⟨v,w,f1,f2,rfl,a,b,rfl⟩:=h.two_inv
  exact⟨_,_,by rw[a.int_inv.1,b.int_inv.1],k _ H [] (Same.refl H) (Is.int _) fun p hp=>by simp at hp⟩
 ·cases e
theorem FD:RC K (fun xs H Q=>∃i j,xs=[.int i,.int j]/\Q (.int (if j>i then j else i)) H) Pq:=fun H vs ls l fp h e Q k=>by
 unfold Pq at e
 split at e
 ·cases e
  obtain⟨v,w,f1,f2,rfl,a,b,rfl⟩:=h.two_inv
  exact⟨_,_,by rw[a.int_inv.1,b.int_inv.1],k _ H [] (Same.refl H) (Is.int _) fun p hp=>by simp at hp⟩
 ·cases e
theorem Ru:RC K (fun xs H Q=>(∃i,xs=[.int i]/\Q (.int i) H)\/∃k,xs=[.bl k]/\Q (.int (if k then 1 else 0)) H) Xk:=fun H vs ls l fp h e Q k=>by
 unfold Xk at e
 split at e
 ·cases e
  obtain⟨v,rfl,a⟩:=h.one_inv
  exact .inl ⟨_,by rw[a.int_inv.1],k _ H [] (Same.refl H) (Is.int _) fun p hp=>by simp at hp⟩
 ·cases e
  obtain⟨v,rfl,a⟩:=h.one_inv
  exact .inr ⟨_,by rw[a.bl_inv.1],k _ H [] (Same.refl H) (Is.int _) fun p hp=>by simp at hp⟩
 ·cases e
section
variable {X:Cx} {e:Expr} {es:List Expr} {fs:List XE} {p pos:Pos}
def V8:List PV->Option PV
 | [.int _,.ty "int"]=>some (.bl true)
 | [.int _,.ty "bool"]=>some (.bl false)
 | [.bl _,.ty "bool"]=>some (.bl true)
 | [.tup _,.ty "tuple"]=>some (.bl true)
 | [.lst _,.ty "list"]=>some (.bl true)
 | [.str _,.ty "str"]=>some (.bl true)
 | _=>none
theorem QY:PySem.W.kitOne K (.type "bool") (.type "bool")=some true:=rfl
theorem Rv:RC K (fun xs H Q=>∃x T t b,xs=[x,.ty T]/\TyOf K H x t/\PySem.W.kitOne K t (.type T)=some b/\Q (.bl b) H) V8:=fun H vs ls l fp h e Q k=>by
  have fin:∀b:Bool,l = .bl b->Q (.bl b) H:=fun b z=>by subst z;exact k _ H [] (Same.refl H) (Is.bl _) fun p hp=>by simp at hp
  unfold V8 at e
  split at e<;>first
    | (cases e
       obtain⟨v,w,f1,f2,rfl,a,b,rfl⟩:=h.two_inv
       first
         | (obtain⟨rfl,_⟩:=a.int_inv;first
             | exact⟨_,_,_,_,by rw[b.ty_inv.1],TyOf.int _,Ni,fin _ rfl⟩
             | exact⟨_,_,_,_,by rw[b.ty_inv.1],TyOf.int _,Og,fin _ rfl⟩)
         | (obtain⟨rfl,_⟩:=a.bl_inv;exact⟨_,_,_,_,by rw[b.ty_inv.1],TyOf.bl _,QY,fin _ rfl⟩)
         | (obtain⟨rfl,_⟩:=a.str_inv;exact⟨_,_,_,_,by rw[b.ty_inv.1],TyOf.str _,Nk,fin _ rfl⟩)
         | (obtain⟨q,xs,rfl,hp,_⟩:=a.tup_inv;exact⟨_,_,_,_,by rw[b.ty_inv.1],TyOf.tup hp,Nj,fin _ rfl⟩)
         | (obtain⟨q,xs,fq,rfl,hp,_⟩:=a.lst_inv
            exact⟨_,_,_,_,by rw[b.ty_inv.1],TyOf.lst hp,QV,fin _ rfl⟩))
    | cases e
theorem L8{x:Str}{n:String}(hg:Gl X x)(hm:X.mg x=none)(hv:bootBuiltins x=some (.type n))(hn:x≠"__name__":=by decide)(hd:(x==("__debug__" : Str))=false:=by decide):VE X (.Name x pos) (eC (.ty n)):=
 Fu (GR hg hm hv (v:=.ty n) rfl hn hd) fun _=>Is.ty n
end
end VL
namespace VL
open PySem PySem.Spec PyProof.Rows L2
variable {K:PySem.W.Frag}
open Classical in
noncomputable instance:DecidableEq PV:=fun a b=>propDecidable (a=b)
def XX:Nat->PV->PV->Bool
 | _+1,.non,.non=>true
 | _+1,.bl _,.bl _=>true
 | _+1,.int _,.int _=>true
 | _+1,.str _,.str _=>true
 | n+1,.tup l,.tup m=>(l.zip m).all fun z=>XX n z.1 z.2
 | n+1,.lst l,.lst m=>(l.zip m).all fun z=>XX n z.1 z.2
 | _,_,_=>false
theorem TN{α β:Type}{p:α×β->Bool}{a:α}{b:β}{l:List α}{m:List β}(h:((a::l).zip (b::m)).all p=true):p (a,b)=true/\(l.zip m).all p=true:=by
 rw[List.zip_cons_cons,List.all_cons,Bool.and_eq_true] at h;exact h
theorem Iss.inj'{n:Nat}{H:Hp}(ih:∀a b v fa fb,XX n a b=true->Is K H a v fa->Is K H b v fb->a=b):∀{l m:List PV}{xs:List V}{fa fb:List Addr},(l.zip m).all (fun z=>XX n z.1 z.2)=true->Iss K H l xs fa->Iss K H m xs fb->l=m
 | [],m,xs,fa,fb,_,h,h'=>by
  simp only[Iss] at h
  rw[h.1] at h'
  have:=h'.len
  cases m with
  | nil=>rfl
  | cons _ _=>simp at this
 | a::l,m,xs,fa,fb,hc,h,h'=>by
  obtain⟨x,r,f1,f2,rfl,h1,h2,rfl⟩:=h.inv
  cases m with
  | nil=>have:=h'.len;simp at this
  | cons b m=>
   obtain⟨x',r',g1,g2,e,h3,h4,rfl⟩:=h'.inv
   cases e
   obtain⟨c1,c2⟩:=TN hc
   rw[ih a b x f1 g1 c1 h1 h3,Iss.inj' ih c2 h2 h4]
theorem Is.inj'{H:Hp}:∀(n:Nat)(a b:PV)(v:V)(fa fb:List Addr),XX n a b=true->Is K H a v fa->Is K H b v fb->a=b
 | 0,a,b,v,fa,fb,hc,_,_=>by unfold XX at hc;simp at hc
 | n+1,a,b,v,fa,fb,hc,ha,hb=>by
  cases a<;>cases b<;>first
   | (exfalso;revert hc;unfold XX;simp;done)
   | skip
  ·rfl
  ·rw[ha.bl_inv.1] at hb;have:=hb.bl_inv.1;cases this;rfl
  ·rw[ha.int_inv.1] at hb;have:=hb.int_inv.1;cases this;rfl
  ·rw[ha.str_inv.1] at hb;have:=hb.str_inv.1;cases this;rfl
  ·obtain⟨p,xs,rfl,hp,hi⟩:=ha.tup_inv
   obtain⟨p',ys,e,hp',hi'⟩:=hb.tup_inv
   cases e
   rw[hp] at hp';cases hp'
   unfold XX at hc;rw[Iss.inj' (Is.inj' n) hc hi hi']
  ·obtain⟨p,xs,fq,rfl,hp,hi,_⟩:=ha.lst_inv
   obtain⟨p',ys,fq',e,hp',hi',_⟩:=hb.lst_inv
   cases e
   rw[hp] at hp';cases hp'
   unfold XX at hc;rw[Iss.inj' (Is.inj' n) hc hi hi']
section
variable {X:Cx} {pins:List (Addr×Obj)} {σ:TH} {H:Hp} {s:Shared} {A:Around}
theorem MT{n:Nat}(ih:∀a b x y fa fb u w,XX n a b=true->Is K H a x fa->Is K H b y fb->RelV x u->RelV y w->∃r,SeqAt.EqAt A s u w r/\(r=true↔a=b)) :
  ∀{l m:List PV}{xs ys:List V}{fa fb:List Addr}{us ws:List Value},(l.zip m).all (fun z=>XX n z.1 z.2)=true->Iss K H l xs fa->Iss K H m ys fb->Vals xs us->Vals ys ws->
  ∃e:Nat->Bool,(∀j (h1:j<us.length) (h2:j<ws.length),SeqAt.EqAt A s us[j] ws[j] (e j))/\((List.range (min us.length ws.length)).all e=true↔l.take (min us.length ws.length)=m.take (min us.length ws.length))
 | [],m,xs,ys,fa,fb,us,ws,_,h,_,r,_=>by
  simp only[Iss] at h
  obtain⟨rfl,_⟩:=h
  cases r
  exact⟨fun _=>true,fun j h1=>by simp at h1,by simp⟩
 | a::l,[],xs,ys,fa,fb,us,ws,_,_,h,_,r=>by
  simp only[Iss] at h
  obtain⟨rfl,_⟩:=h
  cases r
  exact⟨fun _=>true,fun j h1 h2=>by simp at h2,by simp⟩
 | a::l,b::m,xs,ys,fa,fb,us,ws,hc,h,h',r,r'=>by
  obtain⟨x,xr,f1,f2,rfl,h1,h2,rfl⟩:=h.inv
  obtain⟨y,yr,g1,g2,rfl,h3,h4,rfl⟩:=h'.inv
  obtain⟨c1,c2⟩:=TN hc
  cases r with
  | cons q v=>cases r' with
   | cons q' v'=>
    obtain⟨t,ht,ht'⟩:=ih a b x y f1 g1 _ _ c1 h1 h3 q q'
    obtain⟨e,he,he'⟩:=MT ih c2 h2 h4 v v'
    refine⟨fun j=>match j with | 0=>t | k+1=>e k,fun j h1 h2=>?_,?_⟩
    ·cases j with
     | zero=>exact ht
     | succ k=>exact he k (by simpa using h1) (by simpa using h2)
    ·simp only[List.length_cons,Nat.succ_min_succ,List.range_succ_eq_map,List.all_cons,List.all_map,Bool.and_eq_true,List.take_succ_cons,List.cons.injEq]
     exact and_congr ht' he'
theorem Iss.same'{l m:List PV}{xs ys:List V}{fa fb:List Addr}{us ws:List Value}(h:Iss K H l xs fa)(h':Iss K H m ys fb)(r:Vals xs us)(r':Vals ys ws) :
  (l.take (min us.length ws.length)=m.take (min us.length ws.length)/\us.length=ws.length)↔l=m:=by
 have e1:=h.len;have e2:=h'.len;have e3:=r.length;have e4:=r'.length;constructor
 ·rintro⟨a,b⟩
  rw[List.take_of_length_le (by omega),List.take_of_length_le (by omega)] at a;exact a
 ·intro a
  subst a
  exact⟨rfl,by omega⟩
def EX(A:Around)(s:Shared)(u w:Value)(r:Bool):Prop:=SeqAt.RcAt A s u w r/\SeqAt.RcNeAt A s u w !r
theorem R5(I:Inv X pins σ H s):∀(n:Nat)(A:Around)(a b:PV)(x y:V)(fa fb:List Addr)(u w:Value),A.units+2*n+2<cLine->XX n a b=true->Is K H a x fa->Is K H b y fb->RelV x u->RelV y w->
  (∃r,SeqAt.EqAt A s u w r/\(r=true↔a=b))/\∃r,EX A s u w r/\(r=true↔a=b)
 | 0,A,a,b,x,y,fa,fb,u,w,hu,hc,_,_,_,_=>by unfold XX at hc;simp at hc
 | n+1,A,a,b,x,y,fa,fb,u,w,hu,hc,ha,hb,ru,YM=>by
  cases a<;>cases b<;>first
   | (exfalso;revert hc;unfold XX;simp;done)
   | skip
  ·rw[ha.non_inv.1] at ru;rw[hb.non_inv.1] at YM
   cases ru;cases YM
   exact⟨⟨true,SeqAt.EqAt.same _,by simp⟩,true,⟨SeqAt.RcAt.none_none,SeqAt.RcNeAt.none_none⟩,by simp⟩
  ·rw[ha.bl_inv.1] at ru;rw[hb.bl_inv.1] at YM
   cases ru;cases YM
   exact⟨⟨_,SeqAt.EqAt.bool_bool _ _,by simp⟩,_,⟨SeqAt.RcAt.bool_bool _ _,SeqAt.RcNeAt.bool_bool _ _⟩,by simp⟩
  ·rw[ha.int_inv.1] at ru;rw[hb.int_inv.1] at YM
   obtain⟨t,rfl⟩:=ru
   obtain⟨t',rfl⟩:=YM
   exact⟨⟨_,SeqAt.EqAt.int_int _ _ _ _,by simp⟩,_,⟨SeqAt.RcAt.int_int _ _ _ _,SeqAt.RcNeAt.int_int _ _ _ _⟩,by simp⟩
  ·rw[ha.str_inv.1] at ru;rw[hb.str_inv.1] at YM
   obtain⟨t,rfl⟩:=ru
   obtain⟨t',rfl⟩:=YM
   exact⟨⟨_,SeqAt.EqAt.str_str _ _ _ _,by simp⟩,_,⟨SeqAt.RcAt.str_str _ _ _ _,SeqAt.RcNeAt.str_str _ _ _ _⟩,by simp⟩
  ·rename_i l1 l2
   obtain⟨p,xs,rfl,hp,hi⟩:=id ha.tup_inv
   obtain⟨p',ys,rfl,hp',hi'⟩:=id hb.tup_inv
   cases ru;cases YM;have hc':=hc
   unfold XX at hc'
   obtain⟨us,rv,q,_⟩:=I.tuple (SqT.of hp)
   obtain⟨ws,rv',q',_⟩:=I.tuple (SqT.of hp')
   obtain⟨f,hf,hf'⟩:=MT (A:=A.in1) (fun a b x y fa fb u w c i1 i2 r1 r2=>(R5 I n A.in1 a b x y fa fb u w (by show A.units+1+2*n+2<cLine;omega) c i1 i2 r1 r2).1) hc' hi hi' rv rv'
   have rc:=SeqAt.RcAt.tuples (A:=A) (e:=f) (show s.heap.IsTuple p us.toArray from q) (show s.heap.IsTuple p' ws.toArray from q') (by omega) (fun j h1 h2=>hf j (by simpa using h1) (by simpa using h2))
   have rn:=SeqAt.RcNeAt.tuples (A:=A) (e:=f) (show s.heap.IsTuple p us.toArray from q) (show s.heap.IsTuple p' ws.toArray from q') (by omega) (fun j h1 h2=>hf j (by simpa using h1) (by simpa using h2))
   have key:(((List.range (min us.toArray.size ws.toArray.size)).all f&&us.toArray.size==ws.toArray.size)=true)↔PV.tup l1=PV.tup l2:=by
    simp only[List.size_toArray,Bool.and_eq_true,beq_iff_eq,PV.tup.injEq];rw[hf']
    exact Iss.same' hi hi' rv rv'
   refine⟨?_,_,⟨rc,rn⟩,key⟩
   by_cases e:p=p'
   ·subst e
    exact⟨true,SeqAt.EqAt.same _,by simp[Is.inj' (n+1) _ _ _ _ _ hc ha hb]⟩
   ·exact⟨_,SeqAt.EqAt.of_refs e rc,key⟩
  ·rename_i l1 l2
   obtain⟨p,xs,fq,rfl,hp,hi,_⟩:=id ha.lst_inv
   obtain⟨p',ys,fq',rfl,hp',hi',_⟩:=id hb.lst_inv
   cases ru;cases YM;have hc':=hc
   unfold XX at hc'
   obtain⟨us,rv,q,_⟩:=I.list (SqL.of hp)
   obtain⟨ws,rv',q',_⟩:=I.list (SqL.of hp')
   obtain⟨f,hf,hf'⟩:=MT (A:=A.in1) (fun a b x y fa fb u w c i1 i2 r1 r2=>(R5 I n A.in1 a b x y fa fb u w (by show A.units+1+2*n+2<cLine;omega) c i1 i2 r1 r2).1) hc' hi hi' rv rv'
   have fin:∃r,EX A s (.ref p) (.ref p') r/\(r=true↔PV.lst l1=PV.lst l2):=by
    have key:=Iss.same' hi hi' rv rv'
    by_cases hsz:us.length=ws.length
    ·refine⟨_,⟨SeqAt.RcAt.lists (e:=f) q.isList q'.isList (by simpa using hsz) (by omega) (fun j h1 h2=>hf j (by simpa using h1) (by simpa using h2)),SeqAt.RcNeAt.lists (e:=f) q.isList q'.isList (by simpa using hsz) (by omega) (fun j h1 h2=>hf j (by simpa using h1) (by simpa using h2))⟩,?_⟩
     rw[hsz,Nat.min_self] at hf' key
     simp only[List.size_toArray,PV.lst.injEq];rw[hsz,hf',<-key]
     simp
    ·refine⟨false,⟨SeqAt.RcAt.lists_lengths q.isList q'.isList (by simpa using hsz) (by omega),SeqAt.RcNeAt.lists_lengths q.isList q'.isList (by simpa using hsz) (by omega)⟩,?_⟩
     rw[PV.lst.injEq,<-key];simp[hsz]
   obtain⟨r,hr,hk⟩:=fin
   refine⟨?_,r,hr,hk⟩
   by_cases e:p=p'
   ·subst e
    exact⟨true,SeqAt.EqAt.same _,by simp[Is.inj' (n+1) _ _ _ _ _ hc ha hb]⟩
   ·exact⟨r,SeqAt.EqAt.of_refs e hr.1,hk⟩
end
def D9(K:PySem.W.Frag)(neg:Bool):R2:=fun x y H Q=>∃a b fa fb,Is K H a x fa/\Is K H b y fb/\XX 8 a b=true/\∀r:Bool,(r=true↔a=b)->Q (.bl (if neg then !r else r)) H
section
variable {X:Cx}
theorem IX(hu:X.A.units+64<cLine):U2 X (compareOp .Eq) (D9 X.K false):=by
 intro pins s σ H x y v u Q I rx ry h
 obtain⟨a,b,fa,fb,ha,hb,hc,q⟩:=h
 obtain⟨_,r,hr,hk⟩:=R5 I 8 X.A a b x y fa fb v u (by omega) hc ha hb rx ry
 exact hr.1 X.prog X.w X.xe _ ⟨.bl r,H,I,rfl,q r hk⟩
theorem IY(hu:X.A.units+64<cLine):U2 X (compareOp .NotEq) (D9 X.K true):=by
 intro pins s σ H x y v u Q I rx ry h
 obtain⟨a,b,fa,fb,ha,hb,hc,q⟩:=h
 obtain⟨_,r,hr,hk⟩:=R5 I 8 X.A a b x y fa fb v u (by omega) hc ha hb rx ry
 exact hr.2 X.prog X.w X.xe _ ⟨.bl !r,H,I,rfl,q r hk⟩
end
noncomputable def YJ(neg:Bool):PV->PV->Option PV:=fun a b=>if XX 8 a b=true then some (.bl (if neg then !decide (a=b) else decide (a=b))) else none
theorem Ol(neg:Bool):RB K (D9 K neg) (YJ neg):=fun H x y a b l fa fb ha hb e Q k=>by
 unfold YJ at e
 split at e
 ·cases e
  refine⟨a,b,fa,fb,ha,hb,by assumption,fun r hr=>?_⟩
  have:r=decide (a=b):=by
   cases r with
   | true=>exact(decide_eq_true (hr.mp rfl)).symm
   | false=>exact(decide_eq_false fun z=>Bool.false_ne_true (hr.mpr z)).symm
  subst this
  exact k _ H [] (Same.refl H) (Is.bl _) fun p hp=>by simp at hp
 ·cases e
def Cc(K:PySem.W.Frag)(neg:Bool):R2:=fun x y H Q=>∃a b m fa fb,Is K H a x fa/\Is K H b y fb/\R3 b=some m/\(m.all fun z=>XX 8 z a)=true/\∀r:Bool,(r=true↔a∈m)->Q (.bl (if neg then !r else r)) H
section
variable {X:Cx} {pins:List (Addr×Obj)} {σ:TH} {H:Hp} {s:Shared}
theorem Rw{a:PV}{x:V}{fa:List Addr}{u:Value}{A:Around}(I:Inv X pins σ H s)(hu:A.units+18<cLine)(ha:Is K H a x fa)(rx:RelV x u):∀{m:List PV}{xs:List V}{fb:List Addr}{us:List Value},(m.all fun z=>XX 8 z a)=true->Iss K H m xs fb->Vals xs us->
  ∃e:Value->Bool,(∀y∈us,SeqAt.EqAt A s y u (e y))/\(us.any e=true↔a∈m):=fun{m xs fb us} hc h r=>by
 -- each one's answer
 have each:∀y∈us,∃t:Bool,SeqAt.EqAt A s y u t/\(t=true↔∃b,b∈m/\b=a/\∃z f,Is K H b z f/\RelV z y):=fun y hy=>by
  obtain⟨j,hj,e⟩:=List.mem_iff_getElem.mp hy
  have hl:=r.length
  have hxj:xs[j]?=some xs[j]:=List.getElem?_eq_getElem (by omega)
  obtain⟨b,f,hb,ib,_⟩:=h.get' hxj
  obtain⟨w,hw,YM⟩:=r.get hxj
  rw[List.getElem?_eq_getElem hj] at hw;cases hw;rw[e] at YM
  have hbm:b∈m:=List.mem_of_getElem? hb
  have cb:=List.all_eq_true.mp hc b hbm
  obtain⟨⟨t,ht,hk⟩,_⟩:=R5 I 8 A b a xs[j] x f fa y u (by omega) cb ib ha YM rx
  refine⟨t,ht,hk.trans ⟨fun z=>⟨b,hbm,z,xs[j],f,ib,YM⟩,fun⟨b',hb',e',z,f',i',r'⟩=>?_⟩⟩
  have ez:z=xs[j]:=r'.inj YM
  subst ez;have cb':=List.all_eq_true.mp hc b' hb'
  subst e'
  exact Is.inj' 8 b b' _ _ _ cb ib i'
 classical
 refine⟨fun y=>if hy:y∈us then(each y hy).choose else false,fun y hy=>?_,?_⟩
 ·simp only[dif_pos hy];exact(each y hy).choose_spec.1
 ·rw[List.any_eq_true]
  constructor
  ·rintro⟨y,hy,e⟩
   rw[dif_pos hy] at e
   obtain⟨b,hb,rfl,_⟩:=(each y hy).choose_spec.2.mp e
   exact hb
  ·intro hm
   obtain⟨j,hj,e⟩:=List.mem_iff_getElem.mp hm
   obtain⟨z,f,hz,iz,_⟩:=h.get (List.getElem?_eq_getElem hj)
   obtain⟨y,hy,ry⟩:=r.get hz
   have hyu:y∈us:=List.mem_of_getElem? hy
   refine⟨y,hyu,?_⟩
   rw[dif_pos hyu]
   exact(each y hyu).choose_spec.2.mpr ⟨a,hm,rfl,z,f,e▸iz,ry⟩
end
section
variable {X:Cx}
theorem Cd(hu:X.A.units+64<cLine):U2 X (compareOp .In) (Cc X.K false):=by
 intro pins s σ H x y v u Q I rx ry h
 obtain⟨a,b,m,fa,fb,ha,hb,hm,hc,q⟩:=h
 obtain⟨p,xs,fq,rfl,hp,hi,_⟩:=UL (K:=X.K) hb hm
 cases ry
 rcases hp with hp | hp
 ·obtain⟨us,rv,t,_⟩:=I.list hp
  obtain⟨e,he,hk⟩:=Rw (A:=X.A.in1) I (by show X.A.units+1+18<cLine;omega) ha rx hc hi rv
  refine SeqAt.in_listAt e t.isList (fun w hw=>he w (by simpa using hw)) ⟨.bl _,H,I,rfl,?_⟩
  rw[show us.toArray.any e=us.any e by simp]
  exact q _ hk
 ·obtain⟨us,rv,t,_⟩:=I.tuple hp
  obtain⟨e,he,hk⟩:=Rw (A:=X.A.in1) I (by show X.A.units+1+18<cLine;omega) ha rx hc hi rv
  refine SeqAt.in_tupleAt e t (fun w hw=>he w (by simpa using hw)) ⟨.bl _,H,I,rfl,?_⟩
  rw[show us.toArray.any e=us.any e by simp]
  exact q _ hk
theorem Jo(hu:X.A.units+64<cLine):U2 X (compareOp .NotIn) (Cc X.K true):=by
 intro pins s σ H x y v u Q I rx ry h
 obtain⟨a,b,m,fa,fb,ha,hb,hm,hc,q⟩:=h
 obtain⟨p,xs,fq,rfl,hp,hi,_⟩:=UL (K:=X.K) hb hm
 cases ry
 rcases hp with hp | hp
 ·obtain⟨us,rv,t,_⟩:=I.list hp
  obtain⟨e,he,hk⟩:=Rw (A:=X.A.in1) I (by show X.A.units+1+18<cLine;omega) ha rx hc hi rv
  refine SeqAt.notIn_listAt e t.isList (fun w hw=>he w (by simpa using hw)) ⟨.bl _,H,I,rfl,?_⟩
  rw[show us.toArray.any e=us.any e by simp]
  exact q _ hk
 ·obtain⟨us,rv,t,_⟩:=I.tuple hp
  obtain⟨e,he,hk⟩:=Rw (A:=X.A.in1) I (by show X.A.units+1+18<cLine;omega) ha rx hc hi rv
  refine SeqAt.notIn_tupleAt e t (fun w hw=>he w (by simpa using hw)) ⟨.bl _,H,I,rfl,?_⟩
  rw[show us.toArray.any e=us.any e by simp]
  exact q _ hk
end
noncomputable def Nu(neg:Bool):PV->PV->Option PV:=fun a b=>(R3 b).bind fun m=>if(m.all fun z=>XX 8 z a)=true then some (.bl (if neg then !decide (a∈m) else decide (a∈m))) else none
theorem IZ(neg:Bool):RB K (Cc K neg) (Nu neg):=fun H x y a b l fa fb ha hb e Q k=>by
 obtain⟨m,hm,e⟩:=Zf e
 split at e
 ·cases e
  refine⟨a,b,m,fa,fb,ha,hb,hm,by assumption,fun r hr=>?_⟩
  have:r=decide (a∈m):=by
   cases r with
   | true=>exact(decide_eq_true (hr.mp rfl)).symm
   | false=>exact(decide_eq_false fun z=>Bool.false_ne_true (hr.mpr z)).symm
  subst this
  exact k _ H [] (Same.refl H) (Is.bl _) fun p hp=>by simp at hp
 ·cases e
end VL
namespace VL
open PySem PySem.Spec PyProof.Rows L2
variable {K:PySem.W.Frag}
mutual
theorem Is.dom{H:Hp}:∀(l:PV)(v:V)(fp:List Addr),Is K H l v fp->∀p∈fp,H p≠none
 | .non,_,_,h=>by simp only[Is] at h;rw[h.2];simp
 | .bl _,_,_,h=>by simp only[Is] at h;rw[h.2];simp
 | .int _,_,_,h=>by simp only[Is] at h;rw[h.2];simp
 | .str _,_,_,h=>by simp only[Is] at h;rw[h.2];simp
 | .ty _,_,_,h=>by simp only[Is] at h;rw[h.2];simp
 | .exc _,_,_,h=>by simp only[Is] at h;rw[h.2];simp
 | .exf _ _,_,_,h=>by simp only[Is] at h;rw[h.2];simp
 | .tup l,v,fp,h=>by
  obtain⟨p,xs,_,_,hi⟩:=h.tup_inv
  exact Iss.dom l xs fp hi
 | .lst l,v,fp,h=>by
  obtain⟨p,xs,fq,_,hp,hi,rfl⟩:=h.lst_inv
  intro q hq
  rcases List.mem_cons.mp hq with rfl | hq
  ·rw[hp];simp
  ·exact Iss.dom l xs fq hi q hq
 | .cst l,v,fp,h=>by
  obtain⟨p,xs,_,_,hi⟩:=h.cst_inv
  exact Iss.dom l xs fp hi
 | .dK ks l,v,fp,h=>by
  obtain⟨p,kvs,fq,_,hp,_,hi,rfl⟩:=h.dK_inv
  intro q hq
  rcases List.mem_cons.mp hq with rfl | hq
  ·rcases hp with e | ⟨o,e⟩<;>rw[e]<;>simp
  ·exact Iss.dom l _ fq hi q hq
 | .dT ks l,v,fp,h=>by
  obtain⟨p,kvs,fq,_,hp,_,hi,rfl⟩:=h.dT_inv
  intro q hq
  rcases List.mem_cons.mp hq with rfl | hq
  ·rcases hp with e | ⟨o,e⟩<;>rw[e]<;>simp
  ·exact Iss.dom l _ fq hi q hq
theorem Iss.dom{H:Hp}:∀(l:List PV)(xs:List V)(fp:List Addr),Iss K H l xs fp->∀p∈fp,H p≠none
 | [],_,_,h=>by simp only[Iss] at h;rw[h.2];simp
 | l::ls,xs,fp,h=>by
  obtain⟨x,r,f1,f2,_,h1,h2,rfl⟩:=h.inv
  intro q hq
  rcases List.mem_append.mp hq with hq | hq
  ·exact Is.dom l x f1 h1 q hq
  ·exact Iss.dom ls r f2 h2 q hq
end
def Ab(Rm:Addr->Prop)(H H':Hp):Prop:=∀b o,H b=some o->¬Rm b->H' b=some o
theorem Same.ab{Rm:Addr->Prop}{H H':Hp}(s:Same H H'):Ab Rm H H':=fun b o h _=>s b o h
theorem Ab.tk{Rm:Addr->Prop}{H H':Hp}(a:Ab Rm H H')(hd:∀p,Rm p->Vl (H p)):TK2 H H':=⟨fun b xs h=>a b _ h fun z=>by
 have:=hd b z
 rw[h] at this;exact this,fun b o xs h=>a b _ h fun z=>by
 have:=hd b z
 rw[h] at this;exact this,fun b o x h=>a b _ h fun z=>by
 have:=hd b z
 rw[h] at this;exact this⟩
theorem Is.ab{Rm:Addr->Prop}{H H':Hp}(a:Ab Rm H H')(hd:∀p,Rm p->Vl (H p)){l:PV}{v:V}{fp:List Addr}(n:∀p∈fp,¬Rm p)(h:Is K H l v fp):Is K H' l v fp:=
 Is.tr (a.tk hd) l v fp (fun p hp=>RdK.of fun o q=>a p o q (n p hp)) h
structure BK(K:PySem.W.Frag)(Rm:Addr->Prop)(H1:Hp)(J:It)(ls:List PV):Prop where
 stop:∀H',Ab Rm H1 H'->J.stop ls.length H'
 go:∀H' (i:Nat) l,Ab Rm H1 H'->ls[i]?=some l->J.go i H'
 yld:∀H' (i:Nat) l x H'',Ab Rm H1 H'->ls[i]?=some l->J.yld i H' x H''->Same H' H''/\∃fp,Is K H'' l x fp/\∀p∈fp,H1 p≠none/\¬Rm p
abbrev XL:=ZP->Option (List PV)
def iF(K:PySem.W.Frag)(f:XL):TI:=fun σ H R=>∃(Rm:Addr->Prop) (s:ZP) (ls:List PV),(∀p,Rm p->Vl (H p))/\EnvIs K Rm H s σ/\f s=some ls/\∀J H1,Same H H1->BK K Rm H1 J ls->R J H1
def VI(X:Cx)(tg e:Expr)(f:XL):Prop:=PI X tg e (iF X.K f)
section
variable {X:Cx} {tg e:Expr} {es:List Expr}
theorem PI.imp{t t':TI}(h:PI X tg e t)(i:∀σ H R,t' σ H R->t σ H R):PI X tg e t':=fun pins s σ H R I q=>h pins s σ H R I (i σ H R q)
def Ce:PV->Option (List PV)
 | .lst m=>some m
 | .cst m=>some m
 | _=>none
def Wd(f:XE):XL:=fun s=>(f s).bind Ce
def TQ(f:XE):XL:=fun s=>match f s with | some (.tup m)=>some m | _=>none
theorem Ha{a:PV}{m:List PV}(h:Ce a=some m):a = .lst m\/a = .cst m:=by
 unfold Ce at h;split at h
 ·cases h;exact .inl rfl
 ·cases h;exact .inr rfl
 ·cases h
theorem Jp{f:XE}{s:ZP}{m:List PV}(h:TQ f s=some m):f s=some (.tup m):=by
 unfold TQ at h;split at h
 ·cases h;assumption
 ·cases h
theorem W5{f:XE}(h:VE X e f):VI X tg e (Wd f):=PI.imp (GV h) fun σ H R ⟨Rm,s,ls,hd,env,e,k⟩=>by
 obtain⟨l,e1,e2⟩:=Zf e
 refine⟨Rm,s,l,hd,env,e1,fun v H1 fp s1 i1 n1=>?_⟩
 have hd1:∀p,Rm p->Vl (H1 p):=fun p hp=>Same.mut s1 (hd p hp)
 have main:∀a xs fq,v = .ref a->SqL X.K H1 a xs->(∀H',Ab Rm H1 H'->SqL X.K H' a xs)->Iss X.K H1 ls xs fq->(∀p∈fq,p∈fp)->∃a,v = .ref a/\(∃xs,SqL X.K H1 a xs)/\R (AB X.K a) H1:=by
  rintro a xs fq rfl ha keep hi sub
  refine⟨a,rfl,⟨xs,ha⟩,k _ H1 s1 ⟨fun H' ab=>⟨xs,keep H' ab,by rw[hi.len];exact Nat.le_refl _⟩,fun H' i l ab hl=>?_,fun H' i l x H'' ab hl y=>?_⟩⟩
  ·obtain⟨x,f1,hx,_,_⟩:=hi.get hl
   exact⟨xs,x,keep H' ab,hx⟩
  ·obtain⟨rfl,y⟩:=y
   obtain⟨x',f1,hx,ix,sub'⟩:=hi.get hl
   have:=y xs (keep _ ab)
   rw[hx] at this;cases this
   have n1':∀p∈f1,¬Rm p:=fun p hp=>n1 p (sub p (sub' p hp))
   exact⟨Same.refl _,f1,ix.ab ab hd1 n1',fun p hp=>⟨Is.dom _ _ _ ix p hp,n1' p hp⟩⟩
 rcases Ha e2 with rfl | rfl
 ·obtain⟨a,xs,fq,rfl,ha,hi,rfl⟩:=i1.lst_inv
  exact main a xs fq rfl (SqL.of ha) (fun H' ab=>SqL.of (ab a _ ha (n1 a List.mem_cons_self))) hi fun p hp=>List.mem_cons_of_mem _ hp
 ·obtain⟨a,xs,rfl,ha,hi⟩:=i1.cst_inv
  exact main a xs fp rfl ha.sq (fun H' ab=>(ha.tr (ab.tk hd1)).sq) hi fun p hp=>hp
theorem MU{f:XE}(h:VE X e f):VI X tg e (TQ f):=PI.imp (DA h) fun σ H R ⟨Rm,s,ls,hd,env,e,k⟩=>by
 refine⟨Rm,s,.tup ls,hd,env,Jp e,fun v H1 fp s1 i1 n1=>?_⟩
 obtain⟨a,xs,rfl,ha,hi⟩:=i1.tup_inv
 have hd1:∀p,Rm p->Vl (H1 p):=fun p hp=>Same.mut s1 (hd p hp)
 have keep:∀H',Ab Rm H1 H'->SqT X.K H' a xs:=fun H' ab=>SqT.of ((ab.tk hd1).tup a xs ha)
 refine⟨a,rfl,⟨xs,SqT.of ha⟩,k _ H1 s1 ⟨fun H' ab=>⟨xs,keep H' ab,by rw[hi.len];exact Nat.le_refl _⟩,fun H' i l ab hl=>?_,fun H' i l x H'' ab hl y=>?_⟩⟩
 ·obtain⟨x,f1,hx,_,_⟩:=hi.get hl
  exact⟨xs,x,keep H' ab,hx⟩
 ·obtain⟨rfl,y⟩:=y
  obtain⟨x',f1,hx,ix,sub⟩:=hi.get hl
  have:=y xs (keep _ ab)
  rw[hx] at this;cases this
  have n1':∀p∈f1,¬Rm p:=fun p hp=>n1 p (sub p hp)
  exact⟨Same.refl _,f1,ix.ab ab hd1 n1',fun p hp=>⟨Is.dom _ _ _ ix p hp,n1' p hp⟩⟩
def Wl(n:Nat):List PV:=(List.range n).map fun(i:Nat)=>PV.int (i:Int)
def Xn(lo:Int)(n:Nat):List PV:=(List.range n).map fun(i:Nat)=>PV.int (lo+(i:Int))
def Z5(fs:List XE):XL:=fun s=>match Td fs s with | some [.int j]=>if -1000000<=j/\j<=1000000 then some (Wl j.toNat) else none | _=>none
def ZY(fs:List XE):XL:=fun s=>match Td fs s with | some [.int i,.int j]=>if -1000000<=i/\i<=1000000/\-1000000<=j/\j<=1000000 then some (Xn i (j-i).toNat) else none | _=>none
theorem Om{Rm:Addr->Prop}{H1:Hp}(lo:Int)(n:Nat):BK K Rm H1 (Bd lo n) (Xn lo n):=by
 refine⟨fun H' _=>by unfold Xn;rw[List.length_map,List.length_range];exact Nat.le_refl n,fun H' i l _ hl=>?_,fun H' i l x H'' _ hl y=>?_⟩
 ·have:=(List.getElem?_eq_some_iff.mp hl).1
  unfold Xn at this;rw[List.length_map,List.length_range] at this;exact this
 ·obtain⟨rfl,rfl⟩:=y
  have hi:=(List.getElem?_eq_some_iff.mp hl).1
  unfold Xn at hi hl;rw[List.length_map,List.length_range] at hi;rw[List.getElem?_map,List.getElem?_range hi] at hl;cases hl
  exact⟨Same.refl _,[],Is.int _,fun p hp=>by simp at hp⟩
theorem FE(n:Nat):Wl n=Xn 0 n:=by
 unfold Wl Xn
 apply List.map_congr_left
 intro i _;rw[Int.zero_add]
theorem Y1{a:Expr}{fs:List XE}{p pos:Pos}(hg:Gl X "range")(hm:X.mg "range" = none)(ha:VA X [a] fs)(hs:starEach [a] X.env=[(false,eval a X.env)]:=by rfl):VI X tg (.Call (.Name "range" p) [a] [] pos) (Z5 fs):=
 PI.imp (K5 hg hm ha hs) fun σ H R ⟨Rm,s,ls,hd,env,e,k⟩=>by
 unfold Z5 at e
 split at e
 ·split at e
  ·cases e
   rename_i j he hb
   refine⟨Rm,s,_,hd,env,he,fun vs H1 fp s1 i1 _=>?_⟩
   obtain⟨v,rfl,i⟩:=i1.one_inv
   refine⟨j,by rw[i.int_inv.1],by omega,by omega,k _ H1 s1 ?_⟩
   rw[FE];exact Om _ _
  ·cases e
 ·cases e
theorem Xc{a b:Expr}{fs:List XE}{p pos:Pos}(hg:Gl X "range")(hm:X.mg "range" = none)(ha:VA X [a,b] fs)(hs:starEach [a,b] X.env=[(false,eval a X.env),(false,eval b X.env)]:=by rfl)(hs2:starEach [b] X.env=[(false,eval b X.env)]:=by rfl):VI X tg (.Call (.Name "range" p) [a,b] [] pos) (ZY fs):=
 PI.imp (Pa hg hm ha hs hs2) fun σ H R ⟨Rm,s,ls,hd,env,e,k⟩=>by
 unfold ZY at e
 split at e
 ·split at e
  ·cases e
   rename_i i j he hb
   refine⟨Rm,s,_,hd,env,he,fun vs H1 fp s1 i1 _=>?_⟩
   obtain⟨v,w,f1,f2,rfl,iv,iw,_⟩:=i1.two_inv
   exact⟨i,j,by rw[iv.int_inv.1,iw.int_inv.1],⟨by omega,by omega,by omega,by omega⟩,k _ H1 s1 (Om _ _)⟩
  ·cases e
 ·cases e
def Vo(m:List PV):List PV:=m.zipIdx.map fun z=>.tup [.int (z.2:Nat),z.1]
def QZ(m n:List PV):List PV:=(m.zip n).map fun z=>.tup [z.1,z.2]
theorem Pr{m:List PV}{i:Nat}{l:PV}(h:(Vo m)[i]?=some l):∃a,m[i]?=some a/\l = .tup [.int (i:Nat),a]:=by
 unfold Vo at h;rw[List.getElem?_map,List.getElem?_zipIdx] at h
 cases q:m[i]? with
 | none=>rw[q] at h;cases h
 | some a=>rw[q] at h;cases h;exact⟨a,rfl,by simp⟩
theorem UM(m:List PV):(Vo m).length=m.length:=by unfold Vo;rw[List.length_map,List.length_zipIdx]
theorem Nv{m n:List PV}{i:Nat}{l:PV}(h:(QZ m n)[i]?=some l):∃a b,m[i]?=some a/\n[i]?=some b/\l = .tup [a,b]:=by
 unfold QZ at h;rw[List.getElem?_map] at h
 cases q:(m.zip n)[i]? with
 | none=>rw[q] at h;cases h
 | some z=>
  rw[q] at h;cases h
  obtain⟨q1,q2⟩:=List.getElem?_zip_eq_some.mp q
  exact⟨z.1,z.2,q1,q2,rfl⟩
theorem Nw(m n:List PV):(QZ m n).length=min m.length n.length:=by unfold QZ;rw[List.length_map,List.length_zip]
def seqB:Bool->PV->Option (List PV)
 | true,.lst l=>some l
 | true,.cst l=>some l
 | false,.tup l=>some l
 | _,_=>none
theorem Oo{H:Hp}{b:Bool}{l:PV}{v:V}{fp:List Addr}{m:List PV}(h:Is K H l v fp)(e:seqB b l=some m):∃p xs fq,v = .ref p/\Iss K H m xs fq/\(∀q∈fq,q∈fp)/\∀(Rm:Addr->Prop) H',Ab Rm H H'->(∀p,Rm p->Vl (H p))->(∀p∈fp,¬Rm p)->QS b K H' p xs:=by
 cases b with
 | true=>cases l with
  | lst l=>
   cases e
   obtain⟨p,xs,fq,rfl,hp,hi,rfl⟩:=h.lst_inv
   exact⟨p,xs,fq,rfl,hi,fun q hq=>List.mem_cons_of_mem _ hq,fun Rm H' ab _ n=>SqL.of (ab p _ hp (n p List.mem_cons_self))⟩
  | cst l=>
   cases e
   obtain⟨p,xs,rfl,hp,hi⟩:=h.cst_inv
   exact⟨p,xs,fp,rfl,hi,fun q hq=>hq,fun Rm H' ab hd _=>(hp.tr (ab.tk hd)).sq⟩
  | _=>cases e
 | false=>cases l with
  | tup l=>
   cases e
   obtain⟨p,xs,rfl,hp,hi⟩:=h.tup_inv
   exact⟨p,xs,fp,rfl,hi,fun q hq=>hq,fun Rm H' ab hd _=>SqT.of ((ab.tk hd).tup p xs hp)⟩
  | _=>cases e
def U6(b:Bool)(fs:List XE):XL:=fun s=>match Td fs s with | some [l]=>(seqB b l).map Vo | _=>none
def Hb(b1 b2:Bool)(fs:List XE):XL:=fun s=>match Td fs s with | some [l,r]=>(seqB b1 l).bind fun m=>(seqB b2 r).map fun n=>QZ m n | _=>none
theorem L9{elts:List Expr}{k:Nat}{tpos:Pos}(b:Bool){a:Expr}{fs:List XE}{p pos:Pos}(hg:Gl X "enumerate")(hm:X.mg "enumerate" = none)(ha:VA X [a] fs)(hs:starEach [a] X.env=[(false,eval a X.env)]:=by rfl) :
  VI X (.Tuple elts k tpos) (.Call (.Name "enumerate" p) [a] [] pos) (U6 b fs):=PI.imp (Fj b hg hm ha hs) fun σ H R ⟨Rm,s,ls,hd,env,e,k⟩=>by
 unfold U6 at e
 split at e
 ·rename_i l he
  obtain⟨m,e1,rfl⟩:=map_some e
  refine⟨Rm,s,_,hd,env,he,fun vs H1 fp s1 i1 n1=>?_⟩
  obtain⟨v,rfl,i⟩:=i1.one_inv
  have hd1:∀p,Rm p->Vl (H1 p):=fun p hp=>Same.mut s1 (hd p hp)
  obtain⟨a,xs,fq,rfl,hi,sub,keep⟩:=Oo (K:=X.K) i e1
  have kp:=fun H' ab=>keep Rm H' ab hd1 n1
  refine⟨a,rfl,⟨xs,kp H1 (Same.ab (Same.refl H1))⟩,k _ H1 s1 ⟨fun H' ab=>⟨xs,kp H' ab,by rw[UM,hi.len]⟩,fun H' i l ab hl=>?_,fun H' i l x H'' ab hl y=>?_⟩⟩
  ·obtain⟨c,hc,rfl⟩:=Pr hl
   obtain⟨x,f1,hx,_,_⟩:=hi.get hc
   exact⟨xs,x,kp H' ab,hx⟩
  ·obtain⟨c,hc,rfl⟩:=Pr hl
   obtain⟨x',f1,hx,ix,sb⟩:=hi.get hc
   obtain⟨q,z,hq,rfl,rfl,y⟩:=y
   have:=y xs (kp _ ab)
   rw[hx] at this;cases this
   have n1':∀p∈f1,¬Rm p:=fun p hp=>n1 p (sub p (sb p hp))
   refine⟨Same.new hq _,f1,Is.tup upd_same ?_,fun p hp=>⟨Is.dom _ _ _ ix p hp,n1' p hp⟩⟩
   exact Iss.cons (f1:=[]) (Is.int _) (Iss.one ((ix.ab ab hd1 n1').mono (Same.new hq _)))
 ·cases e
theorem Cf{elts:List Expr}{k:Nat}{tpos:Pos}(b1 b2:Bool){a b:Expr}{fs:List XE}{p pos:Pos}(hg:Gl X "zip")(hm:X.mg "zip" = none)(ha:VA X [a,b] fs)
  (hs:starEach [a,b] X.env=[(false,eval a X.env),(false,eval b X.env)]:=by rfl) (hs2:starEach [b] X.env=[(false,eval b X.env)]:=by rfl) :
  VI X (.Tuple elts k tpos) (.Call (.Name "zip" p) [a,b] [] pos) (Hb b1 b2 fs):=PI.imp (DU b1 b2 hg hm ha hs hs2) fun σ H R ⟨Rm,s,ls,hd,env,e,k⟩=>by
 unfold Hb at e
 split at e
 ·rename_i l r he
  obtain⟨m,e1,e⟩:=Zf e
  obtain⟨n,e2,rfl⟩:=map_some e
  refine⟨Rm,s,_,hd,env,he,fun vs H1 fp s1 i1 n1=>?_⟩
  obtain⟨v,w,g1,g2,rfl,iv,iw,rfl⟩:=i1.two_inv
  have hd1:∀p,Rm p->Vl (H1 p):=fun p hp=>Same.mut s1 (hd p hp)
  have ng1:∀p∈g1,¬Rm p:=fun p hp=>n1 p (List.mem_append_left _ hp)
  have ng2:∀p∈g2,¬Rm p:=fun p hp=>n1 p (List.mem_append_right _ hp)
  obtain⟨a1,xs,fq,rfl,hi,sub,keep⟩:=Oo (K:=X.K) iv e1
  obtain⟨a2,ys,fr,rfl,hj,sub2,keep2⟩:=Oo (K:=X.K) iw e2
  have kp:=fun H' ab=>keep Rm H' ab hd1 ng1
  have kp2:=fun H' ab=>keep2 Rm H' ab hd1 ng2
  refine⟨a1,a2,rfl,⟨xs,kp H1 (Same.ab (Same.refl H1))⟩,⟨ys,kp2 H1 (Same.ab (Same.refl H1))⟩,k _ H1 s1 ⟨fun H' ab=>⟨xs,ys,kp H' ab,kp2 H' ab,?_⟩,fun H' i l ab hl=>?_,fun H' i l x H'' ab hl y=>?_⟩⟩
  ·rw[Nw,hi.len,hj.len]
   omega
  ·obtain⟨c,d,hc,hd',rfl⟩:=Nv hl
   obtain⟨x,f1,hx,_,_⟩:=hi.get hc
   obtain⟨y,f2,hy,_,_⟩:=hj.get hd'
   exact⟨xs,ys,x,y,kp H' ab,kp2 H' ab,hx,hy⟩
  ·obtain⟨c,d,hc,hd',rfl⟩:=Nv hl
   obtain⟨x',f1,hx,ix,sb⟩:=hi.get hc
   obtain⟨y',f2,hy,iy,sb2⟩:=hj.get hd'
   obtain⟨q,z,z',hq,rfl,rfl,y1,y2⟩:=y
   have:=y1 xs (kp _ ab)
   rw[hx] at this;cases this
   have:=y2 ys (kp2 _ ab)
   rw[hy] at this;cases this
   have n1':∀p∈f1,¬Rm p:=fun p hp=>ng1 p (sub p (sb p hp))
   have n2':∀p∈f2,¬Rm p:=fun p hp=>ng2 p (sub2 p (sb2 p hp))
   refine⟨Same.new hq _,f1++f2,Is.tup upd_same ?_,fun p hp=>?_⟩
   ·exact Iss.cons ((ix.ab ab hd1 n1').mono (Same.new hq _)) (Iss.one ((iy.ab ab hd1 n2').mono (Same.new hq _)))
   ·rcases List.mem_append.mp hp with hp | hp
    ·exact⟨Is.dom _ _ _ ix p hp,n1' p hp⟩
    ·exact⟨Is.dom _ _ _ iy p hp,n2' p hp⟩
 ·cases e
end
inductive Tgt where
 | one (i:Nat) | many (is:List Nat)
def Tgt.slots:Tgt->List Nat
 | .one i=>[i]
 | .many is=>is
def setAll:List Nat->List PV->ZP->ZP
 | i::is,l::ls,s=>setAll is ls (s.set i (some l))
 | _,_,s=>s
def Xd:List Nat->List V->TH->TH
 | i::is,l::ls,s=>Xd is ls (s.set i (some l))
 | _,_,s=>s
def Uo:Tgt->PV->ZP->Option ZP
 | .one i,l,s=>some (s.set i (some l))
 | .many is,.tup ls,s=>if ls.length=is.length then some (setAll is ls s) else none
 | _,_,_=>none
def MV:List Nat->EH
 | []=>Ba
 | i::is=>EI (S4 i) (MV is)
def gT(K:PySem.W.Frag):Tgt->TG
 | .one i=>S4 i
 | .many is=>Bb K is.length (MV is)
theorem R6:∀{is:List Nat}{vs:List V}{σ:TH}{H:Hp}{Q:TH->Hp->Prop},vs.length=is.length->Q (Xd is vs σ) H->MV is vs σ H Q
 | [],[],_,_,_,_,q=>⟨rfl,q⟩
 | [],_::_,_,_,_,h,_=>by simp at h
 | _::_,[],_,_,_,h,_=>by simp at h
 | i::is,v::vs,σ,H,Q,h,q=>⟨v,vs,rfl,R6 (is:=is) (vs:=vs) (by simpa using h) q⟩
theorem Oq{T:Tgt}{l:PV}{v:V}{fp:List Addr}{s s':ZP}{H:Hp}(h:Is K H l v fp)(e:Uo T l s=some s') :
  ∃ls vs fs,s'=setAll T.slots ls s/\Iss K H ls vs fs/\ls.length=T.slots.length/\(∀p∈fs,p∈fp)/\∀σ (Q:TH->Hp->Prop),Q (Xd T.slots vs σ) H->gT K T v σ H Q:=by
 cases T with
 | one i=>
  cases e
  exact⟨[l],[v],fp,rfl,Iss.one h,rfl,fun p hp=>hp,fun σ Q q=>q⟩
 | many is=>
  cases l with
  | tup ls=>
   have e:(if ls.length=is.length then some (VL.setAll is ls s) else none)=some s':=e
   split at e
   ·cases e
    obtain⟨p,xs,rfl,hp,hi⟩:=h.tup_inv
    exact⟨ls,xs,fp,rfl,hi,by assumption,fun p hp=>hp,fun σ Q q=>⟨p,xs,rfl,SqT.of hp,by rw[hi.len];assumption,R6 (by rw[hi.len];assumption) q⟩⟩
   ·cases e
  | _=>cases e
theorem VN:∀{is:List Nat}{vs:List V}{σ:TH}{n:Nat},(∀i∈is,i<n)->(Xd is vs σ).drop n=σ.drop n
 | [],_,_,_,_=>rfl
 | _::_,[],_,_,_=>rfl
 | i::is,v::vs,σ,n,h=>by
  show(Xd is vs (σ.set i (some v))).drop n=_
  rw[VN (fun j hj=>h j (List.mem_cons_of_mem _ hj))]
  have:=h i List.mem_cons_self
  rw[List.drop_set,if_pos this]
theorem EnvIs.set{Rm:Addr->Prop}{H:Hp}{s:ZP}{σ:TH}{i:Nat}{l:PV}{v:V}{fp:List Addr}(h:EnvIs K Rm H s σ)(hl:s.length=σ.length)(hi:Is K H l v fp)(n:∀p∈fp,¬Rm p):EnvIs K Rm H (s.set i (some l)) (σ.set i (some v)):=⟨fun j a e=>by
 rw[List.getElem?_set] at e
 by_cases hj:i=j
 ·subst hj
  rw[if_pos rfl] at e
  split at e
  ·cases e
   exact⟨v,fp,by rw[List.getElem?_set,if_pos rfl,if_pos (by omega)],hi,n⟩
  ·cases e
 ·rw[if_neg hj] at e
  obtain⟨w,f,h1,h2,h3⟩:=h.is j a e
  exact⟨w,f,by rw[List.getElem?_set,if_neg hj];exact h1,h2,h3⟩⟩
theorem EnvIs.setAll{Rm:Addr->Prop}{H:Hp}:∀{is:List Nat}{ls:List PV}{vs:List V}{fs:List Addr}{s:ZP}{σ:TH},EnvIs K Rm H s σ->s.length=σ.length->Iss K H ls vs fs->(∀p∈fs,¬Rm p)->EnvIs K Rm H (VL.setAll is ls s) (Xd is vs σ)
 | [],_,_,_,_,_,h,_,_,_=>by unfold VL.setAll Xd;exact h
 | i::is,[],vs,fs,s,σ,h,_,hi,_=>by
  simp only[Iss] at hi;rw[hi.1];exact h
 | i::is,l::ls,vs,fs,s,σ,h,hl,hi,n=>by
  obtain⟨x,r,f1,f2,rfl,h1,h2,rfl⟩:=hi.inv
  show EnvIs K Rm H (VL.setAll is ls (s.set i (some l))) (Xd is r (σ.set i (some x)))
  exact EnvIs.setAll (h.set hl h1 fun p hp=>n p (List.mem_append_left _ hp)) (by rw[List.length_set,List.length_set];exact hl) h2 fun p hp=>n p (List.mem_append_right _ hp)
def Yk(n:Nat)(ix:List Nat)(s:ZP):ZP:=List.replicate n none++ix.map (fun i=>(s[i]?).join)
def WG(T:Tgt)(ft:XT)(fe:XE)(s0:ZP):List PV->Option (List PV)
 | []=>some []
 | l::r=>(Uo T l s0).bind fun s1=>(ft s1).bind fun c=>if c=true then(fe s1).bind fun y=>(WG T ft fe s0 r).map (y::·) else WG T ft fe s0 r
def ZG(n:Nat)(ix:List Nat)(fi:XL)(T:Tgt)(ft:XT)(fe:XE):XE:=fun s=>(fi s).bind fun ls=>if ls.length<=10000 then(WG T ft fe (Yk n ix s) ls).map .lst else none
def ZW:XT:=fun _=>some true
theorem join_some{α:Type}{o:Option (Option α)}{a:α}(h:o.join=some a):o=some (some a):=by
 cases o with
 | none=>cases h
 | some b=>cases b with
  | none=>cases h
  | some c=>cases h;rfl
theorem EnvIs.comp{Rm:Addr->Prop}{H:Hp}{s:ZP}{σ:TH}{n:Nat}{ix:List Nat}(h:EnvIs K Rm H s σ):EnvIs K Rm H (Yk n ix s) (Yy n ix σ):=⟨fun i l e=>by
 unfold Yk at e;unfold Yy
 by_cases hi:i<n
 ·rw[List.getElem?_append_left (by simpa using hi),List.getElem?_replicate,if_pos hi] at e
  cases e
 ·rw[List.getElem?_append_right (by simpa using hi),List.length_replicate,List.getElem?_map] at e
  rw[List.getElem?_append_right (by simpa using hi),List.length_replicate,List.getElem?_map]
  cases q:ix[i-n]? with
  | none=>rw[q] at e;cases e
  | some j=>
   rw[q] at e
   have e:=join_some (Option.some.inj e)
   obtain⟨v,fp,a,b,c⟩:=h.is j l e
   exact⟨v,fp,by show some ((σ[j]?).join)=_;rw[a];rfl,b,c⟩⟩
theorem Nx(n:Nat)(ix:List Nat)(s:ZP)(σ:TH):(Yk n ix s).length=(Yy n ix σ).length:=by unfold Yk Yy;simp
theorem R7{T:Tgt}{ft:XT}{fe:XE}{s0:ZP}{l:PV}{r ys:List PV}(h:WG T ft fe s0 (l::r)=some ys):∃s1 c,Uo T l s0=some s1/\ft s1=some c/\((c=true/\∃y zs,fe s1=some y/\WG T ft fe s0 r=some zs/\ys=y::zs)\/(c=false/\WG T ft fe s0 r=some ys)):=by
 unfold WG at h
 obtain⟨s1,e1,h⟩:=Zf h
 obtain⟨c,e2,h⟩:=Zf h
 refine⟨s1,c,e1,e2,?_⟩
 cases c with
 | true=>
  rw[if_pos rfl] at h
  obtain⟨y,e3,h⟩:=Zf h
  obtain⟨zs,e4,rfl⟩:=map_some h
  exact .inl ⟨rfl,y,zs,e3,e4,rfl⟩
 | false=>
  rw[if_neg Bool.false_ne_true] at h
  exact .inr ⟨rfl,h⟩
theorem R8{α:Type}{l:List α}{i:Nat}{a:α}{r:List α}(h:l.drop i=a::r):l[i]?=some a/\l.drop (i+1)=r:=by
 constructor
 ·have:=congrArg (fun z=>z[0]?) h
  simpa [List.getElem?_drop] using this
 ·rw[<-List.drop_drop,h];rfl
section
variable {n:Nat} {ix:List Nat} {fi:XL} {T:Tgt} {ft:XT} {fe:XE}
theorem FF(hT:∀i∈T.slots,i<n):∀σ H Q,tF K (ZG n ix fi T ft fe) σ H Q->Pl n ix (iF K fi) (gT K T) (MB K ft) (tF K fe) σ H Q:=fun σ H Q ⟨Rm,s,L,hd,env,e,k⟩=>by
 obtain⟨ls,e1,e⟩:=Zf e
 split at e
 case isFalse=>cases e
 rename_i hlen
 obtain⟨ys,e2,rfl⟩:=map_some e
 refine⟨Rm,s,ls,hd,env,e1,fun J H1 s1 jis=>?_⟩
 have hd1:∀p,Rm p->Vl (H1 p):=fun p hp=>Same.mut s1 (hd p hp)
 refine⟨fun i m vs Hc=>m=ls.length-i/\i<=ls.length/\Same H1 Hc/\∃dn rest fp,ys=dn++rest/\dn.length<=i/\WG T ft fe (Yk n ix s) (ls.drop i)=some rest/\Iss K Hc dn vs fp/\∀p∈fp,¬Rm p,
  ⟨ls.length,by simp,Nat.zero_le _,Same.refl H1,[],ys,[],rfl,Nat.le_refl _,e2,Iss.nil,fun p hp=>by simp at hp⟩,?_⟩
 rintro i m vs Hc ⟨rfl,hi,sc,dn,rest,fp,rfl,hdl,ec,iv,nv⟩
 refine⟨by rw[iv.len];exact Nat.le_of_lt (lt_size (by omega)),?_⟩
 cases q:ls.drop i with
 | nil=>
  have hil:i=ls.length:=by
   have:=congrArg List.length q
   rw[List.length_drop] at this
   simp at this;omega
  subst hil;rw[q] at ec;cases ec
  refine .inl ⟨jis.stop Hc (Same.ab sc),fun p hp=>k _ _ (p::fp) (s1.trans (sc.trans (Same.new hp _))) ?_ fun a ha z=>?_⟩
  ·rw[List.append_nil]
   exact Is.lst upd_same (iv.mono (Same.new hp _))
  ·rcases List.mem_cons.mp ha with rfl | ha
   ·exact Xv (Same.mut (s1.trans sc) (hd a z)) hp
   ·exact nv a ha z
 | cons l r=>
  obtain⟨hl,hr⟩:=R8 q
  have hilt:i<ls.length:=(List.getElem?_eq_some_iff.mp hl).1
  rw[q] at ec
  obtain⟨sb,c,eb,et,alt⟩:=R7 ec
  refine .inr ⟨jis.go Hc i l (Same.ab sc) hl,fun vs' H'=>Same H1 H'/\∃dn' rest' fp',dn++rest=dn'++rest'/\dn'.length<=i+1/\WG T ft fe (Yk n ix s) (ls.drop (i+1))=some rest'/\Iss K H' dn' vs' fp'/\∀p∈fp',¬Rm p,
   fun vs' H' h'=>⟨ls.length-(i+1),by omega,rfl,hilt,h'.1,h'.2⟩,fun x H2 y=>?_⟩
  obtain⟨s2,fx,ix',nx⟩:=jis.yld Hc i l x H2 (Same.ab sc) hl y
  have hd2:∀p,Rm p->Vl (H2 p):=fun p hp=>Same.mut (sc.trans s2) (hd1 p hp)
  obtain⟨bl,bv,bf,rfl,bi,_,bsub,buse⟩:=Oq (K:=K) ix' eb
  have env2:EnvIs K Rm H2 (Yk n ix s) (Yy n ix σ):=(env.mono (s1.trans (sc.trans s2))).comp
  have env3:=env2.setAll (is:=T.slots) (Nx n ix s σ) bi fun p hp=>(nx p (bsub p hp)).2
  refine buse _ _ ⟨VN hT,Rm,_,c,hd2,env3,et,fun H3 s3=>?_⟩
  have hd3:∀p,Rm p->Vl (H3 p):=fun p hp=>Same.mut s3 (hd2 p hp)
  rcases alt with⟨rfl,y',zs,ey,ez,rfl⟩ | ⟨rfl,ez⟩
  ·refine By ?_
   refine⟨Rm,_,y',hd3,env3.mono s3,ey,fun v H4 f4 s4 i4 n4=>?_⟩
   refine⟨sc.trans (s2.trans (s3.trans s4)),dn++[y'],zs,fp++f4,by rw[List.append_assoc];rfl,by rw[List.length_append];simp;exact hdl,by rw[hr];exact ez,(iv.mono (s2.trans (s3.trans s4))).append (Iss.one i4),fun p hp=>?_⟩
   rcases List.mem_append.mp hp with h | h
   ·exact nv p h
   ·exact n4 p h
  ·refine Bx ?_
   exact⟨sc.trans (s2.trans s3),dn,rest,fp,rfl,Nat.le_succ_of_le hdl,by rw[hr];exact ez,iv.mono (s2.trans s3),nv⟩
theorem Ka(hT:∀i∈T.slots,i<n):∀σ H Q,tM K (ZG n ix fi T ft fe) σ H Q->Pl n ix (iF K fi) (gT K T) (MB K ft) (tM K fe) σ H Q:=fun σ H Q ⟨s,L,env,e,k⟩=>by
 obtain⟨ls,e1,e⟩:=Zf e
 split at e
 case isFalse=>cases e
 rename_i hlen
 obtain⟨ys,e2,rfl⟩:=map_some e
 have hd:∀(H:Hp) p,(fun _=>False:Addr->Prop) p->Vl (H p):=fun _ _ z=>z.elim
 refine⟨fun _=>False,s,ls,hd H,env,e1,fun J H1 s1 jis=>?_⟩
 refine⟨fun i m vs Hc=>m=ls.length-i/\i<=ls.length/\Same H1 Hc/\∃dn rest fp,ys=dn++rest/\dn.length<=i/\WG T ft fe (Yk n ix s) (ls.drop i)=some rest/\Iss K Hc dn vs fp/\fp.Nodup/\∀p∈fp,H1 p=none/\Vl (Hc p),
  ⟨ls.length,by simp,Nat.zero_le _,Same.refl H1,[],ys,[],rfl,Nat.le_refl _,e2,Iss.nil,List.nodup_nil,fun p hp=>by simp at hp⟩,?_⟩
 rintro i m vs Hc ⟨rfl,hi,sc,dn,rest,fp,rfl,hdl,ec,iv,dv,nv⟩
 refine⟨by rw[iv.len];exact Nat.le_of_lt (lt_size (by omega)),?_⟩
 cases q:ls.drop i with
 | nil=>
  have hil:i=ls.length:=by
   have:=congrArg List.length q
   rw[List.length_drop] at this
   simp at this;omega
  subst hil;rw[q] at ec;cases ec
  refine .inl ⟨jis.stop Hc (Same.ab sc),fun p hp=>k _ _ (p::fp) (s1.trans (sc.trans (Same.new hp _))) ?_ (List.nodup_cons.mpr ⟨fun z=>Xv (nv p z).2 hp,dv⟩) fun a ha=>?_⟩
  ·rw[List.append_nil]
   exact Is.lst upd_same (iv.mono (Same.new hp _))
  ·rcases List.mem_cons.mp ha with rfl | ha
   ·exact⟨Same.off (s1.trans sc) hp,by rw[upd_same];exact True.intro⟩
   ·exact⟨Same.off s1 (nv a ha).1,Same.mut (Same.new hp _) (nv a ha).2⟩
 | cons l r=>
  obtain⟨hl,hr⟩:=R8 q
  have hilt:i<ls.length:=(List.getElem?_eq_some_iff.mp hl).1
  rw[q] at ec
  obtain⟨sb,c,eb,et,alt⟩:=R7 ec
  refine .inr ⟨jis.go Hc i l (Same.ab sc) hl,fun vs' H'=>Same H1 H'/\∃dn' rest' fp',dn++rest=dn'++rest'/\dn'.length<=i+1/\WG T ft fe (Yk n ix s) (ls.drop (i+1))=some rest'/\Iss K H' dn' vs' fp'/\fp'.Nodup/\∀p∈fp',H1 p=none/\Vl (H' p),
   fun vs' H' h'=>⟨ls.length-(i+1),by omega,rfl,hilt,h'.1,h'.2⟩,fun x H2 y=>?_⟩
  obtain⟨s2,fx,ix',nx⟩:=jis.yld Hc i l x H2 (Same.ab sc) hl y
  obtain⟨bl,bv,bf,rfl,bi,_,bsub,buse⟩:=Oq (K:=K) ix' eb
  have env2:EnvIs K (fun _=>False) H2 (Yk n ix s) (Yy n ix σ):=(env.mono (s1.trans (sc.trans s2))).comp
  have env3:=env2.setAll (is:=T.slots) (Nx n ix s σ) bi fun p hp=>(nx p (bsub p hp)).2
  refine buse _ _ ⟨VN hT,fun _=>False,_,c,hd H2,env3,et,fun H3 s3=>?_⟩
  rcases alt with⟨rfl,y',zs,ey,ez,rfl⟩ | ⟨rfl,ez⟩
  ·refine By ?_
   refine⟨_,y',env3.mono s3,ey,fun v H4 f4 s4 i4 d4 n4=>?_⟩
   refine⟨sc.trans (s2.trans (s3.trans s4)),dn++[y'],zs,fp++f4,by rw[List.append_assoc];rfl,by rw[List.length_append];simp;exact hdl,by rw[hr];exact ez,(iv.mono (s2.trans (s3.trans s4))).append (Iss.one i4),List.nodup_append.mpr ⟨dv,d4,fun a ha b hb z=>?_⟩,fun p hp=>?_⟩
   ·subst z
    exact Xv (Same.mut (s2.trans s3) (nv a ha).2) (n4 a hb).1
   ·rcases List.mem_append.mp hp with h | h
    ·exact⟨(nv p h).1,Same.mut (s2.trans (s3.trans s4)) (nv p h).2⟩
    ·exact⟨Same.off (sc.trans (s2.trans s3)) (n4 p h).1,(n4 p h).2⟩
  ·refine Bx ?_
   exact⟨sc.trans (s2.trans s3),dn,rest,fp,rfl,Nat.le_succ_of_le hdl,by rw[hr];exact ez,iv.mono (s2.trans s3),dv,fun p hp=>⟨(nv p hp).1,Same.mut (s2.trans s3) (nv p hp).2⟩⟩
end
def BL(X:Cx)(ifs:List Expr)(f:XT):Prop:=IL X ifs (MB X.K f)
section
variable {X:Cx} {tg elt iter c:Expr} {ifs:List Expr} {scope:Scope} {pos:Pos} {fi:XL} {T:Tgt} {ft:XT} {fe:XE}
theorem Xe:BL X [] ZW:=fun pins s σ H Q I ⟨Rm,s',c,hd,env,e,k⟩=>by
 cases e
 exact Fe pins s σ H Q I (k H (Same.refl H))
theorem Kb(h:VT X c ft):BL X [c] ft:=Ff h
theorem VP(own fr:List Str)(ix:List Nat)(hcalm:X.calm=true)(hi:VI X tg iter fi)(S:Ta X.N X.env.scope scope own fr ix=true)
  (hg:∀cl C s H ex,PG (ZR X (own++fr) scope cl C s H ex) tg (gT X.K T)) (ht:∀cl C s H ex,BL (ZR X (own++fr) scope cl C s H ex) ifs ft) (he:∀cl C s H ex,VE (ZR X (own++fr) scope cl C s H ex) elt fe)
  (hT:∀i∈T.slots,i<own.length:=by decide) (hs:∀x,foldedSetIterable iter X.env x=pure x:=by intro _;rfl):VE X (.ListComp elt [⟨tg,iter,ifs,0⟩] scope pos) (ZG own.length ix fi T ft fe):=
 PE.imp (Nl own fr ix hcalm hi S hg (fun cl C s H ex=>(show IL (ZR X (own++fr) scope cl C s H ex) ifs (MB X.K ft) from ht cl C s H ex)) (fun cl C s H ex=>(show PE (ZR X (own++fr) scope cl C s H ex) elt (tF X.K fe) from he cl C s H ex)) hs) (FF hT)
theorem TR(own fr:List Str)(ix:List Nat)(hcalm:X.calm=true)(hi:VI X tg iter fi)(S:Ta X.N X.env.scope scope own fr ix=true)
  (hg:∀cl C s H ex,PG (ZR X (own++fr) scope cl C s H ex) tg (gT X.K T)) (ht:∀cl C s H ex,BL (ZR X (own++fr) scope cl C s H ex) ifs ft) (he:∀cl C s H ex,VM (ZR X (own++fr) scope cl C s H ex) elt fe)
  (hT:∀i∈T.slots,i<own.length:=by decide) (hs:∀x,foldedSetIterable iter X.env x=pure x:=by intro _;rfl):VM X (.ListComp elt [⟨tg,iter,ifs,0⟩] scope pos) (ZG own.length ix fi T ft fe):=
 PE.imp (Nl own fr ix hcalm hi S hg (fun cl C s H ex=>(show IL (ZR X (own++fr) scope cl C s H ex) ifs (MB X.K ft) from ht cl C s H ex)) (fun cl C s H ex=>(show PE (ZR X (own++fr) scope cl C s H ex) elt (tM X.K fe) from he cl C s H ex)) hs) (Ka hT)
end
def Ro(xs:List PV)(lo hi:Option Int):List PV:=(xs.drop (HT.sIx xs.length 0 lo)).take (HT.sIx xs.length xs.length hi-HT.sIx xs.length 0 lo)
theorem Iss.cut{H:Hp}{l:List PV}{xs:List V}{fp:List Addr}(lo hi:Option Int)(h:Iss K H l xs fp):∃f1,Iss K H (Ro l lo hi) (Jb xs lo hi) f1/\∀p∈f1,p∈fp:=by
 unfold Ro Jb;rw[h.len]
 obtain⟨f1,a,b⟩:=h.drop (HT.sIx l.length 0 lo)
 obtain⟨f2,c,d⟩:=a.take (HT.sIx l.length l.length hi-HT.sIx l.length 0 lo)
 exact⟨f2,c,fun p hp=>b p (d p hp)⟩
abbrev XO:=ZP->Option (Option Int)
def tFO(K:PySem.W.Frag)(f:XO):TO:=fun σ H Q=>∃(Rm:Addr->Prop) (s:ZP) (i:Option Int),(∀p,Rm p->Vl (H p))/\EnvIs K Rm H s σ/\f s=some i/\∀H',Same H H'->Q i H'
def VO(X:Cx)(e:Option Expr)(f:XO):Prop:=PO X e (tFO X.K f)
def xoN:XO:=fun _=>some none
def BM(f:XE):XO:=fun s=>match f s with | some (.int i)=>some (some i) | _=>none
def Cg(x:PV)(lo hi:Option Int):Option PV:=match x with | .lst l=>some (.lst (Ro l lo hi)) | .cst l=>some (.lst (Ro l lo hi)) | _=>none
def AQ(g:PV->Option Int->Option Int->Option PV)(a:XE)(lo hi:XO):XE:=fun s=>(a s).bind fun x=>(lo s).bind fun l=>(hi s).bind fun u=>g x l u
theorem Jq{l:List PV}(lo hi:Option Int)(h:ZE l=true):ZE (Ro l lo hi)=true:=by
 rw[Wy,List.all_eq_true] at *
 intro x hx;unfold Ro at hx
 exact h x (List.mem_of_mem_drop (List.mem_of_mem_take hx))
section
variable {X:Cx} {e:Expr} {lo hi:Option Expr} {p2 pos:Pos} {fa:XE} {fl fh:XO}
theorem Kc{e:Expr}(h:VE X e fa):VO X (some e) (BM fa):=fun pins s σ H Q I ⟨Rm,s',i,hd,env,e,k⟩=>by
 unfold BM at e
 split at e
 ·cases e
  rename_i j hj
  exact G4 h pins s σ H Q I ⟨Rm,s',.int j,hd,env,hj,fun v H' fp sm i n=>⟨j,i.int_inv.1,k H' sm⟩⟩
 ·cases e
theorem Jr(ha:VE X e fa)(hl:VO X lo fl)(hh:VO X hi fh):VE X (.Subscript e (.Slice lo hi none p2) pos) (AQ Cg fa fl fh):=PE.imp (IG G7 ha hl hh) fun σ H Q ⟨Rm,s,l,hd,env,e,k⟩=>by
 obtain⟨x,e1,e⟩:=Zf e
 obtain⟨a,e2,e⟩:=Zf e
 obtain⟨b,e3,e⟩:=Zf e
 refine⟨Rm,s,x,hd,env,e1,fun v H1 fp s1 i1 n1=>⟨Rm,s,a,fun p hp=>Same.mut s1 (hd p hp),env.mono s1,e2,fun H2 s2=>⟨Rm,s,b,fun p hp=>Same.mut (s1.trans s2) (hd p hp),env.mono (s1.trans s2),e3,fun H3 s3=>?_⟩⟩⟩
 cases x with
 | lst l=>
  cases e
  obtain⟨p,xs,fq,rfl,hp,hi,rfl⟩:=(i1.mono (s2.trans s3)).lst_inv
  obtain⟨f1,c,d⟩:=hi.cut a b
  refine⟨p,xs,rfl,SqL.of hp,fun q hq=>k _ _ (q::f1) (s1.trans (s2.trans (s3.trans (Same.new hq _)))) (Is.lst upd_same (c.mono (Same.new hq _))) fun r hr z=>?_⟩
  rcases List.mem_cons.mp hr with rfl | hr
  ·exact Xv (Same.mut (s1.trans (s2.trans s3)) (hd r z)) hq
  ·exact n1 r (List.mem_cons_of_mem _ (d r hr)) z
 | cst l=>
  cases e
  obtain⟨p,xs,rfl,hp,hi⟩:=(i1.mono (s2.trans s3)).cst_inv
  obtain⟨f1,c,d⟩:=hi.cut a b
  refine⟨p,xs,rfl,hp.sq,fun q hq=>k _ _ (q::f1) (s1.trans (s2.trans (s3.trans (Same.new hq _)))) (Is.lst upd_same (c.mono (Same.new hq _))) fun r hr z=>?_⟩
  rcases List.mem_cons.mp hr with rfl | hr
  ·exact Xv (Same.mut (s1.trans (s2.trans s3)) (hd r z)) hq
  ·exact n1 r (d r hr) z
 | _=>cases e
end
end VL
namespace VL
open PySem PySem.Spec PyProof.Rows L2
variable {K:PySem.W.Frag}
structure Rel(K:PySem.W.Frag)(O:List Nat)(H0:Hp)(fps:Nat->List Addr)(s:ZP)(σ:TH)(H:Hp):Prop where
 same:Same H0 H
 len:s.length=σ.length
 is:∀(i:Nat) l,s[i]?=some (some l)->∃v,σ[i]?=some (some v)/\Is K H l v (fps i)
 emp:∀(i:Nat),(∀l,s[i]?≠some (some l))->fps i=[]
 nd:∀i∈O,(fps i).Nodup
 own:∀i∈O,∀p∈fps i,H0 p=none/\Vl (H p)
 dis:∀i∈O,∀j,j≠i->∀p∈fps i,p∉fps j
def Ow(O:List Nat)(fps:Nat->List Addr)(p:Addr):Prop:=∃i∈O,p∈fps i
def ZJ(O:List Nat)(s:ZP):ZP:=O.foldl (fun s i=>s.set i none) s
theorem R9:∀{O:List Nat}{s:ZP}{i:Nat}{l:PV},(ZJ O s)[i]?=some (some l)->i∉O/\s[i]?=some (some l)
 | [],s,i,l,h=>⟨by simp,h⟩
 | o::O,s,i,l,h=>by
  obtain⟨h1,h2⟩:=R9 (O:=O) (s:=s.set o none) h
  rw[List.getElem?_set] at h2
  by_cases e:o=i
  ·rw[if_pos e] at h2;split at h2<;>cases h2
  ·rw[if_neg e] at h2
   exact⟨by simp only[List.mem_cons,not_or];exact⟨fun z=>e z.symm,h1⟩,h2⟩
section
variable {O:List Nat} {H0 H H':Hp} {fps:Nat->List Addr} {s:ZP} {σ:TH}
theorem Rel.at(r:Rel K O H0 fps s σ H)(i:Nat){p:Addr}(hp:p∈fps i):∃l v,s[i]?=some (some l)/\σ[i]?=some (some v)/\Is K H l v (fps i):=by
 cases q:s[i]? with
 | none=>rw[r.emp i (fun l z=>by rw[q] at z;cases z)] at hp;simp at hp
 | some o=>cases o with
  | none=>rw[r.emp i (fun l z=>by rw[q] at z;cases z)] at hp;simp at hp
  | some l=>
   obtain⟨v,a,b⟩:=r.is i l q
   exact⟨l,v,rfl,a,b⟩
theorem Rel.dom(r:Rel K O H0 fps s σ H)(i:Nat):∀p∈fps i,H p≠none:=fun p hp=>by
 obtain⟨l,v,_,_,b⟩:=r.at i hp
 exact Is.dom _ _ _ b p hp
theorem Rel.env(r:Rel K O H0 fps s σ H):EnvIs K (fun _=>False) H s σ:=⟨fun i l e=>by
 obtain⟨v,a,b⟩:=r.is i l e
 exact⟨v,_,a,b,fun _ _ z=>z⟩⟩
theorem Rel.envO(r:Rel K O H0 fps s σ H):EnvIs K (Ow O fps) H (ZJ O s) σ:=⟨fun i l e=>by
 obtain⟨n,e⟩:=R9 e
 obtain⟨v,a,b⟩:=r.is i l e
 exact⟨v,_,a,b,fun p hp ⟨j,hj,hpj⟩=>r.dis j hj i (fun z=>n (z▸hj)) p hpj hp⟩⟩
theorem Rel.owMut(r:Rel K O H0 fps s σ H):∀p,Ow O fps p->Vl (H p):=fun p ⟨i,hi,hp⟩=>(r.own i hi p hp).2
theorem Rel.grow(r:Rel K O H0 fps s σ H)(e:Same H H'):Rel K O H0 fps s σ H':=
 ⟨r.same.trans e,r.len,fun i l q=>by obtain⟨v,a,b⟩:=r.is i l q;exact⟨v,a,b.mono e⟩,r.emp,r.nd,fun i hi p hp=>⟨(r.own i hi p hp).1,Same.mut e (r.own i hi p hp).2⟩,r.dis⟩
theorem Rel.less{F:Hp}(r:Rel K O F fps s σ H)(e:Same H0 F):Rel K O H0 fps s σ H:=
 ⟨e.trans r.same,r.len,r.is,r.emp,r.nd,fun i hi p hp=>⟨Same.off e (r.own i hi p hp).1,(r.own i hi p hp).2⟩,r.dis⟩
open Classical in
noncomputable def We(H:Hp)(Rm:Addr->Prop):Hp:=fun b=>if Rm b then none else H b
theorem Pt{Rm:Addr->Prop}:Same (We H Rm) H:=fun b o h=>by
 unfold We at h
 split at h
 ·cases h
 ·exact h
theorem Rel.frame(r:Rel K O H0 fps s σ H):Rel K O (We H (Ow O fps)) fps s σ H:=
 ⟨Pt,r.len,r.is,r.emp,r.nd,fun i hi p hp=>⟨by unfold We;rw[if_pos ⟨i,hi,hp⟩],(r.own i hi p hp).2⟩,r.dis⟩
theorem Rel.under(r:Rel K O H0 fps s σ H):Same H0 (We H (Ow O fps)):=fun b o h=>by
 unfold We
 rw[if_neg (fun⟨i,hi,hp⟩=>by rw[(r.own i hi b hp).1] at h;cases h)]
 exact r.same b o h
open Classical in
noncomputable def TU(fps:Nat->List Addr)(n:Nat)(i:Nat)(fp:List Addr):Nat->List Addr:=fun j=>if j=i/\i<n then fp else fps j
theorem Yf{n i j:Nat}{fp:List Addr}(h:j≠i):TU fps n i fp j=fps j:=by unfold TU;rw[if_neg (fun z=>h z.1)]
theorem Kd{n i:Nat}{fp:List Addr}(h:i<n):TU fps n i fp i=fp:=by unfold TU;rw[if_pos ⟨rfl,h⟩]
theorem Rel.set(r:Rel K O H0 fps s σ H){i:Nat}{l:PV}{v:V}{fp:List Addr}(hi:Is K H l v fp)(ho:i∈O->fp.Nodup/\∀p∈fp,H0 p=none/\Vl (H p))
  (hd:∀j,j≠i->(j∈O\/i∈O)->∀p∈fp,p∉fps j):Rel K O H0 (TU fps s.length i fp) (s.set i (some l)) (σ.set i (some v)) H:=by
 by_cases hlt:i<s.length
 ·have e1:TU fps s.length i fp i=fp:=Kd hlt
  refine⟨r.same,by rw[List.length_set,List.length_set];exact r.len,fun j a e=>?_,fun j h=>?_,fun j hj=>?_,fun j hj p hp=>?_,fun j hj k hk p hp=>?_⟩
  ·rw[List.getElem?_set] at e
   by_cases hj:i=j
   ·subst hj
    rw[if_pos rfl,if_pos hlt] at e;cases e;rw[e1]
    exact⟨v,by rw[List.getElem?_set,if_pos rfl,if_pos (by rw[<-r.len];exact hlt)],hi⟩
   ·rw[if_neg hj] at e
    obtain⟨w,h1,h2⟩:=r.is j a e
    rw[Yf (Ne.symm hj)]
    exact⟨w,by rw[List.getElem?_set,if_neg hj];exact h1,h2⟩
  ·by_cases hj:i=j
   ·subst hj
    exact absurd (by rw[List.getElem?_set,if_pos rfl,if_pos hlt]) (h l)
   ·rw[Yf (Ne.symm hj)]
    exact r.emp j fun a z=>h a (by rw[List.getElem?_set,if_neg hj];exact z)
  ·by_cases e:j=i
   ·subst e;rw[e1];exact(ho hj).1
   ·rw[Yf e];exact r.nd j hj
  ·by_cases e:j=i
   ·subst e;rw[e1] at hp;exact(ho hj).2 p hp
   ·rw[Yf e] at hp;exact r.own j hj p hp
  ·by_cases e:j=i
   ·subst e
    rw[e1] at hp;rw[Yf hk]
    exact hd k hk (.inr hj) p hp
   ·rw[Yf e] at hp
    by_cases e2:k=i
    ·subst e2
     rw[e1]
     exact fun z=>hd j e (.inl hj) p z hp
    ·rw[Yf e2];exact r.dis j hj k hk p hp
 ·have e1:s.set i (some l)=s:=List.set_eq_of_length_le (by omega)
  have e2:σ.set i (some v)=σ:=List.set_eq_of_length_le (by rw[<-r.len];omega)
  have e3:TU fps s.length i fp=fps:=by funext j;unfold TU;rw[if_neg (fun z=>hlt z.2)]
  rw[e1,e2,e3];exact r
theorem Rel.mutate(r:Rel K O H0 fps s σ H){i:Nat}(hi:i∈O){p:Addr}(hp:p∈fps i){o:HO}{l':PV}{v:V}{fp':List Addr}(hv:σ[i]?=some (some v))(hlt:i<s.length)
  (h':Is K (upd H p o) l' v fp') (nd:fp'.Nodup) (hm:∀q∈fp',H0 q=none/\Vl (upd H p o q)) (hd:∀j,j≠i->∀q∈fp',q∉fps j) (hmo:Vl (some o)):Rel K O H0 (TU fps s.length i fp') (s.set i (some l')) σ (upd H p o):=by
 have mu:=(r.own i hi p hp).2
 have pn:H0 p=none:=(r.own i hi p hp).1
 have e1:TU fps s.length i fp' i=fp':=Kd hlt
 have tk:TK2 H (upd H p o):=⟨fun b xs h=>by
  rw[upd_ne (fun z=>by rw[z] at h;rw[h] at mu;exact mu)];exact h,fun b o xs h=>by
  rw[upd_ne (fun z=>by rw[z] at h;rw[h] at mu;exact mu)];exact h,fun b o x h=>by
  rw[upd_ne (fun z=>by rw[z] at h;rw[h] at mu;exact mu)];exact h⟩
 refine⟨fun b u h=>by rw[upd_ne (Zw h pn)];exact r.same b u h,by rw[List.length_set];exact r.len,fun j a e=>?_,fun j h=>?_,fun j hj=>?_,fun j hj q hq=>?_,fun j hj k hk q hq=>?_⟩
 ·rw[List.getElem?_set] at e
  by_cases hj:i=j
  ·subst hj
   rw[if_pos rfl,if_pos hlt] at e;cases e
   rw[e1];exact⟨v,hv,h'⟩
  ·rw[if_neg hj] at e
   obtain⟨w,h1,h2⟩:=r.is j a e
   rw[Yf (Ne.symm hj)]
   refine⟨w,h1,Is.tr tk _ _ _ (fun q hq=>RdK.of fun u hu=>?_) h2⟩
   have ne:q≠p:=fun z=>r.dis i hi j (Ne.symm hj) p hp (z▸hq)
   rw[upd_ne ne];exact hu
 ·by_cases hj:i=j
  ·subst hj
   exact absurd (by rw[List.getElem?_set,if_pos rfl,if_pos hlt]) (h l')
  ·rw[Yf (Ne.symm hj)]
   exact r.emp j fun a z=>h a (by rw[List.getElem?_set,if_neg hj];exact z)
 ·by_cases e:j=i
  ·subst e;rw[e1];exact nd
  ·rw[Yf e];exact r.nd j hj
 ·by_cases e:j=i
  ·subst e;rw[e1] at hq;exact hm q hq
  ·rw[Yf e] at hq
   refine⟨(r.own j hj q hq).1,?_⟩
   have ne:q≠p:=fun z=>r.dis j hj i (Ne.symm e) q hq (z▸hp)
   rw[upd_ne ne];exact(r.own j hj q hq).2
 ·by_cases e:j=i
  ·subst e
   rw[e1] at hq;rw[Yf hk]
   exact hd k hk q hq
  ·rw[Yf e] at hq
   by_cases e2:k=i
   ·subst e2
    rw[e1]
    exact fun z=>hd j e q z hq
   ·rw[Yf e2];exact r.dis j hj k hk q hq
end
def Kep(a b:List Addr):Prop:=a=b\/a=[]
theorem Kep.refl(a:List Addr):Kep a a:=.inl rfl
theorem Kep.trans{a b c:List Addr}(h:Kep a b)(k:Kep b c):Kep a c:=by
 rcases h with rfl | h
 ·exact k
 ·exact .inr h
inductive Out where
 | nx (s:ZP) | rt (l:PV) | bk (s:ZP) | ct (s:ZP)
abbrev XS:=ZP->Option Out
def OutOk(K:PySem.W.Frag)(O W:List Nat)(H0:Hp)(fps:Nat->List Addr)(σ:TH)(D:V9):Out->Prop
 | .nx s'=>∀fps' σ' H',Rel K O H0 fps' s' σ' H'->(∀j,j∉W->σ'[j]?=σ[j]?/\Kep (fps' j) (fps j))->D.nx σ' H'
 | .bk s'=>∀fps' σ' H',Rel K O H0 fps' s' σ' H'->(∀j,j∉W->σ'[j]?=σ[j]?/\Kep (fps' j) (fps j))->D.bk σ' H'
 | .ct s'=>∀fps' σ' H',Rel K O H0 fps' s' σ' H'->(∀j,j∉W->σ'[j]?=σ[j]?/\Kep (fps' j) (fps j))->D.ct σ' H'
 | .rt l=>∀v fp H',Same H0 H'->Is K H' l v fp->fp.Nodup->(∀p∈fp,H0 p=none/\Vl (H' p))->D.rt v H'
def GL(K:PySem.W.Frag)(O W:List Nat)(f:XS):TS:=fun D σ H=>∃H0 fps s out,Rel K O H0 fps s σ H/\f s=some out/\OutOk K O W H0 fps σ D out
def VS(X:Cx)(O W:List Nat)(st:Stmt)(f:XS):Prop:=PS X st (GL X.K O W f)
def Ny(X:Cx)(O W:List Nat)(st:List Stmt)(f:XS):Prop:=PSs X st (GL X.K O W f)
theorem OutOk.same{O W W':List Nat}{H0:Hp}{fps fps1:Nat->List Addr}{σ σ1:TH}{D:V9}{out:Out}(h:OutOk K O W' H0 fps σ D out)(k:∀j,j∉W'->σ1[j]?=σ[j]?/\Kep (fps1 j) (fps j))(hs:∀j,j∉W'->j∉W):OutOk K O W H0 fps1 σ1 D out:=by
 cases out with
 | nx s'=>exact fun fps' σ' H' r q=>h fps' σ' H' r fun j hj=>⟨(q j (hs j hj)).1.trans (k j hj).1,(q j (hs j hj)).2.trans (k j hj).2⟩
 | bk s'=>exact fun fps' σ' H' r q=>h fps' σ' H' r fun j hj=>⟨(q j (hs j hj)).1.trans (k j hj).1,(q j (hs j hj)).2.trans (k j hj).2⟩
 | ct s'=>exact fun fps' σ' H' r q=>h fps' σ' H' r fun j hj=>⟨(q j (hs j hj)).1.trans (k j hj).1,(q j (hs j hj)).2.trans (k j hj).2⟩
 | rt l=>exact h
theorem OutOk.less{O W:List Nat}{H0 F:Hp}{fps:Nat->List Addr}{σ:TH}{D:V9}{out:Out}(h:OutOk K O W H0 fps σ D out)(e:Same H0 F):OutOk K O W F fps σ D out:=by
 cases out with
 | nx s'=>exact fun fps' σ' H' r q=>h fps' σ' H' (r.less e) q
 | bk s'=>exact fun fps' σ' H' r q=>h fps' σ' H' (r.less e) q
 | ct s'=>exact fun fps' σ' H' r q=>h fps' σ' H' (r.less e) q
 | rt l=>exact fun v fp H' sm i d n=>h v fp H' (e.trans sm) i d fun p hp=>⟨Same.off e (n p hp).1,(n p hp).2⟩
def ZN:XS:=fun s=>some (.nx s)
def Zm(f g:XS):XS:=fun s=>(f s).bind fun o=>match o with | .nx s'=>g s' | r=>some r
def WR(c:XT)(f g:XS):XS:=fun s=>(c s).bind fun k=>if k=true then f s else g s
def ZS(f:XE):XS:=fun s=>(f s).map .rt
def Zn(i:Nat)(f:XE):XS:=fun s=>(f s).map fun l=>.nx (s.set i (some l))
section
variable {X:Cx} {O W W1 W2:List Nat} {st:Stmt} {rest:List Stmt} {f g:XS} {pos:Pos}
theorem PS.imp{t t':TS}(h:PS X st t)(i:∀D σ H,t' D σ H->t D σ H):PS X st t':=fun pins s σ H D I q=>h pins s σ H D I (i D σ H q)
theorem PSs.imp{t t':TS}(h:PSs X rest t)(i:∀D σ H,t' D σ H->t D σ H):PSs X rest t':=fun pins s σ H D I q=>h pins s σ H D I (i D σ H q)
theorem Hd:∀D σ H,GL K O W ZN D σ H->EF D σ H:=fun D σ H ⟨H0,fps,s,out,r,e,k⟩=>by
 cases e
 exact k fps σ H r fun j _=>⟨rfl,Kep.refl _⟩
theorem Z9:Ny X O [] [] ZN:=PSs.imp GU Hd
theorem Zl(h:VS X O W st f):Ny X O W [st] f:=P5 h
theorem Zh(h1:VS X O W1 st f)(h2:Ny X O W2 rest g):Ny X O (W1++W2) (st::rest) (Zm f g):=PSs.imp (RK h1 h2) fun D σ H ⟨H0,fps,s,out,r,e,k⟩=>by
 obtain⟨o1,e1,e⟩:=Zf e
 have sub1:∀j,j∉W1++W2->j∉W1:=fun j hj z=>hj (List.mem_append_left _ z)
 have sub2:∀j,j∉W1++W2->j∉W2:=fun j hj z=>hj (List.mem_append_right _ z)
 refine⟨H0,fps,s,o1,r,e1,?_⟩
 cases o1 with
 | nx s1=>
  intro fps1 σ1 H1 r1 q1
  exact⟨H0,fps1,s1,out,r1,e,k.same (fun j hj=>q1 j (sub1 j hj)) sub2⟩
 | bk s1=>cases e;exact fun fps' σ' H' r' q'=>k fps' σ' H' r' fun j hj=>q' j (sub1 j hj)
 | ct s1=>cases e;exact fun fps' σ' H' r' q'=>k fps' σ' H' r' fun j hj=>q' j (sub1 j hj)
 | rt l=>cases e;exact k
theorem Xr{c:Expr}{a b:List Stmt}{fc:XT}(hc:VT X c fc)(ha:Ny X O W1 a f)(hb:Ny X O W2 b g):VS X O (W1++W2) (.If c a b pos) (WR fc f g):=PS.imp (EG hc ha hb) fun D σ H ⟨H0,fps,s,out,r,e,k⟩=>by
 obtain⟨c,e1,e⟩:=Zf e
 have sub1:∀j,j∉W1++W2->j∉W1:=fun j hj z=>hj (List.mem_append_left _ z)
 have sub2:∀j,j∉W1++W2->j∉W2:=fun j hj z=>hj (List.mem_append_right _ z)
 refine⟨fun _=>False,s,c,fun _ z=>z.elim,r.env,e1,fun H1 s1=>?_⟩
 cases c with
 | true=>
  rw[if_pos rfl] at e ⊢
  exact⟨H0,fps,s,out,r.grow s1,e,k.same (fun j _=>⟨rfl,Kep.refl _⟩) sub1⟩
 | false=>
  rw[if_neg Bool.false_ne_true] at e ⊢
  exact⟨H0,fps,s,out,r.grow s1,e,k.same (fun j _=>⟨rfl,Kep.refl _⟩) sub2⟩
theorem ZM{e:Expr}{fe:XE}(he:VM X e fe):VS X O [] (.Return (some e) pos) (ZS fe):=PS.imp (P6 he) fun D σ H ⟨H0,fps,s,out,r,e,k⟩=>by
 obtain⟨l,e1,rfl⟩:=map_some e
 exact⟨s,l,r.env,e1,fun v H' fp sm i d n=>k v fp H' (r.same.trans sm) i d fun p hp=>⟨Same.off r.same (n p hp).1,(n p hp).2⟩⟩
theorem UN{e:Expr}{i:Nat}(he:PE X e (Ua i))(hi:i∈O:=by decide):VS X O [] (.Return (some e) pos) (ZS (Za i)):=PS.imp (P6 he) fun D σ H ⟨H0,fps,s,out,r,e,k⟩=>by
 obtain⟨l,e1,rfl⟩:=map_some e
 obtain⟨v,a,b⟩:=r.is i l (SG e1)
 exact⟨v,a,k v _ H r.same b (r.nd i hi) (r.own i hi)⟩
theorem Ke{t:TE}{i:Nat}{fe:XE}(ht:∀σ H Q,tM K fe σ H Q->t σ H Q):∀D σ H,GL K O [i] (Zn i fe) D σ H->MD t (S4 i) D σ H:=fun D σ H ⟨H0,fps,s,out,r,e,k⟩=>by
 obtain⟨l,e1,rfl⟩:=map_some e
 refine ht σ H _ ⟨s,l,r.env,e1,fun v H' fp sm is d n=>?_⟩
 refine k _ _ H' ((r.grow sm).set (i:=i) is (fun _=>⟨d,fun p hp=>⟨Same.off r.same (n p hp).1,(n p hp).2⟩⟩) fun j _ _ p hp z=>r.dom j p z (n p hp).1) fun j hj=>?_
 have:j≠i:=by simpa using hj
 exact⟨by rw[List.getElem?_set,if_neg (Ne.symm this)],.inl (Yf this)⟩
theorem Zq{i:Nat}{x:Str}{e:Expr}{fe:XE}{pos':Pos}(hN:X.N.Nodup)(hi:X.N[i]?=some x)(hx:C2 X.env.scope x)(he:VM X e fe)(hs:swapsWith e (some (.Name x pos')) pos.line X.env=pure false:=by rfl)(hf:X.fn x=true\/X.env.scope.names.lookup x=some .local:=by first | exact .inl rfl | exact .inr rfl | assumption) :
  VS X O [i] (.Assign [.Name x pos'] e pos) (Zn i fe):=PS.imp (Dz hN hi hx he hs hf) (Ke fun _ _ _ h=>h)
end
def Xs(T:Tgt)(fb:XS):List PV->ZP->Option Out
 | [],s=>some (.nx s)
 | l::r,s=>(Uo T l s).bind fun s1=>(fb s1).bind fun o=>match o with | .nx s2=>Xs T fb r s2 | .ct s2=>Xs T fb r s2 | .bk s2=>some (.nx s2) | .rt v=>some (.rt v)
def Yp(O:List Nat)(fi:XL)(T:Tgt)(fb:XS):XS:=fun s=>(fi (ZJ O s)).bind fun ls=>Xs T fb ls s
theorem Rel.setAll{O:List Nat}{H0 H:Hp}:∀{is:List Nat}{ls:List PV}{vs:List V}{fs:List Addr}{fps:Nat->List Addr}{s:ZP}{σ:TH},Rel K O H0 fps s σ H->Iss K H ls vs fs->ls.length=is.length->(∀i∈is,i∉O)->(∀i∈O,∀p∈fps i,p∉fs)->
  ∃fps',Rel K O H0 fps' (VL.setAll is ls s) (Xd is vs σ) H/\∀j,j∉is->(Xd is vs σ)[j]?=σ[j]?/\Kep (fps' j) (fps j)
 | [],ls,vs,fs,fps,s,σ,r,_,_,_,_=>⟨fps,by unfold VL.setAll Xd;exact r,fun j _=>⟨by unfold Xd;rfl,Kep.refl _⟩⟩
 | i::is,[],vs,fs,fps,s,σ,r,_,hl,_,_=>by simp at hl
 | i::is,l::ls,vs,fs,fps,s,σ,r,hi,hl,hO,hd=>by
  obtain⟨x,rr,f1,f2,rfl,h1,h2,rfl⟩:=hi.inv
  have hiO:=hO i List.mem_cons_self
  have r1:=r.set (i:=i) h1 (fun z=>absurd z hiO) fun j hj hjo p hp z=>by
   rcases hjo with hjo | hjo
   ·exact hd j hjo p z (List.mem_append_left _ hp)
   ·exact absurd hjo hiO
  obtain⟨fps',r2,q2⟩:=Rel.setAll (is:=is) r1 h2 (by simpa using hl) (fun j hj=>hO j (List.mem_cons_of_mem _ hj)) fun j hj p hp z=>by
   have hji:j≠i:=fun e=>hiO (by rw[<-e];exact hj)
   rw[Yf hji] at hp
   exact hd j hj p hp (List.mem_append_right _ z)
  refine⟨fps',r2,fun j hj=>?_⟩
  have hji:j≠i:=fun e=>hj (e▸List.mem_cons_self)
  obtain⟨a,b⟩:=q2 j (fun z=>hj (List.mem_cons_of_mem _ z))
  exact⟨a.trans (by rw[List.getElem?_set,if_neg (Ne.symm hji)]),b.trans (.inl (Yf hji))⟩
section
variable {O W:List Nat} {T:Tgt} {fb:XS}
theorem TV{H1:Hp}{fps:Nat->List Addr}{s:ZP}{σ:TH}{D:V9}{J:It}{ls:List PV}{out:Out}(r:Rel K O (We H1 (Ow O fps)) fps s σ H1)(jis:BK K (Ow O fps) H1 J ls)(e:Xs T fb ls s=some out)(hT:∀i∈T.slots,i∉O)
  (k:OutOk K O (T.slots++W) (We H1 (Ow O fps)) fps σ D out):DY (gT K T) (GL K O W fb) D σ J H1:=by
 have subT:∀j,j∉T.slots++W->j∉T.slots:=fun j hj z=>hj (List.mem_append_left _ z)
 have subW:∀j,j∉T.slots++W->j∉W:=fun j hj z=>hj (List.mem_append_right _ z)
 refine⟨fun i m σ' H'=>m=ls.length-i/\i<=ls.length/\∃fps' s',Rel K O (We H1 (Ow O fps)) fps' s' σ' H'/\Xs T fb (ls.drop i) s'=some out/\∀j,j∉T.slots++W->σ'[j]?=σ[j]?/\Kep (fps' j) (fps j),
  ⟨ls.length,by simp,Nat.zero_le _,fps,s,r,e,fun j _=>⟨rfl,Kep.refl _⟩⟩,?_⟩
 rintro i m σ' H' ⟨rfl,hi,fps',s',r',e',q'⟩
 have ab:Ab (Ow O fps) H1 H':=fun b o h n=>r'.same b o (by unfold We;rw[if_neg n];exact h)
 cases q:ls.drop i with
 | nil=>
  have hil:i=ls.length:=by
   have:=congrArg List.length q
   rw[List.length_drop] at this
   simp at this;omega
  subst hil
  rw[q] at e'
  cases e'
  exact .inl ⟨jis.stop H' ab,k fps' σ' H' r' q'⟩
 | cons l rr=>
  obtain⟨hl,hr⟩:=R8 q
  have hilt:i<ls.length:=(List.getElem?_eq_some_iff.mp hl).1
  rw[q] at e'
  unfold Xs at e'
  obtain⟨sb,eb,e'⟩:=Zf e'
  obtain⟨o,eo,e'⟩:=Zf e'
  refine .inr ⟨jis.go H' i l ab hl,fun σ2 H2=>∃fps2 s2,Rel K O (We H1 (Ow O fps)) fps2 s2 σ2 H2/\Xs T fb (ls.drop (i+1)) s2=some out/\∀j,j∉T.slots++W->σ2[j]?=σ[j]?/\Kep (fps2 j) (fps j),
   fun σ2 H2 h2=>⟨ls.length-(i+1),by omega,rfl,hilt,h2⟩,fun x H2 y=>?_⟩
  obtain⟨s2,fx,ix,nx⟩:=jis.yld H' i l x H2 ab hl y
  obtain⟨bl,bv,bf,rfl,bi,blen,bsub,buse⟩:=Oq (K:=K) ix eb
  obtain⟨fps3,r3,q3⟩:=Rel.setAll (is:=T.slots) (r'.grow s2) bi blen hT fun j hj p hp z=>by
   obtain⟨n1,n2⟩:=nx p (bsub p z)
   have:=(r'.own j hj p hp).1
   unfold We at this;rw[if_neg n2] at this
   exact n1 this
  refine buse _ _ ⟨_,fps3,_,o,r3,eo,?_⟩
  have keep:∀j,j∉T.slots++W->(Xd T.slots bv σ')[j]?=σ[j]?/\Kep (fps3 j) (fps j):=fun j hj=>⟨(q3 j (subT j hj)).1.trans (q' j hj).1,(q3 j (subT j hj)).2.trans (q' j hj).2⟩
  cases o with
  | nx s4=>exact fun fps4 σ4 H4 r4 q4=>⟨fps4,s4,r4,by rw[hr];exact e',fun j hj=>⟨(q4 j (subW j hj)).1.trans (keep j hj).1,(q4 j (subW j hj)).2.trans (keep j hj).2⟩⟩
  | ct s4=>exact fun fps4 σ4 H4 r4 q4=>⟨fps4,s4,r4,by rw[hr];exact e',fun j hj=>⟨(q4 j (subW j hj)).1.trans (keep j hj).1,(q4 j (subW j hj)).2.trans (keep j hj).2⟩⟩
  | bk s4=>
   cases e'
   exact fun fps4 σ4 H4 r4 q4=>k fps4 σ4 H4 r4 fun j hj=>⟨(q4 j (subW j hj)).1.trans (keep j hj).1,(q4 j (subW j hj)).2.trans (keep j hj).2⟩
  | rt v=>
   cases e'
   exact k
end
section
variable {X:Cx} {O W:List Nat} {tg iter:Expr} {body:List Stmt} {fi:XL} {T:Tgt} {fb:XS} {pos:Pos}
theorem Y4(hp:PassesOwn (model X.prog X.w) X.A X.env X.xe)(hc:X.calm=true)(hi:VI X tg iter fi)(hg:PG X tg (gT X.K T))(hb:Ny X O W body fb)(hT:∀i∈T.slots,i∉O:=by decide)
  (hs:∀x,foldedSetIterable iter X.env x=pure x:=by intro _;rfl):VS X O (T.slots++W) (.For tg iter body [] pos) (Yp O fi T fb):=PS.imp (RL hp hc hi hg hb hs) fun D σ H ⟨H0,fps,s,out,r,e,k⟩=>by
 obtain⟨ls,e1,e⟩:=Zf e
 refine⟨Ow O fps,ZJ O s,ls,r.owMut,r.envO,e1,fun J H1 s1 jis=>?_⟩
 exact TV (r.grow s1).frame jis e hT (k.less (r.grow s1).under)
end
end VL
namespace VL
open PySem PySem.Spec PyProof.Rows L2
variable {K:PySem.W.Frag}
section
variable {O:List Nat} {H0 H H':Hp} {fps:Nat->List Addr} {s:ZP} {σ:TH}
theorem Rel.lst_at(r:Rel K O H0 fps s σ H){i:Nat}(hi:i∈O){m:List PV}(e:s[i]?=some (some (.lst m))):∃p xs fq,σ[i]?=some (some (.ref p))/\H p=some (.lst xs)/\Iss K H m xs fq/\fps i=p::fq:=by
 obtain⟨v,a,b⟩:=r.is i _ e
 obtain⟨p,xs,fq,rfl,hp,hm,ef⟩:=b.lst_inv
 exact⟨p,xs,fq,a,hp,hm,ef⟩
theorem Rel.dT_at(r:Rel K O H0 fps s σ H){i:Nat}(hi:i∈O){ks:List (List YO)}{m:List PV}(e:s[i]?=some (some (.dT ks m))):∃p kvs fq,σ[i]?=some (some (.ref p))/\H p=some (.dT kvs)/\kvs.map (·.1)=ks/\Iss K H m (kvs.map (·.2)) fq/\fps i=p::fq:=by
 obtain⟨v,a,b⟩:=r.is i _ e
 obtain⟨p,xs,fq,rfl,hp,hk,hm,ef⟩:=b.dT_inv
 refine⟨p,xs,fq,a,?_,hk,hm,ef⟩
 have mu:=(r.own i hi p (by rw[ef];exact List.mem_cons_self)).2
 rcases hp with hp | ⟨o,hp⟩
 ·exact hp
 ·rw[hp] at mu;exact mu.elim
theorem Rel.dK_at(r:Rel K O H0 fps s σ H){i:Nat}(hi:i∈O){ks:List YO}{m:List PV}(e:s[i]?=some (some (.dK ks m))):∃p kvs fq,σ[i]?=some (some (.ref p))/\H p=some (.dK kvs)/\kvs.map (·.1)=ks/\Iss K H m (kvs.map (·.2)) fq/\fps i=p::fq:=by
 obtain⟨v,a,b⟩:=r.is i _ e
 obtain⟨p,xs,fq,rfl,hp,hk,hm,ef⟩:=b.dK_inv
 refine⟨p,xs,fq,a,?_,hk,hm,ef⟩
 have mu:=(r.own i hi p (by rw[ef];exact List.mem_cons_self)).2
 rcases hp with hp | ⟨o,hp⟩
 ·exact hp
 ·rw[hp] at mu;exact mu.elim
theorem UO{α:Type}{l:List α}{i:Nat}{a:α}(h:l[i]?=some a):i<l.length:=(List.getElem?_eq_some_iff.mp h).1
theorem TK.upd'{p:Addr}{o:HO}(mu:Vl (H p)):TK2 H (L2.upd H p o):=⟨fun b xs h=>by
 rw[upd_ne (fun z=>by rw[z] at h;rw[h] at mu;exact mu)];exact h,fun b o xs h=>by
 rw[upd_ne (fun z=>by rw[z] at h;rw[h] at mu;exact mu)];exact h,fun b o x h=>by
 rw[upd_ne (fun z=>by rw[z] at h;rw[h] at mu;exact mu)];exact h⟩
theorem RdK.upd_ne{p q:Addr}{o:HO}(ne:q≠p):RdK H (L2.upd H p o) q:=RdK.of fun u hu=>by rw[L2.upd_ne ne];exact hu
theorem Rel.relist(r:Rel K O H0 fps s σ H){i:Nat}(hi:i∈O){m m':List PV}(e:s[i]?=some (some (.lst m))){p:Addr}{fq fq':List Addr}{xs':List V}(ef:fps i=p::fq)(hv:σ[i]?=some (some (.ref p)))
  (h':Iss K H m' xs' fq') (nd:(p::fq').Nodup) (hf:∀q∈fq',q∈fq\/((H0 q=none/\Vl (H q))/\∀j,q∉fps j)):Rel K O H0 (TU fps s.length i (p::fq')) (s.set i (some (.lst m'))) σ (L2.upd H p (.lst xs')):=by
 have hp:p∈fps i:=by rw[ef];exact List.mem_cons_self
 have mu:=(r.own i hi p hp).2
 have np:p∉fq':=(List.nodup_cons.mp nd).1
 refine r.mutate hi hp hv (UO e) (Is.lst upd_same (Iss.tr (TK.upd' mu) _ _ _ (fun q hq=>RdK.upd_ne fun z=>np (z▸hq)) h')) nd (fun q hq=>?_) (fun j hj q hq z=>?_) True.intro
 ·rcases List.mem_cons.mp hq with rfl | hq
  ·exact⟨(r.own i hi q hp).1,by rw[upd_same];exact True.intro⟩
  ·have ne:q≠p:=fun z=>np (z▸hq)
   rw[L2.upd_ne ne]
   rcases hf q hq with h | h
   ·exact r.own i hi q (by rw[ef];exact List.mem_cons_of_mem _ h)
   ·exact h.1
 ·rcases List.mem_cons.mp hq with rfl | hq
  ·exact r.dis i hi j hj q hp z
  ·rcases hf q hq with h | h
   ·exact r.dis i hi j hj q (by rw[ef];exact List.mem_cons_of_mem _ h) z
   ·exact h.2 j z
end
def GN(s:ZP)(i:Nat):Option (List PV):=match s[i]? with | some (some (.lst m))=>some m | _=>none
def Iv:PV->Option Int
 | .int k=>some k
 | _=>none
def BN:PV->Option (List PV)
 | .lst k=>some k
 | _=>none
theorem TX{s:ZP}{i:Nat}{m:List PV}(h:GN s i=some m):s[i]?=some (some (.lst m)):=by
 unfold GN at h;split at h
 ·cases h;assumption
 ·cases h
theorem TY{a:PV}{k:Int}(h:Iv a=some k):a = .int k:=by
 unfold Iv at h;split at h
 ·cases h;rfl
 ·cases h
theorem Nz{a:PV}{k:List PV}(h:BN a=some k):a = .lst k:=by
 unfold BN at h;split at h
 ·cases h;rfl
 ·cases h
def gd(c:Bool):Option Unit:=if c=true then some () else none
theorem UP{c:Bool}{u:Unit}(h:gd c=some u):c=true:=by
 unfold gd at h;split at h
 ·assumption
 ·cases h
def X5(i:Nat)(f:XE):XS:=fun s=>(f s).bind fun l=>(GN s i).bind fun m=>(gd (decide (m.length<=10000))).bind fun _=>some (.nx (s.set i (some (.lst (m++[l])))))
def Ws(i:Nat)(f:XE):XS:=fun s=>(f s).bind fun l=>(BN l).bind fun n=>(GN s i).bind fun m=>(gd (decide (m.length+n.length<=10000))).bind fun _=>some (.nx (s.set i (some (.lst (m++n)))))
def UQ(i:Nat)(fk:XE)(f:XE):XS:=fun s=>(fk s).bind fun k=>(f s).bind fun l=>(Iv k).bind fun k=>(GN s i).bind fun m=>(gd (ZE m&&ZT l&&decide (0<=k/\k<=1000000/\m.length<=10000))).bind fun _=>some (.nx (s.set i (some (.lst (m.take k.toNat++l::m.drop k.toNat)))))
section
variable {X:Cx} {O:List Nat} {i:Nat} {st:Stmt} {f fk:XE}
theorem AR{H:Hp}{p:Addr}{xs:List V}(h:H p=some (.lst xs)):AJ K "list" (.ref p) H:=.inl ⟨rfl,_,SqL.of h⟩
theorem Pu{s:ZP}{σ:TH}{fps:Nat->List Addr}{fp:List Addr}:∀j,j∉[i]->σ[j]?=σ[j]?/\Kep (TU fps s.length i fp j) (fps j):=fun j hj=>⟨rfl,.inl (Yf (by simpa using hj))⟩
theorem SK(h:PS X st (O5 (Ai X.K "list" LO (Ua i) (V5 (tM X.K f) O9))))(hi:i∈O:=by decide):VS X O [i] st (X5 i f):=PS.imp h fun D σ H ⟨H0,fps,s,out,r,e,k⟩=>by
 obtain⟨l,e1,e⟩:=Zf e
 obtain⟨m,em,e⟩:=Zf e
 obtain⟨_,eg,e⟩:=Zf e
 have em:=TX em
 have hlen:=of_decide_eq_true (UP eg)
 cases e
 obtain⟨p,xs,fq,hv,hp,hm,ef⟩:=r.lst_at hi em
 refine⟨.ref p,hv,AR hp,s,l,r.env,e1,fun y H2 fe s2 i2 d2 n2=>?_⟩
 refine⟨p,xs,y,rfl,rfl,s2 _ _ hp,by rw[hm.len];exact lt_size (by omega),?_⟩
 have r2:=r.grow s2
 have fr:∀q∈fe,∀j,q∉fps j:=fun q hq j z=>r.dom j q z (n2 q hq).1
 refine k _ _ _ (r2.relist hi em ef hv ((hm.mono s2).append (Iss.one i2)) ?_ fun q hq=>?_) Pu
 ·have nd:=r.nd i hi
  rw[ef] at nd;rw[<-List.cons_append]
  exact List.nodup_append.mpr ⟨nd,d2,fun a ha b hb z=>fr b hb i (by rw[ef,<-z];exact ha)⟩
 ·rcases List.mem_append.mp hq with h | h
  ·exact .inl h
  ·exact .inr ⟨⟨Same.off r.same (n2 q h).1,(n2 q h).2⟩,fr q h⟩
theorem Pw(h:PS X st (O5 (Ai X.K "list" LP (Ua i) (V5 (tM X.K f) O9))))(hi:i∈O:=by decide):VS X O [i] st (Ws i f):=PS.imp h fun D σ H ⟨H0,fps,s,out,r,e,k⟩=>by
 obtain⟨l,e1,e⟩:=Zf e
 obtain⟨n,en,e⟩:=Zf e
 obtain⟨m,em,e⟩:=Zf e
 obtain⟨_,eg,e⟩:=Zf e
 rw[Nz en] at e1;have em:=TX em
 have hlen:=of_decide_eq_true (UP eg)
 cases e
 obtain⟨p,xs,fq,hv,hp,hm,ef⟩:=r.lst_at hi em
 refine⟨.ref p,hv,AR hp,s,_,r.env,e1,fun y H2 fe s2 i2 d2 n2=>?_⟩
 obtain⟨b,zs,fb,rfl,hb,hz,rfl⟩:=i2.lst_inv
 have hb':H2 b=some (.lst zs):=hb
 refine⟨p,b,xs,zs,rfl,rfl,s2 _ _ hp,hb',by rw[hm.len,hz.len];exact Nat.le_of_lt (lt_size (by omega)),?_⟩
 have r2:=r.grow s2
 have fr:∀q∈fb,∀j,q∉fps j:=fun q hq j z=>r.dom j q z (n2 q (List.mem_cons_of_mem _ hq)).1
 refine k _ _ _ (r2.relist hi em ef hv ((hm.mono s2).append hz) ?_ fun q hq=>?_) Pu
 ·have nd:=r.nd i hi
  rw[ef] at nd;rw[<-List.cons_append]
  exact List.nodup_append.mpr ⟨nd,(List.nodup_cons.mp d2).2,fun a ha b hb z=>fr b hb i (by rw[ef,<-z];exact ha)⟩
 ·rcases List.mem_append.mp hq with h | h
  ·exact .inl h
  ·exact .inr ⟨⟨Same.off r.same (n2 q (List.mem_cons_of_mem _ h)).1,(n2 q (List.mem_cons_of_mem _ h)).2⟩,fr q h⟩
theorem Iss.pureEq{H:Hp}{l:List PV}{xs:List V}{fp:List Addr}(h:Iss K H l xs fp)(hp:ZE l=true):Iss K H l xs []:=by
 have:=Iss.pure _ _ _ hp h
 subst this;exact h
theorem MW{l:List PV}(n:Nat)(h:ZE l=true):ZE (l.take n)=true:=by
 rw[Wy,List.all_eq_true] at *
 exact fun x hx=>h x (List.mem_of_mem_take hx)
theorem MX{l:List PV}(n:Nat)(h:ZE l=true):ZE (l.drop n)=true:=by
 rw[Wy,List.all_eq_true] at *
 exact fun x hx=>h x (List.mem_of_mem_drop hx)
theorem Js(h:PS X st (O5 (Ai X.K "list" LX (Ua i) (V5 (tF X.K fk) (V5 (tF X.K f) O9)))))(hi:i∈O:=by decide):VS X O [i] st (UQ i fk f):=PS.imp h fun D σ H ⟨H0,fps,s,out,r,e,k⟩=>by
 obtain⟨kk,e0,e⟩:=Zf e
 obtain⟨l,e1,e⟩:=Zf e
 obtain⟨ki,ek,e⟩:=Zf e
 obtain⟨m,em,e⟩:=Zf e
 obtain⟨_,eg,e⟩:=Zf e
 rw[TY ek] at e0;have em:=TX em;have hc:=UP eg;simp only[Bool.and_eq_true,decide_eq_true_eq] at hc
 obtain⟨⟨pm,pl⟩,k0,k1,hlen⟩:=hc
 cases e
 obtain⟨p,xs,fq,hv,hp,hm,ef⟩:=r.lst_at hi em
 refine⟨.ref p,hv,AR hp,fun _=>False,s,_,fun _ z=>z.elim,r.env,e0,fun z H1 fz s1 i1 _=>⟨fun _=>False,s,l,fun _ z=>z.elim,r.env.mono s1,e1,fun y H2 fe s2 i2 _=>?_⟩⟩
 have s12:=s1.trans s2
 obtain⟨rfl,_⟩:=i1.int_inv
 have:=Is.pure _ _ _ pl i2
 subst this
 refine⟨p,xs,ki,y,rfl,rfl,s12 _ _ hp,k0,by omega,by rw[hm.len];exact lt_size (by omega),?_⟩
 have hm':=(hm.mono s12).pureEq pm
 obtain⟨f1,a1,_⟩:=hm'.take ki.toNat
 obtain⟨f2,a2,_⟩:=hm'.drop ki.toNat
 have a1:=a1.pureEq (MW _ pm)
 have a2:=a2.pureEq (MX _ pm)
 exact k _ _ _ ((r.grow s12).relist hi em ef hv (a1.append (Iss.cons i2 a2)) (by simp) fun q hq=>by simp at hq) Pu
end
theorem Iss.setRow{H:Hp}{o:List V}:∀{m:List PV}{xs:List V}{fq:List Addr}{j:Nat}{n n':List PV}{q:Addr},Iss K H m xs fq->m[j]?=some (.lst n)->xs[j]?=some (.ref q)->fq.Nodup->Vl (H q)->ZE n=true->Iss K (L2.upd H q (.lst o)) n' o []->
  Iss K (L2.upd H q (.lst o)) (m.set j (.lst n')) xs fq
 | [],_,_,_,_,_,_,_,e,_,_,_,_,_=>by simp at e
 | a::m,xs,fq,0,n,n',q,h,e,ex,nd,mu,pn,h'=>by
  obtain⟨x,r,f1,f2,rfl,h1,h2,rfl⟩:=h.inv
  simp at e ex
  subst e ex
  obtain⟨p',zs,fz,e,hp,hz,rfl⟩:=h1.lst_inv
  cases e
  have:=Iss.pure _ _ _ pn hz
  subst this
  have nq:q∉f2:=(List.nodup_cons.mp nd).1
  exact Iss.cons (Is.lst upd_same h') (Iss.tr (TK.upd' mu) _ _ _ (fun z hz=>RdK.upd_ne fun e=>nq (e▸hz)) h2)
 | a::m,xs,fq,j+1,n,n',q,h,e,ex,nd,mu,pn,h'=>by
  obtain⟨x,r,f1,f2,rfl,h1,h2,rfl⟩:=h.inv
  simp at e ex
  obtain⟨nd1,nd2,nd3⟩:=List.nodup_append.mp nd
  obtain⟨y,fy,hy,iy,suby⟩:=h2.get e
  rw[ex] at hy;cases hy
  obtain⟨p',zs,fz,e',_,_,rfl⟩:=iy.lst_inv
  cases e'
  have nq:q∉f1:=fun z=>nd3 q z q (suby q List.mem_cons_self) rfl
  exact Iss.cons (Is.tr (TK.upd' mu) _ _ _ (fun z hz=>RdK.upd_ne fun e=>nq (e▸hz)) h1) (Iss.setRow h2 e ex nd2 mu pn h')
def W6(i:Nat)(fa fb:XE)(f:XE):XS:=fun s=>(f s).bind fun l=>(fa s).bind fun a=>(fb s).bind fun b=>(Iv a).bind fun a=>(Iv b).bind fun b=>(GN s i).bind fun m=>(MA m.length a).bind fun j=>(m[j]?).bind fun r=>(BN r).bind fun n=>
 (gd (ZE n&&ZT l)).bind fun _=>(MA n.length b).map fun c=>.nx (s.set i (some (.lst (m.set j (.lst (n.set c l))))))
theorem Px{X:Cx}{O:List Nat}{i:Nat}{st:Stmt}{f fa fb:XE}(h:PS X st (MD (tF X.K f) (Bc (DB (G6 X.K) (Ua i) (tF X.K fa)) (tF X.K fb) EN)))(hi:i∈O:=by decide):VS X O [i] st (W6 i fa fb f):=PS.imp h fun D σ H ⟨H0,fps,s,out,r,e,k⟩=>by
 obtain⟨l,e0,e⟩:=Zf e
 obtain⟨a,e1,e⟩:=Zf e
 obtain⟨b,e2,e⟩:=Zf e
 obtain⟨ai,ea,e⟩:=Zf e
 obtain⟨bi,eb,e⟩:=Zf e
 obtain⟨m,em,e⟩:=Zf e
 obtain⟨j,ej,e⟩:=Zf e
 obtain⟨YM,en,e⟩:=Zf e
 obtain⟨n,er,e⟩:=Zf e
 obtain⟨_,eg,e⟩:=Zf e
 rw[TY ea] at e1;rw[TY eb] at e2;rw[Nz er] at en;have em:=TX em;have hc:=UP eg;simp only[Bool.and_eq_true] at hc
 obtain⟨pn,pl⟩:=hc
 obtain⟨c,ec,rfl⟩:=map_some e
 obtain⟨p,xs,fq,hv,hp,hm,ef⟩:=r.lst_at hi em
 refine⟨fun _=>False,s,l,fun _ z=>z.elim,r.env,e0,fun y H1 fy s1 i1 _=>?_⟩
 refine⟨.ref p,hv,fun _=>False,s,_,fun _ z=>z.elim,r.env.mono s1,e1,fun z H2 fz s2 i2 _=>?_⟩
 obtain⟨rfl,_⟩:=i2.int_inv
 have s12:=s1.trans s2
 obtain⟨q,f1,hq,iq,subq⟩:=(hm.mono s12).get en
 obtain⟨qa,zs,fz',rfl,hqa,hz,rfl⟩:=id iq.lst_inv
 refine⟨p,xs,ai,.ref qa,rfl,rfl,SqL.of (s12 _ _ hp),?_,fun _=>False,s,_,fun _ z=>z.elim,r.env.mono s12,e2,fun w H3 fw s3 i3 _=>?_⟩
 ·unfold Ub;rw[hm.len,ej];exact hq
 obtain⟨rfl,_⟩:=i3.int_inv
 have s123:=s12.trans s3;have r3:=r.grow s123
 have hqf:qa∈fps i:=by rw[ef];exact List.mem_cons_of_mem _ (subq qa List.mem_cons_self)
 have mu:=(r3.own i hi qa hqf).2
 have hqa3:H3 qa=some (.lst zs):=s3 _ _ hqa
 have:=Is.pure _ _ _ pl i1
 subst this
 refine⟨qa,zs,bi,c,rfl,rfl,hqa3,by rw[hz.len];exact ec,?_⟩
 have nd:=r.nd i hi;rw[ef] at nd
 have hqp:qa≠p:=fun z=>(List.nodup_cons.mp nd).1 (z▸subq qa List.mem_cons_self)
 have newrow:Iss X.K (L2.upd H3 qa (.lst (zs.set c y))) (n.set c l) (zs.set c y) []:=Iss.tr (TK.upd' mu) _ _ _ (fun q hq=>by simp at hq) (Iss.setP c pn pl ((hz.mono s3).pureEq pn) (i1.mono (s2.trans s3)))
 have rows:=Iss.setRow (hm.mono s123) en hq (List.nodup_cons.mp nd).2 mu pn newrow
 refine k _ _ _ (r3.mutate (o:=.lst (zs.set c y)) (l':=.lst (m.set j (.lst (n.set c l)))) (fp':=p::fq) hi hqf hv (UO em) (Is.lst (by rw[L2.upd_ne (Ne.symm hqp)];exact s123 _ _ hp) rows) nd (fun q hq=>?_) (fun j hj q hq z=>r.dis i hi j hj q (by rw[ef];exact hq) z) True.intro) Pu
 refine⟨(r.own i hi q (by rw[ef];exact hq)).1,?_⟩
 by_cases e:q=qa
 ·subst e;rw[upd_same];exact True.intro
 ·rw[L2.upd_ne e];exact(r3.own i hi q (by rw[ef];exact hq)).2
def NA(T:Tgt)(f:XE):XS:=fun s=>(f s).bind fun l=>if ZT l=true then(Uo T l s).map .nx else none
theorem FG{X:Cx}{O:List Nat}{st:Stmt}{f:XE}{T:Tgt}(h:PS X st (MD (tF X.K f) (gT X.K T)))(hT:∀i∈T.slots,i∉O:=by decide):VS X O T.slots st (NA T f):=PS.imp h fun D σ H ⟨H0,fps,s,out,r,e,k⟩=>by
 obtain⟨l,e1,e⟩:=Zf e
 split at e
 case isFalse=>cases e
 rename_i pl
 obtain⟨s',e2,rfl⟩:=map_some e
 refine⟨fun _=>False,s,l,fun _ z=>z.elim,r.env,e1,fun v H1 fp s1 i1 _=>?_⟩
 have:=Is.pure _ _ _ pl i1
 subst this
 obtain⟨ls,vs,fs,rfl,hi,hl,sub,use⟩:=Oq (K:=X.K) i1 e2
 obtain⟨fps',r2,q2⟩:=Rel.setAll (is:=T.slots) (r.grow s1) hi hl hT fun j hj p hp z=>by have:=sub p z;simp at this
 exact use σ D.nx (k fps' _ H1 r2 q2)
end VL
namespace VL
open PySem PySem.Spec PyProof.Rows L2
variable {K:PySem.W.Frag}
def Qa:PV->Option YO
 | .int i=>some (.inl i)
 | .str x=>some (.inr x)
 | _=>none
def NB:List PV->Option (List YO)
 | []=>some []
 | a::r=>(Qa a).bind fun k=>(NB r).map (k::·)
def Qb:PV->Option (List YO)
 | .tup l=>NB l
 | _=>none
def kP:YO->PV
 | .inl i=>.int i
 | .inr x=>.str x
theorem Ot{H:Hp}{a:PV}{k:YO}{v:V}{fp:List Addr}(e:Qa a=some k)(h:Is K H a v fp):v=kV k/\fp=[]:=by
 cases a with
 | int i=>cases e;exact h.int_inv
 | str x=>cases e;exact h.str_inv
 | _=>cases e
theorem NC{H:Hp}:∀{l:List PV}{ks:List YO}{xs:List V}{fp:List Addr},NB l=some ks->Iss K H l xs fp->xs=ks.map kV/\fp=[]
 | [],ks,xs,fp,e,h=>by
  cases e
  simpa only[List.map_nil,Iss] using h
 | a::r,ks,xs,fp,e,h=>by
  obtain⟨k,e1,e⟩:=Zf (show(Qa a).bind (fun k=>(NB r).map (k::·))=some ks from e)
  obtain⟨kr,e2,rfl⟩:=map_some e
  obtain⟨x,rr,f1,f2,rfl,h1,h2,rfl⟩:=h.inv
  obtain⟨rfl,rfl⟩:=Ot e1 h1
  obtain⟨rfl,rfl⟩:=NC e2 h2
  exact⟨rfl,rfl⟩
theorem Kf{H:Hp}{a:PV}{k:List YO}{v:V}{fp:List Addr}(e:Qb a=some k)(h:Is K H a v fp):∃b,v = .ref b/\H b=some (.tup (k.map kV)):=by
 cases a with
 | tup l=>
  obtain⟨p,xs,rfl,hp,hi⟩:=h.tup_inv
  obtain⟨rfl,_⟩:=NC (show NB l=some k from e) hi
  exact⟨p,rfl,hp⟩
 | _=>cases e
theorem BO{H:Hp}(k:YO):Is K H (kP k) (kV k) []:=by
 cases k with
 | inl i=>exact Is.int i
 | inr x=>exact Is.str x
theorem He{H:Hp}:∀(ks:List YO),Iss K H (ks.map kP) (ks.map kV) []
 | []=>Iss.nil
 | k::r=>Iss.cons (f1:=[]) (BO k) (He r)
section
variable {κ:Type} [DecidableEq κ]
def WS(ks:List κ)(vs:List PV)(k:κ):Option PV:=((ks.zip vs).find? fun z=>decide (z.1=k)).map (·.2)
def Up(ks:List κ)(k:κ):List κ:=if k∈ks then ks else ks++[k]
def Uq(ks:List κ)(vs:List PV)(k:κ)(v:PV):List PV:=if k∈ks then(ks.zip vs).map fun z=>if z.1=k then v else z.2 else vs++[v]
theorem Qc{H:Hp}:∀{kvs:List (κ×V)}{l:List PV}{fq:List Addr}(k:κ),Iss K H l (kvs.map (·.2)) fq->
  (WS (kvs.map (·.1)) l k=none/\Ug kvs k=none)\/∃a x f,WS (kvs.map (·.1)) l k=some a/\Ug kvs k=some x/\Is K H a x f/\∀p∈f,p∈fq
 | [],l,fq,k,h=>.inl ⟨by unfold WS;simp,rfl⟩
 | kv::r,[],fq,k,h=>by have:=h.len;simp at this
 | kv::r,a::l,fq,k,h=>by
  obtain⟨x,rr,f1,f2,e,h1,h2,rfl⟩:=h.inv
  cases e
  by_cases hk:kv.1=k
  ·refine .inr ⟨a,kv.2,f1,?_,Tw hk,h1,fun p hp=>List.mem_append_left _ hp⟩
   unfold WS;rw[List.map_cons,List.zip_cons_cons,List.find?_cons];simp[hk]
  ·have e1:WS ((kv::r).map (·.1)) (a::l) k=WS (r.map (·.1)) l k:=by
    unfold WS;rw[List.map_cons,List.zip_cons_cons,List.find?_cons];simp[hk]
   rw[e1,Tx hk]
   rcases Qc (l:=l) k h2 with z | ⟨b,y,f,z1,z2,z3,z4⟩
   ·exact .inl z
   ·exact .inr ⟨b,y,f,z1,z2,z3,fun p hp=>List.mem_append_right _ (z4 p hp)⟩
theorem any_mem{kvs:List (κ×V)}{k:κ}:(kvs.any fun kv=>decide (kv.1=k))=true↔k∈kvs.map (·.1):=by
 rw[List.any_eq_true,List.mem_map];constructor
 ·rintro⟨x,hx,e⟩;exact⟨x,hx,of_decide_eq_true e⟩
 ·rintro⟨x,hx,e⟩;exact⟨x,hx,decide_eq_true e⟩
theorem Kg{kvs:List (κ×V)}{k:κ}{x:V}:(Vm kvs k x).map (·.1)=Up (kvs.map (·.1)) k:=by
 unfold Vm Up
 by_cases h:k∈kvs.map (·.1)
 ·rw[if_pos (any_mem.mpr h),if_pos h,List.map_map]
  apply List.map_congr_left
  intro z _
  show(if z.1=k then(z.1,x) else z).1=z.1
  split<;>rfl
 ·rw[if_neg (fun z=>h (any_mem.mp z)),if_neg h,List.map_append];rfl
theorem Kh{H:Hp}{kvs:List (κ×V)}{l:List PV}{k:κ}{a:PV}{x:V}(h:Iss K H l (kvs.map (·.2)) [])(hp:ZE l=true)(ha:Is K H a x [])(pa:ZT a=true):Iss K H (Uq (kvs.map (·.1)) l k a) ((Vm kvs k x).map (·.2)) []:=by
 unfold Vm Uq
 by_cases hk:k∈kvs.map (·.1)
 ·rw[if_pos (any_mem.mpr hk),if_pos hk]
  clear hk
  induction kvs generalizing l with
  | nil=>
   have:=h.len
   cases l with
   | nil=>exact Iss.nil
   | cons _ _=>simp at this
  | cons kv r ih=>
   cases l with
   | nil=>have:=h.len;simp at this
   | cons b l=>
    obtain⟨y,rr,f1,f2,e,h1,h2,e2⟩:=h.inv
    cases e;simp only[ZE,Bool.and_eq_true] at hp;have z1:=Is.pure _ _ _ hp.1 h1;have z2:=Iss.pure _ _ _ hp.2 h2
    subst z1 z2
    have ih:=ih h2 hp.2;rw[List.map_cons,List.zip_cons_cons,List.map_cons,List.map_cons,List.map_cons]
    by_cases e:kv.1=k
    ·rw[if_pos e,if_pos e]
     exact Iss.cons (f1:=[]) ha ih
    ·rw[if_neg e,if_neg e]
     exact Iss.cons (f1:=[]) h1 ih
 ·rw[if_neg (fun z=>hk (any_mem.mp z)),if_neg hk,List.map_append]
  exact h.append (Iss.one ha)
end
def WH:PV->PV->Option PV
 | .dK ks vs,k=>(Qa k).bind fun k=>WS ks vs k
 | .dT ks vs,k=>(Qb k).bind fun k=>WS ks vs k
 | _,_=>none
def Ap:PV->PV->Option Bool
 | .dK ks vs,k=>(Qa k).map fun k=>(WS ks vs k).isSome
 | .dT ks vs,k=>(Qb k).map fun k=>(WS ks vs k).isSome
 | _,_=>none
theorem Ki{H:Hp}{d k:PV}{x y:V}{fd fk:List Addr}(hd:Is K H d x fd)(hk:Is K H k y fk){b:Bool}(e:Ap d k=some b):∃a o,x = .ref a/\Jc H a y o/\o.isSome=b/\((WH d k=none/\o=none)\/∃c v f,WH d k=some c/\o=some v/\Is K H c v f/\∀p∈f,p∈fd):=by
 cases d with
 | dK ks vs=>
  obtain⟨kk,e1,rfl⟩:=map_some (show(Qa k).map (fun k=>(WS ks vs k).isSome)=some b from e)
  obtain⟨p,kvs,fq,rfl,hp,rfl,hi,rfl⟩:=hd.dK_inv
  obtain⟨rfl,_⟩:=Ot e1 hk
  refine⟨p,Ug kvs kk,rfl,.inl ⟨kvs,kk,hp,rfl,rfl⟩,?_,?_⟩
  ·rcases Qc kk hi with⟨z1,z2⟩ | ⟨a,v,f,z1,z2,_⟩<;>rw[z1,z2]<;>rfl
  ·show(WH (.dK _ vs) k=none/\_)\/_
   have eg:WH (.dK (kvs.map (·.1)) vs) k=WS (kvs.map (·.1)) vs kk:=by show(Qa k).bind _=_;rw[e1];rfl
   rw[eg]
   rcases Qc kk hi with z | ⟨a,v,f,z1,z2,z3,z4⟩
   ·exact .inl z
   ·exact .inr ⟨a,v,f,z1,z2,z3,fun q hq=>List.mem_cons_of_mem _ (z4 q hq)⟩
 | dT ks vs=>
  obtain⟨kk,e1,rfl⟩:=map_some (show(Qb k).map (fun k=>(WS ks vs k).isSome)=some b from e)
  obtain⟨p,kvs,fq,rfl,hp,rfl,hi,rfl⟩:=hd.dT_inv
  obtain⟨b,rfl,hb⟩:=Kf e1 hk
  refine⟨p,Ug kvs kk,rfl,.inr ⟨kvs,kk,b,hp,rfl,hb,rfl⟩,?_,?_⟩
  ·rcases Qc kk hi with⟨z1,z2⟩ | ⟨a,v,f,z1,z2,_⟩<;>rw[z1,z2]<;>rfl
  ·have eg:WH (.dT (kvs.map (·.1)) vs) k=WS (kvs.map (·.1)) vs kk:=by show(Qb k).bind _=_;rw[e1];rfl
   rw[eg]
   rcases Qc kk hi with z | ⟨a,v,f,z1,z2,z3,z4⟩
   ·exact .inl z
   ·exact .inr ⟨a,v,f,z1,z2,z3,fun q hq=>List.mem_cons_of_mem _ (z4 q hq)⟩
 | _=>cases e
theorem FH{d k c:PV}(h:WH d k=some c):Ap d k=some true:=by
 cases d with
 | dK ks vs=>
  obtain⟨kk,e1,e2⟩:=Zf (show(Qa k).bind (fun k=>WS ks vs k)=some c from h)
  show(Qa k).map _=_
  rw[e1];show some ((WS ks vs kk).isSome)=_;rw[e2];rfl
 | dT ks vs=>
  obtain⟨kk,e1,e2⟩:=Zf (show(Qb k).bind (fun k=>WS ks vs k)=some c from h)
  show(Qb k).map _=_
  rw[e1];show some ((WS ks vs kk).isSome)=_;rw[e2];rfl
 | _=>cases h
section
variable {X:Cx} {o i e f:Expr} {fd fk fx:XE} {pos apos cpos:Pos}
theorem Hf:∀σ H Q,tF K (Zi WH fd fk) σ H Q->ER (tF K fd) (tF K fk) σ H Q:=fun σ H Q ⟨Rm,s,l,hd,env,e,k⟩=>by
 obtain⟨d,kk,e1,e2,e3⟩:=Vn e
 refine⟨Rm,s,d,hd,env,e1,fun x H1 f1 s1 i1 n1=>⟨Rm,s,kk,fun p hp=>Same.mut s1 (hd p hp),env.mono s1,e2,fun y H2 f2 s2 i2 n2=>?_⟩⟩
 obtain⟨a,ov,rfl,dg,_,alt⟩:=Ki (i1.mono s2) i2 (FH e3)
 rcases alt with⟨z,_⟩ | ⟨c,v,fv,z1,rfl,z3,z4⟩
 ·rw[z] at e3;cases e3
 ·rw[z1] at e3;cases e3
  exact⟨a,v,rfl,dg,k v H2 fv (s1.trans s2) z3 fun p hp=>n1 p (z4 p hp)⟩
theorem Ou(hu:X.A.units+1<cLine)(ho:VE X o fd)(hi:VE X i fk)(hs:DP i:=by exact fun _ _=>rfl):VE X (.Subscript o i pos) (Zi WH fd fk):=PE.imp (Fc hu ho hi hs) Hf
def MY(neg:Bool)(fk fd:XE):XE:=fun s=>(fk s).bind fun k=>(fd s).bind fun d=>(Ap d k).map fun b=>.bl (if neg then !b else b)
theorem MZ:∀σ H Q,tF K (MY true fk fd) σ H Q->LV (tF K fk) (tF K fd) σ H Q:=fun σ H Q ⟨Rm,s,l,hd,env,e,k⟩=>by
 obtain⟨kk,e1,e⟩:=Zf e
 obtain⟨d,e2,e⟩:=Zf e
 obtain⟨b,e3,rfl⟩:=map_some e
 refine⟨Rm,s,kk,hd,env,e1,fun y H1 f1 s1 i1 n1=>⟨Rm,s,d,fun p hp=>Same.mut s1 (hd p hp),env.mono s1,e2,fun x H2 f2 s2 i2 n2=>?_⟩⟩
 obtain⟨a,ov,rfl,dg,rfl,_⟩:=Ki i2 (i1.mono s2) e3
 exact⟨a,ov,rfl,dg,k _ H2 [] (s1.trans s2) (Is.bl _) fun p hp=>by simp at hp⟩
theorem Jt(hu:X.A.units+1<cLine)(hi:VE X i fk)(ho:VE X o fd)(hm:behindInMarks .NotIn o=false:=by with_unfolding_all rfl):VT X (.Compare i [.NotIn] [o] pos) (xB (MY true fk fd)):=PT.imp (Iz (Jf hu hi ho) hm) fun σ H Q h=>L6 MZ σ H Q (EU σ H Q h)
end
def FI(d k v:PV):Option PV:=match d with
 | .dT ks vs=>(gd (ZE vs&&ZT v&&decide (ks.length<=10000))).bind fun _=>(Qb k).map fun k=>.dT (Up ks k) (Uq ks vs k v)
 | .dK ks vs=>(gd (ZE vs&&ZT v&&decide (ks.length<=10000))).bind fun _=>(Qa k).map fun k=>.dK (Up ks k) (Uq ks vs k v)
 | _=>none
def sDPut(i:Nat)(fk fv:XE):XS:=fun s=>(fv s).bind fun v=>(fk s).bind fun k=>((s[i]?).join).bind fun d=>(FI d k v).map fun d=>.nx (s.set i (some d))
theorem Rx{X:Cx}{O:List Nat}{i:Nat}{st:Stmt}{fk fv:XE}(h:PS X st (L2.sDPut (Ua i) (tF X.K fk) (tF X.K fv)))(hi:i∈O:=by decide):VS X O [i] st (sDPut i fk fv):=PS.imp h fun D σ H ⟨H0,fps,s,out,r,e,k⟩=>by
 obtain⟨v,e1,e⟩:=Zf e
 obtain⟨kk,e2,e⟩:=Zf e
 obtain⟨d,em,e⟩:=Zf e
 obtain⟨d',ed,rfl⟩:=map_some e
 have em:=join_some em
 cases d with
 | dT ks vs=>
  obtain⟨_,eg,ed⟩:=Zf (show(gd (ZE vs&&ZT v&&decide (ks.length<=10000))).bind (fun _=>(Qb kk).map fun k=>PV.dT (Up ks k) (Uq ks vs k v))=some d' from ed)
  have hc:=UP eg;simp only[Bool.and_eq_true,decide_eq_true_eq] at hc
  obtain⟨⟨pm,pl⟩,hlen⟩:=hc
  obtain⟨kt,e3,rfl⟩:=map_some ed
  obtain⟨p,kvs,fq,hv,hp,rfl,hm,ef⟩:=r.dT_at hi em
  refine⟨fun _=>False,s,v,fun _ z=>z.elim,r.env,e1,fun y H1 fy s1 i1 _=>⟨.ref p,hv,fun _=>False,s,kk,fun _ z=>z.elim,r.env.mono s1,e2,fun z H2 fz s2 i2 _=>?_⟩⟩
  have s12:=s1.trans s2
  obtain⟨b,rfl,hb⟩:=Kf e3 i2
  have z1:=Is.pure _ _ _ pl i1;subst z1
  have hm':=(hm.mono s12).pureEq pm
  have z2:=Iss.pure _ _ _ pm hm;subst z2;have r2:=r.grow s12
  have hpf:p∈fps i:=by rw[ef];exact List.mem_cons_self
  have mu:=(r2.own i hi p hpf).2
  refine⟨p,_,rfl,.inr ⟨kvs,kt,b,s12 _ _ hp,rfl,hb,by rw[<-List.length_map (·.1)];exact lt_size hlen,rfl⟩,?_⟩
  refine k _ _ _ (r2.mutate (o:=.dT (Vm kvs kt y)) (l':=.dT (Up (kvs.map (·.1)) kt) (Uq (kvs.map (·.1)) vs kt v)) (fp':=[p]) hi hpf hv (UO em) (Is.dT upd_same Kg (Iss.tr (TK.upd' mu) _ _ _ (fun q hq=>by simp at hq) (Kh hm' pm (i1.mono s2) pl))) (by simp) (fun q hq=>?_) (fun j hj q hq z=>r.dis i hi j hj q (by rw[ef];exact hq) z) True.intro) Pu
  rw[List.mem_singleton.mp hq]
  exact⟨(r.own i hi p hpf).1,by rw[upd_same];exact True.intro⟩
 | dK ks vs=>
  obtain⟨_,eg,ed⟩:=Zf (show(gd (ZE vs&&ZT v&&decide (ks.length<=10000))).bind (fun _=>(Qa kk).map fun k=>PV.dK (Up ks k) (Uq ks vs k v))=some d' from ed)
  have hc:=UP eg;simp only[Bool.and_eq_true,decide_eq_true_eq] at hc
  obtain⟨⟨pm,pl⟩,hlen⟩:=hc
  obtain⟨kt,e3,rfl⟩:=map_some ed
  obtain⟨p,kvs,fq,hv,hp,rfl,hm,ef⟩:=r.dK_at hi em
  refine⟨fun _=>False,s,v,fun _ z=>z.elim,r.env,e1,fun y H1 fy s1 i1 _=>⟨.ref p,hv,fun _=>False,s,kk,fun _ z=>z.elim,r.env.mono s1,e2,fun z H2 fz s2 i2 _=>?_⟩⟩
  have s12:=s1.trans s2
  obtain⟨rfl,_⟩:=Ot e3 i2
  have z1:=Is.pure _ _ _ pl i1;subst z1
  have hm':=(hm.mono s12).pureEq pm
  have z2:=Iss.pure _ _ _ pm hm;subst z2;have r2:=r.grow s12
  have hpf:p∈fps i:=by rw[ef];exact List.mem_cons_self
  have mu:=(r2.own i hi p hpf).2
  refine⟨p,_,rfl,.inl ⟨kvs,kt,s12 _ _ hp,rfl,by rw[<-List.length_map (·.1)];exact lt_size hlen,rfl⟩,?_⟩
  refine k _ _ _ (r2.mutate (o:=.dK (Vm kvs kt y)) (l':=.dK (Up (kvs.map (·.1)) kt) (Uq (kvs.map (·.1)) vs kt v)) (fp':=[p]) hi hpf hv (UO em) (Is.dK upd_same Kg (Iss.tr (TK.upd' mu) _ _ _ (fun q hq=>by simp at hq) (Kh hm' pm (i1.mono s2) pl))) (by simp) (fun q hq=>?_) (fun j hj q hq z=>r.dis i hi j hj q (by rw[ef];exact hq) z) True.intro) Pu
  rw[List.mem_singleton.mp hq]
  exact⟨(r.own i hi p hpf).1,by rw[upd_same];exact True.intro⟩
 | _=>cases ed
end VL
namespace VL
open PySem PySem.Spec PyProof.Rows L2
variable {K:PySem.W.Frag}
section
variable {X:Cx} {a b c d:Expr} {fa fb fc fd:XE} {pos:Pos}
theorem Qd(hu:X.A.units+64<cLine)(ha:VE X a fa)(hb:VE X b fb):VE X (.Compare a [.Eq] [b] pos) (Zi (YJ false) fa fb):=Oi (IX hu) (Ol false) ha hb (Vh _)
theorem BP(hu:X.A.units+64<cLine)(ha:VE X a fa)(hb:VE X b fb):VE X (.Compare a [.NotEq] [b] pos) (Zi (YJ true) fa fb):=Oi (IY hu) (Ol true) ha hb (Vh _)
theorem S9(hu:X.A.units+64<cLine)(ha:VE X a fa)(hb:VE X b fb):VT X (.Compare a [.Eq] [b] pos) (xB (Zi (YJ false) fa fb)):=Ui (IX hu) (Ol false) ha hb (Vh _)
theorem Py(hu:X.A.units+64<cLine)(ha:VE X a fa)(hb:VE X b fb):VT X (.Compare a [.NotEq] [b] pos) (xB (Zi (YJ true) fa fb)):=Ui (IY hu) (Ol true) ha hb (Vh _)
theorem EY(hu:X.A.units+64<cLine)(ha:VE X a fa)(hb:VE X b fb)(hm:behindInMarks .In b=false:=by with_unfolding_all rfl):VT X (.Compare a [.In] [b] pos) (xB (Zi (Nu false) fa fb)):=Ui (Cd hu) (IZ false) ha hb hm
theorem ND(hu:X.A.units+64<cLine)(ha:VE X a fa)(hb:VE X b fb)(hm:behindInMarks .NotIn b=false:=by with_unfolding_all rfl):VT X (.Compare a [.NotIn] [b] pos) (xB (Zi (Nu true) fa fb)):=Ui (Jo hu) (IZ true) ha hb hm
def NF:PV->Option Bool
 | .bl c=>some c
 | _=>none
theorem Hg{a:PV}{k:Bool}(h:NF a=some k):a = .bl k:=by
 unfold NF at h;split at h
 ·cases h;rfl
 ·cases h
def EZ(g h:PV->PV->Option PV)(a b c:XE):XE:=fun s=>(a s).bind fun x=>(b s).bind fun y=>((g x y).bind NF).bind fun k=>if k=true then(c s).bind fun z=>h y z else some (.bl false)
theorem Hh{r r':R2}{g h:PV->PV->Option PV}(hr:RB K r g)(hr':RB K r' h):∀σ H Q,tF K (EZ g h fa fb fc) σ H Q->ID r r' (tF K fa) (tF K fb) (tF K fc) σ H Q:=fun σ H Q ⟨Rm,s,l,hd,env,e,k⟩=>by
 obtain⟨x',e1,e⟩:=Zf e
 obtain⟨y',e2,e⟩:=Zf e
 obtain⟨b,e3,e⟩:=Zf e
 obtain⟨z',e3,eb⟩:=Zf e3
 rw[Hg eb] at e3
 refine⟨Rm,s,x',hd,env,e1,fun x H1 f1 s1 i1 n1=>⟨Rm,s,y',fun p hp=>Same.mut s1 (hd p hp),env.mono s1,e2,fun y H2 f2 s2 i2 n2=>?_⟩⟩
 refine hr H2 x y x' y' _ f1 f2 (i1.mono s2) i2 e3 _ fun v H3 fp s3 i3 n3=>⟨b,i3.bl_inv.1,?_⟩
 have s123:=s1.trans (s2.trans s3)
 cases b with
 | false=>
  rw[if_neg Bool.false_ne_true] at e ⊢
  cases e
  exact k _ H3 [] s123 (Is.bl _) fun p hp=>by simp at hp
 | true=>
  rw[if_pos rfl] at e ⊢
  obtain⟨w',e4,e⟩:=Zf e
  refine⟨Rm,s,w',fun p hp=>Same.mut s123 (hd p hp),env.mono s123,e4,fun w H4 f4 s4 i4 n4=>?_⟩
  refine hr' H4 y w y' w' l f2 f4 (i2.mono (s3.trans s4)) i4 e Q fun v H5 fp5 s5 i5 n5=>k v H5 fp5 (s123.trans (s4.trans s5)) i5 fun p hp z=>?_
  rcases n5 p hp with q | q | q
  ·exact n2 p q z
  ·exact n4 p q z
  ·exact Xv (Same.mut (s123.trans s4) (hd p z)) q
theorem Hi{op op':CmpOp}{r r':R2}{g h:PV->PV->Option PV}(ho:U2 X (compareOp op) r)(ho':U2 X (compareOp op') r')(hr:RB X.K r g)(hr':RB X.K r' h)(ha:VE X a fa)(hb:VE X b fb)(hc:VE X c fc)
  (hm:lastMarks [op,op'] [b,c]=false:=by with_unfolding_all rfl):VT X (.Compare a [op,op'] [b,c] pos) (xB (EZ g h fa fb fc)):=PT.imp (IE ho ho' ha hb hc hm) fun σ H Q q=>RW (Hh hr hr') σ H Q (Np σ H Q q)
end
section
variable {X:Cx} {a b:Expr} {fa fb:XE} {pos:Pos}
def gCat:PV->PV->Option PV
 | .lst m,.lst n=>if m.length+n.length<=10000 then some (.lst (m++n)) else none
 | _,_=>none
def Ur:PV->PV->Option PV
 | .lst m,.lst n=>if m.length+n.length<=10000/\ZE m=true/\ZE n=true then some (.lst (m++n)) else none
 | _,_=>none
theorem Ry(ha:VE X a fa)(hb:VE X b fb):VM X (.BinOp a .Add b pos) (Zi Ur fa fb):=PE.imp (IC DM ha hb) fun σ H Q ⟨s,l,env,e,k⟩=>by
 obtain⟨x',y',e1,e2,e⟩:=Vn e
 refine⟨fun _=>False,s,x',fun _ z=>z.elim,env,e1,fun x H1 f1 s1 i1 _=>⟨fun _=>False,s,y',fun _ z=>z.elim,env.mono s1,e2,fun y H2 f2 s2 i2 _=>?_⟩⟩
 cases x' with
 | lst m=>cases y' with
  | lst n=>
   have e:(if m.length+n.length<=10000/\ZE m=true/\ZE n=true then some (PV.lst (m++n)) else none)=some l:=e
   split at e
   case isFalse=>cases e
   rename_i hl
   cases e
   obtain⟨p,xs,fq,rfl,hp,hi,rfl⟩:=i1.lst_inv
   obtain⟨p',ys,fq',rfl,hp',hi',rfl⟩:=i2.lst_inv
   refine⟨p,p',xs,ys,rfl,rfl,s2 _ _ hp,hp',by rw[hi.len,hi'.len];exact Nat.le_of_lt (lt_size hl.1),fun q hq=>?_⟩
   refine k _ _ [q] (s1.trans (s2.trans (Same.new hq _))) (Is.lst upd_same ((((hi.mono s2).pureEq hl.2.1).append (hi'.pureEq hl.2.2)).mono (Same.new hq _))) (by simp) fun r hr=>?_
   rw[List.mem_singleton.mp hr]
   exact⟨Same.off (s1.trans s2) hq,by rw[upd_same];exact True.intro⟩
  | _=>cases e
 | _=>cases e
def Q0:PV->PV->Option PV
 | .lst m,.int k=>if ZE m=true/\-1000000<=k/\k<=1000000/\m.length*k.toNat<=10000 then some (.lst (List.replicate k.toNat m).flatten) else none
 | _,_=>none
theorem Iss.rep{H:Hp}{m:List PV}{xs:List V}(h:Iss K H m xs []):∀k:Nat,Iss K H (List.replicate k m).flatten (List.replicate k xs).flatten []
 | 0=>Iss.nil
 | k+1=>by
  rw[List.replicate_succ,List.replicate_succ,List.flatten_cons,List.flatten_cons]
  exact h.append (Iss.rep h k)
theorem Hj(ha:VE X a fa)(hb:VE X b fb):VM X (.BinOp a .Mult b pos) (Zi Q0 fa fb):=PE.imp (IC DN ha hb) fun σ H Q ⟨s,l,env,e,k⟩=>by
 obtain⟨x',y',e1,e2,e⟩:=Vn e
 refine⟨fun _=>False,s,x',fun _ z=>z.elim,env,e1,fun x H1 f1 s1 i1 _=>⟨fun _=>False,s,y',fun _ z=>z.elim,env.mono s1,e2,fun y H2 f2 s2 i2 _=>?_⟩⟩
 cases x' with
 | lst m=>cases y' with
  | int n=>
   have e:(if ZE m=true/\-1000000<=n/\n<=1000000/\m.length*n.toNat<=10000 then some (PV.lst (List.replicate n.toNat m).flatten) else none)=some l:=e
   split at e
   case isFalse=>cases e
   rename_i hl
   cases e
   obtain⟨p,xs,fq,rfl,hp,hi,rfl⟩:=i1.lst_inv
   refine⟨p,n,xs,rfl,i2.int_inv.1,s2 _ _ hp,by omega,by omega,by rw[hi.len];exact Nat.le_of_lt (lt_size hl.2.2.2),fun q hq=>?_⟩
   refine k _ _ [q] (s1.trans (s2.trans (Same.new hq _))) (Is.lst upd_same ((Iss.rep ((hi.mono s2).pureEq hl.1) n.toNat).mono (Same.new hq _))) (by simp) fun r hr=>?_
   rw[List.mem_singleton.mp hr]
   exact⟨Same.off (s1.trans s2) hq,by rw[upd_same];exact True.intro⟩
  | _=>cases e
 | _=>cases e
end
theorem Iss.fps{H:Hp}:∀{ls:List PV}{vs:List V}{fp:List Addr},Iss K H ls vs fp->∃fps:Nat->List Addr,(∀(i:Nat) l,ls[i]?=some l->∃v,vs[i]?=some v/\Is K H l v (fps i))/\∀i,ls.length<=i->fps i=[]
 | [],vs,fp,h=>⟨fun _=>[],fun i l e=>by simp at e,fun _ _=>rfl⟩
 | a::ls,vs,fp,h=>by
  obtain⟨x,r,f1,f2,rfl,h1,h2,rfl⟩:=h.inv
  obtain⟨fps,p1,p2⟩:=h2.fps
  refine⟨fun i=>match i with | 0=>f1 | k+1=>fps k,fun i l e=>?_,fun i hi=>?_⟩
  ·cases i with
   | zero=>simp at e;subst e;exact⟨x,rfl,h1⟩
   | succ k=>
    obtain⟨v,a,b⟩:=p1 k l (by simpa using e)
    exact⟨v,by simpa using a,b⟩
  ·cases i with
   | zero=>simp at hi
   | succ k=>exact p2 k (by simpa using hi)
def YF(m:Nat)(ls:List PV):ZP:=ls.map some++List.replicate (m-ls.length) none
def Xw:Out->Option PV
 | .rt v=>some v
 | .nx _=>some .non
 | _=>none
def Xl(m:Nat)(f:XS):List PV->Option PV:=fun ls=>(f (YF m ls)).bind Xw
theorem TZ{N:List Str}{n:Nat}{O W:List Nat}{f:XS}{vs:List V}{H:Hp}{Q:VK}{E:XK}(hO:∀i∈O,n<=i)(h:YU K (Xl N.length f) n vs H Q E):GL K O W f { nx:=fun _ H'=>Q .non H',rt:=Q } (L2.start N vs) H:=by
 obtain⟨hl,ls,fp,l,hi,e,q⟩:=h
 obtain⟨out,e1,e2⟩:=Zf e
 obtain⟨fps,p1,p2⟩:=hi.fps
 have hlen:=hi.len
 have hout:∀i:Nat,ls.length<=i->∀l,(YF N.length ls)[i]?≠some (some l):=fun i hi l z=>by
  unfold YF at z;rw[List.getElem?_append_right (by simpa using hi),List.getElem?_replicate] at z
  split at z<;>cases z
 have rel:Rel K O H fps (YF N.length ls) (L2.start N vs) H:=by
  refine⟨Same.refl H,?_,fun i a z=>?_,fun i hne=>?_,fun i hi=>?_,fun i hi p hp=>?_,fun i hi j hj p hp=>?_⟩
  ·unfold YF L2.start;simp[hlen]
  ·by_cases hil:i<ls.length
   ·unfold YF at z
    rw[List.getElem?_append_left (by simpa using hil),List.getElem?_map] at z
    cases q:ls[i]? with
    | none=>rw[q] at z;cases z
    | some b=>
     rw[q] at z;cases z
     obtain⟨v,a1,b1⟩:=p1 i a q
     refine⟨v,?_,b1⟩
     unfold L2.start
     rw[List.getElem?_append_left (by simpa [hlen] using hil),List.getElem?_map,a1];rfl
   ·exact absurd z (hout i (by omega) a)
  ·by_cases hil:i<ls.length
   ·exact absurd (by unfold YF;rw[List.getElem?_append_left (by simpa using hil),List.getElem?_map,List.getElem?_eq_getElem hil];rfl) (hne ls[i])
   ·exact p2 i (by omega)
  ·rw[p2 i (by have:=hO i hi;omega)];exact List.nodup_nil
  ·rw[p2 i (by have:=hO i hi;omega)] at hp;simp at hp
  ·rw[p2 i (by have:=hO i hi;omega)] at hp;simp at hp
 refine⟨H,fps,YF N.length ls,out,rel,e1,?_⟩
 cases out with
 | nx s'=>
  cases e2
  exact fun fps' σ' H' r' _=>q .non H' [] r'.same Is.non List.nodup_nil fun p hp=>by simp at hp
 | rt v=>
  cases e2
  exact fun v fp H' sm i d n=>q v H' fp sm i d n
 | bk s'=>cases e2
 | ct s'=>cases e2
section
variable {P:Program} {w:World} {mg:Str->Option Value} {base:Heap}
theorem Yh{x:Str}{st:Stmt}{N ps:List Str}{k n:Nat}{O W:List Nat}(m:Nat)(f:XS)(D:Def K mg x st)(S:Zy N ps (Zk st))
  (hb:∀(kV doc pm:Value)(an:Option Addr)(cdv ct:Value)(us:List Value),us.length=ps.length->bindArgs (PySem.W.fnOf x x (YX st) (ZZ st) (Zk st) .none kV doc pm an cdv ct) ⟨us,[]⟩=pure (ps.zip us))
  (hn:ps.length=n) (hm:N.length=m) (hO:∀i∈O,n<=i)
  (hbody:∀(fa:Addr)(cdv:Value)(A:Around)(outer:List Env)(s:Shared)(H:Hp)(E:XK),Room k (A.deeper (envOfC x (Zk st) s.heap.objs.size fa cdv))->Ny (Tv O0 P w K mg base N x (Zk st) fa cdv A outer s H E).nox O W (ZZ st) f) :
  Xj P w K mg base x ps (YU K (Xl m f) n) (k+1):=by
 subst hm
 refine D.cal S hb (fun vs H Q E h=>by rw[hn];exact h.1) fun fa cdv A outer s H vs Q E hr h=>⟨_,hbody fa cdv A outer s H E hr,TZ hO h⟩
end
end VL
namespace VL
open PySem PySem.Spec PyProof.Rows L2
variable {K:PySem.W.Frag}
theorem Inv.thaw{X:Cx}{pins:List (Addr×Obj)}{σ:TH}{H:Hp}{s:Shared}{d:Addr}{kvs:List (List YO×V)}{o:Obj}(I:L2.Inv X pins σ H s)(hd:H d=some (.frz o (.dT kvs)))(h0:∀o u,X.H₀ d≠some (.frz o u)) :
  L2.Inv X pins σ (upd H d (.dT kvs)) s:=by
 have ne:∀b u,H b=some u->(∀o v,u≠.frz o v)->b≠d:=fun b u q n z=>by rw[z,hd] at q;exact n _ _ (Option.some.inj q).symm
 have nn:∀b,H b=none->b≠d:=fun b q z=>by rw[z,hd] at q;cases q
 have hok:HOk X.prog X.w (upd H d (.dT kvs)) s.heap:=fun b u q=>by
  have hown:∀c y,H c=some (.own y)->upd H d (.dT kvs) c=some (.own y):=fun c y z=>by rw[upd_ne (ne c _ z fun _ _ z=>nomatch z)];exact z
  have htup:∀c xs,H c=some (.tup xs)->upd H d (.dT kvs) c=some (.tup xs):=fun c y z=>by rw[upd_ne (ne c _ z fun _ _ z=>nomatch z)];exact z
  by_cases hb:b=d
  ·subst hb
   rw[upd_same] at q;cases q
   obtain⟨_,x⟩:=(show ObjOk X.prog X.w H s.heap b (.frz o (.dT kvs)) from I.hok b _ hd)
   exact ObjOk.stay x (fun _ _ _ z=>z) (fun c z=>hown c _ z) htup
  ·rw[upd_ne hb] at q
   exact(I.hok b u q).stay (fun _ _ _ z=>z) (fun c z=>hown c _ z) htup
 refine⟨I.ok,I.os,I.bare,⟨I.base.keep,I.base.slot,fun b o q n hx=>?_,I.base.there,fun b xs q=>?_,fun b o u q=>?_,fun b ps q=>?_⟩,I.loc,I.cell,?_,fun x c e=>?_,fun p hp=>?_,hok,I.len⟩
 ·have z:=I.base.free b o q n hx
  rw[upd_ne (nn b z)];exact z
 ·have z:=I.base.tups b xs q
  rw[upd_ne (ne b _ z fun _ _ z=>nomatch z)];exact z
 ·have z:=I.base.frzs b o u q
  have hb:b≠d:=fun e=>h0 o u (by rw[<-e];exact q)
  rw[upd_ne hb];exact z
 ·obtain⟨more,z⟩:=I.base.tbls b ps q
  exact⟨more,by rw[upd_ne (ne b _ z fun _ _ z=>nomatch z)];exact z⟩
 ·rw[upd_ne (nn _ I.free)];exact I.free
 ·rw[upd_ne (nn _ (I.freeC x c e))];exact I.freeC x c e
 ·obtain⟨a,b,c⟩:=I.pin p hp
  exact⟨a,by rw[upd_ne (nn _ b)];exact b,c⟩
def thaw(d:Addr)(kvs:List (List YO×V))(D:V9):V9 where
 nx:=fun σ H=>(∃o,H d=some (.frz o (.dT kvs)))/\D.nx σ (upd H d (.dT kvs))
 bk:=fun σ H=>(∃o,H d=some (.frz o (.dT kvs)))/\D.bk σ (upd H d (.dT kvs))
 ct:=fun σ H=>(∃o,H d=some (.frz o (.dT kvs)))/\D.ct σ (upd H d (.dT kvs))
 rt:=fun v H=>(∃o,H d=some (.frz o (.dT kvs)))/\D.rt v (upd H d (.dT kvs))
def E1(i:Nat)(g:TG)(tb:TS):TS:=fun D σ H=>∃d kvs,σ[i]?=some (some (.ref d))/\
 ((H d=some (.dT kvs)/\∀o,DY g tb (thaw d kvs D) σ (DV d o kvs) (upd H d (.frz o (.dT kvs))))\/∃o,H d=some (.frz o (.dT kvs))/\DY g tb D σ (DV d o kvs) H)
theorem Kj{X:Cx}{st:Stmt}{i:Nat}{g:TG}{tb:TS}(h:PS X st (GW (LW (Ua i)) g tb)):PS X st (E1 i g tb):=by
 intro pins s σ H D I hq
 obtain⟨d,kvs,hv,alt⟩:=hq
 rcases alt with⟨hd,q⟩ | ⟨o,hd,q⟩
 ·have h0:∀o u,X.H₀ d≠some (.frz o u):=fun o u z=>by
   have:=I.base.frzs d o u z
   rw[hd] at this;cases this
  have main:=h pins s σ H (thaw d kvs D) I ⟨.ref d,hv,d,kvs,rfl,.inl ⟨hd,q⟩⟩
  refine YI main fun f s' hsp=>?_
  cases f with
  | next=>
   obtain⟨σ',H',I',⟨o,ho⟩,q'⟩:=hsp
   exact⟨σ',_,Inv.thaw I' ho h0,q'⟩
  | brk=>
   obtain⟨σ',H',I',⟨o,ho⟩,q'⟩:=hsp
   exact⟨σ',_,Inv.thaw I' ho h0,q'⟩
  | cont=>
   obtain⟨σ',H',I',⟨o,ho⟩,q'⟩:=hsp
   exact⟨σ',_,Inv.thaw I' ho h0,q'⟩
  | ret u=>
   obtain⟨v,σ',H',I',r',⟨o,ho⟩,q'⟩:=hsp
   exact⟨v,σ',_,Inv.thaw I' ho h0,r',q'⟩
 ·exact h pins s σ H D I ⟨.ref d,hv,d,kvs,rfl,.inr ⟨o,hd,q⟩⟩
def FJ(k:List YO):PV:=.tup (k.map kP)
theorem NG{Rm:Addr->Prop}{H1:Hp}{d:Addr}{o:Obj}{kvs:List (List YO×V)}(hd:H1 d=some (.frz o (.dT kvs)))(hn:¬Rm d):BK K Rm H1 (DV d o kvs) ((kvs.map (·.1)).map FJ):=by
 refine⟨fun H' ab=>⟨ab d _ hd hn,by simp⟩,fun H' i l ab hl=>⟨ab d _ hd hn,by have:=(List.getElem?_eq_some_iff.mp hl).1;simpa using this⟩,fun H' i l x H'' ab hl y=>?_⟩
 obtain⟨rfl,b,k,v,hk,rfl,hb⟩:=y
 rw[List.getElem?_map,List.getElem?_map,hk] at hl;cases hl
 exact⟨Same.refl _,[],Is.tup hb (He k),fun p hp=>by simp at hp⟩
def Pz:PV->Option (List PV)
 | .dT ks _=>some (ks.map FJ)
 | _=>none
def Qe(i:Nat)(T:Tgt)(fb:XS):XS:=fun s=>((s[i]?).join.bind Pz).bind fun ls=>Xs T fb ls s
theorem Rd.dT_inj{H:Hp}{p:Addr}{xs ys:List (List YO×V)}(a:Rd H p (.dT xs))(b:Rd H p (.dT ys)):xs=ys:=by
 rcases a with a | ⟨o,a⟩<;>rcases b with b | ⟨o',b⟩<;>rw[a] at b<;>cases b<;>rfl
theorem RdK.swap{H H':Hp}{d:Addr}{kvs:List (List YO×V)}(h:Rd H d (.dT kvs))(h':Rd H' d (.dT kvs))(hs:∀b,b≠d->H' b=H b)(p:Addr):RdK H H' p:=by
 by_cases hp:p=d
 ·subst hp
  refine⟨fun xs z=>?_,fun k z=>?_,fun k z=>?_⟩
  ·rcases h with h | ⟨o,h⟩<;>rw[h] at z<;>cases z
  ·rcases h with h | ⟨o,h⟩<;>rcases z with z | ⟨o',z⟩<;>rw[h] at z<;>cases z
  ·rw[<-Rd.dT_inj h z];exact h'
 ·exact RdK.of fun o z=>by rw[hs p hp];exact z
theorem TK2.swap{H H':Hp}{d:Addr}{kvs:List (List YO×V)}(h:Rd H d (.dT kvs))(hs:∀b,b≠d->H' b=H b):TK2 H H':=by
 have ne:∀b u,H b=some u->(∀k,u≠.dT k)->(∀o k,u≠.frz o (.dT k))->b≠d:=fun b u q n n' z=>by
  rw[z] at q
  rcases h with h | ⟨o,h⟩<;>rw[h] at q<;>cases q
  ·exact n _ rfl
  ·exact n' _ _ rfl
 exact⟨fun b xs z=>by rw[hs b (ne b _ z (fun _ z=>nomatch z) fun _ _ z=>nomatch z)];exact z,fun b o xs z=>by rw[hs b (ne b _ z (fun _ z=>nomatch z) fun o k z=>by cases z)];exact z,fun b o xs z=>by rw[hs b (ne b _ z (fun _ z=>nomatch z) fun o k z=>by cases z)];exact z⟩
section
variable {O W:List Nat} {T:Tgt} {fb:XS} {i:Nat}
theorem PD{O':List Nat}{H0 H:Hp}{fps:Nat->List Addr}{s:ZP}{σ:TH}{D:V9}{out:Out}{ks:List (List YO)}{vs:List PV}(r:Rel K O H0 fps s σ H)(hO':∀j∈O',j∈O/\j≠i)(e:s[i]?=some (some (.dT ks vs)))
  (ef:Xs T fb (ks.map FJ) s=some out) (hT:∀j∈T.slots,j∉O')
  (k:∀(F:Hp)(th:Hp->Hp),(∀b,H b≠none->¬Ow O' fps b->F b≠none)->Same H0 (th F)->(∀H',Same F H'->Same (th F) (th H')/\TK2 H' (th H')/\(∀p,RdK H' (th H') p)/\(∀p,F p=none->th H' p=H' p)/\(∀p,p∈fps i->¬Ow O' fps p->H p=th H' p))->(∀p,F p=none->H0 p=none)->
   ∀out',out=out'->match out' with
    | .nx s'=>∀fps' σ' H',Rel K O' F fps' s' σ' H'->(∀j,j∉T.slots++W->σ'[j]?=σ[j]?/\Kep (fps' j) (fps j))->D.nx σ' (th H')
    | .rt l=>∀v fp H',Same F H'->Is K H' l v fp->fp.Nodup->(∀p∈fp,F p=none/\Vl (H' p))->D.rt v (th H')
    | _=>True):E1 i (gT K T) (GL K O' W fb) D σ H:=by
 obtain⟨v,hv,iv⟩:=r.is i _ e
 obtain⟨d,kvs,fq,rfl,hd,rfl,hi,efp⟩:=iv.dT_inv
 have dO:¬Ow O' fps d:=fun⟨j,hj,hp⟩=>r.dis j (hO' j hj).1 i (Ne.symm (hO' j hj).2) d hp (by rw[efp];exact List.mem_cons_self)
 have owm:∀p,Ow O' fps p->H0 p=none/\Vl (H p):=fun p ⟨j,hj,hp⟩=>r.own j (hO' j hj).1 p hp
 -- the frame and the relation at the loop's start,in a heap that differs from H at d alone
 have start:∀H2:Hp,Rd H2 d (.dT kvs)->(∀b,b≠d->H2 b=H b)->Rel K O' (We H2 (Ow O' fps)) fps s σ H2:=fun H2 h2 hs=>by
  refine⟨Pt,r.len,fun j l q=>?_,r.emp,fun j hj=>r.nd j (hO' j hj).1,fun j hj p hp=>⟨by unfold We;rw[if_pos ⟨j,hj,hp⟩],?_⟩,fun j hj=>r.dis j (hO' j hj).1⟩
  ·obtain⟨w,a,b⟩:=r.is j l q
   exact⟨w,a,Is.tr (TK2.swap hd hs) _ _ _ (fun p _=>RdK.swap hd h2 hs p) b⟩
  ·have pd:p≠d:=fun z=>dO ⟨j,hj,z▸hp⟩
   rw[hs p pd];exact(r.own j (hO' j hj).1 p hp).2
 have outk:∀(F:Hp)(th:Hp->Hp)(D':V9),(∀σ' H',Same F H'->D.nx σ' (th H')->D'.nx σ' H')->(∀v H',Same F H'->D.rt v (th H')->D'.rt v H')->(∀b,H b≠none->¬Ow O' fps b->F b≠none)->Same H0 (th F)->(∀H',Same F H'->Same (th F) (th H')/\TK2 H' (th H')/\(∀p,RdK H' (th H') p)/\(∀p,F p=none->th H' p=H' p)/\(∀p,p∈fps i->¬Ow O' fps p->H p=th H' p))->(∀p,F p=none->H0 p=none)->(∀s',out≠.bk s')->(∀s',out≠.ct s')->OutOk K O' (T.slots++W) F fps σ D' out:=fun F th D' h1 h2 h3 h4 h5 h6 hb hc=>by
  have kk:=k F th h3 h4 h5 h6 out rfl
  cases out with
  | nx s'=>exact fun fps' σ' H' r' q'=>h1 σ' H' r'.same (kk fps' σ' H' r' q')
  | rt l=>exact fun v fp H' sm i d n=>h2 v H' sm (kk v fp H' sm i d n)
  | bk s'=>exact absurd rfl (hb s')
  | ct s'=>exact absurd rfl (hc s')
 have nobc:(∀s',out≠.bk s')/\(∀s',out≠.ct s'):=by
  have:∀(ls:List PV)(s:ZP)(o:Out),Xs T fb ls s=some o->(∀s',o≠.bk s')/\(∀s',o≠.ct s'):=by
   intro ls
   induction ls with
   | nil=>intro s o h;cases h;exact⟨fun _ z=>(nomatch z),fun _ z=>(nomatch z)⟩
   | cons l rr ih=>
    intro s o h;unfold Xs at h
    obtain⟨s1,_,h⟩:=Zf h
    obtain⟨o1,_,h⟩:=Zf h
    cases o1 with
    | nx s2=>exact ih s2 o h
    | ct s2=>exact ih s2 o h
    | bk s2=>cases h;exact⟨fun _ z=>(nomatch z),fun _ z=>(nomatch z)⟩
    | rt v=>cases h;exact⟨fun _ z=>(nomatch z),fun _ z=>(nomatch z)⟩
  exact this _ _ _ ef
 rcases hd with hd | ⟨o,hd⟩
 ·refine⟨d,kvs,hv,.inl ⟨hd,fun o=>?_⟩⟩
  have h2:upd H d (.frz o (.dT kvs)) d=some (.frz o (.dT kvs)):=upd_same
  have hs:∀b,b≠d->upd H d (.frz o (.dT kvs)) b=H b:=fun b hb=>upd_ne hb
  have Fd:We (upd H d (.frz o (.dT kvs))) (Ow O' fps) d=some (.frz o (.dT kvs)):=by unfold We;rw[if_neg dO];exact h2
  refine TV (K:=K) (start _ (.inr ⟨o,h2⟩) hs) (NG h2 dO) ef hT (outk _ (fun Hx=>upd Hx d (.dT kvs)) (thaw d kvs D) (fun σ' H' sm q=>⟨⟨o,sm d _ Fd⟩,q⟩) (fun v H' sm q=>⟨⟨o,sm d _ Fd⟩,q⟩) (fun b hb nb=>?_) (fun b u h=>?_) (fun H' sm=>⟨?_,?_,fun p=>?_,fun p hp=>?_,fun p hp np=>?_⟩) (fun p hp=>?_) nobc.1 nobc.2)
  ·unfold We;rw[if_neg nb]
   by_cases e:b=d
   ·subst e;rw[h2];simp
   ·rw[hs b e];exact hb
  ·by_cases e:b=d
   ·subst e
    have:=r.same b u h
    rw[hd] at this;cases this;exact upd_same
   ·rw[upd_ne e]
    unfold We
    rw[if_neg (fun z=>by rw[(owm b z).1] at h;cases h),hs b e]
    exact r.same b u h
  ·intro b u h
   by_cases e:b=d
   ·subst e;rw[upd_same] at h ⊢;exact h
   ·rw[upd_ne e] at h ⊢;exact sm b u h
  ·exact TK2.swap (d:=d) (kvs:=kvs) (.inr ⟨o,sm d _ Fd⟩) fun b hb=>upd_ne hb
  ·exact RdK.swap (d:=d) (kvs:=kvs) (.inr ⟨o,sm d _ Fd⟩) (.inl upd_same) (fun b hb=>upd_ne hb) p
  ·exact upd_ne fun e=>by rw[e,Fd] at hp;cases hp
  ·by_cases e:p=d
   ·subst e;rw[hd];exact upd_same.symm
   ·show H p=upd H' d (.dT kvs) p
    rw[upd_ne e];have hpn:=r.dom i p hp
    cases q:H p with
    | none=>exact absurd q hpn
    | some u=>exact(sm p u (by unfold We;rw[if_neg np,hs p e];exact q)).symm
  ·cases q:H0 p with
   | none=>rfl
   | some u=>
    exfalso
    have hpd:p≠d:=fun e=>by rw[e,Fd] at hp;cases hp
    unfold We at hp
    rw[if_neg (fun z=>by rw[(owm p z).1] at q;cases q),hs p hpd,r.same p u q] at hp
    cases hp
 ·refine⟨d,kvs,hv,.inr ⟨o,hd,?_⟩⟩
  have Fd:We H (Ow O' fps) d=some (.frz o (.dT kvs)):=by unfold We;rw[if_neg dO];exact hd
  refine TV (K:=K) (start H (.inr ⟨o,hd⟩) fun _ _=>rfl) (NG hd dO) ef hT (outk _ (fun Hx=>Hx) D (fun σ' H' sm q=>q) (fun v H' sm q=>q) (fun b hb nb=>by unfold We;rw[if_neg nb];exact hb) (fun b u h=>?_) (fun H' sm=>⟨sm,Same.tk2 (Same.refl _),fun p=>RdK.of fun _ z=>z,fun p _=>rfl,fun p hp np=>?_⟩) (fun p hp=>?_) nobc.1 nobc.2)
  ·unfold We
   rw[if_neg (fun z=>by rw[(owm b z).1] at h;cases h)]
   exact r.same b u h
  ·have hpn:=r.dom i p hp
   cases q:H p with
   | none=>exact absurd q hpn
   | some u=>exact(sm p u (by unfold We;rw[if_neg np];exact q)).symm
  ·cases q:H0 p with
   | none=>rfl
   | some u=>
    exfalso;unfold We at hp
    rw[if_neg (fun z=>by rw[(owm p z).1] at q;cases q),r.same p u q] at hp
    cases hp
end
section
variable {X:Cx} {O O' W:List Nat} {T:Tgt} {fb:XS} {i:Nat} {st:Stmt}
theorem Kk(h:PS X st (GW (LW (Ua i)) (gT X.K T) (GL X.K O W fb)))(hi:i∉O:=by decide)(hT:∀j∈T.slots,j∉O:=by decide):VS X O (T.slots++W) st (Qe i T fb):=PS.imp (Kj h) fun D σ H ⟨H0,fps,s,out,r,e,k⟩=>by
 obtain⟨ls,e1,e⟩:=Zf e
 obtain⟨d,e2,e3⟩:=Zf e1
 have e2:=join_some e2
 cases d with
 | dT ks vs=>
  cases e3
  refine PD (O':=O) r (fun j hj=>⟨hj,fun z=>hi (z▸hj)⟩) e2 e hT fun F th _ h4 h5 h6 out' eo=>?_
  subst eo
  cases out with
  | nx s'=>
   intro fps' σ' H' r' q'
   obtain⟨t1,t2,t3,t4,_⟩:=h5 H' r'.same
   refine k fps' σ' (th H') ⟨h4.trans t1,r'.len,fun j l q=>?_,r'.emp,r'.nd,fun j hj p hp=>⟨h6 p (r'.own j hj p hp).1,by rw[t4 p (r'.own j hj p hp).1];exact(r'.own j hj p hp).2⟩,r'.dis⟩ q'
   obtain⟨v,a,b⟩:=r'.is j l q
   exact⟨v,a,Is.tr t2 _ _ _ (fun p _=>t3 p) b⟩
  | rt l=>
   intro v fp H' sm is nd fr
   obtain⟨t1,t2,t3,t4,_⟩:=h5 H' sm
   exact k v fp (th H') (h4.trans t1) (Is.tr t2 _ _ _ (fun p _=>t3 p) is) nd fun p hp=>⟨h6 p (fr p hp).1,by rw[t4 p (fr p hp).1];exact(fr p hp).2⟩
  | bk s'=>trivial
  | ct s'=>trivial
 | _=>cases e3
def XI(O:List Nat):Nat->ZP->ZP
 | _,[]=>[]
 | k,o::r=>(if k∈O then o else match o with | some l=>if ZT l=true then some l else none | none=>none)::XI O (k+1) r
theorem Te{O:List Nat}:∀{s:ZP}{k j:Nat}{l:PV},(XI O k s)[j]?=some (some l)->s[j]?=some (some l)/\(k+j∈O\/ZT l=true)
 | [],k,j,l,h=>by simp[XI] at h
 | o::r,k,0,l,h=>by
  unfold XI at h;simp only[List.getElem?_cons_zero,Option.some.injEq] at h
  by_cases hk:k∈O
  ·rw[if_pos hk] at h;exact⟨by simp[h],.inl hk⟩
  ·rw[if_neg hk] at h
   cases o with
   | none=>cases h
   | some a=>
    simp only at h
    split at h
    ·cases h;exact⟨rfl,.inr (by assumption)⟩
    ·cases h
 | o::r,k,j+1,l,h=>by
  unfold XI at h;rw[List.getElem?_cons_succ] at h
  obtain⟨a,b⟩:=Te h
  exact⟨by simpa using a,by rw[show k+(j+1)=k+1+j by omega];exact b⟩
theorem Qf{O:List Nat}:∀{s:ZP}{k:Nat},(XI O k s).length=s.length
 | [],_=>rfl
 | o::r,k=>by unfold XI;rw[List.length_cons,List.length_cons,Qf]
def M0(O:List Nat):Out->Out
 | .nx s=>.nx (XI O 0 s)
 | o=>o
def Tf(O:List Nat)(i:Nat)(T:Tgt)(fb:XS):XS:=fun s=>((s[i]?).join.bind Pz).bind fun ls=>(Xs T fb ls s).map (M0 O)
open Classical in
theorem Hk(h:PS X st (GW (LW (Ua i)) (gT X.K T) (GL X.K O' W fb)))(hi:i∈O:=by decide)(hO:∀j,j∈O'↔(j∈O/\j≠i))(hT:∀j∈T.slots,j∉O:=by decide)(hW:i∉T.slots++W:=by decide):VS X O (T.slots++W) st (Tf O i T fb):=PS.imp (Kj h) fun D σ H ⟨H0,fps,s,out,r,e,k⟩=>by
 obtain⟨ls,e1,e⟩:=Zf e
 obtain⟨d,e2,e3⟩:=Zf e1
 obtain⟨out0,e5,rfl⟩:=map_some e
 have e2:=join_some e2
 cases d with
 | dT ks vs=>
  cases e3
  refine PD (O':=O') r (fun j hj=>(hO j).mp hj) e2 e5 (fun j hj z=>hT j hj ((hO j).mp z).1) fun F th h3 h4 h5 h6 out' eo=>?_
  subst eo
  cases out0 with
  | nx s'=>
   intro fps' σ' H' r' q'
   obtain⟨t1,t2,t3,t4,t5⟩:=h5 H' r'.same
   have ki:=q' i hW
   have fi:∀p∈fps i,¬Ow O' fps p:=fun p hp ⟨j,hj,z⟩=>r.dis i hi j ((hO j).mp hj).2 p hp z
   have Fi:∀p∈fps i,F p≠none:=fun p hp=>h3 p (r.dom i p hp) (fi p hp)
   have sub:∀p,p∈fps' i->p∈fps i:=fun p hp=>by
    rcases ki.2 with z | z
    ·rw[<-z];exact hp
    ·rw[z] at hp;simp at hp
   have ow':∀j∈O',∀p∈fps' j,F p=none:=fun j hj p hp=>(r'.own j hj p hp).1
   have inO:∀j∈O,j≠i->j∈O':=fun j hj n=>(hO j).mpr ⟨hj,n⟩
   have get:∀j p,p∈(if(XI O 0 s')[j]?=s'[j]? then fps' j else [])->p∈fps' j/\(XI O 0 s')[j]?=s'[j]?:=fun j p hp=>by
    split at hp
    ·exact⟨hp,by assumption⟩
    ·simp at hp
   refine k (fun j=>if(XI O 0 s')[j]?=s'[j]? then fps' j else []) σ' (th H') ⟨h4.trans t1,by rw[Qf];exact r'.len,fun j l q=>?_,fun j hne=>?_,fun j hj=>?_,fun j hj p hp=>?_,fun j hj m hm p hp z=>?_⟩ fun j hj=>⟨(q' j hj).1,?_⟩
   ·obtain⟨q1,_⟩:=Te q
    obtain⟨v,a,b⟩:=r'.is j l q1
    rw[if_pos (q.trans q1.symm)]
    exact⟨v,a,Is.tr t2 _ _ _ (fun p _=>t3 p) b⟩
   ·show(if(XI O 0 s')[j]?=s'[j]? then fps' j else [])=[]
    split
    ·rename_i h;exact r'.emp j fun l z=>hne l (by rw[h];exact z)
    ·rfl
   ·show(if(XI O 0 s')[j]?=s'[j]? then fps' j else []).Nodup
    split
    ·by_cases e:j=i
     ·subst e
      rcases ki.2 with z | z
      ·rw[z];exact r.nd j hi
      ·rw[z];exact List.nodup_nil
     ·exact r'.nd j (inO j hj e)
    ·exact List.nodup_nil
   ·obtain⟨hp,_⟩:=get j p hp
    by_cases e:j=i
    ·subst e
     have hp:=sub p hp
     exact⟨(r.own j hi p hp).1,by rw[<-t5 p hp (fi p hp)];exact(r.own j hi p hp).2⟩
    ·have o:=r'.own j (inO j hj e) p hp
     exact⟨h6 p o.1,by rw[t4 p o.1];exact o.2⟩
   ·obtain⟨hp,_⟩:=get j p hp
    obtain⟨zp,zc⟩:=get m p z
    by_cases e:j=i
    ·subst e
     have hpi:=sub p hp
     by_cases hmO:m∈O'
     ·exact Fi p hpi (ow' m hmO p zp)
     ·obtain⟨l,v,ql,_,b⟩:=r'.at m zp
      rw[ql] at zc
      obtain⟨_,alt⟩:=Te zc
      rcases alt with alt | alt
      ·rw[Nat.zero_add] at alt
       exact hmO (inO m alt hm)
      ·rw[Is.pure _ _ _ alt b] at zp;simp at zp
    ·exact r'.dis j (inO j hj e) m hm p hp zp
   ·show Kep (if(XI O 0 s')[j]?=s'[j]? then fps' j else []) (fps j)
    split
    ·exact(q' j hj).2
    ·exact .inr rfl
  | rt l=>
   intro v fp H' sm is nd fr
   obtain⟨t1,t2,t3,t4,_⟩:=h5 H' sm
   exact k v fp (th H') (h4.trans t1) (Is.tr t2 _ _ _ (fun p _=>t3 p) is) nd fun p hp=>⟨h6 p (fr p hp).1,by rw[t4 p (fr p hp).1];exact(fr p hp).2⟩
  | bk s'=>trivial
  | ct s'=>trivial
 | _=>cases e3
end
end VL
namespace VL
open PySem PySem.Spec PyProof.Rows L2
variable {K:PySem.W.Frag}
section
variable {X:Cx} {O:List Nat} {tg elt iter:Expr} {ifs:List Expr} {scope:Scope} {pos:Pos} {fi:XL} {T:Tgt} {ft:XT} {fe:XE}
theorem Ov(own fr:List Str)(ix:List Nat){i:Nat}{y:Str}{py spos:Pos}(hN:X.N.Nodup)(hy:X.N[i]?=some y)(hloc:X.env.scope.names.lookup y=some .local)(hcalm:X.calm=true)(hi:VI X tg iter fi)(S:Ta X.N X.env.scope scope own fr ix=true)
  (hg:∀cl C s H ex,PG (ZR X (own++fr) scope cl C s H ex) tg (gT X.K T)) (ht:∀cl C s H ex,BL (ZR X (own++fr) scope cl C s H ex) ifs ft) (he:∀cl C s H ex,VM (ZR X (own++fr) scope cl C s H ex) elt fe)
  (hT:∀i∈T.slots,i<own.length:=by decide)
  (hsw:swapsWith (.ListComp elt [⟨tg,iter,ifs,0⟩] scope pos) (some (.Name y py)) spos.line X.env=pure true:=by rfl)
  (hs:∀x,foldedSetIterable iter X.env x=pure x:=by intro _;rfl):VS X O [i] (.Assign [.Name y py] (.ListComp elt [⟨tg,iter,ifs,0⟩] scope pos) spos) (Zn i (ZG own.length ix fi T ft fe)):=
 PS.imp (IS own fr ix hN hy hloc hcalm hi S hg (fun cl C s H ex=>(show IL (ZR X (own++fr) scope cl C s H ex) ifs (MB X.K ft) from ht cl C s H ex)) (fun cl C s H ex=>(show PE (ZR X (own++fr) scope cl C s H ex) elt (tM X.K fe) from he cl C s H ex)) hsw hs) (Ke (Ka hT))
end
def Ox(i:Nat)(fk:XE):XS:=fun s=>(Za i s).bind fun a=>((fk s).bind Iv).bind fun k=>if k=0 then some (.rt .non) else if k=1 then some (.rt a) else none
theorem Ju{X:Cx}{O:List Nat}{e:Expr}{i:Nat}{fk:XE}{pos:Pos}(he:PE X e (DB (G6 X.K) (Bp (V5 (tC .non) (V5 (Ua i) O9))) (tF X.K fk)))(hi:i∈O:=by decide):VS X O [] (.Return (some e) pos) (Ox i fk):=PS.imp (P6 he) fun D σ H ⟨H0,fps,s,out,r,e,k⟩=>by
 obtain⟨a,e0,e⟩:=Zf e
 obtain⟨n,e1,e⟩:=Zf e
 obtain⟨l,e1,e2⟩:=Zf e1
 rw[TY e2] at e1
 obtain⟨v,hv,iv⟩:=r.is i a (SG e0)
 refine⟨v,hv,(by show 2<=sizeLine;decide),fun p hp=>?_⟩
 have sn:Same H (upd H p (.lst [V.non,v])):=Same.new hp _
 refine⟨fun _=>False,s,_,fun _ z=>z.elim,r.env.mono sn,e1,fun y H2 fy s2 i2 _=>?_⟩
 have hp2:H2 p=some (.lst [V.non,v]):=s2 _ _ upd_same
 by_cases h0:n=0
 ·rw[if_pos h0] at e;cases e
  exact⟨p,[V.non,v],n,V.non,rfl,i2.int_inv.1,SqL.of hp2,by rw[h0];rfl,k .non [] H2 (r.same.trans (sn.trans s2)) Is.non List.nodup_nil fun p hp=>by simp at hp⟩
 ·rw[if_neg h0] at e
  split at e
  ·rename_i h1
   cases e;have s12:=sn.trans s2
   exact⟨p,[V.non,v],n,v,rfl,i2.int_inv.1,SqL.of hp2,by rw[h1];rfl,k v (fps i) H2 (r.same.trans s12) (iv.mono s12) (r.nd i hi) fun q hq=>⟨(r.own i hi q hq).1,Same.mut s12 (r.own i hi q hq).2⟩⟩
  ·cases e
section
variable {P:Program} {w:World} {mg:Str->Option Value} {base:Heap}
theorem Ci{x:Str}{st:Stmt}{N ps:List Str}{k n:Nat}{O W:List Nat}{fa:Addr}{fd:FuncData}(m:Nat)(f:XS)(F:Fun K x x st fa fd)(S:Zy N ps (Zk st))
  (hn:ps.length=n) (hm:N.length=m) (hO:∀i∈O,n<=i)
  (hbody:∀(fa:Addr)(cdv:Value)(A:Around)(outer:List Env)(s:Shared)(H:Hp)(E:XK),Room k (A.deeper (envOfC x (Zk st) s.heap.objs.size fa cdv))->Ny (Tv O0 P w K mg base N x (Zk st) fa cdv A outer s H E).nox O W (ZZ st) f) :
  Ue P w K mg base O0 (k+1) fa fd ps (YU K (Xl m f) n):=by
 subst hm
 refine F.ok S (fun vs H Q E h=>by rw[hn];exact h.1) fun cdv A outer s H vs Q E hr h=>⟨_,hbody fa cdv A outer s H E hr,?_⟩
 exact TZ hO h
theorem Hl{st:Stmt}{x:Str}{D:List PV->Option PV}{k:Nat}{fa:Addr}(Df:Def K mg "law" st)(hfa:mg "law" = some (.ref fa))
  (hb:∀(kV doc pm:Value)(an:Option Addr)(cdv ct u:Value),bindArgs (PySem.W.fnOf "law" "law" (YX st) (ZZ st) (Zk st) .none kV doc pm an cdv ct) ⟨[u],[]⟩=pure [(x,u)])
  (H:∀(base:Heap)(f:Addr)(fd:FuncData),K.In base->base.Ns mainGlobals mg->Fun K "law" "law" st f fd->Ue P w K mg base O0 k f fd [x] (YU K D 1)) :
  ∃fd:FuncData,(∀(s:Shared)(u:Value),BindsTo s fd ⟨[u],[]⟩ [(x,u)])/\∀base:Heap,K.In base->base.Ns mainGlobals mg->Ue P w K mg base O0 k fa fd [x] (YU K D 1):=by
 obtain⟨f,fd,hm,F⟩:=Df.ex
 have e:=hfa.symm.trans hm;cases e
 refine⟨fd,?_,fun base h1 h2=>H base fa fd h1 h2 F⟩
 obtain⟨oc,od,kV,doc,pm,an,cdv,ct,osl,rfl,lk,hcd⟩:=F.ex
 exact fun s u=>.of_eq (hb kV doc pm an cdv ct u)
end
theorem Cj{H:Hp}{a:Addr}{ns:List Int}{D:List PV->Option PV}{E:XK}(hD:D [.cst (iL ns)]=some (.bl true))(hO:DR H)(hS:SqL K H a (ns.map V.int)):YU K D 1 [.ref a] H (fun v _=>v = .bl true) E:=by
 have cs:CsK K H a (ns.map V.int):=by
  rcases hS with h | h
  ·rcases h with h | ⟨o,h⟩
   ·rcases hO a with z | ⟨o,xs,z⟩
    ·rw[h] at z;cases z
    ·rw[h] at z;cases z
   ·exact .inl ⟨o,h⟩
  ·exact .inr h
 exact⟨rfl,[.cst (iL ns)],[],.bl true,Iss.one (Is.cst cs (Iss.ofInts ns)),hD,fun v H' fq _ i _ _=>i.bl_inv.1⟩
end VL
namespace VL
open PySem L2
@[simp] theorem WI(i:Nat)(s:ZP):Za i s=(s[i]?).join:=rfl
@[simp] theorem eC_def(l:PV)(s:ZP):eC l s=some l:=rfl
@[simp] theorem ZA(g:PV->PV->Option PV)(a b:XE)(s:ZP):Zi g a b s=(a s).bind fun x=>(b s).bind fun y=>g x y:=rfl
@[simp] theorem eUn_def(g:PV->Option PV)(a:XE)(s:ZP):Nt g a s=(a s).bind g:=rfl
@[simp] theorem YZ(f:XE)(s:ZP):eP f s=(f s).bind fun l=>if ZT l=true then some l else none:=rfl
@[simp] theorem FK(s:ZP):Td [] s=some []:=rfl
@[simp] theorem ZH(f:XE)(fs:List XE)(s:ZP):Td (f::fs) s=(f s).bind fun x=>(Td fs s).map (x::·):=rfl
@[simp] theorem Yg(D:List PV->Option PV)(fs:List XE)(s:ZP):Ze D fs s=(Td fs s).bind D:=rfl
@[simp] theorem eTup_def(fs:List XE)(s:ZP):Yq fs s=(Td fs s).map .tup:=rfl
@[simp] theorem Hm(fs:List XE)(s:ZP):Yr fs s=(Td fs s).map .lst:=rfl
@[simp] theorem eSl_def(g:PV->Option Int->Option Int->Option PV)(a:XE)(lo hi:XO)(s:ZP):AQ g a lo hi s=(a s).bind fun x=>(lo s).bind fun l=>(hi s).bind fun u=>g x l u:=rfl
@[simp] theorem xoN_def(s:ZP):xoN s=some none:=rfl
@[simp] theorem gI_ii(g:Int->Int->Int)(i j:Int):gI g (.int i) (.int j)=some (.int (g i j)):=rfl
@[simp] theorem gB_ii(g:Int->Int->Bool)(i j:Int):gB g (.int i) (.int j)=some (.bl (g i j)):=rfl
@[simp] theorem Ck(C:Int->Int->Prop)[∀i j,Decidable (C i j)](g:Int->Int->Int)(i j:Int):GK C g (.int i) (.int j)=if C i j then some (.int (g i j)) else none:=rfl
@[simp] theorem gIx_ti(l:List PV)(i:Int):ZK (.tup l) (.int i)=Ub l i:=rfl
@[simp] theorem gIx_li(l:List PV)(i:Int):ZK (.lst l) (.int i)=Ub l i:=rfl
@[simp] theorem gIx_ci(l:List PV)(i:Int):ZK (.cst l) (.int i)=Ub l i:=rfl
@[simp] theorem Ys(f:XE)(s:ZP):xB f s=(f s).bind NF:=by
 unfold xB
 cases f s with
 | none=>rfl
 | some a=>cases a<;>rfl
@[simp] theorem Cm(b:Bool):NF (.bl b)=some b:=rfl
@[simp] theorem T1(a b:XT)(s:ZP):VJ a b s=(a s).bind fun c=>if c=true then b s else some false:=rfl
@[simp] theorem UR(a b:XT)(s:ZP):Nq a b s=(a s).bind fun c=>if c=true then some true else b s:=rfl
@[simp] theorem WK(a:XT)(s:ZP):Uj a s=(a s).map not:=rfl
@[simp] theorem Us(a b:XE)(s:ZP):Rk a b s=(xB a s).bind fun c=>if c=true then b s else some (.bl false):=rfl
@[simp] theorem eOr_def(a b:XE)(s:ZP):eOr a b s=(xB a s).bind fun c=>if c=true then some (.bl true) else b s:=rfl
@[simp] theorem eNot_def(a:XE)(s:ZP):FA a s=(xB a s).map fun c=>.bl !c:=rfl
@[simp] theorem T2(c:XT)(a b:XE)(s:ZP):O1 c a b s=(c s).bind fun k=>if k=true then a s else b s:=rfl
@[simp] theorem eIsN_def(neg:Bool)(a:XE)(s:ZP):Rl neg a s=(a s).bind (D7 neg):=rfl
@[simp] theorem Jw(s:ZP):ZN s=some (.nx s):=rfl
@[simp] theorem Yt(f g:XS)(s:ZP):Zm f g s=(f s).bind fun o=>match o with | .nx s'=>g s' | r=>some r:=rfl
@[simp] theorem Yl(c:XT)(f g:XS)(s:ZP):WR c f g s=(c s).bind fun k=>if k=true then f s else g s:=rfl
@[simp] theorem NH(f:XE)(s:ZP):ZS f s=(f s).map .rt:=rfl
@[simp] theorem Zt(i:Nat)(f:XE)(s:ZP):Zn i f s=(f s).map fun l=>.nx (s.set i (some l)):=rfl
@[simp] theorem retO_rt(v:PV):Xw (.rt v)=some v:=rfl
@[simp] theorem Jx(i:Int):ZT (.int i)=true:=rfl
@[simp] theorem pureV_bl(i:Bool):ZT (.bl i)=true:=rfl
@[simp] theorem pureV_str(i:Str):ZT (.str i)=true:=rfl
@[simp] theorem pureV_non:ZT .non=true:=rfl
@[simp] theorem SM(l:List PV):ZT (.tup l)=ZE l:=by rw[ZT]
@[simp] theorem pureL_nil:ZE []=true:=rfl
@[simp] theorem pureL_cons(a:PV)(l:List PV):ZE (a::l)=(ZT a&&ZE l):=rfl
theorem US{α:Type}{l:List α}{f:α->PV}(h:∀a∈l,ZT (f a)=true):ZE (l.map f)=true:=by
 rw[Wy,List.all_map,List.all_eq_true];exact h
@[simp] theorem pureL_iL(l:List Int):ZE (l.map PV.int)=true:=Xy l
abbrev pP(l:List Int):PV:=.tup (iL l)
abbrev wP(W:List (List Int)):PV:=.tup (W.map pP)
@[simp] theorem NI(W:List (List Int)):ZE (W.map pP)=true:=US fun a _=>by simp
theorem Hn{l:List Int}{k:Nat}(h:k<l.length):(iL l)[k]?=some (.int (YE l k)):=by
 rw[List.getElem?_map,List.getElem?_eq_getElem h];simp[YE,List.getD_eq_getElem?_getD,List.getElem?_eq_getElem h]
theorem VQ{l:List Int}{k:Nat}(h:k<l.length):Ub (iL l) (k:Int)=some (.int (YE l k)):=VD (Hn h)
theorem Oy{W:List (List Int)}{k:Nat}(h:k<W.length):Ub (W.map pP) (k:Int)=some (pP (ZD W k)):=by
 refine VD ?_
 rw[List.getElem?_map,RU h];rfl
@[simp] theorem gSum_t(l:List Int):IW [.tup (l.map PV.int)]=some (.int l.sum):=by
 simp[IW,R3,Wc l]
@[simp] theorem Ho(l:List Bool):TM [.lst (l.map PV.bl)]=some (.bl (l.all id)):=by
 simp[TM,R3,U5 l]
@[simp] theorem gLen_t(l:List PV):ZF [.tup l]=some (.int l.length):=rfl
@[simp] theorem gLen_l(l:List PV):ZF [.lst l]=some (.int l.length):=rfl
@[simp] theorem gLen_c(l:List PV):ZF [.cst l]=some (.int l.length):=rfl
@[simp] theorem gTuple_l(l:List PV):WE [.lst l]=some (.tup l):=rfl
@[simp] theorem gTuple_t(l:List PV):WE [.tup l]=some (.tup l):=rfl
@[simp] theorem NJ(l:List PV):Y3 [.tup l]=if ZE l=true then some (.lst l) else none:=rfl
@[simp] theorem Hq(l:List PV):Y3 [.lst l]=if ZE l=true then some (.lst l) else none:=rfl
@[simp] theorem gMin2_ii(i j:Int):V7 [.int i,.int j]=some (.int (if j<i then j else i)):=rfl
@[simp] theorem gMax2_ii(i j:Int):Pq [.int i,.int j]=some (.int (if j>i then j else i)):=rfl
@[simp] theorem gInt1_b(c:Bool):Xk [.bl c]=some (.int (if c then 1 else 0)):=rfl
@[simp] theorem gInt1_i(c:Int):Xk [.int c]=some (.int c):=rfl
@[simp] theorem gInst_ii(i:Int):V8 [.int i,.ty "int"]=some (.bl true):=rfl
@[simp] theorem gInst_ib(i:Int):V8 [.int i,.ty "bool"]=some (.bl false):=rfl
@[simp] theorem gInst_tt(l:List PV):V8 [.tup l,.ty "tuple"]=some (.bl true):=rfl
@[simp] theorem gInst_ll(l:List PV):V8 [.lst l,.ty "list"]=some (.bl true):=rfl
theorem Oz(n:Nat)(i j:Int):XX (n+1) (.int i) (.int j)=true:=rfl
theorem W7{α β:Type}{f:α->PV}{g:β->PV}{p:PV->PV->Bool}(h:∀a b,p (f a) (g b)=true):∀(l:List α)(m:List β),((l.map f).zip (m.map g)).all (fun z=>p z.1 z.2)=true
 | [],_=>by simp
 | _::_,[]=>by simp
 | a::l,b::m=>by
  rw[List.map_cons,List.map_cons,List.zip_cons_cons,List.all_cons,W7 h l m,h a b];rfl
theorem FL(n:Nat)(l m:List Int):XX (n+2) (pP l) (pP m)=true:=W7 (fun a b=>Oz n a b) l m
theorem FN(n:Nat)(l m:List Int):XX (n+2) (.lst (iL l)) (.lst (iL m))=true:=W7 (fun a b=>Oz n a b) l m
theorem Cn{l m:List Int}:iL l=iL m↔l=m:=by
 constructor
 ·intro h
  exact(List.map_inj_right (fun a b e=>PV.int.inj e)).mp h
 ·intro h;rw[h]
@[simp] theorem gEq_ii(neg:Bool)(i j:Int):YJ neg (.int i) (.int j)=some (.bl (if neg then !decide (i=j) else decide (i=j))):=by
 unfold YJ;rw[if_pos (Oz 7 i j)]
 congr 2
 cases neg<;>simp
@[simp] theorem Co(neg:Bool)(l m:List Int):YJ neg (.lst (l.map PV.int)) (.lst (m.map PV.int))=some (.bl (if neg then !decide (l=m) else decide (l=m))):=by
 unfold YJ;rw[if_pos (FN 6 l m)]
 have:decide ((PV.lst (l.map PV.int)) = .lst (m.map PV.int))=decide (l=m):=decide_eq_decide.mpr (by rw[PV.lst.injEq];exact Cn)
 rw[this]
theorem PF{α:Type}{T:Tgt}{ft:XT}{fe:XE}{s0:ZP}{q g:α->PV}:∀{ls:List α},(∀a∈ls,∃s1,Uo T (q a) s0=some s1/\ft s1=some true/\fe s1=some (g a))->WG T ft fe s0 (ls.map q)=some (ls.map g)
 | [],_=>rfl
 | a::r,h=>by
  obtain⟨s1,h1,h2,h3⟩:=h a List.mem_cons_self
  have ih:=PF (ls:=r) fun b hb=>h b (List.mem_cons_of_mem _ hb)
  rw[List.map_cons,List.map_cons];unfold WG;rw[h1];simp only[Option.bind_some,h2,if_true,h3,ih,Option.map_some]
theorem T3{α:Type}{T:Tgt}{ft:XT}{fe:XE}{s0:ZP}{q g:α->PV}{c:α->Bool}:∀{ls:List α},(∀a∈ls,∃s1,Uo T (q a) s0=some s1/\ft s1=some (c a)/\(c a=true->fe s1=some (g a)))->WG T ft fe s0 (ls.map q)=some ((ls.filter c).map g)
 | [],_=>rfl
 | a::r,h=>by
  obtain⟨s1,h1,h2,h3⟩:=h a List.mem_cons_self
  have ih:=T3 (ls:=r) fun b hb=>h b (List.mem_cons_of_mem _ hb)
  rw[List.map_cons];unfold WG;rw[h1];simp only[Option.bind_some,h2]
  cases hc:c a with
  | true=>simp[h3 hc,ih,hc]
  | false=>simp[ih,hc]
theorem YB{α:Type}{n:Nat}{ix:List Nat}{fi:XL}{T:Tgt}{ft:XT}{fe:XE}{s:ZP}(ls:List α)(q g:α->PV)(hfi:fi s=some (ls.map q))(hl:ls.length<=10000)
  (h:∀a∈ls,∃s1,Uo T (q a) (Yk n ix s)=some s1/\ft s1=some true/\fe s1=some (g a)):ZG n ix fi T ft fe s=some (.lst (ls.map g)):=by
 unfold ZG;rw[hfi];simp only[Option.bind_some,List.length_map,if_pos hl,PF h,Option.map_some]
theorem T4{α:Type}{n:Nat}{ix:List Nat}{fi:XL}{T:Tgt}{ft:XT}{fe:XE}{s:ZP}(ls:List α)(q g:α->PV)(c:α->Bool)(hfi:fi s=some (ls.map q))(hl:ls.length<=10000)
  (h:∀a∈ls,∃s1,Uo T (q a) (Yk n ix s)=some s1/\ft s1=some (c a)/\(c a=true->fe s1=some (g a))):ZG n ix fi T ft fe s=some (.lst ((ls.filter c).map g)):=by
 unfold ZG;rw[hfi];simp only[Option.bind_some,List.length_map,if_pos hl,T3 h,Option.map_some]
theorem ZU{T:Tgt}{fb:XS}:∀{ls:List PV}{s:ZP}(Jv:Nat->ZP->Prop),Jv 0 s->(∀(i:Nat) l st,ls[i]?=some l->Jv i st->∃s1 s2,Uo T l st=some s1/\fb s1=some (.nx s2)/\Jv (i+1) s2)->
  ∃s',Xs T fb ls s=some (.nx s')/\Jv ls.length s'
 | [],s,Jv,h0,_=>⟨s,rfl,h0⟩
 | l::r,s,Jv,h0,h=>by
  obtain⟨s1,s2,a,b,c⟩:=h 0 l s rfl h0
  obtain⟨s',d,e⟩:=ZU (ls:=r) (s:=s2) (fun i=>Jv (i+1)) c fun i l' st hl hi=>h (i+1) l' st (by simpa using hl) hi
  refine⟨s',?_,e⟩
  unfold Xs;rw[a];simp only[Option.bind_some,b];exact d
theorem Vp{n i:Nat}{l:PV}(h:(Wl n)[i]?=some l):i<n/\l = .int (i:Int):=by
 have hi:=(List.getElem?_eq_some_iff.mp h).1
 unfold Wl at hi h;rw[List.length_map,List.length_range] at hi;rw[List.getElem?_map,List.getElem?_range hi] at h
 exact⟨hi,(Option.some.inj h).symm⟩
theorem WL{lo:Int}{n i:Nat}{l:PV}(h:(Xn lo n)[i]?=some l):i<n/\l = .int (lo+(i:Int)):=by
 have hi:=(List.getElem?_eq_some_iff.mp h).1
 unfold Xn at hi h;rw[List.length_map,List.length_range] at hi;rw[List.getElem?_map,List.getElem?_range hi] at h
 exact⟨hi,(Option.some.inj h).symm⟩
@[simp] theorem Ut(n:Nat):(Wl n).length=n:=by unfold Wl;simp
@[simp] theorem Vq(lo:Int)(n:Nat):(Xn lo n).length=n:=by unfold Xn;simp
@[simp] theorem bindT_one(i:Nat)(l:PV)(s:ZP):Uo (.one i) l s=some (s.set i (some l)):=rfl
theorem Ra(m:List PV):Vo m=(List.range m.length).map fun(i:Nat)=>.tup [.int (i:Int),m.getD i .non]:=by
 apply List.ext_getElem?
 intro i;rw[List.getElem?_map]
 by_cases h:i<m.length
 ·have:(Vo m)[i]?=some (.tup [.int (i:Int),m[i]]):=by
   unfold Vo;rw[List.getElem?_map,List.getElem?_zipIdx,List.getElem?_eq_getElem h]
   simp
  rw[this,List.getElem?_range h];simp[List.getD_eq_getElem?_getD,List.getElem?_eq_getElem h]
 ·rw[List.getElem?_eq_none (by rw[UM];omega),List.getElem?_eq_none (by simpa using h)];rfl
theorem M1(m n:List PV)(h:n.length=m.length):QZ m n=(List.range m.length).map fun(i:Nat)=>.tup [m.getD i .non,n.getD i .non]:=by
 apply List.ext_getElem?
 intro i;rw[List.getElem?_map]
 by_cases hi:i<m.length
 ·have:(QZ m n)[i]?=some (.tup [m[i],n[i]]):=by
   unfold QZ
   rw[List.getElem?_map,List.getElem?_zip_eq_some (z:=(m[i],n[i])) |>.mpr ⟨List.getElem?_eq_getElem hi,List.getElem?_eq_getElem (by omega)⟩]
   rfl
  rw[this,List.getElem?_range hi];simp[List.getD_eq_getElem?_getD,List.getElem?_eq_getElem hi,List.getElem?_eq_getElem (show i<n.length by omega)]
 ·rw[List.getElem?_eq_none (by rw[Nw];omega),List.getElem?_eq_none (by simpa using hi)];rfl
theorem Kl(l:List Int)(i:Nat)(h:i<l.length):(iL l).getD i .non = .int (YE l i):=by
 rw[List.getD_eq_getElem?_getD,Hn h];rfl
theorem Hr(W:List (List Int))(i:Nat)(h:i<W.length):(W.map pP).getD i .non=pP (ZD W i):=by
 rw[List.getD_eq_getElem?_getD,List.getElem?_map,RU h];rfl
@[simp] theorem FP(f:XE)(s:ZP):Z5 [f] s=(f s).bind fun a=>(Iv a).bind fun j=>if -1000000<=j/\j<=1000000 then some (Wl j.toNat) else none:=by
 unfold Z5
 cases h:f s with
 | none=>simp[h]
 | some a=>cases a<;>simp[h,Iv]
@[simp] theorem FQ(f g:XE)(s:ZP):ZY [f,g] s=(f s).bind fun a=>(g s).bind fun b=>(Iv a).bind fun i=>(Iv b).bind fun j=>if -1000000<=i/\i<=1000000/\-1000000<=j/\j<=1000000 then some (Xn i (j-i).toNat) else none:=by
 unfold ZY
 cases h:f s with
 | none=>simp[h]
 | some a=>cases h2:g s with
  | none=>simp[h,h2]
  | some b=>cases a<;>cases b<;>simp[h,h2,Iv]
@[simp] theorem Rz(i:Int):Iv (.int i)=some i:=rfl
@[simp] theorem Km(i:List PV):BN (.lst i)=some i:=rfl
@[simp] theorem Jy(b:Bool)(f:XE)(s:ZP):U6 b [f] s=(f s).bind fun l=>(seqB b l).map Vo:=by
 unfold U6
 cases h:f s<;>simp[h]
@[simp] theorem Cp(l:List PV):seqB false (.tup l)=some l:=rfl
@[simp] theorem seqB_t(l:List PV):seqB true (.lst l)=some l:=rfl
@[simp] theorem seqB_c(l:List PV):seqB true (.cst l)=some l:=rfl
@[simp] theorem xLst_def(f:XE)(s:ZP):Wd f s=(f s).bind Ce:=rfl
@[simp] theorem asS_l(l:List PV):Ce (.lst l)=some l:=rfl
@[simp] theorem asS_c(l:List PV):Ce (.cst l)=some l:=rfl
theorem Hs{f:XE}{s:ZP}{l:List PV}(h:f s=some (.tup l)):TQ f s=some l:=by unfold TQ;rw[h]
@[simp] theorem Yc(O:List Nat)(fi:XL)(T:Tgt)(fb:XS)(s:ZP):Yp O fi T fb s=(fi (ZJ O s)).bind fun ls=>Xs T fb ls s:=rfl
@[simp] theorem xTrue_def(s:ZP):ZW s=some true:=rfl
theorem Y2{f:XE}{s:ZP}{n:Nat}(h:f s=some (.int (n:Int)))(hn:n<=10000):Z5 [f] s=some (Wl n):=by
 rw[FP,h];simp only[Option.bind_some,Rz];rw[if_pos ⟨by omega,by omega⟩,Int.toNat_natCast]
theorem Xf{f g:XE}{s:ZP}{i j:Int}(h:f s=some (.int i))(h':g s=some (.int j))(hi : -10000<=i/\i<=10000)(hj : -10000<=j/\j<=10000):ZY [f,g] s=some (Xn i (j-i).toNat):=by
 rw[FQ,h,h'];simp only[Option.bind_some,Rz];rw[if_pos ⟨by omega,by omega,by omega,by omega⟩]
theorem Cq{i j:Int}(h0 : -10000<=i)(h:i<=10000):CMul i j:=by
 refine .inl ?_
 have e:(2^64:Int)=18446744073709551616:=by decide
 rw[e];omega
theorem T5{c:Bool}(h:c=true):gd c=some ():=by unfold gd;rw[if_pos h]
theorem Qg{i:Nat}{f:XE}{s:ZP}{m n:List PV}(h:f s=some (.lst n))(hm:GN s i=some m)(hl:m.length+n.length<=10000):Ws i f s=some (.nx (s.set i (some (.lst (m++n))))):=by
 unfold Ws;rw[h];simp only[Option.bind_some,Km,hm,T5 (decide_eq_true hl)]
theorem Qh{i:Nat}{f:XE}{s:ZP}{m:List PV}{l:PV}(h:f s=some l)(hm:GN s i=some m)(hl:m.length<=10000):X5 i f s=some (.nx (s.set i (some (.lst (m++[l]))))):=by
 unfold X5;rw[h];simp only[Option.bind_some,hm,T5 (decide_eq_true hl)]
theorem M3{i:Nat}{fk f:XE}{s:ZP}{m:List PV}{l:PV}{k:Int}(hk:fk s=some (.int k))(h:f s=some l)(hm:GN s i=some m)(hp:ZE m=true)(hq:ZT l=true)(h0:0<=k)(h1:k<=1000000)(hl:m.length<=10000) :
  UQ i fk f s=some (.nx (s.set i (some (.lst (m.take k.toNat++l::m.drop k.toNat))))):=by
 unfold UQ;rw[hk,h]
 have c:(ZE m&&ZT l&&decide (0<=k/\k<=1000000/\m.length<=10000))=true:=by rw[hp,hq,decide_eq_true ⟨h0,h1,hl⟩];rfl
 simp only[Option.bind_some,Rz,hm,T5 c]
theorem Qi{i:Nat}{fa fb f:XE}{s:ZP}{m n:List PV}{l:PV}{a b:Int}{j c:Nat}(h:f s=some l)(ha:fa s=some (.int a))(hb:fb s=some (.int b))(hm:GN s i=some m)(hj:MA m.length a=some j)(hn:m[j]?=some (.lst n))(hp:ZE n=true)(hq:ZT l=true)(hc:MA n.length b=some c) :
  W6 i fa fb f s=some (.nx (s.set i (some (.lst (m.set j (.lst (n.set c l))))))):=by
 unfold W6;rw[h,ha,hb]
 have cc:(ZE n&&ZT l)=true:=by rw[hp,hq];rfl
 simp only[Option.bind_some,Rz,Km,hm,hj,hn,T5 cc,hc,Option.map_some]
theorem RA{n k:Nat}(h:k<n):MA n (k:Int)=some k:=by
 unfold MA
 rw[if_pos (by omega),if_pos (by omega)];rfl
theorem Uu{i j:Int}(h0:0<j)(h:j<=10000):Su i j:=⟨h0,by omega⟩
end VL
namespace VL
open PySem PySem.Spec PyProof.Rows L2
variable {K:PySem.W.Frag}
def E2(K:PySem.W.Frag):R2:=fun x y H Q=>∃a b xs ys,x = .ref a/\y = .ref b/\SqT K H a xs/\SqT K H b ys/\xs.length+ys.length<=sizeLine/\
 (xs=[]->Q (.ref b) H)/\(ys=[]->Q (.ref a) H)/\∀p,H p=none->Q (.ref p) (upd H p (.tup (xs++ys)))
theorem FR{X:Cx}:U2 X (binaryOp .Add) (E2 X.K):=by
 intro pins s σ H x y v u Q I rx ry h
 obtain⟨a,b,xs,ys,rfl,rfl,ha,hb,hz,q0,q1,q2⟩:=h
 by_cases hx:xs=[]
 ·cases rx
  cases ry
  obtain⟨its,r1,p1,_⟩:=I.tuple ha
  obtain⟨its2,r2,p2,_⟩:=I.tuple hb
  obtain⟨⟨cls,dd,data,sl⟩,ho,hc,n,hd⟩:=id p1
  obtain⟨⟨cls2,dd2,data2,sl2⟩,ho2,hc2,n2,hd2⟩:=id p2
  simp only at hc hd hc2 hd2
  subst hc hd hc2 hd2
  exact concat_meets ⟨_,ho,rfl⟩ ⟨_,ho2,rfl⟩ noFill_tuple_add seq_tuple_add PySem.F.slot_tuple_add PySem.F.entry_tuple_add (PySem.F.args_tuple_add_2 _ _)
   (tuple_addW0 a b its.toArray its2.toArray n n2 dd dd2 sl sl2 (by simp[r1.nil_iff.mpr hx])) ⟨ho,ho2,.ref b,H,I,rfl,q0 hx⟩
 ·exact G5 _ _ _ _ _ _ _ _ _ I rx ry ⟨a,b,xs,ys,rfl,rfl,ha,hb,hx,hz,q1,fun _=>q2⟩
def Qj:PV->PV->Option PV
 | .tup m,.tup n=>if m.length+n.length<=10000 then some (.tup (m++n)) else none
 | _,_=>none
theorem FT:RB K (E2 K) Qj:=fun H x y a b l fa fb ha hb e Q k=>by
 cases a with
 | tup m=>cases b with
  | tup n=>
   have e:(if m.length+n.length<=10000 then some (PV.tup (m++n)) else none)=some l:=e
   split at e
   case isFalse=>cases e
   rename_i hl
   cases e
   obtain⟨p,xs,rfl,hp,hi⟩:=ha.tup_inv
   obtain⟨p',ys,rfl,hp',hi'⟩:=hb.tup_inv
   refine⟨p,p',xs,ys,rfl,rfl,SqT.of hp,SqT.of hp',by rw[hi.len,hi'.len];exact Nat.le_of_lt (lt_size hl),fun z=>?_,fun z=>?_,fun q hq=>?_⟩
   ·have:m=[]:=List.length_eq_zero_iff.mp (by rw[<-hi.len,z];rfl)
    subst this
    exact k _ _ fb (Same.refl _) hb fun r hr=>.inr (.inl hr)
   ·have:n=[]:=List.length_eq_zero_iff.mp (by rw[<-hi'.len,z];rfl)
    subst this;rw[List.append_nil] at k
    exact k _ _ fa (Same.refl _) ha fun r hr=>.inl hr
   ·exact k _ _ (fa++fb) (Same.new hq _) (Is.tup upd_same ((hi.append hi').mono (Same.new hq _))) fun r hr=>(List.mem_append.mp hr).elim .inl fun z=>.inr (.inl z)
  | _=>cases e
 | _=>cases e
end VL
namespace PW
open PySem L2 VL
noncomputable def SN:XS:=(ZS (eP (Ze IW [(Zi ZK (Za 0) (Za 1))])))
noncomputable def Wz:List PV->Option PV:=Xl 2 SN
noncomputable def UT:XS:=(Zm (Zn 1 (Yr []))
  (Zm (Yp [1] (U6 false [(Za 0)]) (.many [2,3]) (Yp [1] (ZY [(Zi Yo (Za 2) (eC (.int 1))),(Ze ZF [(Za 0)])]) (.one 4) (Ws 1 (ZG 1 [2,4] (Z5 [(Zi ZK (Za 3) (Za 4))]) (.one 0) ZW (eP (Yq [(Za 1),(Za 2),(Za 0)]))))))
  (ZS (Za 1))))
noncomputable def XY:List PV->Option PV:=Xl 5 UT
noncomputable def Qk:XS:=(ZS (eP (Zi ZK (Zi Ur (AQ Cg (Za 0) (BM (Za 1)) (BM (Zi Yo (Za 1) (eC (.int 1))))) (Yr [(eC (.int 0))])) (eC (.int 0)))))
noncomputable def Zx:List PV->Option PV:=Xl 2 Qk
noncomputable def SO:XS:=(ZS (eP (Rk (Ze V8 [(Za 0),(eC (.ty "int"))]) (FA (Ze V8 [(Za 0),(eC (.ty "bool"))])))))
noncomputable def Z7:List PV->Option PV:=Xl 1 SO
noncomputable def W8:XS:=(Zm (Zn 3 (Yr []))
  (Zm (Yp [3,5] (Z5 [(Za 2)]) (.one 4) (Zm (UQ 3 (Zi Xa (Za 1) (Zi Yo (Za 4) (eC (.int 1)))) (Za 4))
  (Zn 1 (eP (Zi Wj (Za 1) (Zi Yo (Za 4) (eC (.int 1))))))))
  (Zm (Zn 5 (eC (.dT [] [])))
  (Zm (Qe 0 (.many [6,7]) (Zm (Zn 8 (eP (Yq [(Ze V7 [(Zi ZK (Za 3) (Za 6)),(Zi ZK (Za 3) (Za 7))]),(Ze Pq [(Zi ZK (Za 3) (Za 6)),(Zi ZK (Za 3) (Za 7))])])))
  (sDPut 5 (Za 8) (Zi WH (Za 0) (Yq [(Za 6),(Za 7)])))))
  (ZS (Za 5))))))
noncomputable def W9:List PV->Option PV:=Xl 9 W8
noncomputable def XJ:XS:=(Zm (Zn 4 (eC (.dT [] [])))
  (Zm (Zn 5 (Yr [(eP (eC (.int 0)))]))
  (Zm (Yp [4,5] (Z5 [(Za 1)]) (.one 6) (Yp [4,5] (ZY [(Zi Yo (Za 6) (eC (.int 1))),(Za 1)]) (.one 7) (Zm (Zn 8 (eP (Ze V7 [(Zi Fx (Zi Xa (Za 0) (eC (.int 2))) (Zi Yo (eC (.int 1)) (Zi Xa (Zi Wj (Za 0) (eC (.int 2))) (Za 3)))),(Za 2)])))
  (Zm (Zn 0 (eP (Zi ZK (Yr [(Zi Wj (Za 0) (eC (.int 2))),(Zi Wj (Zi Wj (Za 0) (eC (.int 2))) (Za 3))]) (Zi Xa (Za 0) (eC (.int 2))))))
  (WR (xB (Zi Tt (Za 8) (eC (.int 0)))) (Zm (sDPut 4 (Yq [(Za 6),(Za 7)]) (Za 8))
  (Zn 2 (eP (Zi YQ (Za 2) (Za 8))))) ZN)))))
  (Zm (Yp [4,5] (Z5 [(Za 1)]) (.one 9) (Tf [4,5] 4 (.many [6,7]) (Zm (WR (VJ (xB (Zi (Nu false) (Za 6) (Za 5))) (xB (Zi (Nu true) (Za 7) (Za 5)))) (X5 5 (eP (Za 7))) ZN)
  (WR (VJ (xB (Zi (Nu false) (Za 7) (Za 5))) (xB (Zi (Nu true) (Za 6) (Za 5)))) (X5 5 (eP (Za 6))) ZN))))
  (Ox 4 (Ze Xk [(Zi (YJ false) (Ze ZF [(Za 5)]) (Za 1))]))))))
noncomputable def YR:List PV->Option PV:=Xl 10 XJ
noncomputable def VR:XS:=(Zm (Zn 2 (ZG 1 [1] (Z5 [(Za 1)]) (.one 0) ZW (Zi Q0 (Yr [(eC (.int 0))]) (Za 1))))
  (Zm (Qe 0 (.many [3,4]) (Zm (W6 2 (Za 3) (Za 4) (Zi WH (Za 0) (Yq [(Za 3),(Za 4)])))
  (W6 2 (Za 4) (Za 3) (Zi WH (Za 0) (Yq [(Za 3),(Za 4)])))))
  (ZS (eP (Ze WE [(ZG 1 [] (Wd (Za 2)) (.one 0) ZW (Ze WE [(Za 0)]))])))))
noncomputable def XZ:List PV->Option PV:=Xl 5 VR
noncomputable def SQ:XS:=(ZS (eP (Rk (Ze V8 [(Za 0),(eC (.ty "tuple"))]) (Rk (Zi (YJ false) (Ze ZF [(Za 0)]) (Za 1)) (Ze TM [(ZG 1 [] (TQ (Za 0)) (.one 0) ZW (Ze Z7 [(Za 0)]))])))))
noncomputable def XA:List PV->Option PV:=Xl 2 SQ
end PW
namespace VL
open PySem PySem.Spec PyProof.Rows L2
def T6(l:List Int):List Int:=l.mergeSort fun a b=>decide (a<=b)
theorem Ql(l:List Int):(T6 l).Perm l:=List.mergeSort_perm l _
theorem OA(l:List Int):(T6 l).Pairwise (·<=·):=by
 have:=List.pairwise_mergeSort (le:=fun a b:Int=>decide (a<=b)) (fun a b c h1 h2=>by simp only[decide_eq_true_eq] at *;omega) (fun a b=>by simp only[Bool.or_eq_true,decide_eq_true_eq];omega) l
 exact this.imp fun h=>of_decide_eq_true h
theorem NK{l m:List Int}(hp:m.Perm l)(hs:m.Pairwise (·<=·)):m=T6 l:=
 List.Perm.eq_of_pairwise (le:=(·<=·)) (fun a b _ _ h1 h2=>Int.le_antisymm h1 h2) hs (OA l) (hp.trans (Ql l).symm)
theorem T7:∀{us:List Value}{ns:List Int},IntsAre us ns->Vals (ns.map V.int) us
 | _,_,.nil=>.nil
 | _,_,.cons n t h=>.cons ⟨t,rfl⟩ (T7 h)
def Tg:XS:=fun _=>none
theorem T8{X:Cx}{O W:List Nat}{st:Stmt}:VS X O W st Tg:=by
 intro pins s σ H D I h;unfold GL at h;simp only[Tg] at h
 obtain⟨_,_,_,_,_,q,_⟩:=h
 cases q
theorem Qm:∀(us:List Value)(k:Nat),(∀(i:Nat)(v:Value),us[i]?=some v->∃t,v=Value.int ((k+i:Nat):Int) t)->Vals ((List.range us.length).map fun i=>V.int ((k+i:Nat):Int)) us
 | [],k,_=>.nil
 | u::us,k,h=>by
  obtain⟨t,rfl⟩:=h 0 u rfl
  rw[List.length_cons,List.range_succ_eq_map,List.map_cons,List.map_map]
  refine .cons ⟨t,rfl⟩ ?_
  have:=Qm us (k+1) fun i v hv=>by
   obtain⟨t,e⟩:=h (i+1) v (by simpa using hv)
   exact⟨t,by rw[e];congr 2;omega⟩
  refine Eq.mp (congrArg (fun l=>Vals l us) (List.map_congr_left fun i _=>?_)) this
  show V.int _=V.int _
  congr 2;omega
def tLR(ta:TA):TE:=fun σ H Q=>ta σ H fun vs H1=>∃j:Nat,vs=[.int (j:Int)]/\j<=10000/\∀l,H1 l=none->Q (.ref l) (upd H1 l (.lst ((List.range j).map fun(i:Nat)=>V.int (i:Int))))
section
variable {X:Cx} {a:Expr} {ta:TA} {p p2 pos pos2:Pos}
theorem OB(hc:X.calm=true)(hgl:Gl X "list")(hml:X.mg "list" = none)(hgr:Gl X "range")(hmr:X.mg "range" = none)(ha:PA X [a] ta)(hs:starEach [a] X.env=[(false,eval a X.env)]:=by rfl)
  (he:starEach [.Call (.Name "range" p2) [a] [] pos2] X.env=(false,eval (.Call (.Name "range" p2) [a] [] pos2) X.env)::starEach [] X.env:=by rfl) (hpl:(backTo pos (starEach [] X.env)).any (·.1)=false:=by rfl) :
  PE X (.Call (.Name "list" p) [.Call (.Name "range" p2) [a] [] pos2] [] pos) (tLR ta):=by
 intro pins s σ H Q I h
 refine wpAny_Call_Name_kw (Vg I hgl hml (u:=.type "list") (by decide +kernel) ?_)
 refine PyProof.Rows.callWith_type1 (T:="list") ?_ he hpl
 rw[he]
 show wpAny _ _ (spliced ((false,eval (.Call (.Name "range" p2) [a] [] pos2) X.env)::[])) _ _ s
 refine Calls.spliced_cons ?_
 refine Call_ (Vg I hgr hmr boot_range (PyProof.Rows.callWith_type1 (YI (ha pos2 pins s σ H _ I h) fun us s1 ⟨vs,H1,I1,r1,q1⟩=>?_) hs rfl))
 obtain⟨j,e,hj,q⟩:=q1
 subst e
 cases r1 with
 | cons r rr=>
  cases rr
  obtain⟨t,rfl⟩:=r
  refine call_range_1 (Calls.spliced_nil ?_)
  have sz:sizeLine=2^24:=rfl
  refine call_list_range (n:=j) (I.ok.hd hc) (IsRange.new ..) (small_one (by omega) (by omega) (by omega) (by omega)) (by rw[rangeSize_one];split<;>omega) (by omega) fun h' tk acc' c' hk hS hacc=>?_
  have I2:=I1.kept (t':=s1.toks+1+1) (h':=s1.heap.push { cls:=.type "range",data:=.fields #[.int 0 s1.toks,.int (j:Int) t,.int 1 (s1.toks+1)] }) fun b o e=>Heap.get?_push_of_some _ e
  refine⟨.ref _,_,I2.laid (t':=tk) hk (Nat.le_refl _) (show ObjOk X.prog X.w _ _ _ (.lst ((List.range j).map fun(i:Nat)=>V.int (i:Int))) from⟨by simp;omega,acc'.toList,c',?_,?_⟩),rfl,q _ (I2.hok.fresh (Nat.le_refl _))⟩
  ·have:=Qm acc'.toList 0 fun i v hv=>by
    obtain⟨t',e⟩:=hacc.2 i v (by simpa using hv)
    exact⟨t',by rw[e];congr 1;omega⟩
   rw[Array.length_toList,hacc.1] at this
   refine Eq.mp (congrArg (fun l=>Vals l acc'.toList) (List.map_congr_left fun i _=>?_)) this
   show V.int _=V.int _
   congr 2;omega
  ·rw[Array.toArray_toList];exact hS
end
def SR:PV->Option PV
 | .int k=>if 0<=k/\k<=10000 then some (.lst (iL ((List.range k.toNat).map fun(i:Nat)=>(i:Int)))) else none
 | _=>none
theorem OC{X:Cx}{a:Expr}{fa:XE}{p p2 pos pos2:Pos}(hc:X.calm=true)(hgl:Gl X "list")(hml:X.mg "list" = none)(hgr:Gl X "range")(hmr:X.mg "range" = none)(ha:VE X a fa)(hs:starEach [a] X.env=[(false,eval a X.env)]:=by rfl)
  (he:starEach [.Call (.Name "range" p2) [a] [] pos2] X.env=(false,eval (.Call (.Name "range" p2) [a] [] pos2) X.env)::starEach [] X.env:=by rfl) (hpl:(backTo pos (starEach [] X.env)).any (·.1)=false:=by rfl) :
  VM X (.Call (.Name "list" p) [.Call (.Name "range" p2) [a] [] pos2] [] pos) (Nt SR fa):=
 PE.imp (OB hc hgl hml hgr hmr (Zc ha Zg hs) hs he hpl) fun σ H Q ⟨s,l,env,e,k⟩=>by
  obtain⟨x,e1,e2⟩:=Zf e
  refine⟨fun _=>False,s,[x],fun _ z=>z.elim,env,by show(fa s).bind _=_;rw[e1];rfl,fun vs H1 fp s1 i1 _=>?_⟩
  obtain⟨w,rfl,iw⟩:=i1.one_inv
  cases x with
  | int kk=>
   unfold SR at e2
   simp only at e2
   split at e2
   case isFalse=>cases e2
   rename_i hk
   cases e2
   refine⟨kk.toNat,by rw[iw.int_inv.1];congr 2;omega,by omega,fun q hq=>?_⟩
   have hm:(List.range kk.toNat).map (fun(i:Nat)=>V.int (i:Int))=((List.range kk.toNat).map fun(i:Nat)=>(i:Int)).map V.int:=by rw[List.map_map];rfl
   rw[hm]
   refine k _ _ [q] (s1.trans (Same.new hq _)) (Is.lst upd_same (Iss.ofInts _)) (by simp) fun r hr=>?_
   rw[List.mem_singleton.mp hr]
   exact⟨Same.off s1 hq,by rw[upd_same];exact True.intro⟩
  | _=>cases e2
variable {K:PySem.W.Frag}
def CMulW(i j:Int):Prop:=i.natAbs.log2<67108863/\j.natAbs.log2<67108863
def PH(i j:Int):Prop:=j≠0/\j.natAbs.log2<9000
instance (i j:Int):Decidable (CMulW i j):=by unfold CMulW;infer_instance
instance (i j:Int):Decidable (PH i j):=by unfold PH;infer_instance
theorem Kn(i:Int):Builtin.Int.intBits i<=i.natAbs.log2+1:=by
 unfold Builtin.Int.intBits
 split
 ·exact Nat.zero_le _
 ·exact Nat.le_refl _
theorem CMulW.ok{i j:Int}(h:CMulW i j):IntMulOk i j:=by
 unfold IntMulOk Builtin.Int.intTooBig;have h1:=Kn i;have h2:=Kn j;have h3:=h.1;have h4:=h.2
 have:decide (((Builtin.Int.intBits i:Int)+(Builtin.Int.intBits j:Int))>(bitsLine:Int))=false:=decide_eq_false (by
  have e:(bitsLine:Int)=134217728:=rfl
  rw[e];omega)
 rw[this]
 simp
section
variable {X:Cx} {a b:Expr} {fa fb:XE} {pos:Pos}
theorem FU:U2 X (binaryOp .Mult) (rI CMulW fun i j=>.int (i*j)):=Bi fun _ _ _ _ _ _ _ hc q=>mul_int q hc.ok
theorem Ht:U2 X (binaryOp .FloorDiv) (rI PH fun i j=>.int (i.fdiv j)):=Bi fun _ _ _ _ _ _ _ hc q=>floordiv_int hc.1 q (.inl (PyProof.noPylong_of_log2 hc.2))
abbrev NL:=GK CMulW (· * ·)
abbrev Hu:=GK PH Int.fdiv
theorem Ko(ha:VE X a fa)(hb:VE X b fb):VE X (.BinOp a .Mult b pos) (Zi NL fa fb):=S8 FU (Nn _ _) ha hb
theorem Hv(ha:VE X a fa)(hb:VE X b fb):VE X (.BinOp a .FloorDiv b pos) (Zi Hu fa fb):=S8 Ht (Nn _ _) ha hb
end
theorem Qn:∀{ns:List Int}{n:Int},n∈ns->n.natAbs.log2<=PySem.W.WData.weightAll (ns.map .int)
 | m::r,n,h=>by
  rw[List.map_cons];simp only[PySem.W.WData.weightAll,PySem.W.WData.weight]
  rcases List.mem_cons.mp h with rfl | h
  ·by_cases h0:n=0
   ·subst h0
    have:Nat.log2 (Int.natAbs 0)=0:=by decide +kernel
    omega
   ·rw[if_neg (by simpa using h0)];omega
  ·have:=Qn h
   omega
open PySem.W PySem.Calls in
theorem law_walkB{l:PySem.W.OpenLaw}{q:Program}{loose:List Str}{XP:(Str->Option Value)->Heap->Prop}{YP:World->Heap->Prop}{d:DefRec}{KK:Params->PySem.W.Frag}{x:Str}{D:List PV->Option PV}(k:Nat)(hn:l.most=some 63)(hdf:d.params.defaults=[])
  (hr:Room k callerA) (hD:∀ns:List Int,ns.length<=63->(∀n∈ns,n.natAbs.log2<=1048576)->D [.cst (iL ns)]=some (.bl true))
  (hY:∀(w:World)(h:Heap),YP w h->(KK w.params).In h)
  (F:∀(w:World)(mg:Str->Option Value)(fa:Addr)(h:Heap),(KK w.params).In h->h.Ns mainGlobals mg->mg d.name=some (.ref fa)->
   ∃fd:FuncData,(∀(s:Shared)(u:Value),BindsTo s fd ⟨[u],[]⟩ [(x,u)])/\∀base:Heap,(KK w.params).In base->base.Ns mainGlobals mg->Ue l.prog w (KK w.params) mg base O0 k fa fd [x] (YU (KK w.params) D 1)) :
  PySem.W.WalkO q loose XP YP l.row.toRowW d [] (fun f vs=>PySem.call f vs):=by
 intro w s₀ s₁ mg mb gr yy fa o pm cd doc dv kv ho hd hcd hdd hmg hgen args vals as hpre hlay hrd hwl hlo
 obtain rfl:dv = .none:=Dflts.none hdd hdf
 obtain rfl:kv = .none:=Dflts.noKw hdd
 obtain⟨a,vs,ns,rfl,rfl,hobj,hints,hlen⟩:=Att.script_of hn hpre hwl
 have hw:∀n∈ns,n.natAbs.log2<=1048576:=fun n h=>by
  have h1:(WData.list (ns.map WData.int)).layable=true:=List.all_eq_true.mp hlay _ (List.mem_singleton.mpr rfl)
  unfold WData.layable at h1
  have h2:=of_decide_eq_true (Bool.and_eq_true_iff.mp h1).2
  have h3:WData.weightAll (ns.map WData.int)<=1048576:=by simpa [WData.weight] using h2
  exact Nat.le_trans (Qn h) h3
 have kx:=hY w _ yy
 obtain⟨fd,hb,hF⟩:=F w mg fa _ kx gr.T.g hmg
 refine enter_call (codeAny_mono (L2.law_call kx gr.T.g gr.T.b gr.T.builtins gr.T.nolimit hgen hobj hints (Nat.le_trans hlen (by decide)) hr hF hb (fun H hO hS=>Cj (hD ns hlen hw) hO hS) fun H e s' z=>z) fun r s' hq=>?_)
 obtain⟨rfl,h2,h3,h4⟩:=hq
 exact⟨.inl ⟨.bool true,.bool true,[],rfl,fun _=>rfl,.bool true,Att.post_true l _,fun _=>⟨List.Pairwise.nil,fun _ hm=>(nomatch hm)⟩⟩,h2,h3,h4⟩
end VL
namespace VL
open PySem PySem.Spec PyProof.Rows L2
def Hw(i:Nat)(f0:XE):XS:=fun s=>(f0 s).bind fun l0=>match s[i]? with
 | some (some l)=>if ZT l0=true then some (.rt (.tup [l0,l])) else none
 | _=>none
theorem Hy{X:Cx}{O:List Nat}{e:Expr}{i:Nat}{f0:XE}{pos:Pos}(he:PE X e (Bo (V5 (tF X.K f0) (V5 (Ua i) O9))))(hi:i∈O:=by decide):VS X O [] (.Return (some e) pos) (Hw i f0):=PS.imp (P6 he) fun D σ H ⟨H0,fps,s,out,r,e,k⟩=>by
 obtain⟨l0,e0,e⟩:=Zf e
 split at e
 case h_2=>cases e
 rename_i l em
 split at e
 case isFalse=>cases e
 rename_i pu
 cases e
 obtain⟨v,hv,iv⟩:=r.is i _ em
 refine⟨fun _=>False,s,l0,fun _ z=>z.elim,r.env,e0,fun v0 H1 f1 s1 i1 _=>?_⟩
 have:=Is.pure _ _ _ pu i1
 subst this
 refine⟨v,hv,(by show 2<=sizeLine;decide),fun q hq=>?_⟩
 have sn:Same H1 (upd H1 q (.tup [v0,v])):=Same.new hq _
 have r3:=r.grow s1
 refine k _ (fps i) _ (r3.same.trans sn) (Is.tup upd_same ?_) (r.nd i hi) fun z hz=>?_
 ·have h1:=Iss.cons (i1.mono sn) (Iss.one ((iv.mono s1).mono sn))
  simpa using h1
 ·have:=r3.own i hi z hz
  exact⟨this.1,Same.mut sn this.2⟩
end VL
namespace PW
open PySem L2 VL
noncomputable def UU:XS:=(ZS (eP (Ze WE [(ZG 2 [3,1,2,0] (Hb false false [(Za 0),(Za 1)]) (.many [0,1]) ZW (Zi Hu (Zi YQ (Zi NL (Zi ZK (Za 3) (Za 4)) (Za 0)) (Zi NL (Zi ZK (Za 5) (Za 4)) (Za 1))) (Za 2)))])))
noncomputable def XB:List PV->Option PV:=Xl 4 UU
noncomputable def T9:XS:=(Zm (Zn 1 (Ze Y3 [(Za 0)]))
  (Zm (Zn 2 (eP (eC (.int 1))))
  (Zm (Yp [1] (Z5 [(Ze ZF [(Za 0)])]) (.one 3) (Zm (Zn 4 (eP (Zi ZK (Za 1) (Za 3))))
  (Zm (Zn 1 (ZG 2 [3,4,2] (U6 true [(Za 1)]) (.many [0,1]) ZW (eP (O1 (xB (Zi (YJ false) (Za 0) (Za 2))) (Za 1) (Ze XB [(Za 1),(Za 3),(Za 2),(Za 4)])))))
  (Zn 2 (eP (Zi ZK (Za 4) (Za 3)))))))
  (Hw 1 (Za 2)))))
noncomputable def Vr:List PV->Option PV:=Xl 5 T9
noncomputable def Sa:XS:=(ZS (eP (Ze WE [(ZG 1 [1,0] (Wd (Za 2)) (.one 0) ZW (O1 (xB (Zi (YJ false) (Za 0) (Za 1))) (Ze Wz [(Za 2),(Za 1)]) (Nt Rn (Zi ZK (Zi ZK (Za 2) (Za 1)) (Za 0)))))])))
noncomputable def Uv:List PV->Option PV:=Xl 3 Sa
noncomputable def Xg:XS:=(Zm (Zn 2 (ZG 1 [1] (Z5 [(Ze ZF [(Za 0)])]) (.one 0) (xB (Zi (YJ true) (Za 0) (Za 1))) (eP (Za 0))))
  (ZS (eP (Ze WE [(ZG 1 [0,2] (Wd (Za 2)) (.one 0) ZW (Ze Uv [(Za 1),(Za 0),(Za 2)]))]))))
noncomputable def Xh:List PV->Option PV:=Xl 3 Xg
end PW
namespace VL
open PySem PySem.W PyProof.Rows
section
variable {r:Nat->Int} {n:Nat}
def Y7(p:Array Nat)(i:Nat):Nat:=p.getD i 0
end
section
variable {prog:Program} {w:World} {A:Around} {E:Value->Shared->Prop} {s:Shared}
theorem NM{l:Addr}{vs:List Value}{Q:List Value->Shared->Prop}(hl:IsTup s.heap l vs.toArray)
  (h:Q vs { s with heap:=(s.heap.push (seqObj "list" #[] 0)).update s.heap.objs.size (Obj.mapSeq (·++vs.toArray)) }) (hsz:vs.length<=sizeLine:=by size_fits) :
  wpAny (model prog w) A (collect (.ref l)) Q E s:=by
 obtain⟨o,ho,hc,n,hd⟩:=id hl
 unfold collect
 refine wpAny_bind (wpAny_runValue (codeAny_builtin entry_proto_collect' ?_))
 show wpAny _ _ (do again (.builtin "list.__iadd__" ⟨[<-newList [],.ref l],[]⟩)) _ _ s
 refine wpAny_bind (wpAny_newList (wpAny_pure ⟨Code.quiet_builtin _ (by decide +kernel),codeAny_builtin entry_list_iadd' ?_⟩))
 show wpAny _ _ (Builtin.List.listExtendWith (.ref s.heap.objs.size) (.ref l) (.ref s.heap.objs.size)) _ _ { s with heap:=s.heap.push (seqObj "list" #[] 0) }
 unfold Builtin.List.listExtendWith
 have ho':(s.heap.push (seqObj "list" #[] 0)).get? l=some o:=Heap.get?_push_of_some _ ho
 refine wpAny_bind (wpAny_typeOf (T:="tuple") ⟨o,ho',hc⟩ ?_)
 have ht:(Value.type "tuple"==Value.type "tuple")=true:=by rfl
 rw[if_pos (by rw[ht];simp)]
 refine wpAny_bind (listItems_at ho' hd ?_)
 refine wpAny_bind (listItems_at (xs:=#[]) (n:=0) (Heap.get?_push_size _ rfl) rfl ?_)
 rw[if_neg (by simp)]
 refine wpAny_bind (listUpdate_at (xs:=#[]) (n:=0) (Heap.get?_push_size _ rfl) rfl ?_ (Nat.zero_le _) (by show(#[]++vs.toArray).size<=sizeLine+1;simp only[Array.size_append,List.size_toArray,List.length_nil];omega))
 refine wpAny_pure ?_
 show wpAny (model prog w) A (do
   let o <-load s.heap.objs.size
   match o.data with
   | .seq xs _=>pure xs.toList
   | _=>unsupported "internal:collect") Q E { s with heap:=(s.heap.push (seqObj "list" #[] 0)).update s.heap.objs.size (Obj.mapSeq (·++vs.toArray)) }
 refine wpAny_bind (wpAny_load (get?_update_seq (Heap.get?_push_size _ rfl) _) ?_)
 show wpAny _ _ (pure ((#[]:Array Value)++vs.toArray).toList) Q E _
 rw[show((#[]:Array Value)++vs.toArray).toList=vs by simp]
 exact wpAny_pure h
theorem OD{l:Addr}{vs:List Value}{ns:List Int}{Q:Value->Shared->Prop}(hl:IsTup s.heap l vs.toArray)(hI:IntsAre vs ns)(h64:vs.length<64)
  (h:∀(out:Array Value)(ns':List Int),IntsAre out.toList ns'->ns'.Perm ns->ns'.Pairwise (·<=·)->Q (.ref (s.heap.objs.size+1)) { s with heap:=sortedAll s.heap vs out }) :
  wpAny (model prog w) A (call (.builtin "sorted") [.ref l]) Q E s:=by
 refine Calls.call_function_entry kind_sorted plain_sorted entry_sorted (args_sorted1 _) ?_
 unfold Builtin.«sorted»
 refine wpAny_bind (m:=checkCount "sorted" 1 1 _) (wpAny_pure ?_)
 refine wpAny_bind (NM hl ?_ (by rw[sizeLine_eq];omega))
 refine wpAny_bind (wpAny_newList ?_ (by rw[sizeLine_eq];omega))
 have hsz:((s.heap.push (seqObj "list" #[] 0)).update s.heap.objs.size (Obj.mapSeq (·++vs.toArray))).objs.size=s.heap.objs.size+1:=by
  rw[Heap.size_update,size_push']
 have hoL:(((s.heap.push (seqObj "list" #[] 0)).update s.heap.objs.size (Obj.mapSeq (·++vs.toArray))).push (seqObj "list" vs.toArray 0)).get? (s.heap.objs.size+1)=some (seqObj "list" vs.toArray 0):=by
  rw[<-hsz];exact Heap.get?_push_size _ rfl
 show wpAny _ _ _ _ _ { s with heap:=((s.heap.push (seqObj "list" #[] 0)).update s.heap.objs.size (Obj.mapSeq (·++vs.toArray))).push (seqObj "list" vs.toArray 0) }
 rw[hsz]
 refine wpAny_bind (wpAny_holding (wpAny_call_entry slot_list_sort ⟨_,hoL,rfl⟩ entry_list_sort (list_sort_tree hoL hI h64 fun out ns' a1 a2 a3=>⟨_,rfl,?_⟩) (args_list_sort _)))
 exact wpAny_pure ⟨_,rfl,h out ns' a1 a2 a3⟩
end
end VL
namespace VL
open PySem PySem.W PyProof.Rows L2
def pairK:List YO->Option (Int×Int)
 | [.inl x,.inl y]=>some (x,y)
 | _=>none
def NN(K:PySem.W.Frag):List V->Hp->VK->Prop:=fun xs H Q=>∃p ns,xs=[.ref p]/\SqT K H p (ns.map V.int)/\ns.length<64/\∀l,H l=none->Q (.ref l) (upd H l (.lst ((T6 ns).map V.int)))
theorem OE{X:Cx}:Wa X (.builtin "sorted") (NN X.K):=by
 intro pins s σ H xs us Q I r h
 obtain⟨p,ns,rfl,hq,hl,q⟩:=h
 obtain⟨u,rfl,rx⟩:=Ud r
 cases rx
 obtain⟨its,r',pl,hz⟩:=I.tuple hq
 have hlen:=r'.length
 rw[List.length_map] at hlen hz
 refine OD pl (U9 r') (by omega) fun out ns' a1 a2 a3=>?_
 obtain⟨e,he⟩:=sortedAll_at s.heap its out
 have hns:=NK a2 a3;subst hns
 refine⟨.ref (s.heap.objs.size+1),_,I.laid (t':=s.toks) (fun b o=>sortedAll_old) (Nat.le_succ _) (show ObjOk X.prog X.w _ _ _ (.lst ((T6 ns).map V.int)) from⟨?_,out.toList,e,T7 a1,?_⟩),rfl,q _ (I.hok.fresh (Nat.le_succ _))⟩
 ·rw[List.length_map,(Ql ns).length_eq];exact hz
 ·rw[Array.toArray_toList];exact he
def Vs:List PV->Option PV
 | [.tup l]=>(XH l).bind fun ns=>if ns.length<64 then some (.lst (iL (T6 ns))) else none
 | _=>none
theorem NO{K:PySem.W.Frag}:BJ K (NN K) Vs:=fun H vs ls l fp h e Q k=>by
 unfold Vs at e
 split at e
 ·obtain⟨ns,e1,e2⟩:=Zf e
  split at e2
  ·cases e2
   obtain⟨v,rfl,i⟩:=h.one_inv
   have em:=Xz e1;subst em
   obtain⟨p,xs,rfl,hp,hi⟩:=i.tup_inv
   obtain⟨rfl,rfl⟩:=hi.iL
   refine⟨p,ns,rfl,.inl (.inl hp),by assumption,fun q hq=>k _ _ [q] (Same.new hq _) (Is.lst upd_same (Iss.ofInts _)) (by simp) fun r hr=>?_⟩
   rw[List.mem_singleton.mp hr]
   exact⟨hq,by rw[upd_same];exact True.intro⟩
  ·cases e2
 ·cases e
end VL
namespace L2
open PySem PySem.Spec PyProof.Rows
abbrev WJ:=Addr->Obj->List (List YO×V)->It
end L2
namespace VL
open PySem PySem.Spec PyProof.Rows L2
variable {K:PySem.W.Frag}
instance (x:Str) (n:Int):Decidable (MulOk x n):=by unfold MulOk;infer_instance
end VL
namespace VL
open PySem PySem.Spec PyProof.Rows L2
variable {K:PySem.W.Frag}
structure Q1(K:PySem.W.Frag)(mg:Str->Option Value)(x:Str)(st:Stmt)(dv:Int):Prop where
 ex:∃(f T:Addr) (t:Tok) (o:Obj) (n:Nat) (oc:Value) (od:Option Addr) (kV doc pm:Value) (an:Option Addr) (cdv ct:Value) (osl:Array (Option Value)),mg x=some (.ref f)/\
  K.lookup f=some ⟨oc,od,.func (PySem.W.fnOf x x (YX st) (ZZ st) (Zk st) (.ref T) kV doc pm an cdv ct),osl⟩/\PySem.W.codeIn K cdv x=true/\PySem.W.keepIn K (.ref f)=true/\K.lookup T=some o/\o.data = .seq #[.int dv t] n
theorem defD_mk{h:Heap}{mg:Str->Option Value}{x:Str}{st:Stmt}{dv:Int}{t:Tok}{f T:Addr}{o:Obj}{n:Nat}{oc:Value}{od an:Option Addr}{osl:Array (Option Value)}{kV doc pm cdv ct:Value}(X:K.In h)(G:h.Ns mainGlobals mg)
  (a:PySem.W.nsIn K mainGlobals x=some (some (.ref f))) (l:K.lookup f=some ⟨oc,od,.func (PySem.W.fnOf x x (YX st) (ZZ st) (Zk st) (.ref T) kV doc pm an cdv ct),osl⟩)
  (c:PySem.W.codeIn K cdv x=true) (k:PySem.W.keepIn K (.ref f)=true) (lt:K.lookup T=some o) (d:o.data = .seq #[.int dv t] n):Q1 K mg x st dv:=
 ⟨f,T,t,o,n,oc,od,kV,doc,pm,an,cdv,ct,osl,PySem.W.mg_of X G a,l,c,k,lt,d⟩
structure Hz(P:Program)(w:World)(K:PySem.W.Frag)(mg:Str->Option Value)(base:Heap)(x:Str)(ps:List Str)(sp:Sp)(k:Nat)(dv:Int):Prop where
 ex:∃f fd t,mg x=some (.ref f)/\PySem.W.keepIn K (.ref f)=true/\Binds K fd ps [.int dv t]/\Ue P w K mg base O0 k f fd ps sp
section
variable {P:Program} {w:World} {mg:Str->Option Value} {base:Heap}
theorem FV{x:Str}{st:Stmt}{N ps:List Str}{k n:Nat}{O W:List Nat}{dv:Int}(m:Nat)(f:XS)(D:Q1 K mg x st dv)(S:Zy N ps (Zk st))
  (hb:∀(T:Addr)(t:Tok)(kV doc pm:Value)(an:Option Addr)(cdv ct:Value)(us:List Value),us.length+1=ps.length->∃q:Option (Array Value)->Sem (List (Str×Value)),
   bindArgs (PySem.W.fnOf x x (YX st) (ZZ st) (Zk st) (.ref T) kV doc pm an cdv ct) ⟨us,[]⟩=seqItems? (.ref T) >>= q/\q (some #[.int dv t])=pure (ps.zip (us++[.int dv t])))
  (hn:ps.length=n) (hm:N.length=m) (hO:∀i∈O,n<=i)
  (hbody:∀(fa:Addr)(cdv:Value)(A:Around)(outer:List Env)(s:Shared)(H:Hp)(E:XK),Room k (A.deeper (envOfC x (Zk st) s.heap.objs.size fa cdv))->Ny (Tv O0 P w K mg base N x (Zk st) fa cdv A outer s H E).nox O W (ZZ st) f) :
  Hz P w K mg base x ps (YU K (Xl m f) n) (k+1) dv:=by
 subst hm
 obtain⟨fa,T,t,o,n',oc,od,kV,doc,pm,an,cdv,ct,osl,hmg,lk,hcd,kp,lt,hd⟩:=D.ex
 refine⟨fa,_,t,hmg,kp,fun s us X hl=>?_,Nc lk hcd S (fun vs H Q E h=>by rw[hn];exact h.1) fun A outer s H vs Q E hr hsp=>⟨_,(hbody fa cdv A outer s H E hr).nox,TZ hO hsp⟩⟩
 obtain⟨q,h1,h2⟩:=hb T t kV doc pm an cdv ct us (by simpa using hl)
 exact PySem.W.binds_K X rfl lt hd h1 h2
end
section
variable {X:Cx} {x:Str} {ps:List Str} {k:Nat} {e:Expr} {es:List Expr} {fs:List XE} {p pos:Pos} {dv:Int}
theorem Qo{D:List PV->Option PV}{n:Nat}(C:Hz X.prog X.w X.K X.mg X.base x ps (YU X.K D n) k dv)(hr:Room k X.A)(hg:Gl X x)(ha:VA X (e::es) fs)(hn:fs.length+1=n:=by rfl)
  (hdb:(x==("__debug__" : Str))=false:=by decide) (he:starEach (e::es) X.env=(false,eval e X.env)::starEach es X.env:=by rfl) (hpl:(backTo pos (starEach es X.env)).any (·.1)=false:=by rfl) :
  VM X (.Call (.Name x p) (e::es) [] pos) (Ze (fun ls=>D (ls++[.int dv])) fs):=by
 obtain⟨f,fd,t,a,b,c,d⟩:=C.ex
 refine PE.imp (LL d hr hg a b c (dvs:=[.int dv]) (.cons ⟨t,rfl⟩ .nil) ES ha hdb he hpl) fun σ H Q ⟨s,l,env,e,q⟩=>?_
 obtain⟨ls,e1,e2⟩:=Zf e
 refine⟨fun _=>False,s,ls,fun _ z=>z.elim,env,e1,fun vs H1 fp s1 i1 n1=>?_⟩
 show YU X.K D n (vs++[.int dv]) H1 Q E0
 exact⟨by rw[List.length_append,i1.len,W0 e1,<-hn];rfl,ls++[.int dv],fp++[],l,i1.append (Iss.one (Is.int _)),e2,fun v H2 fq s2 i2 d2 n2=>q v H2 fq (s1.trans s2) i2 d2 fun a ha=>⟨Same.off s1 (n2 a ha).1,(n2 a ha).2⟩⟩
end
end VL
namespace VL
open PySem L2
def iFN(K:PySem.W.Frag)(f:XL):TI:=fun σ H R=>∃(s:ZP) (ls:List PV),EnvIs K (fun _=>False) H s σ/\f s=some ls/\∀J H1,Same H H1->(∀Rm,BK K Rm H1 J ls)->R J H1
def A9(X:Cx)(tg e:Expr)(f:XL):Prop:=PI X tg e (iFN X.K f)
section
variable {X:Cx} {tg:Expr}
theorem M4{a b:Expr}{fs:List XE}{p pos:Pos}(hg:Gl X "range")(hm:X.mg "range" = none)(ha:VA X [a,b] fs)(hs:starEach [a,b] X.env=[(false,eval a X.env),(false,eval b X.env)]:=by rfl)(hs2:starEach [b] X.env=[(false,eval b X.env)]:=by rfl):A9 X tg (.Call (.Name "range" p) [a,b] [] pos) (ZY fs):=
 PI.imp (Pa hg hm ha hs hs2) fun σ H R ⟨s,ls,env,e,k⟩=>by
 unfold ZY at e
 split at e
 ·split at e
  ·cases e
   rename_i i j he hb
   refine⟨fun _=>False,s,_,fun _ z=>z.elim,env,he,fun vs H1 fp s1 i1 _=>?_⟩
   obtain⟨v,w,f1,f2,rfl,iv,iw,_⟩:=i1.two_inv
   exact⟨i,j,by rw[iv.int_inv.1,iw.int_inv.1],⟨by omega,by omega,by omega,by omega⟩,k _ H1 s1 fun Rm=>Om _ _⟩
  ·cases e
 ·cases e
end
section
variable {X:Cx} {O W:List Nat} {tg iter:Expr} {body:List Stmt} {fi:XL} {T:Tgt} {fb:XS} {pos:Pos}
theorem FX(hp:PassesOwn (model X.prog X.w) X.A X.env X.xe)(hc:X.calm=true)(hi:A9 X tg iter fi)(hg:PG X tg (gT X.K T))(hb:Ny X O W body fb)(hT:∀i∈T.slots,i∉O:=by decide)
  (hs:∀x,foldedSetIterable iter X.env x=pure x:=by intro _;rfl):VS X O (T.slots++W) (.For tg iter body [] pos) (Yp [] fi T fb):=PS.imp (RL hp hc hi hg hb hs) fun D σ H ⟨H0,fps,s,out,r,e,k⟩=>by
 obtain⟨ls,e1,e⟩:=Zf e
 refine⟨s,ls,r.env,e1,fun J H1 s1 jis=>?_⟩
 exact TV (r.grow s1).frame (jis _) e hT (k.less (r.grow s1).under)
end
end VL
namespace VX
open PySem PySem.Spec PyProof.Rows L2
structure Eff(fs ch:List Addr)(h h':Heap):Prop where
 keep:∀b o,h.get? b=some o->b∉ch->b∉fs->h'.get? b=some o
 slot:∀b o,h.get? b=some o->b∉ch->b∈fs->∃sl,h'.get? b=some { o with slots:=sl }
 there:∀b o,h.get? b=some o->∃o',h'.get? b=some o'
theorem Eff.trans{fs ch:List Addr}{h h1 h2:Heap}(x:Eff fs ch h h1)(y:Eff fs ch h1 h2):Eff fs ch h h2:=
 ⟨fun b o e hc hf=>y.keep b o (x.keep b o e hc hf) hc hf,fun b o e hc hf=>by
  obtain⟨sl,e1⟩:=x.slot b o e hc hf
  obtain⟨sl2,e2⟩:=y.slot b _ e1 hc hf
  exact⟨sl2,e2⟩,fun b o e=>by
  obtain⟨o1,e1⟩:=x.there b o e
  exact y.there b o1 e1⟩
theorem Eff.mono{fs ch ch':List Addr}{h h':Heap}(x:Eff fs ch h h')(hs:∀b∈ch,b∈ch'):Eff fs ch' h h':=
 ⟨fun b o e hc hf=>x.keep b o e (fun z=>hc (hs b z)) hf,fun b o e hc hf=>x.slot b o e (fun z=>hc (hs b z)) hf,x.there⟩
theorem Eff.field{fs:List Addr}{h:Heap}{a:Addr}{o:Obj}{vs:Array Value}{f:Array Value->Array Value}(ha:h.get? a=some o)(hd:o.data = .fields vs):Eff fs [a] h (h.update a (Obj.mapFields f)):=
  ⟨fun b u e hc _=>by rw[Heap.get?_update_other _ _ (fun z=>hc (by rw[z];exact .head _))];exact e,
   fun b u e hc _=>⟨u.slots,by rw[Heap.get?_update_other _ _ (fun z=>hc (by rw[z];exact .head _))];exact e⟩,
   fun b u e=>by
    by_cases q:a=b
    · subst q;exact⟨_,Heap.get?_update_self _ ha (Obj.isFreed_of_fields (Obj.data_mapFields hd f))⟩
    · exact⟨u,by rw[Heap.get?_update_other _ _ q];exact e⟩⟩
theorem Eff.funs{fs:List Addr}{ch:List Addr}{h h' base:Heap}{l:List Env}(x:Eff fs ch h h')(hl:h.FunFrames base l)(hc:∀b∈ch,∀o,h.get? b=some o->∃vs,o.data = .fields vs):h'.FunFrames base l:=
 hl.of_keeps fun b o e hn=>by
  have hb:b∉ch:=fun z=>by obtain⟨vs,q⟩:=hc b z o e;exact hn vs q
  by_cases hf:b∈fs
  ·obtain⟨sl,q⟩:=x.slot b o e hb hf;exact⟨_,q,rfl⟩
  ·exact⟨o,x.keep b o e hb hf,rfl⟩
section
variable {M:Model} {A:Around} {E:Value->Shared->Prop} {s:Shared}
theorem Qp{base:Heap}{env:Env}{outer:List Env}{L e:Addr}{oe:Obj}{vs:Array Value}{head:Value}{hadNext:Bool}{Q:Unit->Shared->Prop}
  (hfr:A.frames=some (env::outer)) (hl:s.heap.FunFrames base (env::outer)) (hf:env.frame=some L)
  (he:s.heap.get? e=some oe) (hd:oe.data = .fields vs) (hsz:1<vs.size)
  (h:∀h' T,s.heap.objs.size<=T->h'.get? e=some (oe.mapFields (·.setIfInBounds 1 (.ref T)))->(∃oT ts,h'.get? T=some oT/\oT.data = .fields ts/\ts[3]?=some (rawInt L))->Eff ((env::outer).filterMap (·.frame)) [e] s.heap h'->Q () { s with heap:=h' }) :
  wpAny M A (do let a <-frameOf env;let pl <-entryPlaceOf L hadNext;let b <-EntryCells.newEntry head a .none (rawInt L) .none pl;setField (.ref e) 1 b) Q E s:=by
 have hene:e∉(env::outer).filterMap (·.frame):=fun hm=>by
  obtain⟨_,o,ho,hnf⟩:=hl.mem hm
  rw[he] at ho;injection ho with ho;subst ho;exact hnf vs hd
 refine wpAny_bind (wpAny_frameOf_fun hfr hl hf fun h₁ hs₁=>?_)
 refine wpAny_bind (wpAny_entryPlaceOf fun pl hpl=>?_)
 unfold EntryCells.newEntry newFields
 refine wpAny_bind (wpAny_newObj_type ?_ (hpl.sizeOk5 _ _ _ _ _))
 have he₁:h₁.get? e=some oe:=(hs₁.2.1 e hene).trans he
 have he₂:=Heap.get?_push_of_some (h:=h₁) { cls:=.type "traceback",dict:=none,data:=.fields ([head,.ref L,.none,rawInt L,.none]++(if pl.isEmpty then List.replicate 6 Value.none else pl)).toArray } he₁
 have hsize:h₁.objs.size=s.heap.objs.size:=hs₁.1
 have p1:=Heap.get?_update_self (Obj.mapFields (·.setIfInBounds 1 (Value.ref h₁.objs.size))) he₂ (Obj.isFreed_of_fields (Obj.data_mapFields hd _))
 have p2:=(Heap.get?_update_other (h₁.push { cls:=.type "traceback",dict:=none,data:=.fields ([head,.ref L,.none,rawInt L,.none]++(if pl.isEmpty then List.replicate 6 Value.none else pl)).toArray })
  (Obj.mapFields (·.setIfInBounds 1 (Value.ref h₁.objs.size))) (Nat.ne_of_lt (Heap.lt_size he₁))).trans (Heap.get?_push_size h₁ rfl)
 have p3:Eff ((env::outer).filterMap (·.frame)) [e] s.heap ((h₁.push { cls:=.type "traceback",dict:=none,data:=.fields ([head,.ref L,.none,rawInt L,.none]++(if pl.isEmpty then List.replicate 6 Value.none else pl)).toArray }).update e (Obj.mapFields (·.setIfInBounds 1 (Value.ref h₁.objs.size)))):=
  Eff.trans (h1:=h₁) ⟨fun b o q _ hb=>(hs₁.2.1 b hb).trans q,fun b o q _ _=>hs₁.2.2 b o q,fun b o q=>by obtain⟨sl,z⟩:=hs₁.2.2 b o q;exact⟨_,z⟩⟩ (Eff.trans (h1:=h₁.push _) ⟨fun b o q _ _=>Heap.get?_push_of_some _ q,fun b o q _ _=>⟨o.slots,Heap.get?_push_of_some _ q⟩,fun b o q=>⟨o,Heap.get?_push_of_some _ q⟩⟩ (Eff.field he₂ hd))
 refine wpAny_setField he₂ hd hsz (h _ h₁.objs.size (by omega) p1 ⟨_,_,p2,rfl,?_⟩ p3)
 simp
def HA(h:Heap)(e:Addr)(cls:Value)(dd:Option Addr):Prop:=∃oe vs,h.get? e=some oe/\oe.cls=cls/\oe.dict=dd/\oe.data = .fields vs/\vs[1]?=some .none
def HB(h:Heap)(e:Addr)(cls:Value)(dd:Option Addr)(T:Addr)(fl:Value):Prop:=
 ∃oe vs oT ts,h.get? e=some oe/\oe.cls=cls/\oe.dict=dd/\oe.data = .fields vs/\vs[1]?=some (.ref T)/\T≠e/\h.get? T=some oT/\oT.data = .fields ts/\ts[3]?=some fl
theorem Uw(o:Obj)(f:Array Value->Array Value):(o.mapFields f).dict=o.dict:=by
 unfold Obj.mapFields
 split<;>rfl
variable {base:Heap} {env:Env} {outer:List Env} {L e T:Addr} {cls fl:Value} {dd:Option Addr} {Q:Unit->Shared->Prop}
theorem BQ(hfr:A.frames=some (env::outer))(hl:s.heap.FunFrames base (env::outer))(hf:env.frame=some L)(x:HA s.heap e cls dd)
  (h:∀h' T,s.heap.objs.size<=T->HB h' e cls dd T (rawInt L)->Eff ((env::outer).filterMap (·.frame)) [e] s.heap h'->Q () { s with heap:=h' }):wpAny M A (noteFrame (.ref e) env) Q E s:=by
 obtain⟨oe,vs,he,hc,hdd,hd,h1⟩:=x
 unfold noteFrame;simp only[hf]
 refine wpAny_bind (wpAny_field he hd h1 ?_)
 rw[if_neg (by decide)]
 have hsz:=(Array.getElem?_eq_some_iff.mp h1).1
 refine Qp hfr hl hf he hd hsz fun h' T hT p1 ⟨oT,ts,p2,p3,p4⟩ p5=>h h' T hT ⟨_,_,oT,ts,p1,(Obj.cls_mapFields _ _).trans hc,(Uw _ _).trans hdd,Obj.data_mapFields hd _,by simp[hsz],?_,p2,p3,p4⟩ p5
 exact Nat.ne_of_gt (Nat.lt_of_lt_of_le (Heap.lt_size he) hT)
theorem BR(hfr:A.frames=some (env::outer))(hl:s.heap.FunFrames base (env::outer))(hf:env.frame=some L)(x:HB s.heap e cls dd T .none)
  (h:∀h' T',s.heap.objs.size<=T'->HB h' e cls dd T' (rawInt L)->Eff ((env::outer).filterMap (·.frame)) [e,T] s.heap h'->Q () { s with heap:=h' }):wpAny M A (noteFrame (.ref e) env) Q E s:=by
 obtain⟨oe,vs,oT,ts,he,hc,hdd,hd,h1,hTe,hT,hdT,h3⟩:=x
 unfold noteFrame;simp only[hf]
 refine wpAny_bind (wpAny_field he hd h1 ?_)
 rw[if_pos (show(Value.ref T != Value.none)=true from by simp)]
 refine wpAny_bind (wpAny_field hT hdT h3 ?_)
 rw[if_neg (show ¬((Value.none==rawInt L)=true) from by simp[rawInt])]
 refine wpAny_bind (wpAny_setField hT hdT (Array.getElem?_eq_some_iff.mp h3).1 ?_)
 have hsz:=(Array.getElem?_eq_some_iff.mp h1).1
 have ef:Eff ((env::outer).filterMap (·.frame)) [T] s.heap (s.heap.update T (Obj.mapFields (·.setIfInBounds 3 Value.none))):=Eff.field hT hdT
 have hl':=ef.funs hl (fun b hb o q=>by rw[List.mem_singleton.mp hb,hT] at q;cases q;exact⟨_,hdT⟩)
 have he':=(Heap.get?_update_other s.heap (Obj.mapFields (·.setIfInBounds 3 Value.none)) hTe).trans he
 have hz:(s.heap.update T (Obj.mapFields (·.setIfInBounds 3 Value.none))).objs.size=s.heap.objs.size:=by simp
 refine Qp (s:={ s with heap:=s.heap.update T (Obj.mapFields (·.setIfInBounds 3 Value.none)) }) hfr hl' hf he' hd hsz fun h' T' hT' p1 ⟨oT',ts',p2,p3,p4⟩ p5=>h h' T' (by rw[<-hz];exact hT') ⟨_,_,oT',ts',p1,(Obj.cls_mapFields _ _).trans hc,(Uw _ _).trans hdd,Obj.data_mapFields hd _,by simp[hsz],?_,p2,p3,p4⟩ ?_
 ·have hT':(s.heap.update T (Obj.mapFields (·.setIfInBounds 3 Value.none))).objs.size<=T':=hT'
  rw[hz] at hT'
  exact Nat.ne_of_gt (Nat.lt_of_lt_of_le (Heap.lt_size he) hT')
 ·exact(ef.mono fun b hb=>by simp at hb;simp[hb]).trans (p5.mono fun b hb=>by simp at hb;simp[hb])
theorem OF(x:HB s.heap e cls dd T fl){fs:List Addr}(h:∀h',HB h' e cls dd T .none->Eff fs [T] s.heap h'->h'.objs.size=s.heap.objs.size->Q () { s with heap:=h' }):wpAny M A (setFlight (.ref e) none) Q E s:=by
 obtain⟨oe,vs,oT,ts,he,hc,hdd,hd,h1,hTe,hT,hdT,h3⟩:=x
 have hsz:=(Array.getElem?_eq_some_iff.mp h3).1
 unfold setFlight
 refine wpAny_bind (wpAny_field he hd h1 ?_)
 rw[if_pos (show(Value.ref T != Value.none)=true from by simp)]
 refine wpAny_setField hT hdT hsz (h _ ⟨oe,vs,_,_,(Heap.get?_update_other _ _ hTe).trans he,hc,hdd,hd,h1,hTe,Heap.get?_update_self _ hT (Obj.isFreed_of_fields (Obj.data_mapFields hdT _)),Obj.data_mapFields hdT _,by simp[hsz]⟩ (Eff.field hT hdT) (by simp))
theorem HC(hfr:A.frames=some (env::outer))(hl:s.heap.FunFrames base (env::outer))(hf:env.frame=some L)(x:HA s.heap e cls dd)
  (h:∀h' T,s.heap.objs.size<=T->HB h' e cls dd T .none->Eff ((env::outer).filterMap (·.frame)) [e] s.heap h'->Q () { s with heap:=h' }):wpAny M A (leaving env (.ref e)) Q E s:=by
 unfold leaving
 refine wpAny_bind (BQ hfr hl hf x fun h1 T hT x1 e1=>?_)
 refine OF x1 (fs:=(env::outer).filterMap (·.frame)) fun h2 x2 e2 _=>h h2 T hT x2 ?_
 have nT:∀b o,s.heap.get? b=some o->b≠T:=fun b o q z=>by
  subst z
  exact Nat.lt_irrefl _ (Nat.lt_of_lt_of_le (Heap.lt_size q) hT)
 exact⟨fun b o q hc hf=>e2.keep b o (e1.keep b o q hc hf) (by simpa using nT b o q) hf,fun b o q hc hf=>by
  obtain⟨sl,q1⟩:=e1.slot b o q hc hf
  obtain⟨sl2,q2⟩:=e2.slot b _ q1 (by simpa using nT b o q) hf
  exact⟨sl2,q2⟩,fun b o q=>by
  obtain⟨o1,q1⟩:=e1.there b o q
  exact e2.there b o1 q1⟩
end
section
variable {P:Program} {w:World} {fs ch:List Addr} {H:Hp} {h h':Heap}
theorem Kp(x:HOk P w H h)(e:Eff fs ch h h')(hc:∀b∈ch,H b=none)(hf:∀b∈fs,H b=none):HOk P w H h':=fun a o ha=>
 (x a o ha).stay (fun b u hb q=>by
  have hb':∃o',H b=some o':=by
   rcases hb with z | z
   ·exact⟨o,by rw[z];exact ha⟩
   ·exact⟨_,z⟩
  obtain⟨o',hb'⟩:=hb'
  exact e.keep b u q (fun z=>by rw[hc b z] at hb';cases hb') (fun z=>by rw[hf b z] at hb';cases hb')) (fun _ q=>q) fun _ _ q=>q
end
def Fl(H':Hp)(h0 h:Heap)(e:Addr)(cls:Value)(dd:Option Addr):Prop:=∃T,HB h e cls dd T .none/\H' e=none/\H' T=none/\h0.get? e=none/\h0.get? T=none
def E3(P:Program)(w:World):GJ:=fun outer H s E v s'=>
 ∃e cls dd H',v = .ref e/\s'.os=s.os/\AllBare s'.gens/\Un (OZ outer) [] H H' s.heap s'.heap/\HOk P w H' s'.heap/\Fl H' s.heap s'.heap e cls dd/\E cls dd H'
section
variable {X:Cx} {pins:List (Addr×Obj)} {σ:L2.St} {H:Hp} {s:Shared} {e:Addr} {cls:Value} {dd:Option Addr} {E:XK}
structure HD(X:Cx)(E:XK):Prop where
 stk:X.stack=X.env::X.outer
 fr:X.env.frame=some X.env.locals
 ex:X.ex=[]
 xe:X.xe=fun v s'=>wpAny (model X.prog X.w) X.A (leaving X.env v) (fun _ s''=>E3 X.prog X.w X.outer X.H₀ X.s₀ E v s'') (fun v' s''=>E3 X.prog X.w X.outer X.H₀ X.s₀ E v' s'') s'
theorem PJ(D:HD X E)(I:Inv X pins σ H s){ch:List Addr}{h':Heap}{T:Addr}(hT:X.s₀.heap.get? T=none)(he:X.s₀.heap.get? e=none)(hH:H e=none)(hHT:H T=none)(hc:∀b∈ch,H b=none/\X.s₀.heap.get? b=none)(x:HB h' e cls dd T .none)
  (ef:Eff ((X.env::X.outer).filterMap (·.frame)) ch s.heap h') (q:E cls dd H):E3 X.prog X.w X.outer X.H₀ X.s₀ E (.ref e) { s with heap:=h' }:=by
 have hf:∀b∈(X.env::X.outer).filterMap (·.frame),H b=none:=fun b hb=>by
  have:=I.stkFree b
  rw[D.stk] at this
  exact this hb
 refine⟨e,cls,dd,H,rfl,I.os,I.bare,?_,Kp I.hok ef (fun b hb=>(hc b hb).1) hf,⟨T,x,hH,hHT,he,hT⟩,q⟩
 have ub:=I.base
 have lt:∀b o,X.s₀.heap.get? b=some o->b∉ch:=fun b o z hb=>by rw[(hc b hb).2] at z;cases z
 have nL:∀b o,X.s₀.heap.get? b=some o->b≠X.env.locals:=fun b o z hb=>by
  subst hb
  exact Nat.lt_irrefl _ (Nat.lt_of_lt_of_le (Heap.lt_size z) I.ok.above)
 have mem:∀b o,X.s₀.heap.get? b=some o->(b∈(X.env::X.outer).filterMap (·.frame)↔b∈OZ X.outer):=fun b o z=>by
  rw[List.filterMap_cons_some D.fr,List.mem_cons]
  exact⟨fun h=>h.elim (fun q=>absurd q (nL b o z)) fun q=>q,.inr⟩
 have nex:∀b:Addr,b∉X.ex:=fun b z=>by rw[D.ex] at z;simp at z
 refine⟨fun b o z n hb _=>?_,fun b o z n hb _=>?_,fun b o z n _=>ub.free b o z n (nex b),fun b o z _=>?_,ub.tups,ub.frzs,ub.tbls⟩
 ·exact ef.keep b o (ub.keep b o z n hb (nex b)) (lt b o z) (fun q=>hb ((mem b o z).mp q))
 ·obtain⟨sl,z1⟩:=ub.slot b o z n hb (nex b)
  obtain⟨sl2,z2⟩:=ef.slot b _ z1 (lt b o z) ((mem b o z).mpr hb)
  exact⟨sl2,z2⟩
 ·obtain⟨o1,z1⟩:=ub.there b o z (nex b)
  exact ef.there b o1 z1
theorem Cr(D:HD X E)(I:Inv X pins σ H s)(x:HA s.heap e cls dd)(he:X.s₀.heap.get? e=none)(hH:H e=none)(q:E cls dd H):X.xe (.ref e) s:=by
 rw[D.xe];have hst:=I.stack;rw[D.stk] at hst;have hfr:=I.ok.frames;rw[D.stk] at hfr
 refine HC hfr hst D.fr x fun h' T hT x' ef=>?_
 exact PJ D I (Heap.get?_none_of_le (Nat.le_trans I.sz hT)) he hH (I.hok.fresh hT) (fun b hb=>by rw[List.mem_singleton.mp hb];exact⟨hH,he⟩) x' ef q
theorem Kq{P:Program}{w:World}{K:PySem.W.Frag}{mg:Str->Option Value}{base:Heap}{N:List Str}{qual:Str}{scope:Scope}{f:Addr}{cd:Value}{A:Around}{outer:List Env}{s:Shared}{H:Hp}{E:XK} :
  HD (Tv (E3 P w) P w K mg base N qual scope f cd A outer s H E) E:=⟨rfl,rfl,rfl,rfl⟩
end
end VX
namespace PySem
open Sem (wp)
section
variable {prog:Program} {w:World} {A:Around} {E:Value->Shared->Prop} {h:Heap} {g:Array GenState} {d:Drawn} {t:Nat} {os:OsState}
variable {nm q:Str} {C N:Addr} {bs bm bmB:List Value} {hdct:Bool} {sn:List Str} {sub:List Value} {ab:Bool} {col:Option Bool} {dd:Option Addr} {k0 k1 k2 k3 k5:Option Value} {B newId initId:String}
theorem WT(F:ExcBaseFacts B newId initId bmB)(T:OwnTail h bmB bm){mN:Str->Option Value}{rest:List Value}{fI:Addr}{oI:Obj}{Q:Fin->Shared->Prop}
  (hC:h.get? C=some (excClassObj nm q C N bs bm hdct sn sub ab col dd k0 k1 k2 k3 k5 newId)) (hn:h.Ns N mN) (hi:mN "__init__" = some (.ref fI))
  (hfI:h.get? fI=some oI) (hfc:oI.cls = .type "function")
  (hq:∀h',(∀b o,h.get? b=some o->h'.get? b=some o)->h'.get? (h.objs.size+1)=some { cls:=.ref C,data:=.fields #[.ref h.objs.size,.none,.none,.none,.bool false,.none] }->
   wpAny (model prog w) A (call (.ref fI) (.ref (h.objs.size+1)::rest)) (fun r s'=>r = .none/\Q (.done (.ret (.ref (h.objs.size+1)))) s') E ⟨h',g,d,t,os⟩) (hrest:rest.length<=sizeLine:=by size_fits) :
  wpAny (model prog w) A (Builtin.«type.__call__» ⟨.ref C::rest,[]⟩) Q E ⟨h,g,d,t,os⟩:=by
 repeat (first | with_reducible refine wpAny_loadPart_at hC ?_ | with_reducible refine wpAny_madeBy_exc hC ?_ | wp_step)
 refine codeAny_call_builtin_code (Code.quiet_builtin _ F.quiet) (wpAny_check_new_subT F T hC ?_)
 refine codeAny_exc_new_subT F T hC ?_ hrest
 show wpAny _ _ _ _ _ _
 have hC₁:=Heap.get?_push_of_some { cls:=.ref C,data:=.fields #[.ref h.objs.size,.none,.none,.none,.bool false,.none] }
  (Heap.get?_push_of_some { cls:=.type "tuple",data:=.seq rest.toArray } hC)
 have hfI₁:=Heap.get?_push_of_some { cls:=.ref C,data:=.fields #[.ref h.objs.size,.none,.none,.none,.bool false,.none] }
  (Heap.get?_push_of_some { cls:=.type "tuple",data:=.seq rest.toArray } hfI)
 have hn₁:((h.push { cls:=.type "tuple",data:=.seq rest.toArray }).push { cls:=.ref C,data:=.fields #[.ref h.objs.size,.none,.none,.none,.bool false,.none] }).Ns N mN:=
  let⟨o,es,ep,e,r⟩:=hn;⟨o,es,ep,Heap.get?_push_of_some _ (Heap.get?_push_of_some _ e),r⟩
 have hget:((h.push { cls:=.type "tuple",data:=.seq rest.toArray }).push
   { cls:=.ref C,data:=.fields #[.ref h.objs.size,.none,.none,.none,.bool false,.none] }).get? (h.objs.size+1)=some
   { cls:=.ref C,data:=.fields #[.ref h.objs.size,.none,.none,.none,.bool false,.none] }:=by heap_get
 have hcC:(Value.ref C::bm).contains (.ref C)=true:=by simp
 have T₁:=T.keeps (h':=(h.push { cls:=.type "tuple",data:=.seq rest.toArray }).push { cls:=.ref C,data:=.fields #[.ref h.objs.size,.none,.none,.none,.bool false,.none] })
  fun b o e=>Heap.get?_push_of_some _ (Heap.get?_push_of_some _ e)
 unfold isInstance
 repeat (first | with_reducible refine wpAny_loadPart_at hget ?_ | (with_reducible refine wpAny_isSubtype_exc hC₁ ?_;rw[hcC]) | wp_step)
 show wpAny _ _ (typeLookup (.ref C) _) _ _ _
 refine wpAny_typeLookup_tail hC₁ hn₁ T₁ F.mroIs F.init.lookup ?_
 rw[hi]
 refine wpAny_holding (wpAny_bind ?_)
 unfold bindSpecial
 refine wpAny_bind (wpAny_typeOf (T:="function") ⟨_,hfI₁,hfc⟩ ?_)
 rw[if_pos (by decide)]
 refine wpAny_pure (wpAny_bind (wpAny_mono (hq _ (fun b o hb=>Heap.get?_push_of_some _ (Heap.get?_push_of_some _ hb)) hget) (fun r s' hr=>?_) fun _ _ x=>x))
 obtain⟨rfl,hQ⟩:=hr
 wp_walk
 exact hQ
theorem Ux(F:ExcBaseFacts B newId initId bmB)(T:OwnTail h bmB bm){mN:Str->Option Value}{rest:List Value}{fI:Addr}{oI:Obj}{Q:Value->Shared->Prop}
  (hC:h.get? C=some (excClassObj nm q C N bs bm hdct sn sub ab col dd k0 k1 k2 k3 k5 newId)) (hn:h.Ns N mN) (hi:mN "__init__" = some (.ref fI))
  (hfI:h.get? fI=some oI) (hfc:oI.cls = .type "function")
  (hq:∀h',(∀b o,h.get? b=some o->h'.get? b=some o)->h'.get? (h.objs.size+1)=some { cls:=.ref C,data:=.fields #[.ref h.objs.size,.none,.none,.none,.bool false,.none] }->
   wpAny (model prog w) (A.under (.builtin "type.__call__" ⟨.ref C::rest,[]⟩)) (call (.ref fI) (.ref (h.objs.size+1)::rest)) (fun r s'=>r = .none/\Q (.ref (h.objs.size+1)) s') E ⟨h',g,d,t,os⟩) (hrest:rest.length<=sizeLine:=by size_fits) :
  wpAny (model prog w) A (call (.ref C) rest) Q E ⟨h,g,d,t,os⟩:=by
 have f1:=tc_lookup
 have f2:=tc_bind (.ref C)
 have hT:(⟨h,g,d,t,os⟩:Shared).TypeIs (.ref C) "type":=⟨_,hC,rfl⟩
 refine wpAny_call (codeAny_of_tree ?_)
 show wpAny _ _ (callAny (.ref C) _) _ _ _
 repeat (any_goals (first | assumption | with_reducible refine wpAny_loadPart_at hC ?_ | wp_step))
 refine⟨rfl,?_⟩
 refine codeAny_call_builtin_at (Code.quiet_builtin _ (by decide +kernel)) entry_typeCall (wpAny_check_type_call_sub hC (WT (hrest:=hrest) F T hC hn hi hfI hfc fun h' k1' k2'=>?_))
 exact hq h' k1' k2'
end
section
variable {M:Model} {A:Around} {E:Value->Shared->Prop} {env:Env}
variable {nm q:Str} {C N:Addr} {bs bm bmB:List Value} {hdct:Bool} {sn:List Str} {sub:List Value} {ab:Bool} {col:Option Bool} {dd:Option Addr} {k0 k1 k2 k3 k5:Option Value} {B newId initId:String}
theorem WU{s:Shared}{x:Sem Value}{Q:Flow->Shared->Prop}(hbase:bm.contains (.type "BaseException")=true)(hh:A.handled=none)
  (h:wpAny M A x (fun v s₁=>∃e t dx,v = .ref e/\s₁.heap.get? C=some (excClassObj nm q C N bs bm hdct sn sub ab col dd k0 k1 k2 k3 k5 newId)/\
   s₁.heap.get? e=some { cls:=.ref C,dict:=dx,data:=.fields #[.ref t,.none,.none,.none,.bool false,.none] }/\E (.ref e) s₁) E s) :
  wpAny M A (raiseStmt env (some x) none) Q E s:=by
 have hcB:(Value.ref C::bm).contains (.type "BaseException")=true:=by rw[List.contains_cons,hbase,Bool.or_true]
 unfold raiseStmt
 refine wpAny_bind (wpAny_mono h (fun v s₁ h₁=>?_) fun _ _ x=>x)
 obtain⟨e,t,dx,rfl,hC,he,hE⟩:=h₁
 obtain⟨hp,g,d,tk,os⟩:=s₁
 repeat (first | with_reducible refine wpAny_loadPart_at he ?_ | with_reducible refine wpAny_loadPart_at hC ?_ | (with_reducible refine wpAny_isSubtype_exc hC ?_;rw[hcB]) | wp_step)
 exact wpAny_raiseNew_none hh hE
end
section
variable {prog:Program} {w:World} {A:Around} {E:Value->Shared->Prop} {s:Shared} {env:Env}
variable {nm q:Str} {C N:Addr} {bs bm bmB:List Value} {hdct:Bool} {sn:List Str} {sub:List Value} {ab:Bool} {col:Option Bool} {dd:Option Addr} {k0 k1 k2 k3 k5:Option Value} {B newId initId:String}
theorem VU(F:ExcBaseFacts B newId initId bmB){mN:Str->Option Value}{x:Str}{np cpos pos:Pos}{args:List Expr}{Q:Flow->Shared->Prop}{fI:Addr}{oI:Obj}
  (hbase:bm.contains (.type "BaseException")=true) (hh:A.handled=none) (hplain:(backTo cpos (starEach args env)).any (·.1)=false) (hi:mN "__init__" = some (.ref fI)) (hfc:oI.cls = .type "function")
  (h:wpAny (model prog w) A (eval (.Name x np) env) (fun f s₁=>f = .ref C/\wpAny (model prog w) A (evalArgs (.ref C) true (backTo cpos (starEach args env)) [])
   (fun a s₂=>a.kw=[]/\a.pos.length<=sizeLine/\s₂.heap.get? C=some (excClassObj nm q C N bs bm hdct sn sub ab col dd k0 k1 k2 k3 k5 newId)/\s₂.heap.Ns N mN/\OwnTail s₂.heap bmB bm/\s₂.heap.get? fI=some oI/\
    ∀h',(∀b o,s₂.heap.get? b=some o->h'.get? b=some o)->h'.get? (s₂.heap.objs.size+1)=some { cls:=.ref C,data:=.fields #[.ref s₂.heap.objs.size,.none,.none,.none,.bool false,.none] }->
     wpAny (model prog w) (A.under (.builtin "type.__call__" ⟨.ref C::a.pos,[]⟩)) (call (.ref fI) (.ref (s₂.heap.objs.size+1)::a.pos)) (fun r s₃=>r = .none/\∃t dx,s₃.heap.get? C=some (excClassObj nm q C N bs bm hdct sn sub ab col dd k0 k1 k2 k3 k5 newId)/\
      s₃.heap.get? (s₂.heap.objs.size+1)=some { cls:=.ref C,dict:=dx,data:=.fields #[.ref t,.none,.none,.none,.bool false,.none] }/\E (.ref (s₂.heap.objs.size+1)) s₃) E { s₂ with heap:=h' }) E s₁) E s) :
  wpAny (model prog w) A (exec (.Raise (some (.Call (.Name x np) args [] cpos)) none pos) env) Q E s:=by
 rw[arm_exec_Raise]
 refine wpAny_bind (wpAny_standAt (WU (C:=C) (nm:=nm) (q:=q) (N:=N) (bs:=bs) (bm:=bm) (hdct:=hdct) (sn:=sn) (sub:=sub) (ab:=ab) (col:=col) (dd:=dd) (k0:=k0) (k1:=k1) (k2:=k2) (k3:=k3) (k5:=k5) (newId:=newId) hbase hh ?_))
 refine wpAny_bind (wpAny_mono (wpAny_Call_ofName (wpAny_mono h (fun f s₁ h₁=>?_) fun _ _ x=>x)) (fun v s₃ h₃=>wpAny_bind (wpAny_standAt (wpAny_pure h₃))) fun _ _ x=>x)
 obtain⟨rfl,h₁⟩:=h₁
 unfold callWith
 refine wpAny_bind (wpAny_holding (wpAny_mono h₁ (fun a s₂ h₂=>wpAny_bind (wpAny_standAt ?_)) fun _ _ x=>x))
 obtain⟨apos,akw⟩:=a
 obtain⟨hkw,hlen,hC,hn,T,hfI,h₂⟩:=h₂
 obtain rfl:akw=[]:=hkw
 obtain⟨hp,g,d,tk,os⟩:=s₂
 simp only[hplain]
 refine wpAny_bind (wpAny_keeperOf_exc hC ?_)
 refine wpAny_bind (Ux (hrest:=hlen) F T hC hn hi hfI hfc fun h' k1' k2'=>wpAny_mono (h₂ h' k1' k2') (fun r s' hr=>⟨hr.1,wpAny_bind (wpAny_holding (wpAny_point (wpAny_pure ?_)))⟩) fun _ _ x=>x)
 obtain⟨_,t,dx,a1,a2,a3⟩:=hr
 exact⟨_,t,dx,rfl,a1,a2,a3⟩
end
end PySem
namespace VX
open PySem PySem.W PySem.Spec PyProof.Rows Builtin Builtin.ObjectAttr
def M5:List Value:=[.type "ValueError",.type "Exception",.type "BaseException",.type "object"]
def M6:List Value->Bool
 | .ref _::r=>M6 r
 | l=>l==M5
def veOver(K:Frag)(C:Addr):Bool:=(clsIn K C).any fun cd=>M6 cd.mro
theorem FY{l:List Value}(h:M6 l=true):(∀self,refuseLoop self "__setattr__" l=pure ())/\l.contains (.type "object")=true/\l.isEmpty=false:=by
 induction l with
 | nil=>exact absurd h (by decide)
 | cons x r ih=>
  by_cases q:∃c,x = .ref c
  ·obtain⟨c,rfl⟩:=q
   have:=ih h
   exact⟨fun self=>by rw[refuseLoop_ref];exact this.1 self,by rw[List.contains_cons,this.2.1,Bool.or_true],rfl⟩
  ·have e:x::r=M5:=by
    have h':(x::r==M5)=true:=by
     cases x<;>first | exact h | exact absurd ⟨_,rfl⟩ q
    exact eq_of_beq h'
   rw[e]
   exact⟨fun self=>PySem.F.store_ValueError.passes self,by decide,rfl⟩
section
variable {prog:Program} {w:World} {A:Around} {R:Result->Shared->Prop} {E:Value->Shared->Prop} {s:Shared} {K:Frag} {x C:Addr} {ox:Obj} {name:Str} {tk:Tok} {v:Value}
theorem Jz{od:Option Obj}(X:K.In s.heap)(I:InstAt s.heap x ox C od)(hp:veOver K C=true)(ht:takerIn K C name=some none)
  (h:∀b,wpAny (model prog w) A.in1 (storeInOwnDict (.ref x) (.ref C) (.str name tk) name v b)
   (fun fin s'=>match fin with | .done f=>R (.ok f) s' | .again c'=>c'.quiet=true/\codeAny (model prog w) A c' R s') (fun e s'=>R (.error e) s') s) :
  codeAny (model prog w) A (.call (.builtin "object.__setattr__") ⟨[.ref x,.str name tk,v],[]⟩) R s:=by
 have SF:=PySem.F.store_object
 obtain⟨cd,hc,ho⟩:=any_some hp
 obtain⟨o1,o2,o3⟩:=FY ho
 have sub:Looks (model prog w) s.heap (isInstance (.ref x) (.type "object")) true:=I.type.andThen (looks_mroIn X (by unfold mroIn;rw[hc,Option.bind_some,if_neg (by rw[o3];decide),o2]))
 refine codeAny_call_builtin SF.slot.plain SF.entry (@check_slot (model prog w) _ _ s "object.__setattr__" "object" "__setattr__" (.ref x) [.str name tk,v] [] _ SF.kind SF.split sub (SF.args (.ref x) (.str name tk) v) ?_)
 obtain⟨attr,ha,hr⟩:=Option.bind_eq_some_iff.mp ht
 have hm:Looks (model prog w) s.heap (mroOf (.ref C)) cd.mro:=(looks_clsIn X hc).andThen .now
 have L3:Looks (model prog w) s.heap (storeTaker? attr) none:=by
  cases attr with
  | none=>exact .now
  | some a=>
   obtain⟨b,hb,hz⟩:=Option.map_eq_some_iff.mp hr
   refine(looks_takesIn X hb).andThen ?_
   cases b with
   | false=>exact .now
   | true=>cases hz
 rw[osa_eq,refuse_eq]
 refine wpAny_bind (wpAny_bind (I.type.here (wpAny_bind (hm.here ?_))))
 rw[o1]
 refine wpAny_pure (wpAny_bind (I.type.here (wpAny_bind ((looks_findIn X ha).here (wpAny_bind (L3.here ?_))))))
 exact h _
theorem JA{Q:Unit->Shared->Prop}(X:K.In s.heap)(hx:s.heap.get? x=some ox)(hcl:ox.cls = .ref C)(hno:notCls ox=true)(hd:ox.dict=none)(hs:findIn K (.ref C) "__setattr__" = some (some (.builtin "object.__setattr__")))
  (hp:veOver K C=true) (ht:takerIn K C name=some none) (hh:(clsIn K C).any (·.hasDict)=true)
  (hq:∀h' tk' dx,(∀b o,b≠x->s.heap.get? b=some o->h'.get? b=some o)->h'.get? x=some { ox with dict:=some dx }->s.heap.objs.size<=dx->dx≠x->h'.Ns1 dx (fun y=>if y=name then some v else none)->Q () { s with heap:=h',toks:=tk' }) :
  wpAny (model prog w) A (setAttr (.ref x) name v) Q E s:=by
 have I:InstAt s.heap x ox C none:=⟨hx,hcl,hno,by rw[hd];trivial⟩
 refine set_plain X I hs ?_
 have X':K.In (({ s with toks:=s.toks+1 }:Shared)).heap:=X
 refine Jz (s:={ s with toks:=s.toks+1 }) (od:=none) X' I hp ht fun b=>?_
 obtain⟨cd,hc,hdd⟩:=any_some hh
 obtain⟨hp',g,d,t,os⟩:=s
 obtain⟨oc,odi,oda,osl⟩:=ox
 dsimp only at hcl hd hx
 subst hcl hd
 have nc:∀c,oda≠.cls c:=fun c z=>by subst z;simp[notCls] at hno
 have hxs:x≠hp'.objs.size:=Nat.ne_of_lt (Heap.lt_size hx)
 have hx₁:(hp'.push { cls:=.type "dict",data:=.dict #[] }).get? x=some ⟨.ref C,none,oda,osl⟩:=Heap.get?_push_of_some _ hx
 refine wpAny_bind (wpAny_pure (wpAny_bind (wpAny_bind (wpAny_loadPart hx (wpAny_bind ((looks_clsIn X hc) _ _ _ _ (fun _ _ e=>e) ?_))))))
 rw[hdd]
 dsimp only
 rw[if_neg (by decide),if_neg (by simp[typeHasDict])]
 split
 ·rename_i hcd
  exact absurd rfl (nc _)
 refine wpAny_bind (wpAny_alloc' ?_)
 refine wpAny_bind (wpAny_update' hx₁ ?_)
 refine wpAny_pure ?_
 have hgd:((hp'.push { cls:=.type "dict",data:=.dict #[] }).update x fun o=>{ cls:=o.cls,dict:=some hp'.objs.size,data:=o.data,slots:=o.slots }).get? hp'.objs.size
   = some { cls:=.type "dict",data:=.dict #[] }:=
  (Heap.get?_update_ne _ _ _ _ hxs.symm).trans (Heap.get?_push_at rfl rfl)
 have hnd:((hp'.push { cls:=.type "dict",data:=.dict #[] }).update x fun o=>{ cls:=o.cls,dict:=some hp'.objs.size,data:=o.data,slots:=o.slots }).Ns hp'.objs.size (fun _=>none):=
  ⟨_,#[],_,hgd,rfl,fun e he=>absurd he (by simp),fun _=>rfl⟩
 show wpAny _ _ (storeInDict hp'.objs.size (.str name t) name v) _ _ _
 unfold storeInDict newKeyGuard
 refine wpAny_bind (wpAny_pure (wpAny_bind (wpAny_nsSet1 (Heap.Ns1.of_empty hnd) fun h' hn' hs'=>?_)))
 obtain⟨oD,esD,epD,hoD,hdD,hcD⟩:=hn'.count (Within.cons name v Within.nil)
 refine wpAny_bind (wpAny_lookBehind hoD (by rw[hdD];exact pastItsLine_dict (Nat.le_trans hcD (by rw[List.length_cons,List.length_nil,sizeLine_eq];omega))) ?_)
 refine wpAny_pure ?_
 have hx':h'.get? x=some { cls:=.ref C,dict:=some hp'.objs.size,data:=oda,slots:=osl }:=?_
 ·exact hq h' _ hp'.objs.size (fun b ob hbx hb=>(hs'.2 b (Nat.ne_of_lt (Heap.lt_size hb))).trans ((Heap.get?_update_ne _ _ _ _ hbx).trans (Heap.get?_push_of_some _ hb))) hx' (Nat.le_refl _) hxs.symm hn'
 ·refine(hs'.2 x hxs).trans (Heap.get?_update_self _ hx₁ ?_)
  have hfr:=(Heap.get?_some_iff.mp hx).2
  cases oda<;>first | rfl | exact hfr
end
section
variable {prog:Program} {w:World} {A:Around} {E:Value->Shared->Prop} {h:Heap} {g:Array GenState} {d:Drawn} {t:Nat} {os:OsState}
variable {nm q:Str} {C N:Addr} {bs bm bmB:List Value} {hdct:Bool} {sn:List Str} {sub:List Value} {ab:Bool} {col:Option Bool} {dd:Option Addr} {k0 k1 k2 k3 k5:Option Value} {B newId initId:String}
abbrev Kr(C:Addr)(t:Addr):Obj:={ cls:=.ref C,data:=.fields #[.ref t,.none,.none,.none,.bool false,.none] }
theorem JB{e t0:Addr}{v:Value}{Q:Value->Shared->Prop}(F:ExcBaseFacts B newId initId bmB)(T:OwnTail h bmB bm)(hC:h.get? C=some (excClassObj nm q C N bs bm hdct sn sub ab col dd k0 k1 k2 k3 k5 newId))
  (he:h.get? e=some (Kr C t0)) (hq:∀h',(∀b o,b≠e->h.get? b=some o->h'.get? b=some o)->h'.get? e=some (Kr C h.objs.size)->h'.get? h.objs.size=some { cls:=.type "tuple",data:=.seq #[v] }->Q .none ⟨h',g,d,t,os⟩) :
  wpAny (model prog w) A (call (.builtin initId) [.ref e,v]) Q E ⟨h,g,d,t,os⟩:=by
 refine wpAny_call (codeAny_call_builtin F.init.plain F.initEntry (wpAny_check_init_subT F T hC he rfl ?_))
 wp_walk
 have hne:e≠h.objs.size:=Nat.ne_of_lt (Heap.lt_size he)
 refine hq _ (fun b o hb q=>?_) ?_ ?_
 ·rw[Heap.get?_update_other _ _ hb.symm]
  exact Heap.get?_push_of_some _ q
 ·rw[Heap.get?_update_self _ (Heap.get?_push_of_some _ he) rfl]
  rfl
 ·rw[Heap.get?_update_other _ _ hne]
  exact Heap.get?_push_at rfl rfl
end
end VX
namespace VX
open PySem PySem.Spec PyProof.Rows L2
theorem JC(is:List Int):PyData.shownAll (is.map PyData.int)=is.map fun i=>Str.ofString (toString i):=by
 induction is with
 | nil=>rfl
 | cons i r ih=>rw[List.map_cons,PyData.shownAll,ih];rfl
theorem OG{is:List Int}(h:∀i∈is,i.natAbs.log2<1920):PyData.showableAll (is.map PyData.int)=true:=by
 induction is with
 | nil=>rfl
 | cons i r ih=>
  rw[List.map_cons,PyData.showableAll,ih fun j hj=>h j (by simp[hj])]
  simp[PyData.showable,h i (by simp)]
theorem M7(is:List Int):PyData.hasDictAll (is.map PyData.int)=false:=by
 induction is with
 | nil=>rfl
 | cons i r ih=>rw[List.map_cons,PyData.hasDictAll,ih];rfl
theorem PK{h:Heap}:∀{is:List Int}{us:List Value},Vals (is.map V.int) us->ReadsAll h us (is.map PyData.int) []
 | [],_,.nil=>.nil
 | i::r,_,.cons h1 h2=>by
  obtain⟨t,rfl⟩:=h1
  exact ReadsAll.cons (as:=[]) (bs:=[]) (.int i t) (PK h2)
theorem JD(is:List Int):PyData.depthAll (is.map PyData.int)<=1:=by
 induction is with
 | nil=>decide
 | cons i r ih=>
  rw[List.map_cons,PyData.depthAll];simp[PyData.depth];omega
end VX
namespace VX
open PySem PySem.Spec PyProof.Rows L2 VL
abbrev XR:=ZP->Option Str
def tFX(K:PySem.W.Frag)(O:List Nat)(fx:XR)(E:XK):TS:=fun _ σ H=>∃H0 fps s n,Rel K O H0 fps s σ H/\fx s=some n/\∀C H',PySem.W.nsIn K mainGlobals n=some (some (.ref C))->Same H0 H'->E (.ref C) none H'
def VX(X:Cx)(O:List Nat)(E:XK)(st:Stmt)(fx:XR):Prop:=PS X st (tFX X.K O fx E)
section
variable {X:Cx} {O W:List Nat} {E:XK} {C:Addr} {bmB:List Value} {B newId initId:String} {x y:Str} {np cpos pos p1 p2 p3:Pos} {jj k:Nat} {e:Expr} {f:XE}
variable {st:Stmt} {rest a b:List Stmt} {c:Expr} {fc:XT} {f1 g1:XR} {fs:XS}
theorem JE{t:TS}(h1:PS X st t)(hx:∀D D' σ H,t D σ H->t D' σ H):PSs X (st::rest) (fun _ σ H=>t { nx:=fun _ _=>False,rt:=fun _ _=>False } σ H):=by
 intro pins s σ H D I h
 refine wpAny_execs_cons (YI (h1 pins s σ H { nx:=fun _ _=>False,rt:=fun _ _=>False } I h) fun f s1 q=>?_)
 cases f with
 | next=>obtain⟨_,_,_,z⟩:=q;exact z.elim
 | ret u=>obtain⟨_,_,_,_,_,z⟩:=q;exact z.elim
 | brk=>obtain⟨_,_,_,z⟩:=q;exact z.elim
 | cont=>obtain⟨_,_,_,z⟩:=q;exact z.elim
end
structure CalX(P:Program)(w:World)(K:PySem.W.Frag)(mg:Str->Option Value)(base:Heap)(x:Str)(ps:List Str)(sp:Sp)(k:Nat):Prop where
 ex:∃f fd,mg x=some (.ref f)/\PySem.W.keepIn K (.ref f)=true/\Binds K fd ps []/\Ue P w K mg base (E3 P w) k f fd ps sp
section
variable {X:Cx} {pins:List (Addr×Obj)} {σ:L2.St} {H:Hp} {s:Shared}
theorem JF{A:Around}{E:Value->Shared->Prop}{i:Nat}{n:Str}{pos:Pos}{Q:Unit->Shared->Prop}(I:Inv X pins σ H s)(hN:X.N.Nodup)(hi:X.N[i]?=some n)(hk:X.env.scope.names.lookup n=some .local)
  (h:∀s',Inv X pins (σ.set i none) H s'->Q () s'):wpAny (model X.prog X.w) A (do bindName X.env n .none;unbindBehindTheSuite X.env n pos) Q E s:=by
 refine wpAny_bind (wpAny_bindName (Uc I hN hi (.inl hk) (v:=.non) (u:=Value.none) rfl (fun s1 I1=>?_) (.inr hk)))
 unfold unbindBehindTheSuite
 refine wpAny_onRaise ?_
 have hcls:(X.env.scope.kind==.class || (X.env.scope.kind==.module&&X.env.locals != X.env.globals))=false:=by rw[I.ok.kind];rfl
 have hiσ:i<σ.length:=by rw[I.len];exact(List.getElem?_eq_some_iff.mp hi).1
 obtain⟨m,hn,hl⟩:=id I1.loc
 obtain⟨u,ru,lk⟩:=hl i n .non hi (by rw[List.getElem?_set_self hiσ]) (.inl hk)
 have hkl:X.env.kindOf n=some .local:=hk
 have hv:m n=some u:=by
  rcases lk with⟨_,z⟩ | ⟨z,_⟩
  ·exact z
  ·rw[hkl] at z;rcases z with z | z<;>cases z
 have cne:=I1.cne
 refine wpAny_unbindName_local hkl hn hv hcls fun h' u' hn' hs=>h _ ?_
 obtain⟨oL,_,_,hoL,_⟩:=id hn
 refine⟨I1.ok,I1.os,I1.bare,⟨fun b o e n hb hx=>?_,fun b o e n hb hx=>?_,I1.base.free,fun b o e hx=>?_,I1.base.tups,I1.base.frzs,I1.base.tbls⟩,⟨_,hn',fun j y v' e1 e2 e3=>?_⟩,fun y c e=>?_,I1.free,I1.freeC,fun p hp=>?_,fun b ob e=>?_,by have:=I1.len;simpa using this⟩
 ·exact(hs.2 b (Nat.ne_of_lt (Nat.lt_of_lt_of_le (Heap.lt_size e) I1.ok.above))).trans (I1.base.keep b o e n hb hx)
 ·obtain⟨sl,e1⟩:=I1.base.slot b o e n hb hx
  exact⟨sl,(hs.2 b (Nat.ne_of_lt (Nat.lt_of_lt_of_le (Heap.lt_size e) I1.ok.above))).trans e1⟩
 ·obtain⟨o',e1⟩:=I1.base.there b o e hx
  exact⟨o',(hs.2 b (Nat.ne_of_lt (Nat.lt_of_lt_of_le (Heap.lt_size e) I1.ok.above))).trans e1⟩
 ·by_cases hj:j=i
  ·subst hj
   rw[List.getElem?_set_self hiσ] at e2;cases e2
  ·have e2':(σ.set i (some V.non))[j]?=some (some v'):=by rw[List.getElem?_set_ne (Ne.symm hj)] at e2 ⊢;exact e2
   obtain⟨u2,r2,q⟩:=hl j y v' e1 e2' e3
   refine⟨u2,r2,?_⟩
   rcases q with⟨k,e⟩ | ⟨k,c,e,z⟩
   ·refine .inl ⟨k,?_⟩
    have:y≠n:=fun e=>hj (RJ hN e1 (e▸hi))
    simp[this,e]
   ·exact .inr ⟨k,c,e,z.sameBut hs (cne y c e)⟩
 ·obtain⟨w',z⟩:=I1.cell y c e
  exact⟨w',z.sameBut hs (cne y c e)⟩
 ·obtain⟨e,n,ne,nf,d⟩:=I1.pin p hp
  exact⟨(hs.2 p.1 ne).trans e,n,ne,nf,d⟩
 ·refine(I1.hok b ob e).stay (fun c w' hc q=>(hs.2 c ?_).trans q) (fun _ q=>q) fun _ _ q=>q
  rintro rfl
  have hf:=I1.free
  rcases hc with rfl | hc
  ·rw[hf] at e;cases e
  ·rw[hf] at hc;cases hc
abbrev Cx.mark(X:Cx)(e:Addr):Cx:={ X with A:=X.A.mark (some (.ref e)),calm:=false,xe:=fun _ _=>False }
theorem NP{e:Addr}(I:Inv X pins σ H s):Inv (Cx.mark X e) pins σ H s:=
 ⟨⟨I.ok.mod,I.ok.kind,I.ok.glob,I.ok.blt,I.ok.above,I.ok.inj,I.ok.has,I.ok.cab,(fun z=>by cases z),I.ok.frames,I.ok.stk,I.ok.exf,I.ok.bs,I.ok.bsz,I.ok.noex,I.ok.exfs,I.ok.funs,I.ok.frf⟩,I.os,I.bare,I.base,I.loc,I.cell,I.free,I.freeC,I.pin,I.hok,I.len⟩
theorem M8{e:Addr}(ok:X.Ok)(I:Inv (Cx.mark X e) pins σ H s):Inv X pins σ H s:=
 ⟨ok,I.os,I.bare,I.base,I.loc,I.cell,I.free,I.freeC,I.pin,I.hok,I.len⟩
def E4(X:Cx)(pins:List (Addr×Obj))(b:Addr):Prop:=X.s₀.heap.get? b=none/\b≠X.env.locals/\(∀x c,X.env.cells.lookup x=some c->c≠b)/\∀p∈X.pn++pins,p.1≠b
theorem SS{b:Addr}(I:Inv X pins σ H s)(hx:X.ex=[])(h:s.heap.get? b=none):E4 X pins b:=by
 refine⟨?_,fun z=>?_,fun x c hc z=>?_,fun p hp z=>?_⟩
 ·cases r:X.s₀.heap.get? b with
  | none=>rfl
  | some o=>
   obtain⟨o',r'⟩:=I.base.there b o r (by rw[hx];simp)
   rw[h] at r';cases r'
 ·obtain⟨m,⟨o,_,_,ho,_⟩,_⟩:=I.loc
  rw[z,ho] at h;cases h
 ·obtain⟨v,o,ho,_⟩:=I.cell x c hc
  rw[z] at ho;rw[ho] at h;cases h
 ·have:=(I.pin p hp).1
  rw[z] at this;rw[this] at h;cases h
theorem OH{ch:List Addr}{h':Heap}(I:Inv X pins σ H s)(hx:X.ex=[])(hfr:X.env.frame=some X.env.locals)(ef:Eff ((X.env::X.outer).filterMap (·.frame)) ch s.heap h')(hc:∀b∈ch,H b=none/\E4 X pins b)(hst:X.stack=X.env::X.outer):Inv X pins σ H { s with heap:=h' }:=by
 have hf:∀b∈(X.env::X.outer).filterMap (·.frame),H b=none:=fun b hb=>by
  have:=I.stkFree b
  rw[hst] at this
  exact this hb
 have lt:∀b o,X.s₀.heap.get? b=some o->b∉ch:=fun b o z hb=>by rw[(hc b hb).2.1] at z;cases z
 have nL:∀b o,X.s₀.heap.get? b=some o->b≠X.env.locals:=fun b o z hb=>by
  subst hb
  exact Nat.lt_irrefl _ (Nat.lt_of_lt_of_le (Heap.lt_size z) I.ok.above)
 have mem:∀b,b≠X.env.locals->(b∈(X.env::X.outer).filterMap (·.frame)↔b∈X.fs):=fun b z=>by
  rw[List.filterMap_cons_some hfr,List.mem_cons]
  exact⟨fun h=>h.elim (fun q=>absurd q z) fun q=>q,.inr⟩
 have any:∀b o,s.heap.get? b=some o->b∉ch->∃sl,h'.get? b=some { o with slots:=sl }:=fun b o q hb=>by
  by_cases z:b∈(X.env::X.outer).filterMap (·.frame)
  ·exact ef.slot b o q hb z
  ·exact⟨o.slots,ef.keep b o q hb z⟩
 obtain⟨m,⟨oL,es,ep,hoL,rL⟩,hl⟩:=id I.loc
 have nLc:X.env.locals∉ch:=fun z=>(hc _ z).2.2.1 rfl
 obtain⟨slL,hL⟩:=any _ _ hoL nLc
 have cellK:∀c v,(∀b∈ch,c≠b)->s.heap.IsCell c v->h'.IsCell c v:=fun c v hne ⟨o,ho,hd⟩=>by
  obtain⟨sl,q⟩:=any c o ho fun z=>hne c z rfl
  exact⟨_,q,hd⟩
 have cne:∀x c,X.env.cells.lookup x=some c->∀b∈ch,c≠b:=fun x c q b hb=>(hc b hb).2.2.2.1 x c q
 refine⟨I.ok,I.os,I.bare,⟨fun b o e n hb hx'=>?_,fun b o e n hb hx'=>?_,I.base.free,fun b o e hx'=>?_,I.base.tups,I.base.frzs,I.base.tbls⟩,⟨m,⟨_,es,ep,hL,rL⟩,fun j y v' e1 e2 e3=>?_⟩,fun y c e=>?_,I.free,I.freeC,fun p hp=>?_,Kp I.hok ef (fun b hb=>(hc b hb).1) hf,I.len⟩
 ·exact ef.keep b o (I.base.keep b o e n hb hx') (lt b o e) fun z=>hb ((mem b (nL b o e)).mp z)
 ·obtain⟨sl,z1⟩:=I.base.slot b o e n hb hx'
  obtain⟨sl2,z2⟩:=ef.slot b _ z1 (lt b o e) ((mem b (nL b o e)).mpr hb)
  exact⟨sl2,z2⟩
 ·obtain⟨o1,z1⟩:=I.base.there b o e hx'
  exact ef.there b o1 z1
 ·obtain⟨u',r',q⟩:=hl j y v' e1 e2 e3
  refine⟨u',r',?_⟩
  rcases q with q | ⟨k,c,e,z⟩
  ·exact .inl q
  ·exact .inr ⟨k,c,e,cellK c _ (cne y c e) z⟩
 ·obtain⟨w',z⟩:=I.cell y c e
  exact⟨w',cellK c _ (cne y c e) z⟩
 ·obtain⟨e,n,ne,nf,d⟩:=I.pin p hp
  exact⟨ef.keep p.1 p.2 e (fun z=>(hc _ z).2.2.2.2 p hp rfl) (fun z=>nf ((mem p.1 ne).mp z)),n,ne,nf,d⟩
theorem PL{e:Addr}{oe:Obj}(I:Inv X pins σ H s)(he:s.heap.get? e=some oe)(hH:H e=none)(ho:E4 X pins e):Inv X pins σ (upd H e (.frz oe (.own e))) s:=by
 have ne:∀b u,H b=some u->b≠e:=fun b u q z=>by rw[z,hH] at q;cases q
 refine⟨I.ok,I.os,I.bare,⟨I.base.keep,I.base.slot,fun b o q n hx=>?_,I.base.there,fun b xs q=>?_,fun b o u q=>?_,fun b ps q=>?_⟩,I.loc,I.cell,?_,fun x c q=>?_,fun p hp=>?_,fun b u q=>?_,I.len⟩
 ·rw[upd_ne (fun z=>by rw[z,ho.1] at q;cases q)];exact I.base.free b o q n hx
 ·have:=I.base.tups b xs q;rw[upd_ne (ne _ _ this)];exact this
 ·have:=I.base.frzs b o u q;rw[upd_ne (ne _ _ this)];exact this
 ·obtain⟨more,z⟩:=I.base.tbls b ps q
  exact⟨more,by rw[upd_ne (ne _ _ z)];exact z⟩
 ·rw[upd_ne (Ne.symm ho.2.1)];exact I.free
 ·rw[upd_ne (ho.2.2.1 x c q)];exact I.freeC x c q
 ·obtain⟨e1,n,r⟩:=I.pin p hp
  exact⟨e1,by rw[upd_ne (ho.2.2.2 p hp)];exact n,r⟩
 ·by_cases z:b=e
  ·subst z
   rw[upd_same] at q;cases q
   exact⟨he,_,he⟩
  ·rw[upd_ne z] at q
   exact(I.hok b u q).stay (fun _ _ _ r=>r) (fun c r=>by rw[upd_ne (ne _ _ r)];exact r) fun c xs r=>by rw[upd_ne (ne _ _ r)];exact r
end
section
variable {M:Model} {A:Around} {E:Value->Shared->Prop}
variable {nm q nm' q':Str} {C N Cb N':Addr} {bs bm bs' bm':List Value} {hdct hdct':Bool} {sn sn':List Str} {sub sub':List Value} {ab ab':Bool} {col col':Option Bool} {dd dd':Option Addr} {k0 k1 k2 k3 k5 j0 j1 j2 j3 j5:Option Value} {newId newId':String}
theorem NQ{h:Heap}{g:Array GenState}{d:Drawn}{t:Nat}{os:OsState}{e:Addr}{oe:Obj}{Q:Bool->Shared->Prop}
  (hC:h.get? C=some (excClassObj nm q C N bs bm hdct sn sub ab col dd k0 k1 k2 k3 k5 newId)) (hB:h.get? Cb=some (excClassObj nm' q' Cb N' bs' bm' hdct' sn' sub' ab' col' dd' j0 j1 j2 j3 j5 newId')) (he:h.get? e=some oe) (hcls:oe.cls = .ref C) (hbase:bm'.contains (.type "BaseException")=true)
  (hq:Q ((Value.ref C::bm).contains (.ref Cb)) ⟨h,g,d,t,os⟩):wpAny M A (excMatches (.ref e) (.ref Cb)) Q E ⟨h,g,d,t,os⟩:=by
 have hcB:(Value.ref Cb::bm').contains (.type "BaseException")=true:=by rw[List.contains_cons,hbase,Bool.or_true]
 have f:=tc_notTuple;unfold excMatches
 cases hcC:(Value.ref C::bm).contains (.ref Cb) with
 | true=>
  rw[hcC] at hq
  repeat (first | (with_reducible refine wpAny_loadPart_at he ?_;rw[hcls]) | with_reducible refine wpAny_loadPart_at hB ?_ | (with_reducible refine wpAny_isSubtype_exc hB ?_;rw[hcB]) | (with_reducible refine wpAny_isSubtype_exc hC ?_;rw[hcC]) | wp_step)
  exact hq
 | false=>
  rw[hcC] at hq
  repeat (first | (with_reducible refine wpAny_loadPart_at he ?_;rw[hcls]) | with_reducible refine wpAny_loadPart_at hB ?_ | (with_reducible refine wpAny_isSubtype_exc hB ?_;rw[hcB]) | (with_reducible refine wpAny_isSubtype_exc hC ?_;rw[hcC]) | wp_step)
  exact hq
end
def belowIn(K:PySem.W.Frag)(C Cb:Addr):Bool:=match K.lookup C with
 | some ⟨_,_,.cls cd,_⟩=>cd.mro.contains (.ref Cb)
 | _=>false
theorem HE{K:PySem.W.Frag}{h:Heap}{C Cb:Addr}{nm qn:Str}{N:Addr}{bs bm:List Value}{hdct:Bool}{sn:List Str}{sub:List Value}{ab:Bool}{col:Option Bool}{dd:Option Addr}{k0 k1 k2 k3 k5:Option Value}{newId:String}(X:K.In h)(e:belowIn K C Cb=true)
  (hC:h.get? C=some (excClassObj nm qn C N bs bm hdct sn sub ab col dd k0 k1 k2 k3 k5 newId)):(Value.ref C::bm).contains (.ref Cb)=true:=by
 unfold belowIn at e
 split at e
 ·rename_i ho
  have:=X _ _ ho
  rw[hC] at this;cases this;exact e
 ·cases e
section
variable {X:Cx} {pins:List (Addr×Obj)} {σ:L2.St} {H:Hp} {s:Shared} {e T C Cb:Addr} {dd:Option Addr} {cx n:Str} {np pos:Pos} {b₀:Stmt} {suite:List Stmt} {rest:List ExceptHandler} {ts:TS} {D:V9} {i:Nat}
def HF(i:Nat)(D:V9):V9:={ nx:=fun σ H=>D.nx (σ.set i none) H,rt:=D.rt,bk:=fun σ H=>D.bk (σ.set i none) H,ct:=fun σ H=>D.ct (σ.set i none) H }
theorem BS(I:Inv X pins σ H s)(hx:X.ex=[])(hst:X.stack=X.env::X.outer)(hfr:X.env.frame=some X.env.locals)(x:HB s.heap e (.ref C) dd T .none)(hH:H e=none)(hHT:H T=none)(oe:E4 X pins e)(oT:E4 X pins T)
  (hN:X.N.Nodup) (hi:X.N[i]?=some n) (hk:X.env.scope.names.lookup n=some .local) (hg:Gl X cx) (hm:X.mg cx=some (.ref Cb)) (hC:PySem.W.ktsIn X.K C "BaseException" = true) (hB:PySem.W.ktsIn X.K Cb "BaseException" = true) (hb:belowIn X.K C Cb=true)
  (hs:PSs (Cx.mark X e) (b₀::suite) ts) (q:∀oe:Obj,oe.cls = .ref C->oe.dict=dd->(∃vs,oe.data = .fields vs)->ts (HF i D) (σ.set i (some (.ref e))) (upd H e (.frz oe (.own e))))
  (hdb:(cx==("__debug__" : Str))=false:=by decide) :
  wpAny (model X.prog X.w) X.A (noteFrame (.ref e) X.env) (fun _ s₂=>wpAny (model X.prog X.w) X.A (setFlight (.ref e) none) (fun _ s₃=>
   wpAny (model X.prog X.w) X.A (handleBy (.ref e) X.env (.ExceptHandler (some (.Name cx np)) (some n) (b₀::suite) pos::rest)) (SP X pins D) X.xe s₃) X.xe s₂) X.xe s:=by
 have hstk:=I.stack;rw[hst] at hstk;have hfrs:=I.ok.frames;rw[hst] at hfrs
 refine BR hfrs hstk hfr x fun h1 T' hT' x1 e1=>?_
 have I1:Inv X pins σ H { s with heap:=h1 }:=OH I hx hfr e1 (fun b hb=>by
  rcases List.mem_cons.mp hb with z | z
  ·rw[z];exact⟨hH,oe⟩
  ·rw[List.mem_singleton.mp z];exact⟨hHT,oT⟩) hst
 have oT':E4 X pins T':=SS I hx (Heap.get?_none_of_le hT')
 have hHT':H T'=none:=I.hok.fresh hT'
 have tch:∀b∈[T'],H b=none/\E4 X pins b:=fun b hb=>by rw[List.mem_singleton.mp hb];exact⟨hHT',oT'⟩
 refine OF x1 (fs:=(X.env::X.outer).filterMap (·.frame)) fun h2 x2 e2 _=>?_
 have I2:Inv X pins σ H { s with heap:=h2 }:=OH (s:={ s with heap:=h1 }) I1 hx hfr e2 tch hst
 refine wpAny_handleBy_cons (codeAny_handlers_test ?_) (by intro z;cases z)
 have I2m:Inv (Cx.mark X e) pins σ H { s with heap:=h2 }:=NP I2
 refine Vz (X:=Cx.mark X e) I2m hg hm ?_ hdb
 obtain⟨nm,qn,N,bs,bm,hdct,sn,sub,ab,col,dc,k0,k1,k2,k3,k5,nid,hCo,_,_⟩:=PySem.W.kts_cls I2.kIn hC
 obtain⟨nm',qn',N',bs',bm',hdct',sn',sub',ab',col',dc',j0,j1,j2,j3,j5,nid',hBo,hbase,_⟩:=PySem.W.kts_cls I2.kIn hB
 obtain⟨ob,vs,oT2,tsx,heo,hcls,hdd,hdat,_⟩:=id x2
 refine NQ hCo hBo heo hcls hbase ?_
 rw[HE I2.kIn hb hCo]
 refine codeAny_handlers_suite_as ?_
 refine OF (s:={ s with heap:=h2 }) x2 (fs:=(X.env::X.outer).filterMap (·.frame)) fun h3 x3 e3 _=>?_
 have I3:Inv X pins σ H { s with heap:=h3 }:=OH (s:={ s with heap:=h2 }) I2 hx hfr e3 tch hst
 obtain⟨ob3,vs3,oT3,ts3,heo3,hcls3,hdd3,hdat3,_⟩:=id x3
 have I4:=PL (s:={ s with heap:=h3 }) I3 heo3 hH oe
 refine Uc (X:=Cx.mark X e) (NP I4) hN hi (.inl hk) (v:=.ref e) (u:=.ref e) rfl (fun s5 I5=>?_) (.inr hk)
 refine wpAny_mono (hs pins s5 _ _ (HF i D) I5 (q ob3 hcls3 hdd3 ⟨_,hdat3⟩)) (fun f s6 h6=>?_) fun _ _ z=>z.elim
 have go:∀σ' H' s6,Inv (Cx.mark X e) pins σ' H' s6->(∀s7,Inv X pins (σ'.set i none) H' s7->SP X pins D f s7)->wpAny (model X.prog X.w) X.A (do bindName X.env n .none;unbindBehindTheSuite X.env n pos) (fun _ s₃=>SP X pins D f s₃) X.xe s6:=fun σ' H' s6 I6 k=>
  JF (M8 I.ok I6) hN hi hk k
 cases f with
 | next=>
  obtain⟨σ',H',I6,z⟩:=h6
  exact go σ' H' s6 I6 fun s7 I7=>⟨_,_,I7,z⟩
 | ret u=>
  obtain⟨v,σ',H',I6,r6,z⟩:=h6
  exact go σ' H' s6 I6 fun s7 I7=>⟨v,_,_,I7,r6,z⟩
 | brk=>
  obtain⟨σ',H',I6,z⟩:=h6
  exact go σ' H' s6 I6 fun s7 I7=>⟨_,_,I7,z⟩
 | cont=>
  obtain⟨σ',H',I6,z⟩:=h6
  exact go σ' H' s6 I6 fun s7 I7=>⟨_,_,I7,z⟩
end
def E5(i:Nat):Out->Out
 | .nx s=>.nx (s.set i none)
 | .bk s=>.bk (s.set i none)
 | .ct s=>.ct (s.set i none)
 | .rt l=>.rt l
theorem Vt{K:PySem.W.Frag}{O:List Nat}{H0 H:Hp}{fps:Nat->List Addr}{s:ZP}{σ:TH}{i:Nat}(hiO:i∉O)(r:Rel K O H0 fps s σ H):Rel K O H0 (fun j=>if j=i then [] else fps j) (s.set i none) (σ.set i none) H:=by
 refine⟨r.same,by rw[List.length_set,List.length_set];exact r.len,fun j a e=>?_,fun j h=>?_,fun j hj=>?_,fun j hj p hp=>?_,fun j hj k hk p hp=>?_⟩
 ·by_cases hji:j=i
  ·subst hji
   rw[List.getElem?_set] at e
   simp at e
  ·rw[List.getElem?_set_ne (Ne.symm hji)] at e ⊢
   rw[if_neg hji]
   exact r.is j a e
 ·by_cases hji:j=i
  ·rw[if_pos hji]
  ·rw[if_neg hji]
   refine r.emp j fun l z=>h l ?_
   rw[List.getElem?_set_ne (Ne.symm hji)];exact z
 ·have hji:j≠i:=fun z=>hiO (z▸hj)
  simp only[if_neg hji];exact r.nd j hj
 ·have hji:j≠i:=fun z=>hiO (z▸hj)
  simp only[if_neg hji] at hp;exact r.own j hj p hp
 ·have hji:j≠i:=fun z=>hiO (z▸hj)
  simp only[if_neg hji] at hp
  by_cases hki:k=i
  ·rw[if_pos hki];simp
  ·rw[if_neg hki];exact r.dis j hj k hk p hp
end VX
namespace VX
open PySem PySem.W PySem.Spec PyProof.Rows L2
def exiIn(K:Frag)(C:Addr)(bmB:List Value)(newId:String)(fI:Addr):Bool:=
 match K.lookup C with
 | some ⟨.type "type",_,.cls cd,sl⟩=>
  match cd.mro,sl.toList with
  | .ref C'::bm,[_,_,_,_,some (.builtin n),_]=>C'==C&&n==newId&&!cd.hasDel&&tailIn K bmB bm&&nsOkIn K cd.ns&&nsIn K cd.ns "__init__"==some (some (.ref fI))
  | _,_=>false
 | _=>false
theorem BU{K:Frag}{h:Heap}{N:Addr}{m:Str->Option Value}{n:Str}{v:Value}(X:K.In h)(G:h.Ns N m)(e:nsIn K N n=some (some v)):m n=some v:=by
 obtain⟨o,es,ep,ho,hd,_,hf⟩:=G
 unfold nsIn at e
 split at e
 ·rename_i c d es' n' sl q
  have z:=X _ _ q;rw[ho] at z;cases z;cases hd;rw[<-hf n]
  split at e
  ·rename_i en he
   cases e
   show findBy _ es n=_
   unfold findBy
   rw[<-Array.find?_toList,he];rfl
  ·split at e
   ·cases e
   ·cases e
 ·cases e
theorem Ks{K:Frag}{h:Heap}{C fI:Addr}{bmB:List Value}{newId:String}(X:K.In h)(q:exiIn K C bmB newId fI=true) :
  ∃bm N nm qn bs hdct sn sub ab col dd k0 k1 k2 k3 k5 mN,h.get? C=some (excClassObj nm qn C N bs bm hdct sn sub ab col dd k0 k1 k2 k3 k5 newId)/\h.Ns N mN/\mN "__init__" = some (.ref fI)/\OwnTail h bmB bm:=by
 unfold exiIn at q
 split at q
 ·rename_i dd cd sl ho
  split at q
  ·rename_i C' bm k0 k1 k2 k3 n k5 hm hs
   simp only[Bool.and_eq_true,beq_iff_eq,Bool.not_eq_true'] at q
   obtain⟨⟨⟨⟨⟨rfl,rfl⟩,hdel⟩,ht⟩,hok⟩,hni⟩:=q
   obtain⟨nm,bs,mro,ns,qn,hd,sn,sub,ab,col,Rf⟩:=cd
   dsimp only at hm hdel hok hni
   subst hm hdel
   have hsl:sl = #[k0,k1,k2,k3,some (.builtin n),k5]:=by
    obtain⟨l⟩:=sl
    simp only at hs
    rw[hs]
   subst hsl
   refine⟨bm,ns,nm,qn,bs,hd,sn,sub,ab,col,dd,k0,k1,k2,k3,k5,_,X _ _ ho,.of_isNs (isNs_of_in X hok),?_,tail_of_in X ht⟩
   exact BU X (.of_isNs (isNs_of_in X hok)) hni
  ·cases q
 ·cases q
def Uy(C e t:Addr):Heap->Prop:=fun h=>h.get? e=some (Kr C t)
def Va(C e t dx:Addr):Heap->Prop:=fun h=>h.get? e=some { Kr C t with dict:=some dx }
structure BInit(K:Frag)(Cb:Addr)(initId:String):Prop where
 ga:specialIn K (.ref Cb) "__getattribute__" = some (some (.builtin "type.__getattribute__"))
 rd:readsIn K Cb (.type "type")=true
 fc:findCls K (.ref Cb) (.type "type") "__init__" = some (.val (.builtin initId))
section
variable {X:Cx} {x:Str} {np ap cpos pos:Pos} {a b o value:Expr} {t:TA} {ta tv:TE} {C Cb fI:Addr} {bmB:List Value} {B newId initId:String} {f:Str}
theorem HG{pl:Sem Bool}(F:ExcBaseFacts B newId initId bmB)(BI:BInit X.K Cb initId)(hC:exiIn X.K C bmB newId fI=true)(hg:Gl X x)(hm:X.mg x=some (.ref Cb))(hh:handedIn (.builtin initId)=true)(ha:PA X [a,b] t)
  (hdb:(x==("__debug__" : Str))=false:=by decide) (hpl:(backTo cpos (starEach [b] X.env)).any (·.1)=false:=by rfl) (hs:starEach [a,b] X.env=(false,eval a X.env)::starEach [b] X.env:=by rfl)
  (ht:eval (.Call (.Attribute (.Name x np) "__init__" ap) [a,b] [] cpos) X.env=(do
   let ov <-eval (.Name x np) X.env
   standAt ap.atName
   let(f,first) <-holding [ov] (getMethod ov "__init__" pl)
   callWith cpos f first (backTo cpos (starEach [a,b] X.env)) (backToKw cpos (keywordEach [] X.env))):=by rfl) :
  PE X (.Call (.Attribute (.Name x np) "__init__" ap) [a,b] [] cpos) (fun σ H Q=>t σ H fun vs H1=>∃e v t0,vs=[.ref e,v]/\H1 e=some (.ext (Uy C e t0))/\∀t1,Q .non (upd H1 e (.ext (Uy C e t1)))):=by
 intro pins s σ H Q I h
 refine PySem.W.methodCall_KW (pl:=pl) (Vz I hg hm ?_ hdb) ht
 refine PySem.W.method_cls I.kIn BI.ga (PySem.W.cls_value I.kIn BI.rd BI.fc hh ?_)
 have I0:Inv X pins σ H { s with toks:=s.toks+1 }:=I.kept (t':=s.toks+1) fun _ _ q=>q
 have hA:=ha cpos pins _ σ H _ I0 h
 rw[hs] at hA ⊢
 refine Calls.callWith_builtin (by show(false || (backTo cpos (starEach [b] X.env)).any (·.1))=false;rw[hpl]<;>rfl) (Calls.evalArgs_plain ?_)
 refine YI hA fun us s2 ⟨vs,H2,I2,r2,e,v,t0,ev,he,q⟩=>?_
 subst ev
 obtain⟨u1,u2,rfl,rfl,rv⟩:∃u1 u2,us=[u1,u2]/\u1=Value.ref e/\RelV v u2:=by
  cases r2 with
  | cons h1 h2=>cases h2 with
   | cons h3 h4=>cases h4;exact⟨_,_,rfl,h1,h3⟩
 obtain⟨bm,N,nm,qn,bs,hdct,sn,sub,ab,col,dd,k0,k1,k2,k3,k5,mN,hC',hN,hi,TL⟩:=Ks I2.kIn hC
 obtain⟨hx,_,_⟩:=(show ObjOk X.prog X.w H2 s2.heap e (.ext (Uy C e t0)) from I2.hok e _ he)
 obtain⟨hp,g,d,tk,os⟩:=s2
 refine JB F TL hC' hx fun h' kp e1 e2=>?_
 refine⟨.non,_,I2.write (t':=tk) (x:=e) (e:=e) (o:=.ext (Uy C e hp.objs.size)) (by rw[he];trivial) (.inl rfl) kp ⟨_,e1⟩ ⟨e1,⟨_,e1⟩,fun h1 h2 z k=>k _ z⟩,rfl,q _⟩
theorem FZ(hC:exiIn X.K C bmB newId fI=true)(hs':findIn X.K (.ref C) "__setattr__" = some (some (.builtin "object.__setattr__")))(hp:veOver X.K C=true)(ht:takerIn X.K C f=some none)(hd:(clsIn X.K C).any (·.hasDict)=true)(hex:X.ex=[])
  (ha:PE X o ta) (hv:PE X value tv) (hs:swapsWith value (some (.Attribute o f np)) pos.line X.env=pure false:=by rfl) :
  PS X (.Assign [.Attribute o f np] value pos) (fun D σ H=>tv σ H fun y H1=>ta σ H1 fun z H2=>∃e t1,z = .ref e/\H2 e=some (.ext (Uy C e t1))/\
   ∀dx od u,RelV y u->H2 dx=none->dx≠e->VL.NsO od f u->D.nx σ (upd (upd H2 dx (.frz od (.own dx))) e (.ext (Va C e t1 dx)))):=by
 intro pins s σ H D I h
 refine plainObj_wpAny_Assign_Attribute (YI (hv pins s σ H _ I h) fun u s1 ⟨y,H1,I1,ry,q⟩=>YI (ha pins s1 σ H1 _ I1 q) fun ov s2 ⟨z,H2,I2,rz,e,t1,ez,he,q2⟩=>?_) hs
 subst ez
 obtain rfl:ov=Value.ref e:=rz
 obtain⟨hx,_,_⟩:=(show ObjOk X.prog X.w H2 s2.heap e (.ext (Uy C e t1)) from I2.hok e _ he)
 refine JA I2.kIn hx rfl rfl rfl hs' hp ht hd fun h' tk' dx kp ex hsz hne hn=>?_
 obtain⟨od,es,ep,ho,hdat,hsk,huk,hf⟩:=id hn
 have hdx:H2 dx=none:=I2.hok.fresh hsz
 have ns:VL.NsO od f u:=fun hp b z=>⟨od,es,ep,z,hdat,hsk,huk,hf⟩
 have I3:Inv X pins σ (upd H2 e (.ext (Va C e t1 dx))) { s2 with heap:=h',toks:=tk' }:=I2.write (t':=tk') (x:=e) (e:=e) (o:=.ext (Va C e t1 dx)) (by rw[he];trivial) (.inl rfl) kp ⟨_,ex⟩ ⟨ex,⟨_,ex⟩,fun h1 h2 z k=>k _ z⟩
 have hdx3:upd H2 e (.ext (Va C e t1 dx)) dx=none:=by rw[upd_ne hne];exact hdx
 have off:E4 X pins dx:=SS I2 hex (Heap.get?_none_of_le hsz)
 have I4:=PL I3 (show({ s2 with heap:=h',toks:=tk' }:Shared).heap.get? dx=some od from ho) hdx3 off
 have sw:upd (upd H2 e (.ext (Va C e t1 dx))) dx (.frz od (.own dx))=upd (upd H2 dx (.frz od (.own dx))) e (.ext (Va C e t1 dx)):=by
  funext b
  unfold upd
  by_cases z:b=dx
  ·rw[if_pos z,if_neg (fun y=>hne (z.symm.trans y)),if_pos z]
  ·rw[if_neg z]
   by_cases y:b=e
   ·rw[if_pos y,if_pos y]
   ·rw[if_neg y,if_neg y,if_neg z]
 rw[sw] at I4
 exact⟨σ,_,I4,q2 dx od u ry hdx hne ns⟩
end
end VX
namespace VX
open PySem PySem.Spec PyProof.Rows L2
theorem NR{m:Nat}:∀{ts:List Str},(∀t∈ts,t.length<=m)->piled ts<=ts.length*(m+2)
 | [],_=>by simp[piled]
 | t::r,h=>by
  have h1:=NR (m:=m) (ts:=r) fun u hu=>h u (by simp[hu])
  have h2:=h t (by simp)
  rw[List.length_cons,Nat.add_mul,piled_cons];omega
theorem F0{m:Nat}{ts:List Str}(h:∀t∈ts,t.length<=m):(Str.join ", " ts).length<=ts.length*(m+2):=by
 by_cases q:ts=[]
 ·subst q
  rw[show(Str.join ", " ([]:List Str)).length=0 from by decide]
  exact Nat.zero_le _
 ·have:=join_length_add ts q
  have:=NR h
  omega
theorem OI{m:Nat}{ts:List Str}(h:∀t∈ts,t.length<=m):(tupleText ts).length<=3+ts.length*(m+2):=by
 unfold tupleText;rw[strLen_append,strLen_append]
 have:=F0 h
 have e1:(Str.ofString "(").length=1:=by decide
 have e2:(Str.ofString (if(ts.length==1)=true then ",)" else ")" : String)).length<=2:=by split<;>decide
 omega
def Qq(H:Hp)(v:V):Prop:=v = .non\/(∃i:Int,v = .int i/\i.natAbs.log2<1920)\/∃(a:Addr) (is:List Int),v = .ref a/\H a=some (.tup (is.map V.int))/\is.length<=100/\∀i∈is,i.natAbs.log2<1920
section
variable {X:Cx} {k:Nat} {e:Expr} {te:TE} {y:Str} {p1 p2 p3:Pos} {jj:Nat}
def E6(te:TE):TE:=fun σ H Q=>te σ H fun v H1=>Qq H1 v/\∀z,Q (.str z) H1
theorem F1(hr:Room k X.A)(he:PE X e te)(hy:y.length<=1000:=by decide):PE X (.JoinedStr [.Constant (.str y) jj p1,.FormattedValue e (-1) none p2] p3) (E6 te):=by
 intro pins s σ H Q I h
 refine wpAny_JoinedStr ?_
 show wpAny _ _ (eval (.Constant (.str y) jj p1) X.env) _ _ s
 refine YI (Dp (X:=X) (x:=y) (j:=jj) (pos:=p1) pins s σ H (fun v H1=>v = .str y/\H1=H) I ⟨rfl,rfl⟩) fun u s1 ⟨v,H1,I1,r,hv,hH⟩=>?_
 subst hv hH
 obtain⟨t,rfl⟩:=r
 have e0:(Str.empty++y).length=y.length:=by rw[strLen_append];show 0+_=_;omega
 have sz:(1000:Nat)+200000<=sizeLine:=by decide
 refine⟨y,t,rfl,by omega,?_⟩
 show wpAny _ _ (eval (.FormattedValue e (-1) none p2) X.env) _ _ s1
 refine wpAny_FormattedValue_plain ?_
 refine YI (he pins s1 σ H1 _ I1 h) fun u s2 ⟨v,H2,I2,r,sh,q⟩=>?_
 have fin:∀(x:Str)(u:Tok)(s3:Shared),x.length<=200000->Inv X pins σ H2 s3->∃(b:Str) (t2:Tok),Value.str x u=Value.str b t2/\(Str.empty++y++b).length<=sizeLine/\(Str.empty++y++b).length<=sizeLine/\EP X pins σ Q (.str (Str.empty++y++b) s3.toks) { s3 with toks:=s3.toks+1 }:=fun x u s3 hx I3=>by
  refine⟨x,u,rfl,?_,?_,.str _,H2,I3.tok _,⟨_,rfl⟩,q _⟩
  ·rw[strLen_append,e0];omega
  ·rw[strLen_append,e0];omega
 rcases sh with rfl | ⟨i,rfl,hi⟩ | ⟨a,is,rfl,ha,hl,hs⟩
 ·obtain rfl:u=Value.none:=r
  refine wpAny_formatField_none ?_
  have I3:Inv X pins σ H2 { s2 with toks:=s2.toks+1+1 }:=I2.kept (t':=s2.toks+1+1) fun _ _ z=>z
  exact fin "None" _ _ (by decide) I3
 ·obtain⟨t2,rfl⟩:=r
  refine formatField_int_small hi ?_
  have:=int_text_length_le (k:=1920) (by decide) hi
  exact fin (toString i) _ _ (by rw[PySem.ofString_length];omega) (I2.tok _)
 ·obtain rfl:u=Value.ref a:=r
  obtain⟨_,its,rv,ob,ho,hc,n,hd⟩:=(show ObjOk X.prog X.w H2 s2.heap a (.tup (is.map V.int)) from I2.hok a _ ha)
  have rd:Reads s2.heap (.ref a) (.tuple (is.map PyData.int)) []:=.tuple ho hc hd (PK (by simpa using rv))
  have sl:(PyData.tuple (is.map PyData.int)).shown.length<=3+is.length*(1930+2):=by
   show(tupleText (PyData.shownAll (is.map PyData.int))).length<=_
   rw[JC]
   have:=OI (ts:=is.map fun i=>Str.ofString (toString i)) (m:=1930) fun t ht=>by
    obtain⟨i,hi,rfl⟩:=List.mem_map.mp ht
    have:=int_text_length_le (k:=1920) (by decide) (hs i hi)
    rw[PySem.ofString_length];omega
   rwa [List.length_map] at this
  have s2':is.length*(1930+2)<=193200:=by omega
  have hu:=hr.un;have dp:=JD is
  refine formatField_of_reads rd (OG hs) (fun z=>by rw[show(PyData.tuple (is.map PyData.int)).hasDict=PyData.hasDictAll (is.map PyData.int) from rfl,M7] at z;cases z) hr.gd (by
   show X.A.units+(PyData.depth (.tuple (is.map PyData.int))+2)<cLine
   simp only[PyData.depth]
   omega) (fun _ _ z=>z) (fun h' u tk hk=>?_) (by omega)
  have I3:Inv X pins σ H2 { s2 with heap:=h',toks:=tk }:=I2.kept hk
  exact fin _ u _ (by omega) I3
end
end VX
namespace VX
open PySem PySem.W PySem.Spec PyProof.Rows L2 VL
def Aq(C:Addr)(f:Str):Sp:=fun vs H Q _=>vs.length=2/\∃e v t0,vs=[.ref e,v]/\H e=some (.ext (Uy C e t0))/\Qq H v/\
 ∀t1 dx od u,RelV v u->H dx=none->dx≠e->NsO od f u->Q .non (upd (upd H dx (.frz od (.own dx))) e (.ext (Va C e t1 dx)))
def E7(C:Addr)(f:Str):TS:=
 C8 (O5 (fun σ H Q=>V5 (Ua 0) (V5 (E6 (Ua 1)) O9) σ H fun vs H1=>∃e v t0,vs=[.ref e,v]/\H1 e=some (.ext (Uy C e t0))/\∀t1,Q .non (upd H1 e (.ext (Uy C e t1)))))
  (fun D σ H=>Ua 1 σ H fun y H1=>Ua 0 σ H1 fun z H2=>∃e t1,z = .ref e/\H2 e=some (.ext (Uy C e t1))/\
   ∀dx od u,RelV y u->H2 dx=none->dx≠e->NsO od f u->D.nx σ (upd (upd H2 dx (.frz od (.own dx))) e (.ext (Va C e t1 dx))))
theorem JG{C:Addr}{f a b:Str}{vs:List V}{H:Hp}{Q:VK}{E:XK}(h:Aq C f vs H Q E):E7 C f { nx:=fun _ H'=>Q .non H',rt:=Q } (start [a,b] vs) H:=by
 obtain⟨_,e,v,t0,rfl,he,sh,q⟩:=h
 show E7 C f _ [some (.ref e),some v] H
 refine⟨.ref e,rfl,v,rfl,sh,fun z=>⟨e,.str z,t0,rfl,he,fun t1=>?_⟩⟩
 refine⟨v,rfl,.ref e,rfl,e,t1,rfl,upd_same,fun dx od u rv hd hne ns=>?_⟩
 rw[upd_ne hne] at hd
 have:=q t1 dx od u rv hd hne ns
 have sw:upd (upd (upd H e (.ext (Uy C e t1))) dx (.frz od (.own dx))) e (.ext (Va C e t1 dx))=upd (upd H dx (.frz od (.own dx))) e (.ext (Va C e t1 dx)):=by
  funext c
  unfold upd
  by_cases y:c=e
  ·rw[if_pos y,if_pos y]
  ·rw[if_neg y,if_neg y,if_neg y]
 show Q .non (upd (upd (upd H e (.ext (Uy C e t1))) dx (.frz od (.own dx))) e (.ext (Va C e t1 dx)))
 rw[sw];exact this
def NS(H:Hp)(e:Addr):Hp:=fun b=>if b=e then none else H b
theorem F2{X:Cx}{pins:List (Addr×Obj)}{σ:L2.St}{H:Hp}{s:Shared}{e:Addr}{φ:Heap->Prop}(I:Inv X pins σ H s)(he:H e=some (.ext φ)):Inv X pins σ (NS H e) s:=by
 have ne:∀b u,H b=some u->(∀ψ,u≠.ext ψ)->NS H e b=some u:=fun b u q n=>by
  unfold NS
  rw[if_neg (fun z=>by rw[z,he] at q;cases q;exact n _ rfl)]
  exact q
 have nn:∀b,H b=none->NS H e b=none:=fun b q=>by
  unfold NS
  split
  ·rfl
  ·exact q
 refine⟨I.ok,I.os,I.bare,⟨fun b o q n hb hx=>?_,fun b o q n hb hx=>?_,fun b o q n hx=>nn b (I.base.free b o q n hx),I.base.there,fun b xs q=>ne b _ (I.base.tups b xs q) (fun _ z=>nomatch z),fun b o u q=>ne b _ (I.base.frzs b o u q) (fun _ z=>nomatch z),fun b ps q=>?_⟩,I.loc,I.cell,nn _ I.free,fun x c q=>nn c (I.freeC x c q),fun p hp=>?_,fun b u q=>?_,I.len⟩
 ·exact I.base.keep b o q n hb hx
 ·exact I.base.slot b o q n hb hx
 ·obtain⟨more,z⟩:=I.base.tbls b ps q
  exact⟨more,ne b _ z fun _ z=>nomatch z⟩
 ·obtain⟨e1,n,r⟩:=I.pin p hp
  exact⟨e1,nn _ n,r⟩
 ·have hb:H b=some u:=by
   unfold NS at q
   split at q
   ·cases q
   ·exact q
  exact(I.hok b u hb).stay (fun _ _ _ r=>r) (fun c r=>ne c _ r fun _ z=>nomatch z) fun c xs r=>ne c _ r fun _ z=>nomatch z
structure Cs(P:Program)(w:World)(K:Frag)(mg:Str->Option Value)(base:Heap)(C:Addr)(f:Str)(bmB:List Value)(newId:String):Prop where
 ex:∃fI fd oI,exiIn K C bmB newId fI=true/\K.lookup fI=some oI/\oI.cls = .type "function"/\Binds K fd ["self",f] []/\Ue P w K mg base O0 1 fI fd ["self",f] (Aq C f)
structure AS(X:Cx)(E:XK):Prop where
 go:∀{pins:List (Addr×Obj)}{σ:L2.St}{H:Hp}{s:Shared}{e:Addr}{cls:Value}{dd:Option Addr},Inv X pins σ H s->HA s.heap e cls dd->X.s₀.heap.get? e=none->H e=none->E cls dd H->X.xe (.ref e) s
section
variable {X:Cx} {E:XK} {C:Addr} {bmB:List Value} {B newId initId:String} {x f:Str} {np cpos pos:Pos} {a:Expr} {ta:TE}
theorem JH(F:ExcBaseFacts B newId initId bmB)(CF:Cs X.prog X.w X.K X.mg X.base C f bmB newId)(hr:Room 2 X.A)(hg:Gl X x)(hm:X.mg x=some (.ref C))(hcalm:X.calm=true)(DX:AS X E)(ha:PE X a ta)
  (hdb:(x==("__debug__" : Str))=false:=by decide) (he:starEach [a] X.env=(false,eval a X.env)::starEach [] X.env:=by rfl) :
  PS X (.Raise (some (.Call (.Name x np) [a] [] cpos)) none pos) (fun _ σ H=>ta σ H fun v H1=>Qq H1 v/\∀dx od u,RelV v u->H1 dx=none->NsO od f u->E (.ref C) (some dx) (upd H1 dx (.frz od (.own dx)))):=by
 intro pins s σ H D I h
 obtain⟨fI,fd,oI,hq,hlf,hfc,hb,FO⟩:=CF.ex
 have X0:X.K.In X.base:=I.ok.mod.kin
 obtain⟨bm,N,nm,qn,bs,hdct,sn,sub,ab,col,dd,k0,k1,k2,k3,k5,mN,hC,hN,hi,TL⟩:=Ks X0 hq
 refine VU (nm:=nm) (q:=qn) (N:=N) (bs:=bs) (hdct:=hdct) (sn:=sn) (sub:=sub) (ab:=ab) (col:=col) (dd:=dd) (k0:=k0) (k1:=k1) (k2:=k2) (k3:=k3) (k5:=k5) F (mN:=mN) (fI:=fI) (oI:=oI) (TL.hasType F.hasBase) (I.ok.hd hcalm) (by rw[he];rfl) hi hfc (Vz I hg hm ⟨rfl,?_⟩ hdb)
 have pa:PA X [a] (V5 ta O9):=Yv ha XU (hs:=he)
 have key:wpAny (model X.prog X.w) X.A (spliced (backTo cpos (starEach [a] X.env))) (fun us s₂=>us.length<=sizeLine/\s₂.heap.get? C=some (excClassObj nm qn C N bs bm hdct sn sub ab col dd k0 k1 k2 k3 k5 newId)/\s₂.heap.Ns N mN/\OwnTail s₂.heap bmB bm/\s₂.heap.get? fI=some oI/\
    ∀h',(∀b o,s₂.heap.get? b=some o->h'.get? b=some o)->h'.get? (s₂.heap.objs.size+1)=some { cls:=.ref C,data:=.fields #[.ref s₂.heap.objs.size,.none,.none,.none,.bool false,.none] }->
     wpAny (model X.prog X.w) (X.A.under (.builtin "type.__call__" ⟨.ref C::us,[]⟩)) (call (.ref fI) (.ref (s₂.heap.objs.size+1)::us)) (fun r s₃=>r = .none/\∃t dx,s₃.heap.get? C=some (excClassObj nm qn C N bs bm hdct sn sub ab col dd k0 k1 k2 k3 k5 newId)/\
      s₃.heap.get? (s₂.heap.objs.size+1)=some { cls:=.ref C,dict:=dx,data:=.fields #[.ref t,.none,.none,.none,.bool false,.none] }/\X.xe (.ref (s₂.heap.objs.size+1)) s₃) X.xe { s₂ with heap:=h' }) X.xe s:=by
  refine YI (pa cpos pins s σ H (fun vs H1=>match vs with | [v]=>Qq H1 v/\∀dx od u,RelV v u->H1 dx=none->NsO od f u->E (.ref C) (some dx) (upd H1 dx (.frz od (.own dx))) | _=>False) I h) fun us s₂ ⟨vs,H1,I1,r,q⟩=>?_
  obtain⟨v,rfl⟩:∃v,vs=[v]:=by
   match vs,q with
   | [v],_=>exact⟨v,rfl⟩
  obtain⟨hs,hE⟩:Qq H1 v/\∀dx od u,RelV v u->H1 dx=none->NsO od f u->E (.ref C) (some dx) (upd H1 dx (.frz od (.own dx))):=q
  obtain⟨u,rfl,ru⟩:=Ud r
  refine⟨by show 1<=_;decide,I1.bk _ _ hC,hN.keeps I1.bk,TL.keeps I1.bk,I1.bk _ _ (X0 _ _ hlf),fun h' kp ex=>?_⟩
  generalize hea:s₂.heap.objs.size+1=e at ex ⊢
  have hfr:s₂.heap.objs.size<=e:=by omega
  have hHe:H1 e=none:=I1.hok.fresh hfr
  have I2:Inv X pins σ (upd H1 e (.ext (Uy C e s₂.heap.objs.size))) { s₂ with heap:=h' }:=I1.laid (t':=s₂.toks) kp hfr ⟨ex,⟨_,ex⟩,fun h1 h2 z k=>k _ z⟩
  have hs':Qq (upd H1 e (.ext (Uy C e s₂.heap.objs.size))) v:=by
   rcases hs with z | z | ⟨c,is,z1,z2,z3⟩
   ·exact .inl z
   ·exact .inr (.inl z)
   ·exact .inr (.inr ⟨c,is,z1,by rw[upd_ne (Zw z2 hHe)];exact z2,z3⟩)
  have r2:Vals [V.ref e,v] [Value.ref e,u]:=.cons rfl (.cons ru .nil)
  let QF:VK:=fun r H'=>r = .non/\∃t1 dx od u',RelV v u'/\H1 dx=none/\dx≠e/\NsO od f u'/\H'=upd (upd (upd H1 e (.ext (Uy C e s₂.heap.objs.size))) dx (.frz od (.own dx))) e (.ext (Va C e t1 dx))
  have hsp:Aq C f [V.ref e,v] (upd H1 e (.ext (Uy C e s₂.heap.objs.size))) QF E0:=⟨rfl,e,v,_,rfl,upd_same,hs',fun t1 dx od u' h1 h2 h3 h4=>⟨rfl,t1,dx,od,u',h1,by rw[upd_ne h3] at h2;exact h2,h3,h4,rfl⟩⟩
  refine wpAny_call (codeAny_mono (FO.run _ X.stack _ _ ⟨[.ref e,u],[]⟩ [.ref e,u] [V.ref e,v] QF E0 (hr.make C [u] []) (I2.env0.make C [u] []) (hb _ [.ref e,u] I2.kIn rfl) r2 hsp) fun rr s' hq'=>?_)
  cases rr with
  | error ee=>exact False.elim hq'
  | ok fl=>
   cases fl with
   | next=>exact False.elim hq'
   | brk=>exact False.elim hq'
   | cont=>exact False.elim hq'
   | ret u2=>
    obtain⟨v2,H',I3,rv,ev,t1,dx,od,u',q1,q2,q3,q4,rfl⟩:=I2.after hq'
    subst ev
    obtain⟨ho,_,_⟩:=(show ObjOk X.prog X.w _ s'.heap e (.ext (Va C e t1 dx)) from I3.hok e _ upd_same)
    have I4:=F2 I3 (e:=e) upd_same
    have eH:NS (upd (upd (upd H1 e (.ext (Uy C e s₂.heap.objs.size))) dx (.frz od (.own dx))) e (.ext (Va C e t1 dx))) e=upd H1 dx (.frz od (.own dx)):=by
     funext c
     unfold NS upd
     by_cases y:c=e
     ·rw[if_pos y,if_neg (fun z=>q3 (z.symm.trans y)),y,hHe]
     ·rw[if_neg y,if_neg y,if_neg y]
    rw[eH] at I4
    refine⟨rv,t1,some dx,I3.bk _ _ hC,ho,?_⟩
    refine DX.go I4 ⟨_,_,ho,rfl,rfl,rfl,rfl⟩ ?_ ?_ (hE dx od u' q1 q2 q4)
    ·cases z:X.s₀.heap.get? e with
     | none=>rfl
     | some o=>
      exact absurd (Nat.lt_of_lt_of_le (Heap.lt_size z) I1.sz) (by omega)
    ·rw[upd_ne (Ne.symm q3)];exact hHe
 rw[he] at key ⊢
 exact Calls.evalArgs_plain (wpAny_mono key (fun us s₂ h2=>⟨rfl,h2⟩) fun _ _ z=>z)
end
end VX
namespace VX
open PySem PySem.Spec PyProof.Rows L2 VL
abbrev XF:=ZP->Option (Str×PV)
def GoY(K:PySem.W.Frag)(E:XK)(H0:Hp)(n:Str)(l:PV):Prop:=∀C dx od u z H',PySem.W.nsIn K mainGlobals n=some (some (.ref C))->Same H0 H'->H' dx=some (.frz od (.own dx))->NsO od (Wq n) u->RelV z u->Is K H' l z []->E (.ref C) (some dx) H'
def AU(K:PySem.W.Frag)(O:List Nat)(fy:XF)(E:XK):TS:=fun _ σ H=>∃H0 fps s n l,Rel K O H0 fps s σ H/\fy s=some (n,l)/\GoY K E H0 n l
def VY(X:Cx)(O:List Nat)(E:XK)(st:Stmt)(fy:XF):Prop:=PS X st (AU X.K O fy E)
def E8(X:Cx)(O:List Nat)(E:XK)(st:List Stmt)(fy:XF):Prop:=PSs X st (AU X.K O fy E)
def Rb:PV->Bool
 | .non=>true
 | .int i=>decide (i.natAbs.log2<1920)
 | .tup l=>match XH l with
  | some is=>decide (is.length<=100)&&is.all fun i=>decide (i.natAbs.log2<1920)
  | none=>false
 | _=>false
theorem HH{K:PySem.W.Frag}{H:Hp}{l:PV}{v:V}{fp:List Addr}(h:Is K H l v fp)(g:Rb l=true):Qq H v/\fp=[]:=by
 cases l with
 | non=>exact⟨.inl h.non_inv.1,h.non_inv.2⟩
 | int i=>exact⟨.inr (.inl ⟨i,h.int_inv.1,of_decide_eq_true g⟩),h.int_inv.2⟩
 | tup l=>
  have g':(match XH l with | some is=>decide (is.length<=100)&&is.all fun i=>decide (i.natAbs.log2<1920) | none=>false)=true:=g
  split at g'
  ·rename_i is his
   have:=Xz his
   subst this
   obtain⟨p,xs,rfl,hp,hi⟩:=h.tup_inv
   obtain⟨rfl,rfl⟩:=hi.iL
   rw[Bool.and_eq_true] at g'
   exact⟨.inr (.inr ⟨p,is,rfl,hp,of_decide_eq_true g'.1,fun i hi=>of_decide_eq_true (List.all_eq_true.mp g'.2 i hi)⟩),rfl⟩
  ·cases g'
 | bl b=>cases g
 | str x=>cases g
 | ty n=>cases g
 | exc n=>cases g
 | exf n l=>cases g
 | lst l=>cases g
 | cst l=>cases g
 | dK ks l=>cases g
 | dT ks l=>cases g
def SU(n:Str)(f:XE):XF:=fun s=>(f s).bind fun l=>if Rb l=true then some (n,l) else none
def Ct(fc:XT)(f g:XF):XF:=fun s=>(fc s).bind fun c=>if c=true then f s else g s
def Qr(f1:XF)(f:XS)(g:XF):XF:=fun s=>match f1 s with
 | some c=>some c
 | none=>(match f s with
  | some (.nx s')=>g s'
  | _=>none)
def F3:XF:=fun _=>none
section
variable {X:Cx} {O W:List Nat} {E:XK} {C:Addr} {bmB:List Value} {B newId initId:String} {x:Str} {np cpos pos:Pos} {e:Expr} {f:XE}
theorem NT(F:ExcBaseFacts B newId initId bmB)(CF:Cs X.prog X.w X.K X.mg X.base C (Wq x) bmB newId)(hr:Room 2 X.A)(hg:Gl X x)(hm:X.mg x=some (.ref C))(hns:PySem.W.nsIn X.K mainGlobals x=some (some (.ref C)))(hcalm:X.calm=true)(DX:AS X E)(he:VE X e f)
  (hdb:(x==("__debug__" : Str))=false:=by decide) (hst:starEach [e] X.env=(false,eval e X.env)::starEach [] X.env:=by rfl) :
  VY X O E (.Raise (some (.Call (.Name x np) [e] [] cpos)) none pos) (SU x f):=
 PS.imp (JH F CF hr hg hm hcalm DX he hdb hst) fun D σ H ⟨H0,fps,s,n,l,r,e,q⟩=>by
  obtain⟨l',hl,e⟩:=Zf e
  split at e
  ·rename_i hs
   cases e
   refine⟨fun _=>False,s,l,fun _ z=>z.elim,r.env,hl,fun v H' fp sm i _=>?_⟩
   obtain⟨sh,rfl⟩:=HH i hs
   refine⟨sh,fun dx od u rv hd ns=>q C dx od u v _ hns ((r.same.trans sm).trans (Same.new hd _)) upd_same ns rv (i.mono (Same.new hd _))⟩
  ·cases e
variable {st:Stmt} {rest a b:List Stmt} {c:Expr} {fc:XT} {f1 g1:XF} {fs:XS}
theorem vy_no:VY X O E st F3:=fun pins s σ H D I ⟨_,_,_,_,_,_,e,_⟩=>by cases e
theorem OJ:E8 X O E rest F3:=fun pins s σ H D I ⟨_,_,_,_,_,_,e,_⟩=>by cases e
theorem E9(hc:VT X c fc)(ha:E8 X O E a f1)(hb:E8 X O E b g1):VY X O E (.If c a b pos) (Ct fc f1 g1):=PS.imp (EG hc ha hb) fun D σ H ⟨H0,fps,s,n,l,r,e,q⟩=>by
 obtain⟨d,e1,e⟩:=Zf e
 refine⟨fun _=>False,s,d,fun _ z=>z.elim,r.env,e1,fun H1 s1=>?_⟩
 cases d with
 | true=>rw[if_pos rfl] at e ⊢;exact⟨H0,fps,s,n,l,r.grow s1,e,q⟩
 | false=>rw[if_neg Bool.false_ne_true] at e ⊢;exact⟨H0,fps,s,n,l,r.grow s1,e,q⟩
theorem Kt(h:VY X O E st f1):E8 X O E [st] f1:=P5 h
theorem NU(h1:VY X O E st f1)(hs:VS X O W st fs)(h2:E8 X O E rest g1):E8 X O E (st::rest) (Qr f1 fs g1):=by
 intro pins s σ H D I ⟨H0,fps,sp,n,l,r,e,q⟩
 unfold Qr at e
 split at e
 ·rename_i c hc
  cases e
  exact JE h1 (fun _ _ _ _ z=>z) pins s σ H D I ⟨H0,fps,sp,_,_,r,hc,q⟩
 ·split at e
  ·rename_i s' hf
   refine RK hs h2 pins s σ H D I ⟨H0,fps,sp,.nx s',r,hf,fun fps' σ' H' r' _=>?_⟩
   exact⟨H0,fps',s',n,l,r',e,q⟩
  ·cases e
end
def spY(K:PySem.W.Frag)(R:List PV->Option (Str×PV))(n:Nat):Sp:=fun vs H _ E=>vs.length=n/\∃ls fp nm l,Iss K H ls vs fp/\R ls=some (nm,l)/\GoY K E H nm l
def BV(m:Nat)(fy:XF):List PV->Option (Str×PV):=fun ls=>fy (YF m ls)
section
variable {K:PySem.W.Frag} {P:Program} {w:World} {mg:Str->Option Value} {base:Heap}
open Classical in
theorem HI{N:List Str}{O:List Nat}{n:Nat}{fy:XF}{vs:List V}{H:Hp}{Q:VK}{E:XK}{D:V9}(hO:∀i∈O,n<=i)(h:spY K (BV N.length fy) n vs H Q E):AU K O fy E D (L2.start N vs) H:=by
 obtain⟨hl,ls,fp,nm,lv,hi,e,q⟩:=h
 obtain⟨H0,fps,s,out,r,e1,k⟩:=TZ (N:=N) (n:=n) (O:=O) (W:=[]) (f:=fun s=>if s=YF N.length ls then some (.rt .non) else none) (vs:=vs) (H:=H) (Q:=fun _ H'=>Same H H') (E:=fun _ _ _=>True) hO ⟨hl,ls,fp,.non,hi,by unfold Xl;simp[Xw],fun _ H' _ sm _ _ _=>sm⟩
 simp only at e1
 split at e1
 ·rename_i hs
  cases e1;subst hs
  exact⟨H0,fps,_,nm,lv,r,e,fun C dx od u z H' hc sm a1 a2 a3 a4=>q C dx od u z H' hc (k .non [] H' sm Is.non List.nodup_nil fun p hp=>by simp at hp) a1 a2 a3 a4⟩
 ·cases e1
end
def Vu(R:List PV->Option (Str×PV))(fs:List XE)(i:Nat)(f:XS):XS:=fun s=>(Td fs s).bind fun ls=>(R ls).bind fun nl=>(f (s.set i (some (.exf nl.1 nl.2)))).map (E5 i)
section
variable {X:Cx} {O W:List Nat} {k n i:Nat} {x cx nm:Str} {ps:List Str} {R:List PV->Option (Str×PV)} {e:Expr} {es:List Expr} {fs:List XE} {p cp ep np hp pos:Pos} {b₀:Stmt} {suite:List Stmt} {f:XS} {Cb:Addr} {rest:List ExceptHandler}
theorem F4(CX:CalX X.prog X.w X.K X.mg X.base x ps (spY X.K R n) k)(hr:Room k X.A)(hg:Gl X x)(ha:VA X.nox (e::es) fs)(hx:X.ex=[])(hst:X.stack=X.env::X.outer)(hfr:X.env.frame=some X.env.locals)
  (hN:X.N.Nodup) (hi:X.N[i]?=some nm) (hk:X.env.scope.names.lookup nm=some .local) (hgc:Gl X cx) (hmc:X.mg cx=some (.ref Cb)) (hB:PySem.W.ktsIn X.K Cb "BaseException" = true)
  (hR:∀ls m l,R ls=some (m,l)->∃C,PySem.W.nsIn X.K mainGlobals m=some (some (.ref C))/\PySem.W.ktsIn X.K C "BaseException" = true/\belowIn X.K C Cb=true)
  (hs:∀e,Ny (Cx.mark X e) O W (b₀::suite) f) (hiO:i∉O) (hsw:swapsWith (.Call (.Name x p) (e::es) [] cp) none ep.line X.env=pure false:=by rfl) (hn:fs.length=n:=by rfl)
  (hdb:(x==("__debug__" : Str))=false:=by decide) (hdb2:(cx==("__debug__" : Str))=false:=by decide) (he:starEach (e::es) X.env=(false,eval e X.env)::starEach es X.env:=by rfl) (hpl:(backTo cp (starEach es X.env)).any (·.1)=false:=by rfl) :
  VS X O (i::W) (.Try [.Expr (.Call (.Name x p) (e::es) [] cp) ep] (.ExceptHandler (some (.Name cx np)) (some nm) (b₀::suite) hp::rest) [] [] pos) (Vu R fs i f):=by
 intro pins s σ H D I ⟨H0,fps,sp,out,r,e1,ok⟩
 obtain⟨ls,e2,e1⟩:=Zf e1
 obtain⟨⟨m,lv⟩,e3,e1⟩:=Zf e1
 obtain⟨o1,e4,rfl⟩:=map_some e1
 obtain⟨C,hns,hC,hb⟩:=hR ls m lv e3
 obtain⟨fa,fd,hmx,hkp,hbd,F⟩:=CX.ex
 refine wpAny_Try_except (wpAny_execs_cons (wpAny_Expr_any ?_ I.quiet hsw))
 refine wpAny_Call_Name_kw (Vz I hg hmx ?_ hdb)
 refine PySem.W.callWith_K (h₀:=X.base) I.ok.mod.kin hkp ?_ he hpl
 refine wpAny_mono (ha cp pins s σ H (fun vs H1=>Same H H1/\∃fp,Iss X.K H1 ls vs fp) (I.wish _) ⟨fun _=>False,sp,ls,fun _ z=>z.elim,r.env,e2,fun vs H1 fp s1 i1 _=>⟨s1,fp,i1⟩⟩) (fun us s1 ⟨vs,H1,I1,rv,sm,fp,i1⟩=>?_) fun _ _ z=>z.elim
 have I1:Inv X pins σ H1 s1:=I1.unwish
 have lvn:vs.length=n:=by rw[i1.len,W0 e2,hn]
 have hsp:spY X.K R n vs H1 (fun _ _=>False) (fun cls dd H'=>cls = .ref C/\∃dx od u z,dd=some dx/\H' dx=some (.frz od (.own dx))/\NsO od (Wq m) u/\RelV z u/\Is X.K H' lv z []/\Same H1 H'):=⟨lvn,ls,fp,m,lv,i1,e3,fun C' dx od u z H' hc sm a1 a2 a3 a4=>⟨by rw[hns] at hc;cases hc;rfl,dx,od,u,z,rfl,a1,a2,a3,a4,sm⟩⟩
 have hl:(us++[]).length=ps.length:=by rw[List.append_nil,<-rv.length,lvn];have:=F.len _ _ _ _ hsp;omega
 have hbb:=hbd s1 us I1.kIn hl;rw[List.append_nil] at hbb
 refine⟨I1.kIn,wpAny_call (codeAny_mono (F.run X.A X.stack s1 H1 ⟨us,[]⟩ us vs _ _ hr I1.env0 hbb rv hsp) fun res s' hq=>?_)⟩
 cases res with
 | ok fl=>
  cases fl with
  | ret u=>obtain⟨_,_,_,_,_,_,_,z⟩:=hq;exact z.elim
  | next=>exact False.elim hq
  | brk=>exact False.elim hq
  | cont=>exact False.elim hq
 | error v=>
  obtain⟨ea,cls,dd,H',rfl,hos,hgn,u,hok,⟨T,xx,hH,hHT,he0,hT0⟩,rfl,dx,od,u',z',rfl,b1,b2,b3,b4,sm1⟩:=hq
  have I2:Inv X pins σ H' s':=I1.call' hos u hok hgn fun b hb=>nomatch hb
  refine BS I2 hx hst hfr xx hH hHT (SS I1 hx he0) (SS I1 hx hT0) hN hi hk hgc hmc hC hB hb (hs ea) (fun oe h1 h2 h3=>?_) hdb2
  have sm2:Same H (upd H' ea (.frz oe (.own ea))):=fun b o q=>by
   have q':=sm1 b o (sm b o q)
   rw[upd_ne (Zw q' hH)];exact q'
  have sm3:Same H' (upd H' ea (.frz oe (.own ea))):=Same.new hH _
  have iE:Is X.K (upd H' ea (.frz oe (.own ea))) (.exf m lv) (.ref ea) []:=by
   simp only[Is]
   exact⟨⟨ea,oe,ea,C,dx,od,u',z',rfl,upd_same,h1,hns,h2,h3,sm3 _ _ b1,b2,b3,b4.mono sm3⟩,trivial⟩
  have hlt:i<sp.length:=by
   have:=(List.getElem?_eq_some_iff.mp hi).1
   rw[r.len,I.len];exact this
  have r2:=(r.grow sm2).set (i:=i) iE (fun z=>absurd z hiO) (fun k _ _ p hp=>by simp at hp)
  refine⟨H0,_,_,o1,r2,e4,?_⟩
  have fin:∀(fps':Nat->List Addr)(σ':TH)(H'':Hp)(s':ZP),(∀j,j∉W->σ'[j]?=(σ.set i (some (V.ref ea)))[j]?/\Kep (fps' j) (TU fps sp.length i [] j))->∀j,j∉i::W->(σ'.set i none)[j]?=σ[j]?/\Kep (if j=i then [] else fps' j) (fps j):=fun fps' σ' H'' s' h j hj=>by
   have hji:j≠i:=fun z=>hj (by rw[z];exact .head _)
   obtain⟨a1,a2⟩:=h j fun z=>hj (.tail _ z)
   rw[List.getElem?_set_ne (Ne.symm hji)] at a1 ⊢
   rw[Yf hji] at a2;rw[if_neg hji]
   exact⟨a1,a2⟩
  cases o1 with
  | nx s'=>exact fun fps' σ' H'' r' k'=>ok _ _ _ (Vt hiO r') (fin fps' σ' H'' s' k')
  | bk s'=>exact fun fps' σ' H'' r' k'=>ok _ _ _ (Vt hiO r') (fin fps' σ' H'' s' k')
  | ct s'=>exact fun fps' σ' H'' r' k'=>ok _ _ _ (Vt hiO r') (fin fps' σ' H'' s' k')
  | rt l=>exact ok
end
section
variable {prog:Program} {w:World} {A:Around} {E:Value->Shared->Prop} {K:PySem.W.Frag} {a C:Addr}
theorem JI{s:Shared}{Q:Option Value->Shared->Prop}(X:K.In s.heap){o:Obj}{vs:Array Value}(hx:s.heap.get? a=some o)(hc:o.cls = .ref C)(hd:o.data = .fields vs)(hdd:o.dict=none)
  (g1:PySem.W.findIn K (.ref C) "__getattribute__" = some (some (.builtin "BaseException.__getattribute__")))
  (g2:PySem.W.findIn K (.ref C) "__getattr__" = some none) (g3:PySem.W.findIn K (.ref C) "__class__" = some (some (.builtin "object.__class__"))) (g4:PySem.W.mroIn K C (.type "object")=some true) (g5:PySem.W.ktsIn K C "BaseException" = true)
  (h:Q (some (.ref C)) { s with toks:=s.toks+1 }):wpAny (model prog w) A (getAttr? (.ref a) "__class__") Q E s:=by
 obtain⟨hh,g,d,t,os⟩:=s
 have I:PySem.W.InstAt hh a o C none:=⟨hx,hc,by unfold PySem.W.notCls;rw[hd],by rw[hdd];trivial⟩
 have L0:=I.type (M:=model prog w)
 have L1:=PySem.W.looks_findIn (M:=model prog w) X g1
 unfold getAttr? getAttrBy? getAttrBy
 refine wpAny_bind (wpAny_mkText (wpAny_bind (wpAny_attempt (wpAny_holding (wpAny_bind (L0.at (wpAny_bind (L1.at ?_))))))))
 have L2:=PySem.W.looks_findIn (M:=model prog w) X g2
 have L3:=PySem.W.looks_findIn (M:=model prog w) X g3
 show wpAny (model prog w) A (getAttrByItsOwn (.ref a) (.str "__class__" t) (.ref C) (.builtin "BaseException.__getattribute__") false false) _ _ _
 have f3:=F.attr_ValueError.ga.bind (.ref a)
 unfold getAttrByItsOwn
 repeat (any_goals (first | assumption | wp_step | (refine wpAny_bind (L2.at ?_)) | (refine L2.at ?_)))
 obtain⟨nm,qn,N,bs,bm,hdct,sn,sub,ab,col,dc,k0,k1,k2,k3,k5,nid,hC,hbase,_⟩:=PySem.W.kts_cls X g5
 have hC:hh.get? C=some (excClassObj nm qn C N bs bm hdct sn sub ab col dc k0 k1 k2 k3 k5 nid):=hC
 have hcB:(Value.ref C::bm).contains (.type "BaseException")=true:=by rw[List.contains_cons,hbase,Bool.or_true]
 have L0':=I.type (M:=model prog w)
 show codeAny (model prog w) A (.call (.builtin "BaseException.__getattribute__") ⟨[.ref a,.str "__class__" t],[]⟩) _ ⟨hh,g,d,t+1,os⟩
 refine codeAny_call_builtin F.attr_ValueError.ga.plain F.entry_bexc_ga ?_
 have hk:builtinKind "BaseException.__getattribute__" = some .slot:=by decide +kernel
 have hsplit:splitId "BaseException.__getattribute__" = some ("BaseException","__getattribute__"):=by decide +kernel
 have ha:=F.args_bexc_ga (.ref a) (.str "__class__" t)
 simp only[checkBuiltinCall,hk,hsplit]
 refine wpAny_bind ?_
 unfold isInstance
 repeat (first | (with_reducible refine wpAny_loadPart_at hx ?_;rw[hc]) | (with_reducible refine wpAny_isSubtype_exc hC ?_;rw[hcB]) | wp_step)
 refine L3.at ?_
 have f5:=PySem.W.KF.type_class;have f6:=F.slot_gs_get.lookup;have f7:=F.slot_gs_set.lookup
 repeat (any_goals (first | assumption | (with_reducible refine wpAny_loadPart_at hx ?_;rw[hc]) | wp_step))
 have X':K.In (⟨hh,g,d,t+1,os⟩:Shared).heap:=X
 have I':PySem.W.InstAt (⟨hh,g,d,t+1,os⟩:Shared).heap a o C none:=I
 refine PySem.W.class_get X' I' g4 ?_
 repeat (any_goals (first | assumption | wp_step))
end
def AV(a C:Addr)(h:Heap):Prop:=∃o,h.get? a=some o/\o.cls = .ref C/\o.dict=none/\∃vs,o.data = .fields vs
structure NV(K:PySem.W.Frag)(C:Addr):Prop where
 ga:PySem.W.findIn K (.ref C) "__getattribute__" = some (some (.builtin "BaseException.__getattribute__"))
 gr:PySem.W.findIn K (.ref C) "__getattr__" = some none
 cl:PySem.W.findIn K (.ref C) "__class__" = some (some (.builtin "object.__class__"))
 mr:PySem.W.mroIn K C (.type "object")=some true
 kt:PySem.W.ktsIn K C "BaseException" = true
theorem HJ{K:PySem.W.Frag}{a C:Addr}(c:NV K C):PySem.W.KitX K (.ref a) (.ref C) (AV a C) where
 ty:=fun M h _ ⟨o,h1,h2,_⟩=>h2▸(PySem.W.Looks.ld h1).andThen .now
 it:=fun M h X _=>by
  obtain⟨nm,qn,N,bs,bm,hdct,sn,sub,ab,col,dc,k0,k1,k2,k3,k5,nid,hC,_⟩:=PySem.W.kts_cls X c.kt
  intro A' Q' E' s' k q
  unfold isType loadHead
  exact wpAny_bind (wpAny_loadPart (k _ _ hC) (wpAny_pure q))
 ne:=fun h tp dd its n sl X htp=>by
  obtain⟨nm,qn,N,bs,bm,hdct,sn,sub,ab,col,dc,k0,k1,k2,k3,k5,nid,hC,_⟩:=PySem.W.kts_cls X c.kt
  refine Bool.eq_false_iff.mpr fun q=>?_
  have e:C=tp:=Value.ref.inj (beq_iff_eq.mp q)
  subst e;rw[hC] at htp
  exact absurd (congrArg Obj.cls (Option.some.inj htp)) (show ¬(Value.type "type" = Value.type "tuple") by decide)
 ca:=fun X ⟨o,h1,h2,h3,vs,h4⟩ k=>JI X h1 h2 h4 h3 c.ga c.gr c.cl c.mr c.kt k
inductive ClsV:V->Value->Prop
 | own (C:Addr):ClsV (.ref C) (.ref C)
 | ty (T:String):ClsV (.ty T) (.type T)
theorem ClsV.rel{cv:V}{c u:Value}(h:ClsV cv c)(r:RelV cv u):u=c:=by
 cases h with
 | own C=>exact r
 | ty T=>exact r
section
variable {X:Cx} {e:Expr} {f:XE} {cx:Str} {p p2 pos:Pos} {tb:Str->Option Bool} {c:Value} {cv:V}
theorem F5{C:Addr}(hg:Gl X cx)(hm:X.mg cx=some (.ref C))(hdb:(cx==("__debug__" : Str))=false:=by decide):PE X (.Name cx p2) (fun _ H Q=>Q (.ref C) H):=fun pins s σ H Q I h=>Vz I hg hm ⟨.ref C,H,I,rfl,h⟩ hdb
theorem F6{T:String}(hg:Gl X cx)(hm:X.mg cx=none)(hv:bootBuiltins cx=some (.type T))(hn:cx≠"__name__":=by decide)(hdb:(cx==("__debug__" : Str))=false:=by decide):PE X (.Name cx p2) (fun _ H Q=>Q (.ty T) H):=fun pins s σ H Q I h=>Vg I hg hm hv ⟨.ty T,H,I,rfl,h⟩ hn hdb
end
section
variable {prog:Program} {w:World} {A:Around} {E:Value->Shared->Prop} {K:PySem.W.Frag} {a C:Addr}
theorem M9{s:Shared}{Q:Option Value->Shared->Prop}(X:K.In s.heap){o:Obj}{ood:Option Obj}(I:PySem.W.InstAt s.heap a o C ood)
  (g1:PySem.W.findIn K (.ref C) "__getattribute__" = some (some (.builtin "BaseException.__getattribute__")))
  (g2:PySem.W.findIn K (.ref C) "__getattr__" = some none) (g3:PySem.W.findIn K (.ref C) "__class__" = some (some (.builtin "object.__class__"))) (g4:PySem.W.mroIn K C (.type "object")=some true) (g5:PySem.W.ktsIn K C "BaseException" = true)
  (h:Q (some (.ref C)) { s with toks:=s.toks+1 }):wpAny (model prog w) A (getAttr? (.ref a) "__class__") Q E s:=by
 obtain⟨hh,g,d,t,os⟩:=s
 have I:PySem.W.InstAt hh a o C ood:=I
 have hx:=I.at_;have hc:=I.cls
 have L0:=I.type (M:=model prog w)
 have L1:=PySem.W.looks_findIn (M:=model prog w) X g1
 unfold getAttr? getAttrBy? getAttrBy
 refine wpAny_bind (wpAny_mkText (wpAny_bind (wpAny_attempt (wpAny_holding (wpAny_bind (L0.at (wpAny_bind (L1.at ?_))))))))
 have L2:=PySem.W.looks_findIn (M:=model prog w) X g2
 have L3:=PySem.W.looks_findIn (M:=model prog w) X g3
 show wpAny (model prog w) A (getAttrByItsOwn (.ref a) (.str "__class__" t) (.ref C) (.builtin "BaseException.__getattribute__") false false) _ _ _
 have f3:=F.attr_ValueError.ga.bind (.ref a)
 unfold getAttrByItsOwn
 repeat (any_goals (first | assumption | wp_step | (refine wpAny_bind (L2.at ?_)) | (refine L2.at ?_)))
 obtain⟨nm,qn,N,bs,bm,hdct,sn,sub,ab,col,dc,k0,k1,k2,k3,k5,nid,hC,hbase,_⟩:=PySem.W.kts_cls X g5
 have hC:hh.get? C=some (excClassObj nm qn C N bs bm hdct sn sub ab col dc k0 k1 k2 k3 k5 nid):=hC
 have hcB:(Value.ref C::bm).contains (.type "BaseException")=true:=by rw[List.contains_cons,hbase,Bool.or_true]
 have L0':=I.type (M:=model prog w)
 show codeAny (model prog w) A (.call (.builtin "BaseException.__getattribute__") ⟨[.ref a,.str "__class__" t],[]⟩) _ ⟨hh,g,d,t+1,os⟩
 refine codeAny_call_builtin F.attr_ValueError.ga.plain F.entry_bexc_ga ?_
 have hk:builtinKind "BaseException.__getattribute__" = some .slot:=by decide +kernel
 have hsplit:splitId "BaseException.__getattribute__" = some ("BaseException","__getattribute__"):=by decide +kernel
 have ha:=F.args_bexc_ga (.ref a) (.str "__class__" t)
 simp only[checkBuiltinCall,hk,hsplit]
 refine wpAny_bind ?_
 unfold isInstance
 repeat (first | (with_reducible refine wpAny_loadPart_at hx ?_;rw[hc]) | (with_reducible refine wpAny_isSubtype_exc hC ?_;rw[hcB]) | wp_step)
 refine L3.at ?_
 have f5:=PySem.W.KF.type_class;have f6:=F.slot_gs_get.lookup;have f7:=F.slot_gs_set.lookup
 repeat (any_goals (first | assumption | (with_reducible refine wpAny_loadPart_at hx ?_;rw[hc]) | wp_step))
 have X':K.In (⟨hh,g,d,t+1,os⟩:Shared).heap:=X
 have I':PySem.W.InstAt (⟨hh,g,d,t+1,os⟩:Shared).heap a o C ood:=I
 refine PySem.W.class_get X' I' g4 ?_
 repeat (any_goals (first | assumption | wp_step))
theorem La{s:Shared}{Q:Value->Shared->Prop}{f:Str}{cd:ClassData}{v:Value}(X:K.In s.heap){o:Obj}{ood:Option Obj}(I:PySem.W.InstAt s.heap a o C ood)
  (g1:PySem.W.findIn K (.ref C) "__getattribute__" = some (some (.builtin "BaseException.__getattribute__")))
  (g2:PySem.W.findIn K (.ref C) "__getattr__" = some none) (g3:PySem.W.findIn K (.ref C) f=some none) (g4:PySem.W.clsIn K C=some cd) (gw:PySem.W.ownOf cd ood f=some (some v)) (g5:PySem.W.ktsIn K C "BaseException" = true) (hv:PySem.W.handedIn v=true)
  (h:Q v { s with toks:=s.toks+1 }):wpAny (model prog w) A (getAttr (.ref a) f true) Q E s:=by
 obtain⟨hh,g,d,t,os⟩:=s
 have I:PySem.W.InstAt hh a o C ood:=I
 have hx:=I.at_;have hc:=I.cls
 have L0:=I.type (M:=model prog w)
 have L1:=PySem.W.looks_findIn (M:=model prog w) X g1
 unfold getAttr getAttrBy
 refine wpAny_bind (wpAny_mkText (wpAny_holding (wpAny_bind (L0.at (wpAny_bind (L1.at ?_))))))
 have L2:=PySem.W.looks_findIn (M:=model prog w) X g2
 have L3:=PySem.W.looks_findIn (M:=model prog w) X g3
 have L4:=PySem.W.looks_own (M:=model prog w) X I g4 gw
 show wpAny (model prog w) A (getAttrByItsOwn (.ref a) (.str f t) (.ref C) (.builtin "BaseException.__getattribute__") true true) _ _ _
 have f3:=F.attr_ValueError.ga.bind (.ref a)
 unfold getAttrByItsOwn
 repeat (any_goals (first | assumption | wp_step | (refine wpAny_bind (L2.at ?_)) | (refine L2.at ?_)))
 obtain⟨nm,qn,N,bs,bm,hdct,sn,sub,ab,col,dc,k0,k1,k2,k3,k5,nid,hC,hbase,_⟩:=PySem.W.kts_cls X g5
 have hC:hh.get? C=some (excClassObj nm qn C N bs bm hdct sn sub ab col dc k0 k1 k2 k3 k5 nid):=hC
 have hcB:(Value.ref C::bm).contains (.type "BaseException")=true:=by rw[List.contains_cons,hbase,Bool.or_true]
 show codeAny (model prog w) A (.call (.builtin "BaseException.__getattribute__") ⟨[.ref a,.str f t],[]⟩) _ ⟨hh,g,d,t+1,os⟩
 refine codeAny_call_builtin F.attr_ValueError.ga.plain F.entry_bexc_ga ?_
 have hk:builtinKind "BaseException.__getattribute__" = some .slot:=by decide +kernel
 have hsplit:splitId "BaseException.__getattribute__" = some ("BaseException","__getattribute__"):=by decide +kernel
 have ha:=F.args_bexc_ga (.ref a) (.str f t)
 simp only[checkBuiltinCall,hk,hsplit]
 refine wpAny_bind ?_
 unfold isInstance
 repeat (first | (with_reducible refine wpAny_loadPart_at hx ?_;rw[hc]) | (with_reducible refine wpAny_isSubtype_exc hC ?_;rw[hcB]) | wp_step)
 refine L3.at ?_
 refine wpAny_bind (wpAny_pure (wpAny_bind (wpAny_pure ?_)))
 show wpAny _ _ (Builtin.ObjectAttr.ownThenClass (.ref a) f none none) _ _ _
 unfold Builtin.ObjectAttr.ownThenClass
 refine wpAny_bind (L4.at ?_)
 refine wpAny_bind (wpAny_rule (wpAny_pure ?_))
 refine wpAny_pure ?_
 show wpAny (model prog w) A (handedOut v) Q E _
 rw[PySem.W.handedOut_of hv]
 exact wpAny_pure h
end
def BW(a C:Addr)(h:Heap):Prop:=∃o ood,PySem.W.InstAt h a o C ood
theorem JJ{K:PySem.W.Frag}{a C:Addr}(c:NV K C):PySem.W.KitX K (.ref a) (.ref C) (BW a C) where
 ty:=fun M h _ ⟨o,ood,I⟩=>I.type
 it:=fun M h X _=>by
  obtain⟨nm,qn,N,bs,bm,hdct,sn,sub,ab,col,dc,k0,k1,k2,k3,k5,nid,hC,_⟩:=PySem.W.kts_cls X c.kt
  intro A' Q' E' s' k q
  unfold isType loadHead
  exact wpAny_bind (wpAny_loadPart (k _ _ hC) (wpAny_pure q))
 ne:=(HJ (a:=a) c).ne
 ca:=fun X ⟨o,ood,I⟩ k=>M9 X I c.ga c.gr c.cl c.mr c.kt k
def Xt(tb:Str->Option Bool)(f:XE):XE:=fun s=>match f s with
 | some (.exf n _)=>(tb n).map PV.bl
 | _=>none
theorem Ku{X:Cx}{pins:List (Addr×Obj)}{σ:L2.St}{H:Hp}{s:Shared}{a dx x C:Addr}{o od:Obj}{vs:Array Value}(I:Inv X pins σ H s)(hH:H a=some (.frz o (.own x)))(hc:o.cls = .ref C)(hd:o.dict=some dx)(hv:o.data = .fields vs)(hdx:H dx=some (.frz od (.own dx))) :
  PySem.W.InstAt s.heap a o C (some od):=⟨(I.hok a _ hH).1,hc,by unfold PySem.W.notCls;rw[hv],by rw[hd];exact(I.hok dx _ hdx).1⟩
section
variable {X:Cx} {e:Expr} {f:XE} {cx:Str} {p p2 pos:Pos} {tb:Str->Option Bool} {c:Value} {cv:V}
theorem NW:Wa X (.builtin "isinstance") (fun xs H Q=>∃a C cv c b o x dx od,xs=[.ref a,cv]/\ClsV cv c/\H a=some (.frz o (.own x))/\o.cls = .ref C/\o.dict=some dx/\(∃vs,o.data = .fields vs)/\H dx=some (.frz od (.own dx))/\NV X.K C/\PySem.W.kitOne X.K (.ref C) c=some b/\Q (.bl b) H):=by
 intro pins s σ H xs us Q I r h
 obtain⟨a,C,cv,c,b,o,x,dx,od,rfl,hcv,hH,hc,hd,⟨vs,hv⟩,hdx,ec,hk,q⟩:=h
 obtain⟨u,v,rfl,ru,rv⟩:=LK r
 obtain rfl:=hcv.rel rv
 obtain rfl:u=Value.ref a:=ru
 exact PySem.W.kia_one (JJ ec) I.kIn ⟨o,some od,Ku I hH hc hd hv hdx⟩ hk (fun z=>nomatch z) fun tk=>⟨.bl b,H,I.tok tk,rfl,q⟩
theorem HK(hgi:Gl X "isinstance")(hm:X.mg "isinstance" = none)(he:VE X e f)(hcv:ClsV cv c)(hc:PE X (.Name cx p2) (fun _ H Q=>Q cv H))
  (ht:∀n b,tb n=some b->∃C,PySem.W.nsIn X.K mainGlobals n=some (some (.ref C))/\NV X.K C/\PySem.W.kitOne X.K (.ref C) c=some b)
  (hst:starEach [e,.Name cx p2] X.env=(false,eval e X.env)::starEach [.Name cx p2] X.env:=by rfl) (hst2:starEach [.Name cx p2] X.env=(false,eval (.Name cx p2) X.env)::starEach [] X.env:=by rfl) (hpl:(backTo pos (starEach [.Name cx p2] X.env)).any (·.1)=false:=by rfl):VM X (.Call (.Name "isinstance" p) [e,.Name cx p2] [] pos) (Xt tb f):=
 PE.imp (RN NW hgi hm (by decide +kernel) (Yv he (Yv hc XU (hs:=hst2)) (hs:=hst)) (by decide) (by decide) hst hpl) fun σ H Q ⟨s,l,env,e1,k⟩=>by
  unfold Xt at e1
  split at e1
  ·rename_i n lv hn
   obtain⟨b,hb,rfl⟩:=map_some e1
   obtain⟨C,hns,ec,hk⟩:=ht n b hb
   refine⟨fun _=>False,s,.exf n lv,fun _ z=>z.elim,env,hn,fun v H1 fp s1 i1 _=>?_⟩
   simp only[Is] at i1
   obtain⟨⟨ea,o,x,C',dx,od,u,z,rfl,hH,hcl,hn',hd,hv,hdx,_⟩,_⟩:=i1
   rw[hns] at hn'
   cases hn'
   exact⟨ea,C,cv,c,b,o,x,dx,od,rfl,hcv,hH,hcl,hd,hv,hdx,ec,hk,k _ H1 [] s1 (Is.bl _) List.nodup_nil fun p hp=>by simp at hp⟩
  ·cases e1
structure BX(K:PySem.W.Frag)(n:Str)(C:Addr):Prop where
 ns:PySem.W.nsIn K mainGlobals n=some (some (.ref C))
 ec:NV K C
 nf:PySem.W.findIn K (.ref C) (Wq n)=some none
 hd:(PySem.W.clsIn K C).any (·.hasDict)=true
def Wf(n:Str)(f:XE):XE:=fun s=>match f s with
 | some (.exf m l)=>if m=n/\Rb l=true then some l else none
 | _=>none
theorem F7{od:Obj}{f:Str}{u:Value}{hp:Heap}{dx:Addr}(h:NsO od f u)(hx:hp.get? dx=some od):PySem.W.lookIn f od=some (some u):=by
 obtain⟨o,es,ep,e1,e2,_,_,e3⟩:=h hp dx hx
 rw[hx] at e1;cases e1
 have e4:nsFind es f=some u:=(e3 f).trans (if_pos rfl)
 have e5:findBy (fun n v=>v.isStr n) es f=some u:=e4
 unfold findBy at e5;rw[<-Array.find?_toList] at e5;unfold PySem.W.lookIn;rw[e2]
 dsimp only
 cases q:es.toList.find? (fun x=>x.key.isStr f) with
 | none=>rw[q] at e5;cases e5
 | some en=>rw[q] at e5;cases e5;rfl
theorem Lb{z:V}{u:Value}(r:RelV z u):PySem.W.handedIn u=true:=by
 cases z<;>simp only[L2.RelV] at r<;>first | (obtain⟨t,rfl⟩:=r;rfl) | (subst r;rfl)
theorem OK{n:Str}{C:Addr}(F:BX X.K n C)(he:VE X e f)(hb:attributeBase e (Wq n) X.env (eval e X.env)=eval e X.env:=by rfl):VE X (.Attribute e (Wq n) pos) (Wf n f):=by
 intro pins s σ H Q I h
 obtain⟨Rm,s',l,hd,env,e1,k⟩:=h
 unfold Wf at e1
 split at e1
 ·rename_i m lv hn
  split at e1
  ·rename_i hm
   cases e1
   obtain⟨rfl,hg⟩:=hm
   refine G3 hb (YI (he pins s σ H (fun v H1=>Same H H1/\Is X.K H1 (.exf m l) v []) I ⟨Rm,s',.exf m l,hd,env,hn,fun v H1 fp s1 i1 n1=>⟨s1,by
    have:fp=[]:=by simp only[Is] at i1;exact i1.2
    rw[<-this];exact i1⟩⟩) fun u s1 ⟨v,H1,I1,rv,sm,i1⟩=>?_)
   simp only[Is] at i1
   obtain⟨⟨ea,o,x,C',dx,od,u',z,rfl,hH,hcl,hn',hdd,⟨vs,hv⟩,hdx,ns,rz,iz⟩,_⟩:=i1
   rw[F.ns] at hn'
   cases hn'
   obtain rfl:u=Value.ref ea:=rv
   obtain⟨cd,hcd,hhd⟩:=PySem.W.any_some F.hd
   refine La I1.kIn (Ku I1 hH hcl hdd hv hdx) F.ec.ga F.ec.gr F.nf hcd (by
    unfold PySem.W.ownOf;rw[if_pos hhd]
    exact F7 ns (I1.hok dx _ hdx).1) F.ec.kt (Lb rz) ?_
   exact⟨z,H1,I1.kept (t':=s1.toks+1) fun _ _ q=>q,rz,k z H1 [] sm iz fun p hp=>by simp at hp⟩
  ·cases e1
 ·cases e1
end
section
variable {M:Model} {A:Around} {E:Value->Shared->Prop} {s:Shared} {env:Env} {L e T:Addr} {cls fl:Value} {dd:Option Addr} {Q:Unit->Shared->Prop}
theorem BY(hf:env.frame=some L)(x:HB s.heap e cls dd T (rawInt L))(h:Q () s):wpAny M A (noteFrame (.ref e) env) Q E s:=by
 obtain⟨oe,vs,oT,ts,he,hc,hdd,hd,h1,hTe,hT,hdT,h3⟩:=x
 unfold noteFrame;simp only[hf]
 refine wpAny_bind (wpAny_field he hd h1 ?_)
 rw[if_pos (show(Value.ref T != Value.none)=true from by simp)]
 refine wpAny_bind (wpAny_field hT hdT h3 ?_)
 rw[if_pos (by simp)]
 exact wpAny_pure h
end
section
variable {X:Cx} {E:XK}
def Dc(X:Cx)(E:XK):Value->Shared->Prop:=fun v s'=>∃(pins:List (Addr×Obj)) (σ:L2.St) (H:Hp) (s:Shared) (e:Addr) (cls:Value) (dd:Option Addr),v = .ref e/\Inv X pins σ H s/\X.s₀.heap.get? e=none/\H e=none/\E cls dd H/\
 ((s'=s/\HA s.heap e cls dd)\/∃h' T,s'={ s with heap:=h' }/\s.heap.objs.size<=T/\HB h' e cls dd T (rawInt X.env.locals)/\Eff ((X.env::X.outer).filterMap (·.frame)) [e,T] s.heap h')
theorem NX(D:HD X E){v:Value}{s':Shared}(h:Dc X E v s'):X.xe v s':=by
 obtain⟨pins,σ,H,s,e,cls,dd,rfl,I,he,hH,q,⟨rfl,x⟩ | ⟨h',T,rfl,hT,x,ef⟩⟩:=h
 ·exact Cr D I x he hH q
 ·rw[D.xe]
  show wpAny _ _ (leaving X.env (.ref e)) _ _ _
  unfold leaving
  refine wpAny_bind (BY D.fr x ?_)
  refine OF x (fs:=(X.env::X.outer).filterMap (·.frame)) fun h2 x2 e2 _=>?_
  have nT:X.s₀.heap.get? T=none:=Heap.get?_none_of_le (Nat.le_trans I.sz hT)
  have hHT:H T=none:=I.hok.fresh hT
  exact PJ D I nT he hH hHT (fun b hb=>by
   rcases List.mem_cons.mp hb with z | z
   ·rw[z];exact⟨hH,he⟩
   ·rw[List.mem_singleton.mp z];exact⟨hHT,nT⟩) x2 (ef.trans (e2.mono fun b hb=>by simp at hb;simp[hb])) q
abbrev Cx.rdy(X:Cx)(E:XK):Cx:=X.wish (Dc X E)
theorem Kv:AS (Cx.rdy X E) E:=⟨fun{pins σ H s e cls dd} I x a b q=>⟨pins,σ,H,s,e,cls,dd,rfl,I.unwish,a,b,q,.inl ⟨rfl,x⟩⟩⟩
theorem PSs.rdy{st:List Stmt}{t:TS}(D:HD X E)(h:PSs (Cx.rdy X E) st t):PSs X st t:=fun pins s σ H D' I hw=>
 wpAny_mono (h pins s σ H D' (I.wish _) hw) (fun _ _ q=>q.unwish) fun v s' z=>NX D z
end
def CY(k:Bool):List Bool->Option Nat
 | []=>none
 | x::r=>if x=k then some 0 else(CY k r).map (· + 1)
theorem NY{k:Bool}:∀{l:List Bool}{j:Nat},CY k l=some j->l[j]?=some k/\∀m,m<j->l[m]?≠some k
 | [],_,h=>by cases h
 | x::r,j,h=>by
  unfold CY at h
  split at h
  ·rename_i e
   cases h
   exact⟨by simp[e],fun m hm=>by omega⟩
  ·rename_i e
   cases q:CY k r with
   | none=>rw[q] at h;cases h
   | some i=>
    rw[q] at h;cases h
    obtain⟨a,b⟩:=NY q
    refine⟨by simpa using a,fun m hm=>?_⟩
    cases m with
    | zero=>simpa using e
    | succ m=>have hm':m+1<i+1:=hm;simpa using b m (by omega)
def F8(K:PySem.W.Frag):V->List V->Hp->VK->Prop:=fun x vs H Q=>∃(p:Addr) (ns:List Bool) (k:Bool) (j:Nat),x = .ref p/\vs=[.bl k]/\SqL K H p (ns.map V.bl)/\CY k ns=some j/\Q (.int (j:Int)) H
def F9(K:PySem.W.Frag):V->List V->Hp->VK->Prop:=fun x vs H Q=>∃(p:Addr) (ns:List Bool) (k:Bool),x = .ref p/\vs=[.bl k]/\SqL K H p (ns.map V.bl)/\Q (.int ((ns.filter (·==k)).length:Int)) H
theorem NZ{ns:List Bool}{its:List Value}(r:Vals (ns.map V.bl) its):its=ns.map Value.bool:=by
 induction ns generalizing its with
 | nil=>cases r;rfl
 | cons a t ih=>
  cases r with
  | cons h1 h2=>rw[ih h2];cases h1;rfl
theorem JK{X:Cx}:AH X "list.index" (F8 X.K):=by
 intro pins s σ H x vs v us Q I rx rv h
 obtain⟨p,ns,k,j,rfl,rfl,hq,hj,q⟩:=h
 cases rx
 obtain⟨u,rfl,ru⟩:=Ud rv
 obtain rfl:u=Value.bool k:=ru
 obtain⟨its,r,pl,hz⟩:=I.list hq
 obtain⟨o,n,ho,hc,hd,hs⟩:=pl
 obtain⟨cls,dd,data,sl⟩:=o
 simp only at hc hd hs
 subst hc hd hs
 rw[List.length_map] at hz;have hb:=NZ r;subst hb
 obtain⟨a,b⟩:=NY hj
 have hjn:j<ns.length:=(List.getElem?_eq_some_iff.mp a).1
 let e:Value->Bool:=fun y=>match y with | .bool c=>c==k | _=>false
 have sz:sizeLine<2^62:=by decide
 refine call_meets F.slot_list_index ⟨_,ho,rfl⟩ F.entry_list_index (F.args_list_index_2 _ _) (SeqAt.list_indexAt p (ns.map Value.bool).toArray n none sl (.bool k) e j (by simp;omega) (by omega) ?_ ?_) ⟨ho,fun y hy=>?_,.int (j:Int),H,I.tok _,⟨_,rfl⟩,q⟩
 ·rw[List.getElem?_eq_getElem hjn] at a
  simp only[List.getElem_toArray,List.getElem_map]
  show(ns[j]==k)=true
  rw[Option.some.inj a];simp
 ·intro m hm hmj
  have hm2:m<ns.length:=by simpa using hm
  have:=b m hmj
  rw[List.getElem?_eq_getElem hm2] at this;simp only[List.getElem_toArray,List.getElem_map]
  show(ns[m]==k)=false
  simpa using this
 ·simp at hy
  rcases hy with⟨hb,rfl⟩ | ⟨hb,rfl⟩<;>exact SeqAt.EqAt.bool_bool _ _
theorem JL{X:Cx}:AH X "list.count" (F9 X.K):=by
 intro pins s σ H x vs v us Q I rx rv h
 obtain⟨p,ns,k,rfl,rfl,hq,q⟩:=h
 cases rx
 obtain⟨u,rfl,ru⟩:=Ud rv
 obtain rfl:u=Value.bool k:=ru
 obtain⟨its,r,pl,hz⟩:=I.list hq
 obtain⟨o,n,ho,hc,hd,hs⟩:=pl
 obtain⟨cls,dd,data,sl⟩:=o
 simp only at hc hd hs
 subst hc hd hs
 have hb:=NZ r;subst hb
 let e:Value->Bool:=fun y=>match y with | .bool c=>c==k | _=>false
 have hcnt:((ns.map Value.bool).toArray.toList.countP e)=(ns.filter (·==k)).length:=by
  rw[<-List.countP_eq_length_filter];simp only[List.countP_map];rfl
 refine call_meets F.slot_list_count ⟨_,ho,rfl⟩ F.entry_list_count (F.args_list_count_2 _ _) (SeqAt.list_countAt p (ns.map Value.bool).toArray n none sl (.bool k) e) ⟨ho,fun y hy=>?_,?_⟩
 ·simp at hy
  rcases hy with⟨hb,rfl⟩ | ⟨hb,rfl⟩<;>exact SeqAt.EqAt.bool_bool _ _
 ·rw[hcnt]
  exact⟨.int _,H,I.tok _,⟨_,rfl⟩,q⟩
def RD:PV->PV->Option PV
 | .lst l,.bl k=>(W4 l).bind fun ns=>(CY k ns).map fun(j:Nat)=>PV.int (j:Int)
 | _,_=>none
def Sb:PV->PV->Option PV
 | .lst l,.bl k=>(W4 l).map fun ns=>PV.int ((ns.filter (·==k)).length:Int)
 | _,_=>none
section
variable {X:Cx} {o e:Expr} {fo fe:XE} {apos cpos:Pos}
theorem JM(ho:VE X o fo)(he:VE X e fe)
  (hbase:attributeBase o "index" X.env (eval o X.env)=eval o X.env:=by rfl)
  (hfew:((backTo cpos (starEach [e] X.env)).all (fun x=>!x.1)&&(backToKw cpos (keywordEach [] X.env)).all (fun x=>x.1.isSome)
   &&decide (([e]:List Expr).length+([]:List Keyword).length+(if([]:List Keyword).isEmpty then 0 else 1)<30))=true:=by rfl)
  (hline:(apos.endLine==cpos.line)=true:=by rfl) (hs:starEach [e] X.env=(false,eval e X.env)::starEach [] X.env:=by rfl) (hplain:(backTo cpos (starEach [] X.env)).any (·.1)=false:=by rfl) :
  VE X (.Call (.Attribute o "index" apos) [e] [] cpos) (Zi RD fo fe):=
 PE.imp (S5 F.plainAttrs_list F.slot_list_index F.type_list_index JK ho (Zc he Zg hs) hbase hfew hline hs hplain) fun σ H Q ⟨Rm,s,l,hd,env,e,k⟩=>by
  obtain⟨x',y',e1,e2,e⟩:=Vn e
  refine⟨Rm,s,x',hd,env,e1,fun v H1 fp s1 i1 n1=>?_⟩
  unfold RD at e
  split at e
  ·obtain⟨ns,e3,e4⟩:=Zf e
   obtain⟨j,hj,rfl⟩:=map_some e4
   have em:=Wr e3;subst em
   obtain⟨p,xs,fq,rfl,hp,hi,_⟩:=i1.lst_inv
   obtain⟨rfl,rfl⟩:=hi.bL
   refine⟨.inl ⟨rfl,_,.inl (.inl hp)⟩,Rm,s,[.bl _],fun q hq=>Same.mut s1 (hd q hq),env.mono s1,by show(fe s).bind _=_;rw[e2];rfl,fun vs H2 fq s2 i2 n2=>?_⟩
   obtain⟨w,rfl,iw⟩:=i2.one_inv
   rw[iw.bl_inv.1]
   exact⟨p,ns,_,j,rfl,rfl,.inl (.inl (s2 _ _ hp)),hj,k _ _ [] (s1.trans s2) (Is.int _) fun r hr=>by simp at hr⟩
  ·cases e
theorem JN(ho:VE X o fo)(he:VE X e fe)
  (hbase:attributeBase o "count" X.env (eval o X.env)=eval o X.env:=by rfl)
  (hfew:((backTo cpos (starEach [e] X.env)).all (fun x=>!x.1)&&(backToKw cpos (keywordEach [] X.env)).all (fun x=>x.1.isSome)
   &&decide (([e]:List Expr).length+([]:List Keyword).length+(if([]:List Keyword).isEmpty then 0 else 1)<30))=true:=by rfl)
  (hline:(apos.endLine==cpos.line)=true:=by rfl) (hs:starEach [e] X.env=(false,eval e X.env)::starEach [] X.env:=by rfl) (hplain:(backTo cpos (starEach [] X.env)).any (·.1)=false:=by rfl) :
  VE X (.Call (.Attribute o "count" apos) [e] [] cpos) (Zi Sb fo fe):=
 PE.imp (S5 F.plainAttrs_list F.slot_list_count F.type_list_count JL ho (Zc he Zg hs) hbase hfew hline hs hplain) fun σ H Q ⟨Rm,s,l,hd,env,e,k⟩=>by
  obtain⟨x',y',e1,e2,e⟩:=Vn e
  refine⟨Rm,s,x',hd,env,e1,fun v H1 fp s1 i1 n1=>?_⟩
  unfold Sb at e
  split at e
  ·obtain⟨ns,e3,rfl⟩:=map_some e
   have em:=Wr e3;subst em
   obtain⟨p,xs,fq,rfl,hp,hi,_⟩:=i1.lst_inv
   obtain⟨rfl,rfl⟩:=hi.bL
   refine⟨.inl ⟨rfl,_,.inl (.inl hp)⟩,Rm,s,[.bl _],fun q hq=>Same.mut s1 (hd q hq),env.mono s1,by show(fe s).bind _=_;rw[e2];rfl,fun vs H2 fq s2 i2 n2=>?_⟩
   obtain⟨w,rfl,iw⟩:=i2.one_inv
   rw[iw.bl_inv.1]
   exact⟨p,ns,_,rfl,rfl,.inl (.inl (s2 _ _ hp)),k _ _ [] (s1.trans s2) (Is.int _) fun r hr=>by simp at hr⟩
  ·cases e
end
section
variable {X:Cx} {O W:List Nat} {k n i:Nat} {x y cx nm:Str} {ps:List Str} {R:List PV->Option Str} {e:Expr} {es:List Expr} {fs:List XE} {p py cp ep np hp pos:Pos} {b₀:Stmt} {suite:List Stmt} {f:XS} {Cb:Addr} {rest:List ExceptHandler}
theorem Kw{body:List Stmt}{h₀:ExceptHandler}{hs:List ExceptHandler}(hb:Ny X.nox O W body f):VS X O W (.Try body (h₀::hs) [] [] pos) f:=by
 intro pins s σ H D I h
 refine wpAny_Try_except (wpAny_mono (hb pins s σ H D (I.wish _) h) (fun fl s1 q=>?_) fun _ _ z=>z.elim)
 cases fl with
 | next=>
  obtain⟨σ',H',I',z⟩:=q
  exact wpAny_execs_nil ⟨σ',H',I'.unwish,z⟩
 | ret u=>
  obtain⟨v,σ',H',I',r,z⟩:=q
  exact⟨v,σ',H',I'.unwish,r,z⟩
 | brk=>
  obtain⟨σ',H',I',z⟩:=q
  exact⟨σ',H',I'.unwish,z⟩
 | cont=>
  obtain⟨σ',H',I',z⟩:=q
  exact⟨σ',H',I'.unwish,z⟩
def HL(f g:XS):XS:=fun s=>match f s with
 | some o=>some o
 | none=>g s
theorem Dd{st:Stmt}{g:XS}{W1 W2:List Nat}(h1:VS X O W1 st f)(h2:VS X O W2 st g):VS X O (W1++W2) st (HL f g):=by
 intro pins s σ H D I ⟨H0,fps,sp,out,r,e,k⟩
 have s1:∀j,j∉W1++W2->j∉W1:=fun j hj z=>hj (List.mem_append_left _ z)
 have s2:∀j,j∉W1++W2->j∉W2:=fun j hj z=>hj (List.mem_append_right _ z)
 unfold HL at e
 split at e
 ·rename_i o ho
  cases e
  exact h1 pins s σ H D I ⟨H0,fps,sp,_,r,ho,k.same (fun j _=>⟨rfl,Kep.refl _⟩) s1⟩
 ·exact h2 pins s σ H D I ⟨H0,fps,sp,_,r,e,k.same (fun j _=>⟨rfl,Kep.refl _⟩) s2⟩
end
def nms:List Str:=["NoWeb","Apart","NoText","NoOrder","TooMany","NotSettled","NoTree","NoTotal","NoEnds","NoRow","NoName"]
def Rc(nm cx:Str):Str->Option Bool:=fun n=>if n=nm then some (decide (cx=nm)) else none
def CZ(nm:Str):Str->Option Bool:=fun n=>if n=nm then some true else none
abbrev veT:List Value:=[.type "ValueError",.type "Exception",.type "BaseException",.type "object"]
def BZ(i:Nat):Stmt->Stmt
 | .ClassDef _ _ _ b _ _ _ _ _ _ _=>b.getD i (.Pass ⟨0,0,0,0⟩)
 | s=>s
structure QF(nm:Str)(P:Program)(w:World)(K:PySem.W.Frag)(mg:Str->Option Value)(base:Heap)(C Cb:Addr):Prop where
 no:PySem.W.nsIn K mainGlobals nm=some (some (.ref C))
 mgo:mg nm=some (.ref C)
 cf:Cs P w K mg base C (Wq nm) veT "ValueError.__new__"
 fl:BX K nm C
 bl:belowIn K C Cb=true
 cls:∀cx∈nms,∃D,mg cx=some (.ref D)/\PySem.W.kitOne K (.ref C) (.ref D)=some (decide (cx=nm))
 ve:PySem.W.kitOne K (.ref C) (.type "ValueError")=some true
def AW(f:XE):XS:=fun s=>(f s).map fun _=>.nx s
theorem B0{X:Cx}{O:List Nat}{e:Expr}{f:XE}{pos:Pos}(he:VE X e f)(hs:swapsWith e none pos.line X.env=pure false:=by rfl):VS X O [] (.Expr e pos) (AW f):=PS.imp (WX he hs) fun D σ H ⟨H0,fps,s,out,r,e,k⟩=>by
 obtain⟨l,e1,rfl⟩:=map_some e
 exact⟨fun _=>False,s,l,fun _ z=>z.elim,r.env,e1,fun v H' fp sm is _=>k fps σ H' (r.grow sm) fun j _=>⟨rfl,Kep.refl _⟩⟩
theorem N0:∀{vs ws:List V}{us ts:List Value},Vals vs us->Vals ws ts->Vals (vs++ws) (us++ts)
 | [],ws,us,ts,h,k=>by cases h;exact k
 | _::_,ws,us,ts,h,k=>by
  cases h with
  | cons a b=>exact .cons a (N0 b k)
structure CalXD(P:Program)(w:World)(K:PySem.W.Frag)(mg:Str->Option Value)(base:Heap)(x:Str)(ps:List Str)(sp:Sp)(k:Nat)(dv:Int):Prop where
 ex:∃f fd t,mg x=some (.ref f)/\PySem.W.keepIn K (.ref f)=true/\Binds K fd ps [.int dv t]/\Ue P w K mg base (E3 P w) k f fd ps sp
section
variable {K:PySem.W.Frag} {P:Program} {w:World} {mg:Str->Option Value} {base:Heap} {x:Str} {st:Stmt} {N ps:List Str} {k n:Nat} {O W:List Nat} {dv:Int}
theorem def_yrD(m:Nat)(fy:XF)(D:Q1 K mg x st dv)(S:Zy N ps (Zk st))
  (hb:∀(T:Addr)(t:Tok)(kV doc pm:Value)(an:Option Addr)(cdv ct:Value)(us:List Value),us.length+1=ps.length->∃q:Option (Array Value)->Sem (List (Str×Value)),
   bindArgs (PySem.W.fnOf x x (YX st) (ZZ st) (Zk st) (.ref T) kV doc pm an cdv ct) ⟨us,[]⟩=seqItems? (.ref T) >>= q/\q (some #[.int dv t])=pure (ps.zip (us++[.int dv t])))
  (hn:ps.length=n) (hm:N.length=m) (hO:∀i∈O,n<=i)
  (hbody:∀(fa:Addr)(cdv:Value)(A:Around)(outer:List Env)(s:Shared)(H:Hp)(E:XK),Room k (A.deeper (envOfC x (Zk st) s.heap.objs.size fa cdv))->E8 (Cx.rdy (Tv (E3 P w) P w K mg base N x (Zk st) fa cdv A outer s H E) E) O E (ZZ st) fy) :
  CalXD P w K mg base x ps (spY K (BV m fy) n) (k+1) dv:=by
 subst hm
 obtain⟨fa,T,t,o,n',oc,od,kV,doc,pm,an,cdv,ct,osl,hmg,lk,hcd,kp,lt,hd⟩:=D.ex
 refine⟨fa,_,t,hmg,kp,fun s us X hl=>?_,Nc lk hcd S (fun vs H Q E h=>by rw[hn];exact h.1) fun A outer s H vs Q E hr hsp=>⟨_,PSs.rdy Kq (hbody fa cdv A outer s H E hr),HI hO hsp⟩⟩
 obtain⟨q,h1,h2⟩:=hb T t kV doc pm an cdv ct us (by simpa using hl)
 exact PySem.W.binds_K X rfl lt hd h1 h2
theorem def_yrF(m:Nat)(fy:XF)(D:Q1 K mg x st dv)(S:Zy N ps (Zk st))
  (hb:∀(T:Addr)(t:Tok)(kV doc pm:Value)(an:Option Addr)(cdv ct:Value)(us:List Value),us.length=ps.length->∃q:Option (Array Value)->Sem (List (Str×Value)),
   bindArgs (PySem.W.fnOf x x (YX st) (ZZ st) (Zk st) (.ref T) kV doc pm an cdv ct) ⟨us,[]⟩=seqItems? (.ref T) >>= q/\q (some #[.int dv t])=pure (ps.zip us))
  (hn:ps.length=n) (hm:N.length=m) (hO:∀i∈O,n<=i)
  (hbody:∀(fa:Addr)(cdv:Value)(A:Around)(outer:List Env)(s:Shared)(H:Hp)(E:XK),Room k (A.deeper (envOfC x (Zk st) s.heap.objs.size fa cdv))->E8 (Cx.rdy (Tv (E3 P w) P w K mg base N x (Zk st) fa cdv A outer s H E) E) O E (ZZ st) fy) :
  CalX P w K mg base x ps (spY K (BV m fy) n) (k+1):=by
 subst hm
 obtain⟨fa,T,t,o,n',oc,od,kV,doc,pm,an,cdv,ct,osl,hmg,lk,hcd,kp,lt,hd⟩:=D.ex
 refine⟨fa,_,hmg,kp,fun s us X hl=>?_,Nc lk hcd S (fun vs H Q E h=>by rw[hn];exact h.1) fun A outer s H vs Q E hr hsp=>⟨_,PSs.rdy Kq (hbody fa cdv A outer s H E hr),HI hO hsp⟩⟩
 rw[List.append_nil] at hl ⊢
 obtain⟨q,h1,h2⟩:=hb T t kV doc pm an cdv ct us hl
 exact PySem.W.binds_K X rfl lt hd h1 h2
theorem def_okF(m:Nat)(f:XS)(D:Q1 K mg x st dv)(S:Zy N ps (Zk st))
  (hb:∀(T:Addr)(t:Tok)(kV doc pm:Value)(an:Option Addr)(cdv ct:Value)(us:List Value),us.length=ps.length->∃q:Option (Array Value)->Sem (List (Str×Value)),
   bindArgs (PySem.W.fnOf x x (YX st) (ZZ st) (Zk st) (.ref T) kV doc pm an cdv ct) ⟨us,[]⟩=seqItems? (.ref T) >>= q/\q (some #[.int dv t])=pure (ps.zip us))
  (hn:ps.length=n) (hm:N.length=m) (hO:∀i∈O,n<=i)
  (hbody:∀(fa:Addr)(cdv:Value)(A:Around)(outer:List Env)(s:Shared)(H:Hp)(E:XK),Room k (A.deeper (envOfC x (Zk st) s.heap.objs.size fa cdv))->Ny (Tv O0 P w K mg base N x (Zk st) fa cdv A outer s H E).nox O W (ZZ st) f) :
  Xj P w K mg base x ps (YU K (Xl m f) n) (k+1):=by
 subst hm
 obtain⟨fa,T,t,o,n',oc,od,kV,doc,pm,an,cdv,ct,osl,hmg,lk,hcd,kp,lt,hd⟩:=D.ex
 refine⟨fa,_,hmg,kp,fun s us X hl=>?_,Nc lk hcd S (fun vs H Q E h=>by rw[hn];exact h.1) fun A outer s H vs Q E hr hsp=>⟨_,(hbody fa cdv A outer s H E hr).nox,TZ hO hsp⟩⟩
 rw[List.append_nil] at hl ⊢
 obtain⟨q,h1,h2⟩:=hb T t kV doc pm an cdv ct us hl
 exact PySem.W.binds_K X rfl lt hd h1 h2
end
section
variable {X:Cx} {O W:List Nat} {k n i:Nat} {x cx nm y:Str} {ps:List Str} {R:List PV->Option (Str×PV)} {e:Expr} {es:List Expr} {fs:List XE} {p py cp ep np hp pos:Pos} {b₀:Stmt} {suite:List Stmt} {f:XS} {Cb:Addr} {rest:List ExceptHandler}
theorem HM{dv:Int}(CX:CalXD X.prog X.w X.K X.mg X.base x ps (spY X.K R n) k dv)(hr:Room k X.A)(hg:Gl X x)(ha:VA X.nox (e::es) fs)(hx:X.ex=[])(hst:X.stack=X.env::X.outer)(hfr:X.env.frame=some X.env.locals)
  (hN:X.N.Nodup) (hi:X.N[i]?=some nm) (hk:X.env.scope.names.lookup nm=some .local) (hgc:Gl X cx) (hmc:X.mg cx=some (.ref Cb)) (hB:PySem.W.ktsIn X.K Cb "BaseException" = true)
  (hR:∀ls m l,R ls=some (m,l)->∃C,PySem.W.nsIn X.K mainGlobals m=some (some (.ref C))/\PySem.W.ktsIn X.K C "BaseException" = true/\belowIn X.K C Cb=true)
  (hs:∀e,Ny (Cx.mark X e) O W (b₀::suite) f) (hiO:i∉O) (hsw:swapsWith (.Call (.Name x p) (e::es) [] cp) (some (.Name y py)) ep.line X.env=pure false:=by rfl) (hn:fs.length+1=n:=by rfl)
  (hdb:(x==("__debug__" : Str))=false:=by decide) (hdb2:(cx==("__debug__" : Str))=false:=by decide) (he:starEach (e::es) X.env=(false,eval e X.env)::starEach es X.env:=by rfl) (hpl:(backTo cp (starEach es X.env)).any (·.1)=false:=by rfl) :
  VS X O (i::W) (.Try [.Assign [.Name y py] (.Call (.Name x p) (e::es) [] cp) ep] (.ExceptHandler (some (.Name cx np)) (some nm) (b₀::suite) hp::rest) [] [] pos) (Vu (fun ls=>R (ls++[.int dv])) fs i f):=by
 intro pins s σ H D I ⟨H0,fps,sp,out,r,e1,ok⟩
 obtain⟨ls,e2,e1⟩:=Zf e1
 obtain⟨⟨m,lv⟩,e3,e1⟩:=Zf e1
 obtain⟨o1,e4,rfl⟩:=map_some e1
 obtain⟨C,hns,hC,hb⟩:=hR _ m lv e3
 obtain⟨fa,fd,tk0,hmx,hkp,hbd,F⟩:=CX.ex
 refine wpAny_Try_except (wpAny_execs_cons (wpAny_Assign_Name ?_ hsw))
 refine wpAny_Call_Name_kw (Vz I hg hmx ?_ hdb)
 refine PySem.W.callWith_K (h₀:=X.base) I.ok.mod.kin hkp ?_ he hpl
 refine wpAny_mono (ha cp pins s σ H (fun vs H1=>Same H H1/\∃fp,Iss X.K H1 ls vs fp) (I.wish _) ⟨fun _=>False,sp,ls,fun _ z=>z.elim,r.env,e2,fun vs H1 fp s1 i1 _=>⟨s1,fp,i1⟩⟩) (fun us s1 ⟨vs,H1,I1,rv,sm,fp,i1⟩=>?_) fun _ _ z=>z.elim
 have I1:Inv X pins σ H1 s1:=I1.unwish
 have lvn:(vs++[V.int dv]).length=n:=by rw[List.length_append,i1.len,W0 e2,<-hn];rfl
 have hsp:spY X.K R n (vs++[V.int dv]) H1 (fun _ _=>False) (fun cls dd H'=>cls = .ref C/\∃dx od u z,dd=some dx/\H' dx=some (.frz od (.own dx))/\NsO od (Wq m) u/\RelV z u/\Is X.K H' lv z []/\Same H1 H'):=⟨lvn,ls++[.int dv],fp++[],m,lv,i1.append (Iss.one (Is.int _)),e3,fun C' dx od u z H' hc sm a1 a2 a3 a4=>⟨by rw[hns] at hc;cases hc;rfl,dx,od,u,z,rfl,a1,a2,a3,a4,sm⟩⟩
 have rv2:Vals (vs++[V.int dv]) (us++[Value.int dv tk0]):=N0 rv (.cons ⟨tk0,rfl⟩ .nil)
 have hl:(us++[Value.int dv tk0]).length=ps.length:=by rw[<-rv2.length,lvn];have:=F.len _ _ _ _ hsp;omega
 have hbb:=hbd s1 us I1.kIn hl
 refine⟨I1.kIn,wpAny_call (codeAny_mono (F.run X.A X.stack s1 H1 ⟨us,[]⟩ (us++[Value.int dv tk0]) (vs++[V.int dv]) _ _ hr I1.env0 hbb rv2 hsp) fun res s' hq=>?_)⟩
 cases res with
 | ok fl=>
  cases fl with
  | ret u=>obtain⟨_,_,_,_,_,_,_,z⟩:=hq;exact z.elim
  | next=>exact False.elim hq
  | brk=>exact False.elim hq
  | cont=>exact False.elim hq
 | error v=>
  obtain⟨ea,cls,dd,H',rfl,hos,hgn,u,hok,⟨T,xx,hH,hHT,he0,hT0⟩,rfl,dx,od,u',z',rfl,b1,b2,b3,b4,sm1⟩:=hq
  have I2:Inv X pins σ H' s':=I1.call' hos u hok hgn fun b hb=>nomatch hb
  refine BS I2 hx hst hfr xx hH hHT (SS I1 hx he0) (SS I1 hx hT0) hN hi hk hgc hmc hC hB hb (hs ea) (fun oe h1 h2 h3=>?_) hdb2
  have sm2:Same H (upd H' ea (.frz oe (.own ea))):=fun b o q=>by
   have q':=sm1 b o (sm b o q)
   rw[upd_ne (Zw q' hH)];exact q'
  have sm3:Same H' (upd H' ea (.frz oe (.own ea))):=Same.new hH _
  have iE:Is X.K (upd H' ea (.frz oe (.own ea))) (.exf m lv) (.ref ea) []:=by
   simp only[Is]
   exact⟨⟨ea,oe,ea,C,dx,od,u',z',rfl,upd_same,h1,hns,h2,h3,sm3 _ _ b1,b2,b3,b4.mono sm3⟩,trivial⟩
  have hlt:i<sp.length:=by
   have:=(List.getElem?_eq_some_iff.mp hi).1
   rw[r.len,I.len];exact this
  have r2:=(r.grow sm2).set (i:=i) iE (fun z=>absurd z hiO) (fun k _ _ p hp=>by simp at hp)
  refine⟨H0,_,_,o1,r2,e4,?_⟩
  have fin:∀(fps':Nat->List Addr)(σ':TH)(H'':Hp)(s':ZP),(∀j,j∉W->σ'[j]?=(σ.set i (some (V.ref ea)))[j]?/\Kep (fps' j) (TU fps sp.length i [] j))->∀j,j∉i::W->(σ'.set i none)[j]?=σ[j]?/\Kep (if j=i then [] else fps' j) (fps j):=fun fps' σ' H'' s' h j hj=>by
   have hji:j≠i:=fun z=>hj (by rw[z];exact .head _)
   obtain⟨a1,a2⟩:=h j fun z=>hj (.tail _ z)
   rw[List.getElem?_set_ne (Ne.symm hji)] at a1 ⊢
   rw[Yf hji] at a2;rw[if_neg hji]
   exact⟨a1,a2⟩
  cases o1 with
  | nx s'=>exact fun fps' σ' H'' r' k'=>ok _ _ _ (Vt hiO r') (fin fps' σ' H'' s' k')
  | bk s'=>exact fun fps' σ' H'' r' k'=>ok _ _ _ (Vt hiO r') (fin fps' σ' H'' s' k')
  | ct s'=>exact fun fps' σ' H'' r' k'=>ok _ _ _ (Vt hiO r') (fin fps' σ' H'' s' k')
  | rt l=>exact ok
end
structure Q3(nmC:Str)(P:Program)(wo:World)(K:PySem.W.Frag)(mg:Str->Option Value)(base:Heap)(C Cb:Addr):Prop where
 mgb:mg "PurseError" = some (.ref Cb)
 kb:PySem.W.ktsIn K Cb "BaseException" = true
 f:QF nmC P wo K mg base C Cb
 sb:belowIn K C C=true
section
variable {X:Cx} {nmC:Str} {C Cb:Addr} {e:Expr} {f:XE} {cx:Str} {p p2 pos:Pos}
theorem XM(Q:Q3 nmC X.prog X.w X.K X.mg X.base C Cb)(hgi:Gl X "isinstance")(hm:X.mg "isinstance" = none)(he:VE X e f)(hcx:cx∈nms)(hgc:Gl X cx)(hdb:(cx==("__debug__" : Str))=false:=by decide)
  (hst:starEach [e,.Name cx p2] X.env=(false,eval e X.env)::starEach [.Name cx p2] X.env:=by rfl) (hst2:starEach [.Name cx p2] X.env=(false,eval (.Name cx p2) X.env)::starEach [] X.env:=by rfl) (hpl:(backTo pos (starEach [.Name cx p2] X.env)).any (·.1)=false:=by rfl):VM X (.Call (.Name "isinstance" p) [e,.Name cx p2] [] pos) (Xt (Rc nmC cx) f):=by
 obtain⟨D,hD,hk⟩:=Q.f.cls cx hcx
 refine HK hgi hm he (.own D) (F5 hgc hD hdb) (fun n b h=>?_) hst hst2 hpl
 unfold Rc at h
 split at h
 ·rename_i hn
  subst hn;cases h
  exact⟨C,Q.f.no,Q.f.fl.ec,hk⟩
 ·cases h
theorem Ea(Q:Q3 nmC X.prog X.w X.K X.mg X.base C Cb)(hgi:Gl X "isinstance")(hm:X.mg "isinstance" = none)(he:VE X e f)(hgc:Gl X "ValueError")(hv:X.mg "ValueError" = none)
  (hst:starEach [e,.Name "ValueError" p2] X.env=(false,eval e X.env)::starEach [.Name "ValueError" p2] X.env:=by rfl) (hst2:starEach [.Name "ValueError" p2] X.env=(false,eval (.Name "ValueError" p2) X.env)::starEach [] X.env:=by rfl) (hpl:(backTo pos (starEach [.Name "ValueError" p2] X.env)).any (·.1)=false:=by rfl):VM X (.Call (.Name "isinstance" p) [e,.Name "ValueError" p2] [] pos) (Xt (CZ nmC) f):=by
 refine HK hgi hm he (.ty "ValueError") (F6 hgc hv (by decide +kernel)) (fun n b h=>?_) hst hst2 hpl
 unfold CZ at h
 split at h
 ·rename_i hn
  subst hn;cases h
  exact⟨C,Q.f.no,Q.f.fl.ec,Q.f.ve⟩
 ·cases h
end
section
variable {X:Cx} {O W:List Nat} {nmC:Str} {C Cb:Addr} {k n i:Nat} {x y nm:Str} {ps:List Str} {R:List PV->Option (Str×PV)} {e:Expr} {es:List Expr} {fs:List XE} {p py cp ep np hp pos:Pos} {b₀:Stmt} {suite:List Stmt} {f:XS} {rest:List ExceptHandler}
theorem HN(Q:Q3 nmC X.prog X.w X.K X.mg X.base C Cb)(CX:CalX X.prog X.w X.K X.mg X.base x ps (spY X.K R n) k)(hR:∀ls m l,R ls=some (m,l)->m=nmC)(hr:Room k X.A)(hg:Gl X x)(ha:VA X.nox (e::es) fs)(hx:X.ex=[])(hst:X.stack=X.env::X.outer)(hfr:X.env.frame=some X.env.locals)
  (hN:X.N.Nodup) (hi:X.N[i]?=some nm) (hk:X.env.scope.names.lookup nm=some .local) (hgc:Gl X "PurseError")
  (hs:∀e,Ny (Cx.mark X e) O W (b₀::suite) f) (hiO:i∉O) (hsw:swapsWith (.Call (.Name x p) (e::es) [] cp) none ep.line X.env=pure false:=by rfl) (hn:fs.length=n:=by rfl)
  (hdb:(x==("__debug__" : Str))=false:=by decide) (he:starEach (e::es) X.env=(false,eval e X.env)::starEach es X.env:=by rfl) (hpl:(backTo cp (starEach es X.env)).any (·.1)=false:=by rfl) :
  VS X O (i::W) (.Try [.Expr (.Call (.Name x p) (e::es) [] cp) ep] (.ExceptHandler (some (.Name "PurseError" np)) (some nm) (b₀::suite) hp::rest) [] [] pos) (Vu R fs i f):=
 F4 CX hr hg ha hx hst hfr hN hi hk hgc Q.mgb Q.kb (fun ls m l h=>by
  obtain rfl:=hR ls m l h
  exact⟨C,Q.f.no,Q.f.fl.ec.kt,Q.f.bl⟩) hs hiO hsw hn hdb (by decide) he hpl
theorem HP{dv:Int}(Q:Q3 nmC X.prog X.w X.K X.mg X.base C Cb)(CX:CalXD X.prog X.w X.K X.mg X.base x ps (spY X.K R n) k dv)(hR:∀ls m l,R ls=some (m,l)->m=nmC)(hr:Room k X.A)(hg:Gl X x)(ha:VA X.nox (e::es) fs)(hx:X.ex=[])(hst:X.stack=X.env::X.outer)(hfr:X.env.frame=some X.env.locals)
  (hN:X.N.Nodup) (hi:X.N[i]?=some nm) (hk:X.env.scope.names.lookup nm=some .local) (hgc:Gl X nmC)
  (hs:∀e,Ny (Cx.mark X e) O W (b₀::suite) f) (hiO:i∉O) (hsw:swapsWith (.Call (.Name x p) (e::es) [] cp) (some (.Name y py)) ep.line X.env=pure false:=by rfl) (hn:fs.length+1=n:=by rfl)
  (hdb:(x==("__debug__" : Str))=false:=by decide) (hdb2:(nmC==("__debug__" : Str))=false:=by decide) (he:starEach (e::es) X.env=(false,eval e X.env)::starEach es X.env:=by rfl) (hpl:(backTo cp (starEach es X.env)).any (·.1)=false:=by rfl) :
  VS X O (i::W) (.Try [.Assign [.Name y py] (.Call (.Name x p) (e::es) [] cp) ep] (.ExceptHandler (some (.Name nmC np)) (some nm) (b₀::suite) hp::rest) [] [] pos) (Vu (fun ls=>R (ls++[.int dv])) fs i f):=
 HM CX hr hg ha hx hst hfr hN hi hk hgc Q.f.mgo Q.f.fl.ec.kt (fun ls m l h=>by
  obtain rfl:=hR ls m l h
  exact⟨C,Q.f.no,Q.f.fl.ec.kt,Q.sb⟩) hs hiO hsw hn hdb hdb2 he hpl
end
def Sd(n0:Str)(fy:XF):Prop:=∀s m l,fy s=some (m,l)->m=n0
section
variable {n0:Str}
theorem N1{n:Str}{f:XE}(h:n=n0):Sd n0 (SU n f):=fun s m l e=>by
 obtain⟨l',_,e⟩:=Zf e
 split at e
 ·cases e
  exact h
 ·cases e
theorem N2:Sd n0 F3:=fun s m l e=>nomatch e
theorem HQ{fc:XT}{f g:XF}(hf:Sd n0 f)(hg:Sd n0 g):Sd n0 (Ct fc f g):=fun s m l e=>by
 obtain⟨c,_,e⟩:=Zf e
 split at e
 ·exact hf s m l e
 ·exact hg s m l e
theorem JO{f1:XF}{f:XS}{g:XF}(hf:Sd n0 f1)(hg:Sd n0 g):Sd n0 (Qr f1 f g):=fun s m l e=>by
 unfold Qr at e
 split at e
 ·rename_i c hc
  cases e
  exact hf s m l hc
 ·split at e
  ·exact hg _ m l e
  ·cases e
theorem HR{m:Nat}{fy:XF}(h:Sd n0 fy):∀ls n l,BV m fy ls=some (n,l)->n=n0:=fun ls n l e=>h _ n l e
end
end VX
namespace VL
open PySem PySem.Spec PyProof.Rows L2
inductive ZI:List (Value×Value)->List Int->List Int->Prop
 | both {a c:Int} {t u:Tok} {r:List (Value×Value)} {ns ms:List Int}:ZI r ns ms->ZI ((.int a t,.int c u)::r) (a::ns) (c::ms)
 | less {ms:List Int}:ZI [] [] ms
 | more {ns:List Int}:ZI [] ns []
theorem ZI.of:∀{vs ws:List Value}{ns ms:List Int},IntsAre vs ns->IntsAre ws ms->ZI (vs.zip ws) ns ms
 | _,ws,_,ms,.nil,_=>by rw[List.zip_nil_left];exact .less
 | _,_,_,_,.cons a t h,.nil=>by rw[List.zip_nil_right];exact .more
 | _,_,_,_,.cons a t h,.cons c u k=>by rw[List.zip_cons_cons];exact .both (ZI.of h k)
theorem ZI.done{ns ms:List Int}(h:ZI [] ns ms){p q:Nat}(e:ns.length+q=ms.length+p):(!HT.lexLt ns ms)=decide (q<=p):=by
 cases h with
 | less=>
  cases ms with
  | nil=>exact(decide_eq_true (by simp at e;omega)).symm
  | cons c r=>exact(decide_eq_false (by simp at e;omega)).symm
 | more=>
  cases ns with
  | nil=>exact(decide_eq_true (by simp at e;omega)).symm
  | cons c r=>exact(decide_eq_true (by simp at e;omega)).symm
section
open PySem.SeqAt
open PySem.AutoSeq1 (wpAny_loadPart')
open PySem.MeetsSeq PySem.MeetsSeq2 PySem.MeetsSeq3
theorem JP(p q:Addr)(xs ys:Array Value)(n m:Nat)(d1 d2:Option Addr)(s1 s2:Array (Option Value))(ns ms:List Int)(hx:IntsAre xs.toList ns)(hy:IntsAre ys.toList ms) :
  Meets (Builtin.«tuple.__ge__» ⟨[.ref p,.ref q],[]⟩) (fun _ R s=>s.heap.get? p=some { cls:=.type "tuple",dict:=d1,data:=.seq xs n,slots:=s1 }/\s.heap.get? q=some { cls:=.type "tuple",dict:=d2,data:=.seq ys m,slots:=s2 }/\R (.ok (.ret (.bool (!HT.lexLt ns ms)))) s):=by
 refine .of_wp fun prog w A R s h=>?_
 obtain⟨hp,g,d,tk,os⟩:=s
 obtain⟨h1,h2,h⟩:=h
 have sub:=AutoSeq1.sub_tuple_tuple
 have l1:xs.size=ns.length:=by rw[<-hx.length];simp
 have l2:ys.size=ms.length:=by rw[<-hy.length];simp
 wp_walk using wpAny_loadPart' h1,wpAny_loadPart' h2,wpAny_forIn_list _ (fun rest b s'=>b.1=none/\s'=⟨hp,g,d,tk,os⟩/\∃is js,ZI rest is js/\is.length+ys.size=js.length+xs.size/\R (.ok (.ret (.bool (!HT.lexLt is js)))) ⟨hp,g,d,tk,os⟩) _
 case turn=>
  rintro⟨v,u⟩ rest b s' ⟨hb,rfl,is,js,hz,hl,hR⟩
  cases hz with
  | @both a c t1 t2 r is js hz=>
   rw[HT.lexLt_cons] at hR;simp only[List.length_cons] at hl
   refine wpAny_bind ((SeqAt.EqAt.int_int (A:=A.in1) (s:=⟨hp,g,d,tk,os⟩) a t1 c t2) prog w _ _ ?_)
   by_cases e:a=c
   ·rw[if_pos e] at hR
    rw[show(a==c)=true from by simp[e]]
    wp_walk
    exact⟨rfl,rfl,_,_,hz,by omega,hR⟩
   ·rw[if_neg e] at hR
    rw[show(a==c)=false from by simp[e]]
    have key:(!decide (a<c))=decide (c<=a):=by
     by_cases z:a<c
     ·rw[decide_eq_true z,decide_eq_false (by omega)];rfl
     ·rw[decide_eq_false z,decide_eq_true (by omega)];rfl
    rw[key] at hR
    have hri:∀(E:Value->Shared->Prop)(Q:Value->Shared->Prop),Q (.bool (decide (c<=a))) ⟨hp,g,d,tk,os⟩->wpAny (model prog w) A.in1 (richCompare .GtE (.int a t1) (.int c t2)) Q E ⟨hp,g,d,tk,os⟩:=fun E Q h=>(PyProof.Rows.ge_int h:wpAny (model prog w) A.in1 (compareOp .GtE (.int a t1) (.int c t2)) Q E _)
    wp_walk using hri
    exact⟨_,rfl,by simpa using hR⟩
 case fin=>
  rintro⟨b1,b2⟩ s' ⟨hb,rfl,is,js,hz,hl,hR⟩
  simp only at hb
  subst hb;rw[hz.done hl] at hR
  wp_walk
  exact⟨_,rfl,by simpa [Builtin.Tuple.tupleCompareSizes] using hR⟩
 case h=>exact⟨rfl,rfl,ns,ms,ZI.of hx hy,by omega,h⟩
end
theorem Eb{prog:Program}{w:World}{A:Around}{E:Value->Shared->Prop}{s:Shared}{p q:Addr}{xs ys:Array Value}{ns ms:List Int}{Q:Value->Shared->Prop}(hp:IsTup s.heap p xs)(hq:IsTup s.heap q ys)(hx:IntsAre xs.toList ns)(hy:IntsAre ys.toList ms)
  (hu:A.units<cLine) (h:Q (.bool (!HT.lexLt ns ms)) s):wpAny (model prog w) A (compareOp .GtE (.ref p) (.ref q)) Q E s:=by
 obtain⟨⟨c1,d1,t1,s1⟩,h1,e1,n1,f1⟩:=id hp
 obtain⟨⟨c2,d2,t2,s2⟩,h2,e2,n2,f2⟩:=id hq
 simp only at e1 f1 e2 f2
 subst e1 f1 e2 f2
 exact richCompare_meets_room (op:=.GtE) ⟨_,h1,rfl⟩ ⟨_,h2,rfl⟩ PySem.F.slot_tuple_ge PySem.F.entry_tuple_ge (PySem.F.args_tuple_ge_2 _ _) (JP p q xs ys n1 n2 d1 d2 s1 s2 ns ms hx hy) ⟨h1,h2,⟨(fun z=>nomatch z),h⟩⟩ hu
def B1(K:PySem.W.Frag):R2:=fun x y H Q=>∃a b ns ms,x = .ref a/\y = .ref b/\H a=some (.tup (ns.map V.int))/\H b=some (.tup (ms.map V.int))/\Q (.bl (!HT.lexLt ns ms)) H
theorem HS{X:Cx}(hu:X.A.units<cLine):U2 X (compareOp .GtE) (B1 X.K):=by
 intro pins s σ H x y v u Q I rx ry h
 obtain⟨a,b,ns,ms,rfl,rfl,ha,hb,q⟩:=h
 cases rx;cases ry
 obtain⟨us,r1,p1,_⟩:=I.tuple (SqT.of ha)
 obtain⟨ws,r2,p2,_⟩:=I.tuple (SqT.of hb)
 exact Eb p1 p2 (U9 r1) (U9 r2) hu ⟨.bl (!HT.lexLt ns ms),H,I,rfl,q⟩
def Qs:PV->PV->Option PV
 | .tup m,.tup n=>(XH m).bind fun ns=>(XH n).bind fun ms=>some (.bl (!HT.lexLt ns ms))
 | _,_=>none
theorem HU{K:PySem.W.Frag}:RB K (B1 K) Qs:=fun H x y a b l fa fb ha hb e Q k=>by
 unfold Qs at e
 split at e
 ·obtain⟨ns,e1,e⟩:=Zf e
  obtain⟨ms,e2,e⟩:=Zf e
  cases e
  obtain rfl:=Xz e1
  obtain rfl:=Xz e2
  obtain⟨p,xs,rfl,hp,hi⟩:=ha.tup_inv
  obtain⟨q,ys,rfl,hq,hj⟩:=hb.tup_inv
  obtain⟨rfl,rfl⟩:=hi.iL
  obtain⟨rfl,rfl⟩:=hj.iL
  exact⟨p,q,ns,ms,rfl,rfl,hp,hq,k _ _ [] (Same.refl _) (Is.bl _) fun p hp=>by simp at hp⟩
 ·cases e
theorem ve_geT{X:Cx}{a b:Expr}{fa fb:XE}{pos:Pos}(hu:X.A.units+64<cLine)(ha:VE X a fa)(hb:VE X b fb):VE X (.Compare a [.GtE] [b] pos) (Zi Qs fa fb):=Oi (HS (by omega)) HU ha hb (Vh _)
theorem HV{X:Cx}{a b:Expr}{fa fb:XE}{pos:Pos}(hu:X.A.units+64<cLine)(ha:VE X a fa)(hb:VE X b fb):VT X (.Compare a [.GtE] [b] pos) (xB (Zi Qs fa fb)):=Ui (HS (by omega)) HU ha hb (Vh _)
end VL
namespace PW
open PySem L2 VL VX
noncomputable def X1:XS:=(Zm (WR (xB (Zi (YJ false) (Zi Xa (Zi Wj (Za 0) (eC (.int 4))) (eC (.int 4))) (eC (.int 3)))) (ZS (eP (Zi Yo (eC (.int 5)) (Zi Xa (Zi Wj (Za 0) (eC (.int 16))) (eC (.int 3)))))) ZN)
  (ZS (eP (Zi Yo (eC (.int 1)) (Zi Xa (Za 0) (eC (.int 4)))))))
noncomputable def X2:List PV->Option PV:=Xl 1 X1
noncomputable def X6:XS:=(ZS (eP (Zi ZK (Ze Vr [(Za 0)]) (eC (.int 0)))))
noncomputable def YG:List PV->Option PV:=Xl 1 X6
noncomputable def Vb:XS:=(ZS (Ze Xh [(Za 0),(eC (.int 0))]))
noncomputable def YV:List PV->Option PV:=Xl 1 Vb
noncomputable def Wu:XS:=(ZS (Ze YG [(Ze YV [(Za 0)])]))
noncomputable def Zs:List PV->Option PV:=Xl 1 Wu
noncomputable def Vc:XS:=(Zm (Zn 3 (Nt SR (Ze ZF [(Za 0)])))
  (Zm (Yp [3] (TQ (Za 2)) (.one 4) (Zm (Zn 5 (eP (Zi ZK (Za 1) (Za 4))))
  (Zm (Zn 6 (eP (Zi ZK (Za 3) (Zi ZK (Za 5) (eC (.int 0))))))
  (Zm (Zn 7 (eP (Zi ZK (Za 3) (Zi ZK (Za 5) (eC (.int 1))))))
  (Zn 3 (ZG 1 [6,7] (Wd (Za 3)) (.one 0) ZW (eP (O1 (xB (Zi (YJ false) (Za 0) (Za 2))) (Za 1) (Za 0)))))))))
  (ZS (Za 3))))
noncomputable def Y8:List PV->Option PV:=Xl 8 Vc
noncomputable def Wv:XS:=(ZS (eP (Zi (YJ true) (Zi ZK (Za 0) (Zi ZK (Za 1) (eC (.int 0)))) (Zi ZK (Za 0) (Zi ZK (Za 1) (eC (.int 1)))))))
noncomputable def Y0:List PV->Option PV:=Xl 2 Wv
noncomputable def RE:XS:=(Zm (Zn 3 (Yr []))
  (Zm (Yp [3] (Wd (Za 2)) (.one 4) (Zm (Zn 5 (Ze Y8 [(Za 0),(Za 1),(Za 4)]))
  (Zm (Zn 6 (eP (O1 (xB (Zi Tt (Ze ZF [(Za 4)]) (eC (.int 0)))) (Zi Yo (Zi ZK (Za 4) (Nt Rn (eC (.int 1)))) (eC (.int 1))) (eC (.int 0)))))
  (Ws 3 (ZG 1 [4,5,1] (ZY [(Za 6),(Ze ZF [(Za 1)])]) (.one 0) (xB (Ze Y0 [(Za 2),(Zi ZK (Za 3) (Za 0))])) (eP (Zi Qj (Za 1) (Yq [(Za 0)]))))))))
  (ZS (Za 3))))
noncomputable def Vd:List PV->Option PV:=Xl 7 RE
noncomputable def Ym:List PV->Option (Str×PV):=BV 5 (Qr (Ct (xB (Zi Tt (Ze Zs [(Za 0)]) (Za 1))) (SU "TooMany" (Za 1)) F3) Tg F3)
theorem Qt:∀ls m l,Ym ls=some (m,l)->m = "TooMany":=HR (JO (HQ (N1 rfl) N2) N2)
noncomputable def Se:XS:=(Zm (WR (xB (Zi Tt (Ze Zs [(Za 0)]) (Za 1))) Tg ZN)
  (Zm (Zn 2 (Ze XY [(Za 0)]))
  (Zm (Zn 3 (Yr [(eP (Yq []))]))
  (Zm (Yp [3] (ZY [(eC (.int 1)),(Ze ZF [(Za 0)])]) (.one 4) (Zn 3 (Ze Vd [(Za 0),(Za 2),(Za 3)])))
  (ZS (Za 3))))))
noncomputable def ZX:List PV->Option PV:=Xl 5 Se
noncomputable def N3:XS:=(ZS (eP (Yq [(Yq [(eC (.int 0)),(Za 0),(eC (.int 0)),(Za 1)]),(Yq [(Za 0),(eC (.int 0)),(Za 0),(eC (.int 0))]),(Yq [(eC (.int 0)),(Za 0),(eC (.int 0)),(Za 0)]),(Yq [(Za 1),(eC (.int 0)),(Za 0),(eC (.int 0))])])))
noncomputable def Z0:List PV->Option PV:=Xl 2 N3
noncomputable def Ww:XS:=(Zm (Zn 2 (Yr []))
  (Zm (Yp [] (Z5 [(Ze ZF [(Za 0)])]) (.one 3) (Yp [] (ZY [(Zi Yo (Za 3) (eC (.int 1))),(Ze ZF [(Za 0)])]) (.one 4) (Zn 2 (Zi Ur (Za 2) (Zi Q0 (Yr [(Yq [(Za 3),(Za 4)])]) (Zi ZK (Zi ZK (Za 0) (Za 3)) (Za 4)))))))
  (Zm (WR (Nq (Uj (xB (Ze XA [(Za 1),(Zi YQ (Ze ZF [(Za 0)]) (eC (.int 1)))]))) (xB (Zi (YJ true) (Ze Y3 [(Za 1)]) (Ze Vs [(Za 1)])))) (ZS (eP (eC (.bl false)))) ZN)
  (Zm (Zn 5 (ZG 1 [] (Z5 [(Ze ZF [(Za 0)])]) (.one 0) ZW (eP (Za 0))))
  (Zm (Yp [] (TQ (Za 1)) (.one 6) (Zm (WR (Nq (xB (Zi Fy (Za 6) (eC (.int 0)))) (xB (Zi BE (Za 6) (Ze ZF [(Za 2)])))) (ZS (eP (eC (.bl false)))) ZN)
  (Zm (NA (.many [3,4]) (Zi ZK (Za 2) (Za 6)))
  (Zm (Zn 7 (eP (Zi ZK (Za 5) (Za 4))))
  (Zm (WR (xB (Zi (YJ false) (Zi ZK (Za 5) (Za 3)) (Za 7))) (ZS (eP (eC (.bl false)))) ZN)
  (Zn 5 (ZG 1 [5,3,7] (Wd (Za 5)) (.one 0) ZW (eP (Zi ZK (Yr [(Za 0),(Zi ZK (Za 1) (Za 2))]) (Ze Xk [(Zi (YJ false) (Za 0) (Za 3))]))))))))))
  (ZS (eP (eC (.bl true)))))))))
noncomputable def ZV:List PV->Option PV:=Xl 8 Ww
noncomputable def YS:XS:=(Zm (Zn 1 (eP (eC .non)))
  (Zm (Zn 2 (eP (eC .non)))
  (Zm (HL (Vu (fun ls=>Ym (ls++[.int 300])) [(Ze Z0 [(eC (.int 4)),(Za 0)])] 3 (Zn 2 (eP (Wf "TooMany" (Za 3))))) (Zn 1 (Ze (fun ls=>ZX (ls++[.int 300])) [(Ze Z0 [(eC (.int 4)),(Za 0)])])))
  (Zm (WR (xB (Zi (YJ false) (Za 0) (eC (.int 5)))) (ZS (eP (Rk (Ze Z7 [(Za 2)]) (Zi (YJ false) (Za 2) (eC (.int 300)))))) ZN)
  (Zm (WR (Nq (xB (Rl true (Za 2))) (xB (Zi (YJ true) (Ze ZF [(Za 1)]) (eC (.int 256))))) (ZS (eP (eC (.bl false)))) ZN)
  (Zm (Yp [] (ZY [(eC (.int 1)),(eC (.int 256))]) (.one 4) (WR (xB (Zi Qs (Zi ZK (Za 1) (Zi YQ (Za 4) (eC (.int 1)))) (Zi ZK (Za 1) (Za 4)))) (ZS (eP (eC (.bl false)))) ZN))
  (ZS (eP (Ze TM [(ZG 1 [0] (Wd (Za 1)) (.one 0) ZW (Ze ZV [(Ze Z0 [(eC (.int 4)),(Za 1)]),(Za 0)]))])))))))))
noncomputable def ZC:List PV->Option PV:=Xl 5 YS
noncomputable def VV:XS:=(Zm (Zn 3 (Ze Zx [(Za 0),(Za 1)]))
  (Zm (Zn 4 (eP (Zi ZK (Yr [(eC (.int 8)),(Zi Yo (Za 2) (eC (.int 1)))]) (Ze Xk [(Zi Tt (Za 2) (eC (.int 4)))]))))
  (Zm (WR (VJ (xB (Zi (YJ false) (Zi Xa (Za 3) (eC (.int 2))) (eC (.int 1)))) (xB (Rl true (Ze YR [(Zi Wj (Za 3) (eC (.int 2))),(Za 2),(Za 4),(eC (.int 9))])))) (ZS (Ze YR [(Zi Wj (Za 3) (eC (.int 2))),(Za 2),(Za 4),(eC (.int 9))])) ZN)
  (Zm (Zn 5 (eC (.dT [] [])))
  (Zm (Yp [5] (ZY [(eC (.int 1)),(Za 2)]) (.one 6) (Zm (Zn 7 (Ze Zx [(Za 0),(Zi Yo (Za 1) (Za 6))]))
  (Zm (Zn 8 (eP (Ze V7 [(Zi ZK (Yr [(eC (.int 1)),(eC (.int 1)),(eC (.int 1)),(eC (.int 2)),(eC (.int 3))]) (Zi Xa (Zi Wj (Za 7) (Za 6)) (eC (.int 5)))),(Zi YQ (Za 4) (Zi YQ (Zi YQ (Za 2) (eC (.int 1))) (Za 6)))])))
  (Zm (sDPut 5 (Yq [(Zi Xa (Za 7) (Za 6)),(Za 6)]) (Za 8))
  (Zn 4 (eP (Zi YQ (Za 4) (Za 8))))))))
  (Zm (Zn 9 (eP (Zi Yo (Za 1) (Zi ZK (Yr [(eC (.int 5)),(eC (.int 27))]) (Ze Xk [(Zi Tt (Za 2) (eC (.int 4)))])))))
  (Zm (Yp [5] (Z5 [(Za 2)]) (.one 10) (Yp [5] (ZY [(Zi Yo (Za 10) (eC (.int 1))),(Za 2)]) (.one 11) (Zm (Zn 8 (eP (Zi ZK (Yr [(eC (.int 0)),(eC (.int 1)),(eC (.int 0)),(eC (.int 1)),(eC (.int 2))]) (Zi Xa (Ze Zx [(Za 0),(Za 9)]) (eC (.int 5))))))
  (Zm (Zn 9 (eP (Zi Yo (Za 9) (eC (.int 1)))))
  (WR (VJ (xB (MY true (Yq [(Za 10),(Za 11)]) (Za 5))) (xB (EZ Fy An (eC (.int 0)) (Za 8) (Za 4)))) (Zm (sDPut 5 (Yq [(Za 10),(Za 11)]) (Za 8))
  (Zn 4 (eP (Zi YQ (Za 4) (Za 8))))) ZN)))))
  (ZS (Ze W9 [(Za 5),(Zi Wj (Ze Zx [(Za 0),(Za 1)]) (eC (.int 7))),(Za 2)])))))))))
noncomputable def Xx:List PV->Option PV:=Xl 12 VV
noncomputable def Sf:XS:=(Zm (Zn 1 (Yr [(eP (Xt (Rc "TooMany" "NoWeb") (Za 0))),(eP (Xt (Rc "TooMany" "Apart") (Za 0))),(eP (Xt (Rc "TooMany" "NoText") (Za 0))),(eP (Xt (Rc "TooMany" "NoOrder") (Za 0)))]))
  (Zm (Zn 1 (Zi Ur (Za 1) (Yr [(Xt (Rc "TooMany" "TooMany") (Za 0)),(Xt (Rc "TooMany" "NotSettled") (Za 0)),(Xt (Rc "TooMany" "NoTree") (Za 0))])))
  (Zm (Zn 1 (Zi Ur (Za 1) (Yr [(Xt (Rc "TooMany" "NoTotal") (Za 0)),(Xt (Rc "TooMany" "NoEnds") (Za 0)),(Xt (Rc "TooMany" "NoRow") (Za 0)),(Xt (Rc "TooMany" "NoName") (Za 0))])))
  (Zm (WR (Nq (Uj (xB (Xt (CZ "TooMany") (Za 0)))) (xB (Zi (YJ true) (Zi Sb (Za 1) (eC (.bl true))) (eC (.int 1))))) (ZS (eP (Nt Rn (eC (.int 1))))) ZN)
  (ZS (eP (Zi RD (Za 1) (eC (.bl true)))))))))
noncomputable def Vv:List PV->Option PV:=Xl 2 Sf
noncomputable def Wx:XS:=(Zm (Zn 2 (eP (eC .non)))
  (Zm (HL (Vu Ym [(Za 0),(Za 1)] 3 (Zn 2 (eP (Za 3)))) (AW (Ze ZX [(Za 0),(Za 1)])))
  (ZS (eP (Rk (Rl true (Za 2)) (Rk (Zi (YJ false) (Ze Vv [(Za 2)]) (eC (.int 4))) (Rk (Ze Z7 [(Wf "TooMany" (Za 2))]) (Zi (YJ false) (Wf "TooMany" (Za 2)) (Za 1)))))))))
noncomputable def Z1:List PV->Option PV:=Xl 4 Wx
noncomputable def Kx:XS:=(Zm (WR (VJ (xB (Zi (YJ false) (Zi Xa (Ze Zx [(Za 0),(eC (.int 13))]) (eC (.int 16))) (eC (.int 7)))) (Uj (xB (Ze ZC [(eC (.int 4))])))) (ZS (eP (eC (.bl false)))) ZN)
  (Zm (WR (Uj (xB (Ze ZC [(eC (.int 5))]))) (ZS (eP (eC (.bl false)))) ZN)
  (Zm (Zn 1 (Ze X2 [(Ze Zx [(Za 0),(eC (.int 0))])]))
  (Zm (Zn 2 (Ze XZ [(Ze Xx [(Za 0),(eC (.int 1)),(Za 1)]),(Za 1)]))
  (Zm (Zn 3 (Ze (fun ls=>ZX (ls++[.int 300])) [(Za 2)]))
  (Zm (WR (Nq (Uj (xB (Ze V8 [(Za 3),(eC (.ty "list"))]))) (Uj (xB (Ze TM [(ZG 1 [2] (Wd (Za 3)) (.one 0) ZW (Ze ZV [(Za 1),(Za 0)]))])))) (ZS (eP (eC (.bl false)))) ZN)
  (Zm (Yp [] (ZY [(eC (.int 1)),(Ze ZF [(Za 3)])]) (.one 4) (WR (xB (Zi Qs (Zi ZK (Za 3) (Zi YQ (Za 4) (eC (.int 1)))) (Zi ZK (Za 3) (Za 4)))) (ZS (eP (eC (.bl false)))) ZN))
  (Zm (Zn 5 (Ze Y3 [(Za 3)]))
  (Zm (WR (Nq (xB (Zi (YJ true) (Ze ZF [(Za 5)]) (Ze Zs [(Za 2)]))) (xB (Zi (YJ true) (Ze ZX [(Za 2),(Ze ZF [(Za 5)])]) (Za 5)))) (ZS (eP (eC (.bl false)))) ZN)
  (Zm (X5 3 (eP (Yq [])))
  (Zm (Zn 6 (eP (Zi Xa (Ze Zx [(Za 0),(eC (.int 12))]) (Zi Yo (Ze ZF [(Za 5)]) (eC (.int 2))))))
  (Zm (WR (VJ (xB (Zi Tt (Za 6) (eC (.int 0)))) (Uj (xB (Ze Z1 [(Za 2),(Zi YQ (Ze ZF [(Za 5)]) (Za 6))])))) (ZS (eP (eC (.bl false)))) ZN)
  (ZS (eP (Rk (Ze Z1 [(Za 2),(Zi YQ (Ze ZF [(Za 5)]) (eC (.int 1)))]) (Zi (YJ false) (Ze (fun ls=>ZX (ls++[.int 300])) [(Za 2)]) (Za 5)))))))))))))))))
noncomputable def D_law:List PV->Option PV:=Xl 7 Kx
def Sr(i:Nat):Stmt:=PySem.Challenge.pw_purseweb_k52_trees_told.main.body.getD i (.Pass ⟨0,0,0,0⟩)
section
variable {P:Program} {w:World} {K:PySem.W.Frag} {mg:Str->Option Value} {base:Heap}
abbrev Th:Stmt:=Sr 35
theorem N4:Zy (["_law_cell_here"]:List Str) (["_law_cell_here"]:List Str) (Zk Th):=⟨rfl,rfl,rfl,by decide +kernel,rfl,by decide +kernel,by decide +kernel⟩
theorem N5(Df:Def K mg "_law_houses" Th)(B:Tb mg):Xj P w K mg base "_law_houses" (["_law_cell_here"]:List Str) (YU K X2 1) 1:=
 Yh (O:=[]) (k:=0) 1 X1 Df N4 (fun _ _ _ _ _ _ us hl=>match us,hl with | [_],_=>rfl) rfl rfl (by decide) (fun fa cdv A outer s H E hr=>
  (Zh (Xr (S9 hr.units (XW (XG (Zd (pv 0)) Zj) Zj) Zj) (Zl (ZM (VE.pure (Xm Zj (XW (XG (Zd (pv 0)) Zj) Zj))))) Z9)
  (Zl (ZM (VE.pure (Xm Zj (XW (Zd (pv 0)) Zj)))))))
abbrev Ti:Stmt:=Sr 37
theorem sc_l_square:Zy (["_law_times_here","_law_many","_law_rows","_law_one","_law_other"]:List Str) (["_law_times_here","_law_many"]:List Str) (Zk Ti):=⟨rfl,rfl,rfl,by decide +kernel,rfl,by decide +kernel,by decide +kernel⟩
theorem N6(Df:Def K mg "_law_square" Ti)(B:Tb mg):Xj P w K mg base "_law_square" (["_law_times_here","_law_many"]:List Str) (YU K XZ 2) 1:=
 Yh (O:=[2]) (k:=0) 5 VR Df sc_l_square (fun _ _ _ _ _ _ us hl=>match us,hl with | [_,_],_=>rfl) rfl rfl (by decide) (fun fa cdv A outer s H E hr=>
  (Zh (Ov (["_law_house"]:List Str) (["_law_many"]:List Str) [1] (i:=2) sc_l_square.nd rfl rfl rfl (Y1 rfl B.range (Zc (Zd (pv 1)) Zg)) (by kernel_rfl) (fun _ _ _ _ _=>(Zr (i:=0) (show((["_law_house"]:List Str)++(["_law_many"]:List Str)).Nodup by decide +kernel) rfl (Or.inl rfl) (.inr rfl))) (fun _ _ _ _ _=>Xe) (fun _ _ _ _ _=>(Hj (WD (Zc Zj Zg)) (Zd (pv 1)))))
  (Zh (Kk (RL PassesOwn.never rfl (Of (pv 0)) (U8 (n:=2) rfl (YD (Zr (i:=3) sc_l_square.nd rfl (Or.inl rfl)) (YD (Zr (i:=4) sc_l_square.nd rfl (Or.inl rfl)) VB))) (Zh (Px (ME (Ou (S7 hr) (Zd (pv 0)) (YY (Zc (Zd (pv 3)) (Zc (Zd (pv 4)) Zg)))) (IB (LN ix_list (pv 2) (Zd (pv 3)) (fun _ _=>rfl)) (Zd (pv 4)) Nf)))
  (Zl (Px (ME (Ou (S7 hr) (Zd (pv 0)) (YY (Zc (Zd (pv 3)) (Zc (Zd (pv 4)) Zg)))) (IB (LN ix_list (pv 2) (Zd (pv 4)) (fun _ _=>rfl)) (Zd (pv 3)) Nf)))))))
  (Zl (ZM (VE.pure (Xb Xq Um rfl B.tuple (by decide +kernel) (Zc (VP (["_law_row"]:List Str) ([]:List Str) [] rfl (W5 (Zd (pv 2))) (by kernel_rfl) (fun _ _ _ _ _=>(Zr (i:=0) (show((["_law_row"]:List Str)++([]:List Str)).Nodup by decide +kernel) rfl (Or.inl rfl) (.inr rfl))) (fun _ _ _ _ _=>Xe) (fun _ _ _ _ _=>(Xb Xq Um rfl B.tuple (by decide +kernel) (Zc (Zd (pv 0)) Zg)))) Zg))))))))
abbrev SV:Stmt:=Sr 19
theorem sc_ties_of:Zy (["web","ties","a","row","b"]:List Str) (["web"]:List Str) (Zk SV):=⟨rfl,rfl,rfl,by decide +kernel,rfl,by decide +kernel,by decide +kernel⟩
theorem Lc(Df:Def K mg "ties_of" SV)(B:Tb mg):Xj P w K mg base "ties_of" (["web"]:List Str) (YU K XY 1) 1:=
 Yh (O:=[1]) (k:=0) 5 UT Df sc_ties_of (fun _ _ _ _ _ _ us hl=>match us,hl with | [_],_=>rfl) rfl rfl (by decide) (fun fa cdv A outer s H E hr=>
  (Zh (Zq (i:=1) sc_ties_of.nd rfl (Or.inl rfl) (Ul W3))
  (Zh (Y4 PassesOwn.never rfl (L9 false rfl B.enumerate (Zc (Zd (pv 0)) Zg)) (U8 (n:=2) rfl (YD (Zr (i:=2) sc_ties_of.nd rfl (Or.inr rfl)) (YD (Zr (i:=3) sc_ties_of.nd rfl (Or.inl rfl)) VB))) (Zl (Y4 PassesOwn.never rfl (Xc rfl B.range (Zc (Xm (Zd (pv 2)) Zj) (Zc (Zv ZO Yz rfl B.len (by decide +kernel) (Zc (Zd (pv 0)) Zg)) Zg))) (Zr (i:=4) sc_ties_of.nd rfl (Or.inr rfl)) (Zl (Pw (WX (S5 PySem.F.plainAttrs_list PySem.F.slot_list_extend PySem.F.type_list_extend Ph (pv 1) (Yv (TR (["nth"]:List Str) (["a","b"]:List Str) [2,4] rfl (Y1 rfl B.range (Zc (Zu (Zd (pv 3)) (Zd (pv 4))) Zg)) (by kernel_rfl) (fun _ _ _ _ _=>(Zr (i:=0) (show((["nth"]:List Str)++(["a","b"]:List Str)).Nodup by decide +kernel) rfl (Or.inl rfl) (.inr rfl))) (fun _ _ _ _ _=>Xe) (fun _ _ _ _ _=>(VE.pure (YY (Zc (Zd (pv 1)) (Zc (Zd (pv 2)) (Zc (Zd (pv 0)) Zg))))))) XU))))))))
  (Zl (UN (pv 1))))))
abbrev SW:Stmt:=Sr 16
theorem Ld:Zy (["row","by","place","divisor"]:List Str) (["row","by","place","divisor"]:List Str) (Zk SW):=⟨rfl,rfl,rfl,by decide +kernel,rfl,by decide +kernel,by decide +kernel⟩
theorem Lf(Df:Def K mg "reduced" SW)(B:Tb mg):Xj P w K mg base "reduced" (["row","by","place","divisor"]:List Str) (YU K XB 4) 1:=
 Yh (O:=[]) (k:=0) 4 UU Df Ld (fun _ _ _ _ _ _ us hl=>match us,hl with | [_,_,_,_],_=>rfl) rfl rfl (by decide) (fun fa cdv A outer s H E hr=>
  (Zl (ZM (VE.pure (Xb Xq Um rfl B.tuple (by decide +kernel) (Zc (VP (["number","other"]:List Str) (["divisor","by","place","row"]:List Str) [3,1,2,0] rfl (Cf false false rfl B.zip (Zc (Zd (pv 0)) (Zc (Zd (pv 1)) Zg))) (by kernel_rfl) (fun _ _ _ _ _=>(U8 (n:=2) rfl (YD (Zr (i:=0) (show((["number","other"]:List Str)++(["divisor","by","place","row"]:List Str)).Nodup by decide +kernel) rfl (Or.inl rfl) (.inr rfl)) (YD (Zr (i:=1) (show((["number","other"]:List Str)++(["divisor","by","place","row"]:List Str)).Nodup by decide +kernel) rfl (Or.inl rfl) (.inr rfl)) VB)))) (fun _ _ _ _ _=>Xe) (fun _ _ _ _ _=>(Hv (Wk (Ko (Zu (Zd (pv 3)) (Zd (pv 4))) (Zd (pv 0))) (Ko (Zu (Zd (pv 5)) (Zd (pv 4))) (Zd (pv 1)))) (Zd (pv 2))))) Zg))))))
abbrev Qu:Stmt:=Sr 15
theorem sc_evened:Zy (["rows","left","divisor","place","by"]:List Str) (["rows"]:List Str) (Zk Qu):=⟨rfl,rfl,rfl,by decide +kernel,rfl,by decide +kernel,by decide +kernel⟩
theorem JQ(Df:Def K mg "evened" Qu)(B:Tb mg)(C_reduced:Xj P w K mg base "reduced" (["row","by","place","divisor"]:List Str) (YU K XB 4) 1):Xj P w K mg base "evened" (["rows"]:List Str) (YU K Vr 1) 2:=
 Yh (O:=[1]) (k:=1) 5 T9 Df sc_evened (fun _ _ _ _ _ _ us hl=>match us,hl with | [_],_=>rfl) rfl rfl (by decide) (fun fa cdv A outer s H E hr=>
  (Zh (Zq (i:=1) sc_evened.nd rfl (Or.inl rfl) (SJ VF R4 rfl B.list (by decide +kernel) (Zc (Zd (pv 0)) Zg)))
  (Zh (Zq (i:=2) sc_evened.nd rfl (Or.inr rfl) (VE.pure Zj))
  (Zh (Y4 PassesOwn.never rfl (Y1 rfl B.range (Zc (Zv ZO Yz rfl B.len (by decide +kernel) (Zc (Zd (pv 0)) Zg)) Zg)) (Zr (i:=3) sc_evened.nd rfl (Or.inr rfl)) (Zh (Zq (i:=4) sc_evened.nd rfl (Or.inr rfl) (VE.pure (Zu (Zd (pv 1)) (Zd (pv 3)))))
  (Zh (Ov (["at","row"]:List Str) (["place","by","divisor"]:List Str) [3,4,2] (i:=1) sc_evened.nd rfl rfl rfl (L9 true rfl B.enumerate (Zc (Zd (pv 1)) Zg)) (by kernel_rfl) (fun _ _ _ _ _=>(U8 (n:=2) rfl (YD (Zr (i:=0) (show((["at","row"]:List Str)++(["place","by","divisor"]:List Str)).Nodup by decide +kernel) rfl (Or.inl rfl) (.inr rfl)) (YD (Zr (i:=1) (show((["at","row"]:List Str)++(["place","by","divisor"]:List Str)).Nodup by decide +kernel) rfl (Or.inl rfl) (.inr rfl)) VB)))) (fun _ _ _ _ _=>Xe) (fun _ _ _ _ _=>(VE.pure (L5 (S9 hr.units (Zd (pv 0)) (Zd (pv 2))) (Zd (pv 1)) (VM.ve (Zp C_reduced (hr.mono (by decide)) rfl (Zc (Zd (pv 1)) (Zc (Zd (pv 3)) (Zc (Zd (pv 2)) (Zc (Zd (pv 4)) Zg))))))))))
  (Zl (Zq (i:=2) sc_evened.nd rfl (Or.inr rfl) (VE.pure (Zu (Zd (pv 4)) (Zd (pv 3)))))))))
  (Zl (Hy (IF (Yv (Zd (pv 2)) (Yv (pv 1) XU)))))))))
abbrev Vi:Stmt:=Sr 14
theorem Qv:Zy (["square"]:List Str) (["square"]:List Str) (Zk Vi):=⟨rfl,rfl,rfl,by decide +kernel,rfl,by decide +kernel,by decide +kernel⟩
theorem Qw(Df:Def K mg "determinant" Vi)(B:Tb mg)(C_evened:Xj P w K mg base "evened" (["rows"]:List Str) (YU K Vr 1) 2):Xj P w K mg base "determinant" (["square"]:List Str) (YU K YG 1) 3:=
 Yh (O:=[]) (k:=2) 1 X6 Df Qv (fun _ _ _ _ _ _ us hl=>match us,hl with | [_],_=>rfl) rfl rfl (by decide) (fun fa cdv A outer s H E hr=>
  (Zl (ZM (VE.pure (Zu (VM.ve (Zp C_evened (hr.mono (by decide)) rfl (Zc (Zd (pv 0)) Zg))) Zj)))))
abbrev SX:Stmt:=Sr 18
theorem Lg:Zy (["web","house"]:List Str) (["web","house"]:List Str) (Zk SX):=⟨rfl,rfl,rfl,by decide +kernel,rfl,by decide +kernel,by decide +kernel⟩
theorem Lh(Df:Def K mg "ties_at" SX)(B:Tb mg):Xj P w K mg base "ties_at" (["web","house"]:List Str) (YU K Wz 2) 1:=
 Yh (O:=[]) (k:=0) 2 SN Df Lg (fun _ _ _ _ _ _ us hl=>match us,hl with | [_,_],_=>rfl) rfl rfl (by decide) (fun fa cdv A outer s H E hr=>
  (Zl (ZM (VE.pure (Zv (Jj rfl) D8 rfl B.sum (by decide +kernel) (Zc (Zu (Zd (pv 0)) (Zd (pv 1))) Zg))))))
abbrev Qx:Stmt:=Sr 23
theorem JR:Zy (["web","house","others"]:List Str) (["web","house","others"]:List Str) (Zk Qx):=⟨rfl,rfl,rfl,by decide +kernel,rfl,by decide +kernel,by decide +kernel⟩
theorem JS(Df:Def K mg "row_of" Qx)(B:Tb mg)(C_ties_at:Xj P w K mg base "ties_at" (["web","house"]:List Str) (YU K Wz 2) 1):Xj P w K mg base "row_of" (["web","house","others"]:List Str) (YU K Uv 3) 2:=
 Yh (O:=[]) (k:=1) 3 Sa Df JR (fun _ _ _ _ _ _ us hl=>match us,hl with | [_,_,_],_=>rfl) rfl rfl (by decide) (fun fa cdv A outer s H E hr=>
  (Zl (ZM (VE.pure (Xb Xq Um rfl B.tuple (by decide +kernel) (Zc (VP (["other"]:List Str) (["house","web"]:List Str) [1,0] rfl (W5 (Zd (pv 2))) (by kernel_rfl) (fun _ _ _ _ _=>(Zr (i:=0) (show((["other"]:List Str)++(["house","web"]:List Str)).Nodup by decide +kernel) rfl (Or.inl rfl) (.inr rfl))) (fun _ _ _ _ _=>Xe) (fun _ _ _ _ _=>(L5 (S9 hr.units (Zd (pv 0)) (Zd (pv 1))) (VM.ve (Zp C_ties_at (hr.mono (by decide)) rfl (Zc (Zd (pv 2)) (Zc (Zd (pv 1)) Zg)))) (MR (Zu (Zu (Zd (pv 2)) (Zd (pv 1))) (Zd (pv 0))))))) Zg))))))
abbrev X3:Stmt:=Sr 22
theorem sc_square_without:Zy (["web","base","others"]:List Str) (["web","base"]:List Str) (Zk X3):=⟨rfl,rfl,rfl,by decide +kernel,rfl,by decide +kernel,by decide +kernel⟩
theorem Sg(Df:Def K mg "square_without" X3)(B:Tb mg)(C_row_of:Xj P w K mg base "row_of" (["web","house","others"]:List Str) (YU K Uv 3) 2):Xj P w K mg base "square_without" (["web","base"]:List Str) (YU K Xh 2) 3:=
 Yh (O:=[]) (k:=2) 3 Xg Df sc_square_without (fun _ _ _ _ _ _ us hl=>match us,hl with | [_,_],_=>rfl) rfl rfl (by decide) (fun fa cdv A outer s H E hr=>
  (Zh (Zq (i:=2) sc_square_without.nd rfl (Or.inr rfl) (TR (["house"]:List Str) (["base"]:List Str) [1] rfl (Y1 rfl B.range (Zc (Zv ZO Yz rfl B.len (by decide +kernel) (Zc (Zd (pv 0)) Zg)) Zg)) (by kernel_rfl) (fun _ _ _ _ _=>(Zr (i:=0) (show((["house"]:List Str)++(["base"]:List Str)).Nodup by decide +kernel) rfl (Or.inl rfl) (.inr rfl))) (fun _ _ _ _ _=>(Kb (Py hr.units (Zd (pv 0)) (Zd (pv 1))))) (fun _ _ _ _ _=>(VE.pure (Zd (pv 0))))))
  (Zl (ZM (VE.pure (Xb Xq Um rfl B.tuple (by decide +kernel) (Zc (VP (["house"]:List Str) (["web","others"]:List Str) [0,2] rfl (W5 (Zd (pv 2))) (by kernel_rfl) (fun _ _ _ _ _=>(Zr (i:=0) (show((["house"]:List Str)++(["web","others"]:List Str)).Nodup by decide +kernel) rfl (Or.inl rfl) (.inr rfl))) (fun _ _ _ _ _=>Xe) (fun _ _ _ _ _=>(VM.ve (Zp C_row_of (hr.mono (by decide)) rfl (Zc (Zd (pv 1)) (Zc (Zd (pv 0)) (Zc (Zd (pv 2)) Zg))))))) Zg)))))))
abbrev Uz:Stmt:=Sr 21
theorem OL:Zy (["web"]:List Str) (["web"]:List Str) (Zk Uz):=⟨rfl,rfl,rfl,by decide +kernel,rfl,by decide +kernel,by decide +kernel⟩
theorem OM(Df:Def K mg "square_of" Uz)(B:Tb mg)(C_square_without:Xj P w K mg base "square_without" (["web","base"]:List Str) (YU K Xh 2) 3):Xj P w K mg base "square_of" (["web"]:List Str) (YU K YV 1) 4:=
 Yh (O:=[]) (k:=3) 1 Vb Df OL (fun _ _ _ _ _ _ us hl=>match us,hl with | [_],_=>rfl) rfl rfl (by decide) (fun fa cdv A outer s H E hr=>
  (Zl (ZM (Zp C_square_without (hr.mono (by decide)) rfl (Zc (Zd (pv 0)) (Zc Zj Zg))))))
abbrev VZ:Stmt:=Sr 25
theorem Q2:Zy (["web"]:List Str) (["web"]:List Str) (Zk VZ):=⟨rfl,rfl,rfl,by decide +kernel,rfl,by decide +kernel,by decide +kernel⟩
theorem Q4(Df:Def K mg "tree_count" VZ)(B:Tb mg)(C_determinant:Xj P w K mg base "determinant" (["square"]:List Str) (YU K YG 1) 3)(C_square_of:Xj P w K mg base "square_of" (["web"]:List Str) (YU K YV 1) 4):Xj P w K mg base "tree_count" (["web"]:List Str) (YU K Zs 1) 5:=
 Yh (O:=[]) (k:=4) 1 Wu Df Q2 (fun _ _ _ _ _ _ us hl=>match us,hl with | [_],_=>rfl) rfl rfl (by decide) (fun fa cdv A outer s H E hr=>
  (Zl (ZM (Zp C_determinant (hr.mono (by decide)) rfl (Zc (VM.ve (Zp C_square_of (hr.mono (by decide)) rfl (Zc (Zd (pv 0)) Zg))) Zg)))))
abbrev UA:Stmt:=Sr 28
theorem sc_pieces_of:Zy (["web","ties","grove","pieces","tie","ends","kept","gone"]:List Str) (["web","ties","grove"]:List Str) (Zk UA):=⟨rfl,rfl,rfl,by decide +kernel,rfl,by decide +kernel,by decide +kernel⟩
theorem ON(Df:Def K mg "pieces_of" UA)(B:Tb mg):Xj P w K mg base "pieces_of" (["web","ties","grove"]:List Str) (YU K Y8 3) 1:=
 Yh (O:=[3]) (k:=0) 8 Vc Df sc_pieces_of (fun _ _ _ _ _ _ us hl=>match us,hl with | [_,_,_],_=>rfl) rfl rfl (by decide) (fun fa cdv A outer s H E hr=>
  (Zh (Zq (i:=3) sc_pieces_of.nd rfl (Or.inl rfl) (OC rfl rfl B.list rfl B.range (Zv ZO Yz rfl B.len (by decide +kernel) (Zc (Zd (pv 0)) Zg))))
  (Zh (Y4 PassesOwn.never rfl (MU (Zd (pv 2))) (Zr (i:=4) sc_pieces_of.nd rfl (Or.inl rfl)) (Zh (Zq (i:=5) sc_pieces_of.nd rfl (Or.inl rfl) (VE.pure (Zu (Zd (pv 1)) (Zd (pv 4)))))
  (Zh (Zq (i:=6) sc_pieces_of.nd rfl (Or.inr rfl) (VE.pure (Zu (Zd (pv 3)) (Zu (Zd (pv 5)) Zj))))
  (Zh (Zq (i:=7) sc_pieces_of.nd rfl (Or.inr rfl) (VE.pure (Zu (Zd (pv 3)) (Zu (Zd (pv 5)) Zj))))
  (Zl (Ov (["piece"]:List Str) (["kept","gone"]:List Str) [6,7] (i:=3) sc_pieces_of.nd rfl rfl rfl (W5 (Zd (pv 3))) (by kernel_rfl) (fun _ _ _ _ _=>(Zr (i:=0) (show((["piece"]:List Str)++(["kept","gone"]:List Str)).Nodup by decide +kernel) rfl (Or.inl rfl) (.inr rfl))) (fun _ _ _ _ _=>Xe) (fun _ _ _ _ _=>(VE.pure (L5 (S9 hr.units (Zd (pv 0)) (Zd (pv 2))) (Zd (pv 1)) (Zd (pv 0)))))))))))
  (Zl (UN (pv 3))))))
abbrev V0:Stmt:=Sr 29
theorem Q5:Zy (["pieces","ends"]:List Str) (["pieces","ends"]:List Str) (Zk V0):=⟨rfl,rfl,rfl,by decide +kernel,rfl,by decide +kernel,by decide +kernel⟩
theorem Q6(Df:Def K mg "is_between" V0)(B:Tb mg):Xj P w K mg base "is_between" (["pieces","ends"]:List Str) (YU K Y0 2) 1:=
 Yh (O:=[]) (k:=0) 2 Wv Df Q5 (fun _ _ _ _ _ _ us hl=>match us,hl with | [_,_],_=>rfl) rfl rfl (by decide) (fun fa cdv A outer s H E hr=>
  (Zl (ZM (VE.pure (BP hr.units (Zu (Zd (pv 0)) (Zu (Zd (pv 1)) Zj)) (Zu (Zd (pv 0)) (Zu (Zd (pv 1)) Zj)))))))
abbrev OO:Stmt:=Sr 27
theorem sc_grown:Zy (["web","ties","groves","found","grove","pieces","behind"]:List Str) (["web","ties","groves"]:List Str) (Zk OO):=⟨rfl,rfl,rfl,by decide +kernel,rfl,by decide +kernel,by decide +kernel⟩
theorem HW(Df:Def K mg "grown" OO)(B:Tb mg)(C_pieces_of:Xj P w K mg base "pieces_of" (["web","ties","grove"]:List Str) (YU K Y8 3) 1)(C_is_between:Xj P w K mg base "is_between" (["pieces","ends"]:List Str) (YU K Y0 2) 1):Xj P w K mg base "grown" (["web","ties","groves"]:List Str) (YU K Vd 3) 2:=
 Yh (O:=[3]) (k:=1) 7 RE Df sc_grown (fun _ _ _ _ _ _ us hl=>match us,hl with | [_,_,_],_=>rfl) rfl rfl (by decide) (fun fa cdv A outer s H E hr=>
  (Zh (Zq (i:=3) sc_grown.nd rfl (Or.inl rfl) (Ul W3))
  (Zh (Y4 PassesOwn.never rfl (W5 (Zd (pv 2))) (Zr (i:=4) sc_grown.nd rfl (Or.inr rfl)) (Zh (Zq (i:=5) sc_grown.nd rfl (Or.inr rfl) (Zp C_pieces_of (hr.mono (by decide)) rfl (Zc (Zd (pv 0)) (Zc (Zd (pv 1)) (Zc (Zd (pv 4)) Zg)))))
  (Zh (Zq (i:=6) sc_grown.nd rfl (Or.inl rfl) (VE.pure (L5 (RX (Zv ZO Yz rfl B.len (by decide +kernel) (Zc (Zd (pv 4)) Zg)) Zj) (Xm (Zu (Zd (pv 4)) (MR Zj)) Zj) Zj)))
  (Zl (Pw (WX (S5 PySem.F.plainAttrs_list PySem.F.slot_list_extend PySem.F.type_list_extend Ph (pv 3) (Yv (TR (["tie"]:List Str) (["grove","pieces","ties"]:List Str) [4,5,1] rfl (Xc rfl B.range (Zc (Zd (pv 6)) (Zc (Zv ZO Yz rfl B.len (by decide +kernel) (Zc (Zd (pv 1)) Zg)) Zg))) (by kernel_rfl) (fun _ _ _ _ _=>(Zr (i:=0) (show((["tie"]:List Str)++(["grove","pieces","ties"]:List Str)).Nodup by decide +kernel) rfl (Or.inl rfl) (.inr rfl))) (fun _ _ _ _ _=>(Kb (Uh (VM.ve (Zp C_is_between (hr.mono (by decide)) rfl (Zc (Zd (pv 2)) (Zc (Zu (Zd (pv 3)) (Zd (pv 0))) Zg))))))) (fun _ _ _ _ _=>(VE.pure (S8 FR FT (Zd (pv 1)) (YY (Zc (Zd (pv 0)) Zg)))))) XU))))))))
  (Zl (UN (pv 3))))))
abbrev UW:Stmt:=Sr 26
theorem sc_trees:Zy (["web","most","ties","groves","size"]:List Str) (["web","most"]:List Str) (Zk UW):=⟨rfl,rfl,rfl,by decide +kernel,rfl,by decide +kernel,by decide +kernel⟩
theorem HX(Df:Q1 K mg "trees" UW 300)(B:Tb mg)(C_tree_count:Xj P w K mg base "tree_count" (["web"]:List Str) (YU K Zs 1) 5)(C_ties_of:Xj P w K mg base "ties_of" (["web"]:List Str) (YU K XY 1) 1)(C_grown:Xj P w K mg base "grown" (["web","ties","groves"]:List Str) (YU K Vd 3) 2):Hz P w K mg base "trees" (["web","most"]:List Str) (YU K ZX 2) 6 300:=
 FV (O:=[3]) (k:=5) 5 Se Df sc_trees (fun _ _ _ _ _ _ _ _ us hl=>match us,hl with | [_],_=>⟨_,rfl,rfl⟩) rfl rfl (by decide) (fun fa cdv A outer s H E hr=>
  (Zh (Xr (RX (VM.ve (Zp C_tree_count (hr.mono (by decide)) rfl (Zc (Zd (pv 0)) Zg))) (Zd (pv 1))) (Zl (T8 (W:=[]))) Z9)
  (Zh (Zq (i:=2) sc_trees.nd rfl (Or.inl rfl) (Zp C_ties_of (hr.mono (by decide)) rfl (Zc (Zd (pv 0)) Zg)))
  (Zh (Zq (i:=3) sc_trees.nd rfl (Or.inl rfl) (Ul (WC (VE.pure (YY Zg)) W3)))
  (Zh (Y4 PassesOwn.never rfl (Xc rfl B.range (Zc Zj (Zc (Zv ZO Yz rfl B.len (by decide +kernel) (Zc (Zd (pv 0)) Zg)) Zg))) (Zr (i:=4) sc_trees.nd rfl (Or.inl rfl)) (Zl (Zq (i:=3) sc_trees.nd rfl (Or.inl rfl) (Zp C_grown (hr.mono (by decide)) rfl (Zc (Zd (pv 0)) (Zc (Zd (pv 2)) (Zc (Zd (pv 3)) Zg)))))))
  (Zl (UN (pv 3))))))))
theorem JT(Df:Q1 K mg "trees" UW 300)(B:Tb mg)(C_tree_count:Xj P w K mg base "tree_count" (["web"]:List Str) (YU K Zs 1) 5)(C_ties_of:Xj P w K mg base "ties_of" (["web"]:List Str) (YU K XY 1) 1)(C_grown:Xj P w K mg base "grown" (["web","ties","groves"]:List Str) (YU K Vd 3) 2):Xj P w K mg base "trees" (["web","most"]:List Str) (YU K ZX 2) 6:=
 VX.def_okF (O:=[3]) (k:=5) 5 Se Df sc_trees (fun _ _ _ _ _ _ _ _ us hl=>match us,hl with | [_,_],_=>⟨_,rfl,rfl⟩) rfl rfl (by decide) (fun fa cdv A outer s H E hr=>
  (Zh (Xr (RX (VM.ve (Zp C_tree_count (hr.mono (by decide)) rfl (Zc (Zd (pv 0)) Zg))) (Zd (pv 1))) (Zl (T8 (W:=[]))) Z9)
  (Zh (Zq (i:=2) sc_trees.nd rfl (Or.inl rfl) (Zp C_ties_of (hr.mono (by decide)) rfl (Zc (Zd (pv 0)) Zg)))
  (Zh (Zq (i:=3) sc_trees.nd rfl (Or.inl rfl) (Ul (WC (VE.pure (YY Zg)) W3)))
  (Zh (Y4 PassesOwn.never rfl (Xc rfl B.range (Zc Zj (Zc (Zv ZO Yz rfl B.len (by decide +kernel) (Zc (Zd (pv 0)) Zg)) Zg))) (Zr (i:=4) sc_trees.nd rfl (Or.inl rfl)) (Zl (Zq (i:=3) sc_trees.nd rfl (Or.inl rfl) (Zp C_grown (hr.mono (by decide)) rfl (Zc (Zd (pv 0)) (Zc (Zd (pv 2)) (Zc (Zd (pv 3)) Zg)))))))
  (Zl (UN (pv 3))))))))
theorem JU{Ca Cb:Addr}(Df:Q1 K mg "trees" UW 300)(B:Tb mg)(Q:VX.Q3 "TooMany" P w K mg base Ca Cb)(C_tree_count:Xj P w K mg base "tree_count" (["web"]:List Str) (YU K Zs 1) 5):VX.CalX P w K mg base "trees" (["web","most"]:List Str) (VX.spY K Ym 2) 6:=
 VX.def_yrF (O:=[3]) (k:=5) 5 (Qr (Ct (xB (Zi Tt (Ze Zs [(Za 0)]) (Za 1))) (SU "TooMany" (Za 1)) F3) Tg F3) Df sc_trees (fun _ _ _ _ _ _ _ _ us hl=>match us,hl with | [_,_],_=>⟨_,rfl,rfl⟩) rfl rfl (by decide) (fun fa cdv A outer s H E hr=>
  (NU (E9 (RX (VM.ve (Zp C_tree_count (hr.mono (by decide)) rfl (Zc (Zd (pv 0)) Zg))) (Zd (pv 1))) (Kt (NT F.excBase_ValueError Q.f.cf (hr.mono (by decide)) rfl Q.f.mgo Q.f.no rfl Kv (Zd (pv 1)))) OJ) (T8 (W:=[])) OJ))
theorem Li{Ca Cb:Addr}(Df:Q1 K mg "trees" UW 300)(B:Tb mg)(Q:VX.Q3 "TooMany" P w K mg base Ca Cb)(C_tree_count:Xj P w K mg base "tree_count" (["web"]:List Str) (YU K Zs 1) 5):VX.CalXD P w K mg base "trees" (["web","most"]:List Str) (VX.spY K Ym 2) 6 300:=
 VX.def_yrD (O:=[3]) (k:=5) 5 (Qr (Ct (xB (Zi Tt (Ze Zs [(Za 0)]) (Za 1))) (SU "TooMany" (Za 1)) F3) Tg F3) Df sc_trees (fun _ _ _ _ _ _ _ _ us hl=>match us,hl with | [_],_=>⟨_,rfl,rfl⟩) rfl rfl (by decide) (fun fa cdv A outer s H E hr=>
  (NU (E9 (RX (VM.ve (Zp C_tree_count (hr.mono (by decide)) rfl (Zc (Zd (pv 0)) Zg))) (Zd (pv 1))) (Kt (NT F.excBase_ValueError Q.f.cf (hr.mono (by decide)) rfl Q.f.mgo Q.f.no rfl Kv (Zd (pv 1)))) OJ) (T8 (W:=[])) OJ))
abbrev Qy:Stmt:=Sr 42
theorem JV:Zy (["_law_deep","_law_last"]:List Str) (["_law_deep","_law_last"]:List Str) (Zk Qy):=⟨rfl,rfl,rfl,by decide +kernel,rfl,by decide +kernel,by decide +kernel⟩
theorem JW(Df:Def K mg "_law_ring" Qy)(B:Tb mg):Xj P w K mg base "_law_ring" (["_law_deep","_law_last"]:List Str) (YU K Z0 2) 1:=
 Yh (O:=[]) (k:=0) 2 N3 Df JV (fun _ _ _ _ _ _ us hl=>match us,hl with | [_,_],_=>rfl) rfl rfl (by decide) (fun fa cdv A outer s H E hr=>
  (Zl (ZM (VE.pure (YY (Zc (YY (Zc Zj (Zc (Zd (pv 0)) (Zc Zj (Zc (Zd (pv 1)) Zg))))) (Zc (YY (Zc (Zd (pv 0)) (Zc Zj (Zc (Zd (pv 0)) (Zc Zj Zg))))) (Zc (YY (Zc Zj (Zc (Zd (pv 0)) (Zc Zj (Zc (Zd (pv 0)) Zg))))) (Zc (YY (Zc (Zd (pv 1)) (Zc Zj (Zc (Zd (pv 0)) (Zc Zj Zg))))) Zg)))))))))
abbrev SY:Stmt:=Sr 32
theorem Lj:Zy (["_law_thing"]:List Str) (["_law_thing"]:List Str) (Zk SY):=⟨rfl,rfl,rfl,by decide +kernel,rfl,by decide +kernel,by decide +kernel⟩
theorem Lk(Df:Def K mg "_law_whole" SY)(B:Tb mg):Xj P w K mg base "_law_whole" (["_law_thing"]:List Str) (YU K Z7 1) 1:=
 Yh (O:=[]) (k:=0) 1 SO Df Lj (fun _ _ _ _ _ _ us hl=>match us,hl with | [_],_=>rfl) rfl rfl (by decide) (fun fa cdv A outer s H E hr=>
  (Zl (ZM (VE.pure (Uk (Zv WY Rv rfl B.isinstance (by decide +kernel) (Zc (Zd (pv 0)) (Zc (L8 rfl B.int (by decide +kernel)) Zg))) (RY (D6 (Zv WY Rv rfl B.isinstance (by decide +kernel) (Zc (Zd (pv 0)) (Zc (L8 rfl B.bool (by decide +kernel)) Zg))))))))))
abbrev S0:Stmt:=Sr 39
theorem Ll:Zy (["_law_found","_law_many"]:List Str) (["_law_found","_law_many"]:List Str) (Zk S0):=⟨rfl,rfl,rfl,by decide +kernel,rfl,by decide +kernel,by decide +kernel⟩
theorem Lm(Df:Def K mg "_law_tuple" S0)(B:Tb mg)(C_l_whole:Xj P w K mg base "_law_whole" (["_law_thing"]:List Str) (YU K Z7 1) 1):Xj P w K mg base "_law_tuple" (["_law_found","_law_many"]:List Str) (YU K XA 2) 2:=
 Yh (O:=[]) (k:=1) 2 SQ Df Ll (fun _ _ _ _ _ _ us hl=>match us,hl with | [_,_],_=>rfl) rfl rfl (by decide) (fun fa cdv A outer s H E hr=>
  (Zl (ZM (VE.pure (Uk (Zv WY Rv rfl B.isinstance (by decide +kernel) (Zc (Zd (pv 0)) (Zc (L8 rfl B.tuple (by decide +kernel)) Zg))) (Uk (Qd hr.units (Zv ZO Yz rfl B.len (by decide +kernel) (Zc (Zd (pv 0)) Zg)) (Zd (pv 1))) (RY (Zv (SE rfl) MS rfl B.all (by decide +kernel) (Zc (VP (["_law_number"]:List Str) ([]:List Str) [] rfl (MU (Zd (pv 0))) (by kernel_rfl) (fun _ _ _ _ _=>(Zr (i:=0) (show((["_law_number"]:List Str)++([]:List Str)).Nodup by decide +kernel) rfl (Or.inl rfl) (.inr rfl))) (fun _ _ _ _ _=>Xe) (fun _ _ _ _ _=>(VM.ve (Zp C_l_whole (hr.mono (by decide)) rfl (Zc (Zd (pv 0)) Zg))))) Zg)))))))))
abbrev V1:Stmt:=Sr 40
theorem sc_l_is_treeL:Zy (["_law_web","_law_tree","_law_ties","_law_one","_law_other","_law_marks","_law_number","_law_gone"]:List Str) (["_law_web","_law_tree"]:List Str) (Zk V1):=⟨rfl,rfl,rfl,by decide +kernel,rfl,by decide +kernel,by decide +kernel⟩
theorem Q7(Df:Def K mg "_law_is_tree" V1)(B:Tb mg)(C_l_tuple:Xj P w K mg base "_law_tuple" (["_law_found","_law_many"]:List Str) (YU K XA 2) 2):Xj P w K mg base "_law_is_tree" (["_law_web","_law_tree"]:List Str) (YU K ZV 2) 3:=
 Yh (O:=[]) (k:=2) 8 Ww Df sc_l_is_treeL (fun _ _ _ _ _ _ us hl=>match us,hl with | [_,_],_=>rfl) rfl rfl (by decide) (fun fa cdv A outer s H E hr=>
  (Zh (Zq (i:=2) sc_l_is_treeL.nd rfl (Or.inl rfl) (Ul W3))
  (Zh (Y4 PassesOwn.never rfl (Y1 rfl B.range (Zc (Zv ZO Yz rfl B.len (by decide +kernel) (Zc (Zd (pv 0)) Zg)) Zg)) (Zr (i:=3) sc_l_is_treeL.nd rfl (Or.inr rfl)) (Zl (Y4 PassesOwn.never rfl (Xc rfl B.range (Zc (Xm (Zd (pv 3)) Zj) (Zc (Zv ZO Yz rfl B.len (by decide +kernel) (Zc (Zd (pv 0)) Zg)) Zg))) (Zr (i:=4) sc_l_is_treeL.nd rfl (Or.inl rfl)) (Zl (Zq (i:=2) sc_l_is_treeL.nd rfl (Or.inl rfl) (Ry (Zd (pv 2)) (VM.ve (Hj (WD (Zc (YY (Zc (Zd (pv 3)) (Zc (Zd (pv 4)) Zg))) Zg)) (Zu (Zu (Zd (pv 0)) (Zd (pv 3))) (Zd (pv 4)))))))))))
  (Zh (Xr (VW.vt (Pp (Tc (Uh (VM.ve (Zp C_l_tuple (hr.mono (by decide)) rfl (Zc (Zd (pv 1)) (Zc (Wk (Zv ZO Yz rfl B.len (by decide +kernel) (Zc (Zd (pv 0)) Zg)) Zj) Zg)))))) (SH (Py hr.units (VM.ve (SJ VF R4 rfl B.list (by decide +kernel) (Zc (Zd (pv 1)) Zg))) (VM.ve (IU OE NO rfl B.sorted (by decide +kernel) (Zc (Zd (pv 1)) Zg))))))) (Zl (ZM (VE.pure WZ))) Z9)
  (Zh (Zq (i:=5) sc_l_is_treeL.nd rfl (Or.inr rfl) (TR (["_law_house"]:List Str) ([]:List Str) [] rfl (Y1 rfl B.range (Zc (Zv ZO Yz rfl B.len (by decide +kernel) (Zc (Zd (pv 0)) Zg)) Zg)) (by kernel_rfl) (fun _ _ _ _ _=>(Zr (i:=0) (show((["_law_house"]:List Str)++([]:List Str)).Nodup by decide +kernel) rfl (Or.inl rfl) (.inr rfl))) (fun _ _ _ _ _=>Xe) (fun _ _ _ _ _=>(VE.pure (Zd (pv 0))))))
  (Zh (Y4 PassesOwn.never rfl (MU (Zd (pv 1))) (Zr (i:=6) sc_l_is_treeL.nd rfl (Or.inl rfl)) (Zh (Xr (VW.vt (Pp (BG (Zd (pv 6)) Zj) (SH (BH (Zd (pv 6)) (Zv ZO Yz rfl B.len (by decide +kernel) (Zc (Zd (pv 2)) Zg)))))) (Zl (ZM (VE.pure WZ))) Z9)
  (Zh (FG (T:=(.many [3,4])) (ME (Zu (Zd (pv 2)) (Zd (pv 6))) (U8 (n:=2) rfl (YD (Zr (i:=3) sc_l_is_treeL.nd rfl (Or.inr rfl)) (YD (Zr (i:=4) sc_l_is_treeL.nd rfl (Or.inl rfl)) VB)))))
  (Zh (Zq (i:=7) sc_l_is_treeL.nd rfl (Or.inr rfl) (VE.pure (Zu (Zd (pv 5)) (Zd (pv 4)))))
  (Zh (Xr (S9 hr.units (Zu (Zd (pv 5)) (Zd (pv 3))) (Zd (pv 7))) (Zl (ZM (VE.pure WZ))) Z9)
  (Zl (Zq (i:=5) sc_l_is_treeL.nd rfl (Or.inr rfl) (TR (["_law_mark"]:List Str) (["_law_marks","_law_one","_law_gone"]:List Str) [5,3,7] rfl (W5 (Zd (pv 5))) (by kernel_rfl) (fun _ _ _ _ _=>(Zr (i:=0) (show((["_law_mark"]:List Str)++(["_law_marks","_law_one","_law_gone"]:List Str)).Nodup by decide +kernel) rfl (Or.inl rfl) (.inr rfl))) (fun _ _ _ _ _=>Xe) (fun _ _ _ _ _=>(VE.pure (Zu (WD (Zc (Zd (pv 0)) (Zc (Zu (Zd (pv 1)) (Zd (pv 2))) Zg))) (Xb UJ Ru rfl B.int (by decide +kernel) (Zc (Qd hr.units (Zd (pv 0)) (Zd (pv 3))) Zg)))))))))))))
  (Zl (ZM (VE.pure WZ)))))))))
abbrev WM:Stmt:=Sr 43
theorem sc_l_by_default:Zy (["_law_last","_law_found","_law_most","_law_e","_law_k"]:List Str) (["_law_last"]:List Str) (Zk WM):=⟨rfl,rfl,rfl,by decide +kernel,rfl,by decide +kernel,by decide +kernel⟩
theorem Rq(Df:Def K mg "_law_by_default" WM)(B:Tb mg)(C_l_ring:Xj P w K mg base "_law_ring" (["_law_deep","_law_last"]:List Str) (YU K Z0 2) 1)(C_trees:Hz P w K mg base "trees" (["web","most"]:List Str) (YU K ZX 2) 6 300)(C_l_whole:Xj P w K mg base "_law_whole" (["_law_thing"]:List Str) (YU K Z7 1) 1)(C_l_is_treeL:Xj P w K mg base "_law_is_tree" (["_law_web","_law_tree"]:List Str) (YU K ZV 2) 3){Ca Cb:Addr}(Q:VX.Q3 "TooMany" P w K mg base Ca Cb)(XD_trees:VX.CalXD P w K mg base "trees" (["web","most"]:List Str) (VX.spY K Ym 2) 6 300):Xj P w K mg base "_law_by_default" (["_law_last"]:List Str) (YU K ZC 1) 7:=
 Yh (O:=[]) (k:=6) 5 YS Df sc_l_by_default (fun _ _ _ _ _ _ us hl=>match us,hl with | [_],_=>rfl) rfl rfl (by decide) (fun fa cdv A outer s H E hr=>
  (Zh (Zq (i:=1) sc_l_by_default.nd rfl (Or.inl rfl) (VE.pure MO))
  (Zh (Zq (i:=2) sc_l_by_default.nd rfl (Or.inl rfl) (VE.pure MO))
  (Zh (Dd (HP Q XD_trees Qt (hr.mono (by decide)) rfl (Zc (VM.ve (Zp C_l_ring (hr.mono (by decide)) rfl (Zc Zj (Zc (Zd (pv 0)) Zg)))) Zg) rfl rfl rfl sc_l_by_default.nd rfl rfl rfl (fun _=>(Zl (Zq (i:=2) sc_l_by_default.nd rfl (Or.inl rfl) (VE.pure (OK Q.f.fl (Zd (pv 3))))))) (by decide)) (Kw (Zl (Zq (i:=1) sc_l_by_default.nd rfl (Or.inl rfl) (Qo C_trees (hr.mono (by decide)) rfl (Zc (VM.ve (Zp C_l_ring (hr.mono (by decide)) rfl (Zc Zj (Zc (Zd (pv 0)) Zg)))) Zg))))))
  (Zh (Xr (S9 hr.units (Zd (pv 0)) Zj) (Zl (ZM (VE.pure (Uk (VM.ve (Zp C_l_whole (hr.mono (by decide)) rfl (Zc (Zd (pv 2)) Zg))) (RY (Qd hr.units (Zd (pv 2)) Zj)))))) Z9)
  (Zh (Xr (VW.vt (Pp (L7 (Zd (pv 2))) (SH (Py hr.units (Zv ZO Yz rfl B.len (by decide +kernel) (Zc (Zd (pv 1)) Zg)) Zj)))) (Zl (ZM (VE.pure WZ))) Z9)
  (Zh (Y4 PassesOwn.never rfl (Xc rfl B.range (Zc Zj (Zc Zj Zg))) (Zr (i:=4) sc_l_by_default.nd rfl (Or.inl rfl)) (Zl (Xr (HV hr.units (Zu (Zd (pv 1)) (Wk (Zd (pv 4)) Zj)) (Zu (Zd (pv 1)) (Zd (pv 4)))) (Zl (ZM (VE.pure WZ))) Z9)))
  (Zl (ZM (VE.pure (Zv (SE rfl) MS rfl B.all (by decide +kernel) (Zc (VP (["_law_tree"]:List Str) (["_law_last"]:List Str) [0] rfl (W5 (Zd (pv 1))) (by kernel_rfl) (fun _ _ _ _ _=>(Zr (i:=0) (show((["_law_tree"]:List Str)++(["_law_last"]:List Str)).Nodup by decide +kernel) rfl (Or.inl rfl) (.inr rfl))) (fun _ _ _ _ _=>Xe) (fun _ _ _ _ _=>(VM.ve (Zp C_l_is_treeL (hr.mono (by decide)) rfl (Zc (VM.ve (Zp C_l_ring (hr.mono (by decide)) rfl (Zc Zj (Zc (Zd (pv 1)) Zg)))) (Zc (Zd (pv 0)) Zg)))))) Zg))))))))))))
abbrev Qz:Stmt:=Sr 31
theorem JX:Zy (["_law_script","_law_k"]:List Str) (["_law_script","_law_k"]:List Str) (Zk Qz):=⟨rfl,rfl,rfl,by decide +kernel,rfl,by decide +kernel,by decide +kernel⟩
theorem JY(Df:Def K mg "_law_cell" Qz)(B:Tb mg):Xj P w K mg base "_law_cell" (["_law_script","_law_k"]:List Str) (YU K Zx 2) 1:=
 Yh (O:=[]) (k:=0) 2 Qk Df JX (fun _ _ _ _ _ _ us hl=>match us,hl with | [_,_],_=>rfl) rfl rfl (by decide) (fun fa cdv A outer s H E hr=>
  (Zl (ZM (VE.pure (Zu (VM.ve (Ry (Jr (Zd (pv 0)) (Kc (Zd (pv 1))) (Kc (Xm (Zd (pv 1)) Zj))) (WD (Zc Zj Zg)))) Zj)))))
abbrev UB:Stmt:=Sr 33
theorem sc_l_renamed:Zy (["_law_found","_law_cell_here","_law_many","_law_names","_law_house","_law_told","_law_one","_law_other","_law_pair"]:List Str) (["_law_found","_law_cell_here","_law_many"]:List Str) (Zk UB):=⟨rfl,rfl,rfl,by decide +kernel,rfl,by decide +kernel,by decide +kernel⟩
theorem OP(Df:Def K mg "_law_renamed" UB)(B:Tb mg):Xj P w K mg base "_law_renamed" (["_law_found","_law_cell_here","_law_many"]:List Str) (YU K W9 3) 1:=
 Yh (O:=[3,5]) (k:=0) 9 W8 Df sc_l_renamed (fun _ _ _ _ _ _ us hl=>match us,hl with | [_,_,_],_=>rfl) rfl rfl (by decide) (fun fa cdv A outer s H E hr=>
  (Zh (Zq (i:=3) sc_l_renamed.nd rfl (Or.inl rfl) (Ul W3))
  (Zh (Y4 PassesOwn.never rfl (Y1 rfl B.range (Zc (Zd (pv 2)) Zg)) (Zr (i:=4) sc_l_renamed.nd rfl (Or.inl rfl)) (Zh (Js (WX (S5 PySem.F.plainAttrs_list PySem.F.slot_list_insert PySem.F.type_list_insert Jk (pv 3) (Yv (XW (Zd (pv 1)) (Xm (Zd (pv 4)) Zj)) (Yv (Zd (pv 4)) XU)))))
  (Zl (Zq (i:=1) sc_l_renamed.nd rfl (Or.inl rfl) (VE.pure (XG (Zd (pv 1)) (Xm (Zd (pv 4)) Zj)))))))
  (Zh (Zq (i:=5) sc_l_renamed.nd rfl (Or.inl rfl) R1)
  (Zh (Kk (RL PassesOwn.never rfl (Of (pv 0)) (U8 (n:=2) rfl (YD (Zr (i:=6) sc_l_renamed.nd rfl (Or.inl rfl)) (YD (Zr (i:=7) sc_l_renamed.nd rfl (Or.inl rfl)) VB))) (Zh (Zq (i:=8) sc_l_renamed.nd rfl (Or.inl rfl) (VE.pure (YY (Zc (Zv (Sw rfl) Oj rfl B.min (by decide +kernel) (Zc (Zu (Zd (pv 3)) (Zd (pv 6))) (Zc (Zu (Zd (pv 3)) (Zd (pv 7))) Zg))) (Zc (Zv (K7 rfl) FD rfl B.max (by decide +kernel) (Zc (Zu (Zd (pv 3)) (Zd (pv 6))) (Zc (Zu (Zd (pv 3)) (Zd (pv 7))) Zg))) Zg)))))
  (Zl (Rx (Rt (S7 hr) (pv 5) (Zd (pv 8)) (Ou (S7 hr) (Zd (pv 0)) (YY (Zc (Zd (pv 6)) (Zc (Zd (pv 7)) Zg)))) rfl))))))
  (Zl (UN (pv 5))))))))
abbrev WN:Stmt:=Sr 34
theorem sc_l_read_times:Zy (["_law_rest","_law_many","_law_room","_law_most","_law_found","_law_met","_law_one","_law_other","_law_deep","_law_turn"]:List Str) (["_law_rest","_law_many","_law_room","_law_most"]:List Str) (Zk WN):=⟨rfl,rfl,rfl,by decide +kernel,rfl,by decide +kernel,by decide +kernel⟩
theorem Rr(Df:Def K mg "_law_read_times" WN)(B:Tb mg):Xj P w K mg base "_law_read_times" (["_law_rest","_law_many","_law_room","_law_most"]:List Str) (YU K YR 4) 1:=
 Yh (O:=[4,5]) (k:=0) 10 XJ Df sc_l_read_times (fun _ _ _ _ _ _ us hl=>match us,hl with | [_,_,_,_],_=>rfl) rfl rfl (by decide) (fun fa cdv A outer s H E hr=>
  (Zh (Zq (i:=4) sc_l_read_times.nd rfl (Or.inl rfl) R1)
  (Zh (Zq (i:=5) sc_l_read_times.nd rfl (Or.inl rfl) (Ul (WC (VE.pure Zj) W3)))
  (Zh (Y4 PassesOwn.never rfl (Y1 rfl B.range (Zc (Zd (pv 1)) Zg)) (Zr (i:=6) sc_l_read_times.nd rfl (Or.inl rfl)) (Zl (Y4 PassesOwn.never rfl (Xc rfl B.range (Zc (Xm (Zd (pv 6)) Zj) (Zc (Zd (pv 1)) Zg))) (Zr (i:=7) sc_l_read_times.nd rfl (Or.inl rfl)) (Zh (Zq (i:=8) sc_l_read_times.nd rfl (Or.inl rfl) (VE.pure (Zv (Sw rfl) Oj rfl B.min (by decide +kernel) (Zc (D4 (XW (Zd (pv 0)) Zj) (Xm Zj (XW (XG (Zd (pv 0)) Zj) (Zd (pv 3))))) (Zc (Zd (pv 2)) Zg)))))
  (Zh (Zq (i:=0) sc_l_read_times.nd rfl (Or.inl rfl) (VE.pure (Zu (WD (Zc (XG (Zd (pv 0)) Zj) (Zc (XG (XG (Zd (pv 0)) Zj) (Zd (pv 3))) Zg))) (XW (Zd (pv 0)) Zj))))
  (Zl (Xr (RX (Zd (pv 8)) Zj) (Zh (Rx (Rt (S7 hr) (pv 4) (YY (Zc (Zd (pv 6)) (Zc (Zd (pv 7)) Zg))) (Zd (pv 8)) rfl))
  (Zl (Zq (i:=2) sc_l_read_times.nd rfl (Or.inl rfl) (VE.pure (Wk (Zd (pv 2)) (Zd (pv 8))))))) Z9)))))))
  (Zh (Y4 PassesOwn.never rfl (Y1 rfl B.range (Zc (Zd (pv 1)) Zg)) (Zr (i:=9) sc_l_read_times.nd rfl (Or.inl rfl)) (Zl (Hk (O':=[5]) (RL PassesOwn.never rfl (Of (pv 4)) (U8 (n:=2) rfl (YD (Zr (i:=6) sc_l_read_times.nd rfl (Or.inl rfl)) (YD (Zr (i:=7) sc_l_read_times.nd rfl (Or.inl rfl)) VB))) (Zh (Xr (VW.vt (SI (EY hr.units (Zd (pv 6)) (Zd (pv 5))) (UK (ND hr.units (Zd (pv 7)) (Zd (pv 5)))))) (Zl (SK (WX (S5 PySem.F.plainAttrs_list PySem.F.slot_list_append PySem.F.type_list_append Sx (pv 5) (Yv (VE.pure (Zd (pv 7))) XU))))) Z9)
  (Zl (Xr (VW.vt (SI (EY hr.units (Zd (pv 7)) (Zd (pv 5))) (UK (ND hr.units (Zd (pv 6)) (Zd (pv 5)))))) (Zl (SK (WX (S5 PySem.F.plainAttrs_list PySem.F.slot_list_append PySem.F.type_list_append Sx (pv 5) (Yv (VE.pure (Zd (pv 6))) XU))))) Z9)))) (by decide) (by intro j;simp;try omega))))
  (Zl (Ju (LN ix_list (MK (Yv Iy (Yv (pv 4) XU))) (Xb UJ Ru rfl B.int (by decide +kernel) (Zc (Qd hr.units (Zv ZO Yz rfl B.len (by decide +kernel) (Zc (Zd (pv 5)) Zg)) (Zd (pv 1))) Zg)) (fun _ _=>rfl)))))))))
abbrev Tj:Stmt:=Sr 36
theorem sc_l_timesL:Zy (["_law_script","_law_at","_law_many","_law_first","_law_room","_law_found","_law_house","_law_cell_here","_law_deep","_law_k","_law_one","_law_other"]:List Str) (["_law_script","_law_at","_law_many"]:List Str) (Zk Tj):=⟨rfl,rfl,rfl,by decide +kernel,rfl,by decide +kernel,by decide +kernel⟩
theorem N7(Df:Def K mg "_law_times" Tj)(B:Tb mg)(C_l_cell:Xj P w K mg base "_law_cell" (["_law_script","_law_k"]:List Str) (YU K Zx 2) 1)(C_l_read_times:Xj P w K mg base "_law_read_times" (["_law_rest","_law_many","_law_room","_law_most"]:List Str) (YU K YR 4) 1)(C_l_renamed:Xj P w K mg base "_law_renamed" (["_law_found","_law_cell_here","_law_many"]:List Str) (YU K W9 3) 1):Xj P w K mg base "_law_times" (["_law_script","_law_at","_law_many"]:List Str) (YU K Xx 3) 2:=
 Yh (O:=[5]) (k:=1) 12 VV Df sc_l_timesL (fun _ _ _ _ _ _ us hl=>match us,hl with | [_,_,_],_=>rfl) rfl rfl (by decide) (fun fa cdv A outer s H E hr=>
  (Zh (Zq (i:=3) sc_l_timesL.nd rfl (Or.inl rfl) (Zp C_l_cell (hr.mono (by decide)) rfl (Zc (Zd (pv 0)) (Zc (Zd (pv 1)) Zg))))
  (Zh (Zq (i:=4) sc_l_timesL.nd rfl (Or.inl rfl) (VE.pure (Zu (WD (Zc Zj (Zc (Xm (Zd (pv 2)) Zj) Zg))) (Xb UJ Ru rfl B.int (by decide +kernel) (Zc (ET (Zd (pv 2)) Zj) Zg)))))
  (Zh (Xr (VW.vt (SI (S9 hr.units (XW (Zd (pv 3)) Zj) Zj) (UK (L7 (VM.ve (Zp C_l_read_times (hr.mono (by decide)) rfl (Zc (XG (Zd (pv 3)) Zj) (Zc (Zd (pv 2)) (Zc (Zd (pv 4)) (Zc Zj Zg)))))))))) (Zl (ZM (Zp C_l_read_times (hr.mono (by decide)) rfl (Zc (XG (Zd (pv 3)) Zj) (Zc (Zd (pv 2)) (Zc (Zd (pv 4)) (Zc Zj Zg))))))) Z9)
  (Zh (Zq (i:=5) sc_l_timesL.nd rfl (Or.inl rfl) R1)
  (Zh (Y4 PassesOwn.never rfl (Xc rfl B.range (Zc Zj (Zc (Zd (pv 2)) Zg))) (Zr (i:=6) sc_l_timesL.nd rfl (Or.inl rfl)) (Zh (Zq (i:=7) sc_l_timesL.nd rfl (Or.inl rfl) (Zp C_l_cell (hr.mono (by decide)) rfl (Zc (Zd (pv 0)) (Zc (Xm (Zd (pv 1)) (Zd (pv 6))) Zg))))
  (Zh (Zq (i:=8) sc_l_timesL.nd rfl (Or.inl rfl) (VE.pure (Zv (Sw rfl) Oj rfl B.min (by decide +kernel) (Zc (Zu (WD (Zc Zj (Zc Zj (Zc Zj (Zc Zj (Zc Zj Zg)))))) (XW (XG (Zd (pv 7)) (Zd (pv 6))) Zj)) (Zc (Wk (Zd (pv 4)) (Wk (Wk (Zd (pv 2)) Zj) (Zd (pv 6)))) Zg)))))
  (Zh (Rx (Rt (S7 hr) (pv 5) (YY (Zc (XW (Zd (pv 7)) (Zd (pv 6))) (Zc (Zd (pv 6)) Zg))) (Zd (pv 8)) rfl))
  (Zl (Zq (i:=4) sc_l_timesL.nd rfl (Or.inl rfl) (VE.pure (Wk (Zd (pv 4)) (Zd (pv 8))))))))))
  (Zh (Zq (i:=9) sc_l_timesL.nd rfl (Or.inl rfl) (VE.pure (Xm (Zd (pv 1)) (Zu (WD (Zc Zj (Zc Zj Zg))) (Xb UJ Ru rfl B.int (by decide +kernel) (Zc (ET (Zd (pv 2)) Zj) Zg))))))
  (Zh (Y4 PassesOwn.never rfl (Y1 rfl B.range (Zc (Zd (pv 2)) Zg)) (Zr (i:=10) sc_l_timesL.nd rfl (Or.inl rfl)) (Zl (Y4 PassesOwn.never rfl (Xc rfl B.range (Zc (Xm (Zd (pv 10)) Zj) (Zc (Zd (pv 2)) Zg))) (Zr (i:=11) sc_l_timesL.nd rfl (Or.inl rfl)) (Zh (Zq (i:=8) sc_l_timesL.nd rfl (Or.inl rfl) (VE.pure (Zu (WD (Zc Zj (Zc Zj (Zc Zj (Zc Zj (Zc Zj Zg)))))) (XW (VM.ve (Zp C_l_cell (hr.mono (by decide)) rfl (Zc (Zd (pv 0)) (Zc (Zd (pv 9)) Zg)))) Zj))))
  (Zh (Zq (i:=9) sc_l_timesL.nd rfl (Or.inl rfl) (VE.pure (Xm (Zd (pv 9)) Zj)))
  (Zl (Xr (VW.vt (SI (Jt (S7 hr) (YY (Zc (Zd (pv 10)) (Zc (Zd (pv 11)) Zg))) (Zd (pv 5))) (UK (Hi EK Bl (Jn _) (Jn _) Zj (Zd (pv 8)) (Zd (pv 4)))))) (Zh (Rx (Rt (S7 hr) (pv 5) (YY (Zc (Zd (pv 10)) (Zc (Zd (pv 11)) Zg))) (Zd (pv 8)) rfl))
  (Zl (Zq (i:=4) sc_l_timesL.nd rfl (Or.inl rfl) (VE.pure (Wk (Zd (pv 4)) (Zd (pv 8))))))) Z9)))))))
  (Zl (ZM (Zp C_l_renamed (hr.mono (by decide)) rfl (Zc (Zd (pv 5)) (Zc (XG (VM.ve (Zp C_l_cell (hr.mono (by decide)) rfl (Zc (Zd (pv 0)) (Zc (Zd (pv 1)) Zg)))) Zj) (Zc (Zd (pv 2)) Zg))))))))))))))
abbrev QA:Stmt:=Sr 38
theorem sc_l_kind:Zy (["_law_e","_law_found"]:List Str) (["_law_e"]:List Str) (Zk QA):=⟨rfl,rfl,rfl,by decide +kernel,rfl,by decide +kernel,by decide +kernel⟩
theorem JZ(Df:Def K mg "_law_kind" QA)(B:Tb mg){Ca Cb:Addr}(Q:VX.Q3 "TooMany" P w K mg base Ca Cb):Xj P w K mg base "_law_kind" (["_law_e"]:List Str) (YU K Vv 1) 1:=
 Yh (O:=[]) (k:=0) 2 Sf Df sc_l_kind (fun _ _ _ _ _ _ us hl=>match us,hl with | [_],_=>rfl) rfl rfl (by decide) (fun fa cdv A outer s H E hr=>
  (Zh (Zq (i:=1) sc_l_kind.nd rfl (Or.inl rfl) (Ul (WC (VE.pure (VM.ve (XM Q rfl B.isinstance (Zd (pv 0)) (by decide) rfl))) (WC (VE.pure (VM.ve (XM Q rfl B.isinstance (Zd (pv 0)) (by decide) rfl))) (WC (VE.pure (VM.ve (XM Q rfl B.isinstance (Zd (pv 0)) (by decide) rfl))) (WC (VE.pure (VM.ve (XM Q rfl B.isinstance (Zd (pv 0)) (by decide) rfl))) W3))))))
  (Zh (Zq (i:=1) sc_l_kind.nd rfl (Or.inl rfl) (Ry (Zd (pv 1)) (WD (Zc (VM.ve (XM Q rfl B.isinstance (Zd (pv 0)) (by decide) rfl)) (Zc (VM.ve (XM Q rfl B.isinstance (Zd (pv 0)) (by decide) rfl)) (Zc (VM.ve (XM Q rfl B.isinstance (Zd (pv 0)) (by decide) rfl)) Zg))))))
  (Zh (Zq (i:=1) sc_l_kind.nd rfl (Or.inl rfl) (Ry (Zd (pv 1)) (WD (Zc (VM.ve (XM Q rfl B.isinstance (Zd (pv 0)) (by decide) rfl)) (Zc (VM.ve (XM Q rfl B.isinstance (Zd (pv 0)) (by decide) rfl)) (Zc (VM.ve (XM Q rfl B.isinstance (Zd (pv 0)) (by decide) rfl)) (Zc (VM.ve (XM Q rfl B.isinstance (Zd (pv 0)) (by decide) rfl)) Zg)))))))
  (Zh (Xr (VW.vt (Pp (Tc (Uh (VM.ve (Ea Q rfl B.isinstance (Zd (pv 0)) rfl B.ValueError)))) (SH (Py hr.units (JN (Zd (pv 1)) WZ) Zj)))) (Zl (ZM (VE.pure (MR Zj)))) Z9)
  (Zl (ZM (VE.pure (JM (Zd (pv 1)) WZ)))))))))
abbrev V2:Stmt:=Sr 41
theorem sc_l_too_many:Zy (["_law_web","_law_most","_law_caught","_law_e"]:List Str) (["_law_web","_law_most"]:List Str) (Zk V2):=⟨rfl,rfl,rfl,by decide +kernel,rfl,by decide +kernel,by decide +kernel⟩
theorem Q8(Df:Def K mg "_law_too_many" V2)(B:Tb mg)(CF_trees:Xj P w K mg base "trees" (["web","most"]:List Str) (YU K ZX 2) 6)(C_l_whole:Xj P w K mg base "_law_whole" (["_law_thing"]:List Str) (YU K Z7 1) 1)(C_l_kind:Xj P w K mg base "_law_kind" (["_law_e"]:List Str) (YU K Vv 1) 1){Ca Cb:Addr}(Q:VX.Q3 "TooMany" P w K mg base Ca Cb)(X_trees:VX.CalX P w K mg base "trees" (["web","most"]:List Str) (VX.spY K Ym 2) 6):Xj P w K mg base "_law_too_many" (["_law_web","_law_most"]:List Str) (YU K Z1 2) 7:=
 Yh (O:=[]) (k:=6) 4 Wx Df sc_l_too_many (fun _ _ _ _ _ _ us hl=>match us,hl with | [_,_],_=>rfl) rfl rfl (by decide) (fun fa cdv A outer s H E hr=>
  (Zh (Zq (i:=2) sc_l_too_many.nd rfl (Or.inl rfl) (VE.pure MO))
  (Zh (Dd (HN Q X_trees Qt (hr.mono (by decide)) rfl (Zc (Zd (pv 0)) (Zc (Zd (pv 1)) Zg)) rfl rfl rfl sc_l_too_many.nd rfl rfl rfl (fun _=>(Zl (Zq (i:=2) sc_l_too_many.nd rfl (Or.inl rfl) (VE.pure (Zd (pv 3)))))) (by decide)) (Kw (Zl (B0 (VM.ve (Zp CF_trees (hr.mono (by decide)) rfl (Zc (Zd (pv 0)) (Zc (Zd (pv 1)) Zg))))))))
  (Zl (ZM (VE.pure (Uk (FC (Zd (pv 2))) (Uk (Qd hr.units (VM.ve (Zp C_l_kind (hr.mono (by decide)) rfl (Zc (Zd (pv 2)) Zg))) Zj) (Uk (VM.ve (Zp C_l_whole (hr.mono (by decide)) rfl (Zc (OK Q.f.fl (Zd (pv 2))) Zg))) (RY (Qd hr.units (OK Q.f.fl (Zd (pv 2))) (Zd (pv 1)))))))))))))
abbrev HY:Stmt:=Sr 44
theorem sc_law:Zy (["_law_script","_law_many","_law_web","_law_found","_law_k","_law_kept","_law_less"]:List Str) (["_law_script"]:List Str) (Zk HY):=⟨rfl,rfl,rfl,by decide +kernel,rfl,by decide +kernel,by decide +kernel⟩
theorem Cu{ff:Addr}{fd:FuncData}(Fn:Fun K "law" "law" HY ff fd)(B:Tb mg)(C_l_by_default:Xj P w K mg base "_law_by_default" (["_law_last"]:List Str) (YU K ZC 1) 7)(C_l_cell:Xj P w K mg base "_law_cell" (["_law_script","_law_k"]:List Str) (YU K Zx 2) 1)(C_l_houses:Xj P w K mg base "_law_houses" (["_law_cell_here"]:List Str) (YU K X2 1) 1)(C_l_square:Xj P w K mg base "_law_square" (["_law_times_here","_law_many"]:List Str) (YU K XZ 2) 1)(C_l_timesL:Xj P w K mg base "_law_times" (["_law_script","_law_at","_law_many"]:List Str) (YU K Xx 3) 2)(C_trees:Hz P w K mg base "trees" (["web","most"]:List Str) (YU K ZX 2) 6 300)(C_l_is_treeL:Xj P w K mg base "_law_is_tree" (["_law_web","_law_tree"]:List Str) (YU K ZV 2) 3)(CF_trees:Xj P w K mg base "trees" (["web","most"]:List Str) (YU K ZX 2) 6)(C_tree_count:Xj P w K mg base "tree_count" (["web"]:List Str) (YU K Zs 1) 5)(C_l_too_many:Xj P w K mg base "_law_too_many" (["_law_web","_law_most"]:List Str) (YU K Z1 2) 7):Ue P w K mg base O0 8 ff fd (["_law_script"]:List Str) (YU K D_law 1):=
 Ci (O:=[3]) (k:=7) 7 Kx Fn sc_law rfl rfl (by decide) (fun fa cdv A outer s H E hr=>
  (Zh (Xr (VW.vt (SI (S9 hr.units (XW (VM.ve (Zp C_l_cell (hr.mono (by decide)) rfl (Zc (Zd (pv 0)) (Zc Zj Zg)))) Zj) Zj) (UK (Tc (Uh (VM.ve (Zp C_l_by_default (hr.mono (by decide)) rfl (Zc Zj Zg)))))))) (Zl (ZM (VE.pure WZ))) Z9)
  (Zh (Xr (Tc (Uh (VM.ve (Zp C_l_by_default (hr.mono (by decide)) rfl (Zc Zj Zg))))) (Zl (ZM (VE.pure WZ))) Z9)
  (Zh (Zq (i:=1) sc_law.nd rfl (Or.inl rfl) (Zp C_l_houses (hr.mono (by decide)) rfl (Zc (VM.ve (Zp C_l_cell (hr.mono (by decide)) rfl (Zc (Zd (pv 0)) (Zc Zj Zg)))) Zg)))
  (Zh (Zq (i:=2) sc_law.nd rfl (Or.inr rfl) (Zp C_l_square (hr.mono (by decide)) rfl (Zc (VM.ve (Zp C_l_timesL (hr.mono (by decide)) rfl (Zc (Zd (pv 0)) (Zc Zj (Zc (Zd (pv 1)) Zg))))) (Zc (Zd (pv 1)) Zg))))
  (Zh (Zq (i:=3) sc_law.nd rfl (Or.inl rfl) (Qo C_trees (hr.mono (by decide)) rfl (Zc (Zd (pv 2)) Zg)))
  (Zh (Xr (VW.vt (Pp (Tc (Uh (Zv WY Rv rfl B.isinstance (by decide +kernel) (Zc (Zd (pv 3)) (Zc (L8 rfl B.list (by decide +kernel)) Zg))))) (SH (Tc (Uh (Zv (SE rfl) MS rfl B.all (by decide +kernel) (Zc (VP (["_law_tree"]:List Str) (["_law_web"]:List Str) [2] rfl (W5 (Zd (pv 3))) (by kernel_rfl) (fun _ _ _ _ _=>(Zr (i:=0) (show((["_law_tree"]:List Str)++(["_law_web"]:List Str)).Nodup by decide +kernel) rfl (Or.inl rfl) (.inr rfl))) (fun _ _ _ _ _=>Xe) (fun _ _ _ _ _=>(VM.ve (Zp C_l_is_treeL (hr.mono (by decide)) rfl (Zc (Zd (pv 1)) (Zc (Zd (pv 0)) Zg)))))) Zg))))))) (Zl (ZM (VE.pure WZ))) Z9)
  (Zh (FX PassesOwn.never rfl (M4 rfl B.range (Zc Zj (Zc (Zv ZO Yz rfl B.len (by decide +kernel) (Zc (Zd (pv 3)) Zg)) Zg))) (Zr (i:=4) sc_law.nd rfl (Or.inl rfl)) (Zl (Xr (HV hr.units (Zu (Zd (pv 3)) (Wk (Zd (pv 4)) Zj)) (Zu (Zd (pv 3)) (Zd (pv 4)))) (Zl (ZM (VE.pure WZ))) Z9)))
  (Zh (Zq (i:=5) sc_law.nd rfl (Or.inl rfl) (SJ VF R4 rfl B.list (by decide +kernel) (Zc (Zd (pv 3)) Zg)))
  (Zh (Xr (VW.vt (Pp (Py hr.units (Zv ZO Yz rfl B.len (by decide +kernel) (Zc (Zd (pv 5)) Zg)) (VM.ve (Zp C_tree_count (hr.mono (by decide)) rfl (Zc (Zd (pv 2)) Zg)))) (SH (Py hr.units (VM.ve (Zp CF_trees (hr.mono (by decide)) rfl (Zc (Zd (pv 2)) (Zc (Zv ZO Yz rfl B.len (by decide +kernel) (Zc (Zd (pv 5)) Zg)) Zg)))) (Zd (pv 5)))))) (Zl (ZM (VE.pure WZ))) Z9)
  (Zh (SK (WX (S5 PySem.F.plainAttrs_list PySem.F.slot_list_append PySem.F.type_list_append Sx (pv 3) (Yv (VE.pure (YY Zg)) XU))))
  (Zh (Zq (i:=6) sc_law.nd rfl (Or.inl rfl) (VE.pure (XW (VM.ve (Zp C_l_cell (hr.mono (by decide)) rfl (Zc (Zd (pv 0)) (Zc Zj Zg)))) (Xm (Zv ZO Yz rfl B.len (by decide +kernel) (Zc (Zd (pv 5)) Zg)) Zj))))
  (Zh (Xr (VW.vt (SI (RX (Zd (pv 6)) Zj) (UK (Tc (Uh (VM.ve (Zp C_l_too_many (hr.mono (by decide)) rfl (Zc (Zd (pv 2)) (Zc (Wk (Zv ZO Yz rfl B.len (by decide +kernel) (Zc (Zd (pv 5)) Zg)) (Zd (pv 6))) Zg))))))))) (Zl (ZM (VE.pure WZ))) Z9)
  (Zl (ZM (VE.pure (Uk (VM.ve (Zp C_l_too_many (hr.mono (by decide)) rfl (Zc (Zd (pv 2)) (Zc (Wk (Zv ZO Yz rfl B.len (by decide +kernel) (Zc (Zd (pv 5)) Zg)) Zj) Zg)))) (RY (Qd hr.units (VM.ve (Qo C_trees (hr.mono (by decide)) rfl (Zc (Zd (pv 2)) Zg))) (Zd (pv 5)))))))))))))))))))))
end
end PW
namespace PW
open L2 VL
theorem HZ(l:List PV)(lo hi:Option Int):(Ro l lo hi).length<=l.length:=by
 unfold Ro;rw[List.length_take,List.length_drop];omega
theorem J0(ns:List Int)(k:Nat):Ub (Ro (iL ns) (some (k:Int)) (some ((k:Int)+1))++[PV.int 0]) 0=some (.int (YE ns k)):=by
 have e1:((k:Int)+1)=((k+1:Nat):Int):=by omega
 rw[e1]
 refine VD (j:=0) ?_
 unfold Ro;rw[HT.sIx_nat,HT.sIx_nat,List.length_map]
 by_cases h:k<ns.length
 ·rw[Nat.min_eq_left (by omega),Nat.min_eq_left (by omega),show k+1-k=1 by omega]
  rw[List.drop_eq_getElem_cons (by rw[List.length_map];exact h)]
  simp[YE,List.getD_eq_getElem?_getD,List.getElem?_eq_getElem h]
 ·rw[Nat.min_eq_right (by omega),List.drop_eq_nil_of_le (by rw[List.length_map];omega)]
  simp[YE,List.getD_eq_getElem?_getD,List.getElem?_eq_none (Nat.not_lt.mp h)]
theorem UX{ns:List Int}(h:ns.length<=63)(k:Nat):Zx [.cst (iL ns),.int (k:Int)]=some (.int (YE ns k)):=by
 have hl:=HZ (iL ns) (some (k:Int)) (some ((k:Int)+1))
 rw[List.length_map] at hl
 have hp:ZE (Ro (iL ns) (some (k:Int)) (some ((k:Int)+1)))=true:=Jq _ _ (Xy ns)
 have c:(Ro (iL ns) (some (k:Int)) (some ((k:Int)+1))).length+1<=10000:=by omega
 simp[Zx,Qk,Xl,YF,BM,Cg,Ur,hp,c,J0]
theorem Ln{W:List (List Int)}{h:Nat}(hh:h<W.length):Wz [wP W,.int (h:Int)]=some (.int (ZD W h).sum):=by
 simp[Wz,SN,Xl,YF,Oy hh]
theorem QB(i:Int):Z7 [.int i]=some (.bl true):=by
 simp[Z7,SO,Xl,YF]
theorem H9{l:List Int}(hl:l.length<=1000):XA [pP l,.int (l.length:Int)]=some (.bl true):=by
 have hc:ZG 1 [] (TQ (Za 0)) (.one 0) ZW (Ze Z7 [Za 0]) [some (pP l),some (.int (l.length:Int))]=some (.lst (bL (l.map fun _=>true))):=by
  rw[YB l PV.int (fun _=>.bl true) (Hs (by simp)) (by omega) (fun i hi=>⟨_,rfl,rfl,by simp[Yk,QB]⟩)]
  simp
 have ha:TM [.lst (bL (l.map fun _=>true))]=some (.bl true):=by
  rw[Ho]
  simp
 simp[XA,SQ,Xl,YF,hc,ha,-List.map_map]
def X4(W:List (List Int))(a b:Nat):List (List Int):=(List.range (Z2 W a b).toNat).map fun(t:Nat)=>[(a:Int),(b:Int),(t:Int)]
def UC(W:List (List Int))(a:Nat):List (List Int):=(List.range (W.length-(a+1))).flatMap fun j=>X4 W a (a+1+j)
def WO(W:List (List Int)):List (List Int):=(List.range W.length).flatMap (UC W)
theorem WA{α:Type}(f:Nat->List α)(i:Nat):(List.range (i+1)).flatMap f=(List.range i).flatMap f++f i:=by rw[List.range_succ,List.flatMap_append];simp
theorem Lo{W:List (List Int)}(ok:WebOk W){a b:Nat}(ha:a<W.length)(hb:b<W.length):(X4 W a b).length<=9:=by
 have:=ok.hi a b ha hb
 unfold X4;simp;omega
theorem J1{W:List (List Int)}(ok:WebOk W){a b:Nat}(ha:a<W.length)(hb:b<W.length)(t:Option PV):ZG 1 [2,4] (Z5 [Zi ZK (Za 3) (Za 4)]) (.one 0) ZW (eP (Yq [Za 1,Za 2,Za 0])) [some (wP W),t,some (.int (a:Int)),some (pP (ZD W a)),some (.int (b:Int))]=some (.lst ((X4 W a b).map pP)):=by
 have hr:=ok.sq a ha;have b1:=ok.lo a b ha hb;have b2:=ok.hi a b ha hb
 rw[YB (List.range (Z2 W a b).toNat) (fun(i:Nat)=>.int (i:Int)) (fun(t:Nat)=>pP [(a:Int),(b:Int),(t:Int)]) ?_ (by simp;omega) (fun i hi=>⟨_,rfl,rfl,by simp[Yk]⟩)]
 ·simp[X4]
 ·exact Y2 (by simp[VQ (show b<(ZD W a).length by omega)];show Z2 W a b=max (Z2 W a b) 0;omega) (by omega)
theorem Lp{W:List (List Int)}(ok:WebOk W){a:Nat}(ha:a<W.length)(acc:List (List Int))(hacc:acc.length<=1000)(b0:Option PV) :
  ∃b',Xs (.one 4) (Ws 1 (ZG 1 [2,4] (Z5 [Zi ZK (Za 3) (Za 4)]) (.one 0) ZW (eP (Yq [Za 1,Za 2,Za 0])))) (Xn ((a:Int)+1) (W.length-(a+1))) [some (wP W),some (.lst (acc.map pP)),some (.int (a:Int)),some (pP (ZD W a)),b0]
   = some (.nx [some (wP W),some (.lst ((acc++UC W a).map pP)),some (.int (a:Int)),some (pP (ZD W a)),b'])/\(UC W a).length<=63:=by
 have hf:=ok.few
 obtain⟨s',h1,b',h2,h3⟩:=ZU (T:=.one 4) (fb:=Ws 1 (ZG 1 [2,4] (Z5 [Zi ZK (Za 3) (Za 4)]) (.one 0) ZW (eP (Yq [Za 1,Za 2,Za 0])))) (ls:=Xn ((a:Int)+1) (W.length-(a+1))) (s:=[some (wP W),some (.lst (acc.map pP)),some (.int (a:Int)),some (pP (ZD W a)),b0])
  (fun j st=>∃b',st=[some (wP W),some (.lst ((acc++(List.range j).flatMap fun j=>X4 W a (a+1+j)).map pP)),some (.int (a:Int)),some (pP (ZD W a)),b']/\((List.range j).flatMap fun j=>X4 W a (a+1+j)).length<=9*j)
  ⟨b0,by simp,by simp⟩ (fun j l st hl hJ=>by
   obtain⟨hj,rfl⟩:=WL hl
   obtain⟨b',rfl,hlen⟩:=hJ
   have hb:a+1+j<W.length:=by omega
   have e1:(a:Int)+1+(j:Int)=((a+1+j:Nat):Int):=by omega
   rw[e1]
   have hc:=J1 ok ha hb (some (.lst ((acc++(List.range j).flatMap fun j=>X4 W a (a+1+j)).map pP)))
   have hl2:=Lo ok ha hb
   have hg:(acc.length+((List.range j).flatMap fun j=>X4 W a (a+1+j)).length)+(X4 W a (a+1+j)).length<=10000:=by omega
   refine⟨_,_,rfl,?_,some (.int ((a+1+j:Nat):Int)),rfl,?_⟩
   ·refine(Qg hc rfl (by rw[List.length_map,List.length_map,List.length_append];exact hg)).trans ?_
    simp[WA]
   ·rw[WA,List.length_append];omega)
 rw[Vq] at h2 h3
 refine⟨b',?_,?_⟩
 ·rw[h1,h2];rfl
 ·have:UC W a=(List.range (W.length-(a+1))).flatMap fun j=>X4 W a (a+1+j):=rfl
  rw[this];omega
theorem QC{W:List (List Int)}(ok:WebOk W):XY [wP W]=some (.lst ((WO W).map pP))/\(WO W).length<=441:=by
 have hf:=ok.few
 have enumW:Vo (W.map pP)=(List.range W.length).map fun(i:Nat)=>.tup [.int (i:Int),pP (ZD W i)]:=by
  rw[Ra,List.length_map]
  apply List.map_congr_left
  intro i hi;rw[Hr W i (List.mem_range.mp hi)]
 obtain⟨s',h1,x,y,z,h2,h3⟩:=ZU (T:=.many [2,3]) (fb:=Yp [1] (ZY [Zi Yo (Za 2) (eC (.int 1)),Ze ZF [Za 0]]) (.one 4) (Ws 1 (ZG 1 [2,4] (Z5 [Zi ZK (Za 3) (Za 4)]) (.one 0) ZW (eP (Yq [Za 1,Za 2,Za 0]))))) (ls:=Vo (W.map pP)) (s:=[some (wP W),some (.lst []),none,none,none])
  (fun i st=>∃x y z,st=[some (wP W),some (.lst (((List.range i).flatMap (UC W)).map pP)),x,y,z]/\((List.range i).flatMap (UC W)).length<=63*i)
  ⟨none,none,none,by simp,by simp⟩ (fun i l st hl hJ=>by
   obtain⟨x,y,z,rfl,hlen⟩:=hJ
   have hi:i<W.length:=by
    have:=(List.getElem?_eq_some_iff.mp hl).1
    rw[UM,List.length_map] at this;exact this
   rw[enumW,List.getElem?_map,List.getElem?_range hi] at hl;cases hl
   obtain⟨b',e1,e2⟩:=Lp ok hi ((List.range i).flatMap (UC W)) (by omega) z
   refine⟨_,_,rfl,?_,some (.int (i:Int)),some (pP (ZD W i)),b',rfl,?_⟩
   ·have hr:ZY [Zi Yo (Za 2) (eC (.int 1)),Ze ZF [Za 0]] (ZJ [1] [some (wP W),some (.lst (((List.range i).flatMap (UC W)).map pP)),some (.int (i:Int)),some (pP (ZD W i)),z])=some (Xn ((i:Int)+1) (W.length-(i+1))):=by
     rw[Xf (i:=(i:Int)+1) (j:=(W.length:Int)) (by simp[ZJ]) (by simp[ZJ]) ⟨by omega,by omega⟩ ⟨by omega,by omega⟩]
     congr 2;omega
    show Yp _ _ _ _ [some (wP W),_,some (.int (i:Int)),some (pP (ZD W i)),z]=_
    rw[Yc,hr];simp only[Option.bind_some];rw[e1,WA]
   ·rw[WA,List.length_append];omega)
 rw[UM,List.length_map] at h2 h3
 refine⟨?_,by have:WO W=(List.range W.length).flatMap (UC W):=rfl;rw[this];omega⟩
 have hs:Xl 5 UT [wP W]=some (.lst ((WO W).map pP)):=by
  unfold UT;simp only[Xl,YF,List.map_cons,List.map_nil,List.length_cons,List.length_nil,Yt,Zt,Hm,FK,Option.map_some,Option.bind_some];rw[Yc];simp only[Jy]
  have:(ZJ [1] (([some (wP W)]++List.replicate (5-(0+1)) none:ZP).set 1 (some (.lst []))))=[some (wP W),none,none,none,none]:=rfl
  rw[this];simp only[WI,List.getElem?_cons_zero,Option.join_some,Option.bind_some,Cp,Option.map_some]
  show((Xs _ _ (Vo (W.map pP)) [some (wP W),some (.lst []),none,none,none]).bind _).bind Xw=_
  rw[h1,h2];rfl
 exact hs
def tk(e:Y6):List YO:=[.inl (e.1:Int),.inl (e.2.1:Int)]
def dP(ts:List Y6):PV:=.dT (ts.map tk) (ts.map fun e=>.int e.2.2)
theorem J2(ts:List Y6):ZE (ts.map fun e=>PV.int e.2.2)=true:=US fun _ _=>rfl
theorem N8(a b:Int):Qb (.tup [.int a,.int b])=some [.inl a,.inl b]:=rfl
theorem Lq{e:Y6}{a b:Nat}(h:tk e=[.inl (a:Int),.inl (b:Int)]):e.1=a/\e.2.1=b:=Oh h
theorem N9(ts:List Y6):(ts.map tk).zip (ts.map fun e=>PV.int e.2.2)=ts.map fun e=>(tk e,PV.int e.2.2):=by
 induction ts with
 | nil=>rfl
 | cons e r ih=>rw[List.map_cons,List.map_cons,List.zip_cons_cons,ih];rfl
theorem Ec{n:Nat}{ts:List Y6}(ok:DictOk n ts){a b:Nat}{t:Int}(h:(a,b,t)∈ts):WS (ts.map tk) (ts.map fun e=>PV.int e.2.2) [.inl (a:Int),.inl (b:Int)]=some (.int t):=by
 unfold WS;rw[N9];have nd:=ok.nd
 clear ok
 induction ts with
 | nil=>simp at h
 | cons e r ih=>
  rw[List.map_cons,List.find?_cons];rw[List.map_cons,List.nodup_cons] at nd
  rcases List.mem_cons.mp h with q | q
  ·subst q
   have:decide (tk (a,b,t)=[Sum.inl (a:Int),Sum.inl (b:Int)])=true:=decide_eq_true rfl
   simp only[this,Option.map_some]
  ·have:decide (tk e=[Sum.inl (a:Int),Sum.inl (b:Int)])=false:=decide_eq_false fun z=>by
    obtain⟨h1,h2⟩:=Lq z
    exact nd.1 (List.mem_map.mpr ⟨_,q,by simp[h1,h2]⟩)
   simp only[this]
   exact ih q nd.2
theorem Ma{n:Nat}{ts:List Y6}(ok:DictOk n ts){a b:Nat}{t:Int}(h:(a,b,t)∈ts):WH (dP ts) (.tup [.int (a:Int),.int (b:Int)])=some (.int t):=by
 show(Qb (.tup [.int (a:Int),.int (b:Int)])).bind (fun k=>WS (ts.map tk) (ts.map fun e=>PV.int e.2.2) k)=_
 rw[N8];exact Ec ok h
theorem key_mem{ts:List Y6}{a b:Nat}:[Sum.inl (a:Int),Sum.inl (b:Int)]∈ts.map tk↔∃t,(a,b,t)∈ts:=by
 rw[List.mem_map];constructor
 ·rintro⟨e,he,z⟩
  obtain⟨h1,h2⟩:=Lq z
  exact⟨e.2.2,by rw[<-h1,<-h2];exact he⟩
 ·rintro⟨t,ht⟩;exact⟨_,ht,rfl⟩
def Lr(ts:List Y6)(a b:Nat):Prop:=∃t,(a,b,t)∈ts
def Ext(ts ts':List Y6):Prop:=∀c d,Lr ts c d->Lr ts' c d
theorem Ext.refl(ts:List Y6):Ext ts ts:=fun _ _ h=>h
theorem Ext.trans{a b c:List Y6}(h:Ext a b)(g:Ext b c):Ext a c:=fun x y z=>g x y (h x y z)
def YT(ts:List Y6):Int:=(ts.map fun e=>e.2.2).sum
theorem S1(e:Y6)(r:List Y6):YT (e::r)=e.2.2+YT r:=by unfold YT;rw[List.map_cons,List.sum_cons]
theorem Mc(l:List Y6)(a b:Nat)(t:Int):YT (l++[(a,b,t)])=YT l+t:=by
 unfold YT;rw[List.map_append,List.sum_append]
 simp
theorem Ky(a b:Nat){t:Int}(h0:0<=t):∀ts:List Y6,(ts.map fun e=>(e.1,e.2.1)).Nodup->(∀e∈ts,1<=e.2.2)->YT (ts.map fun e=>if(e.1,e.2.1)=(a,b) then(e.1,e.2.1,t) else e)<=YT ts+t
 | [],_,_=>by show(0:Int)<=0+t;omega
 | e::r,nd,h=>by
  rw[List.map_cons,List.nodup_cons] at nd
  have h1:=h e (by simp)
  rw[List.map_cons,S1,S1]
  by_cases q:(e.1,e.2.1)=(a,b)
  ·rw[if_pos q]
   have:(r.map fun e=>if(e.1,e.2.1)=(a,b) then((e.1,e.2.1,t):Y6) else e)=r:=by
    conv=>rhs;rw[<-List.map_id r]
    refine List.map_congr_left fun x hx=>?_
    rw[if_neg (fun z=>nd.1 (List.mem_map.mpr ⟨x,hx,z.trans q.symm⟩))];rfl
   rw[this]
   show t+YT r<=_
   omega
  ·rw[if_neg q]
   have:=Ky a b h0 r nd.2 fun x hx=>h x (by simp[hx])
   omega
theorem Sh{n:Nat}{ts:List Y6}{a b:Nat}{t:Int}(ok:DictOk n ts)(hab:a<b)(hb:b<n)(h1:1<=t)(h9:t<=9)(hl:ts.length<=10000) :
  ∃ts',FI (dP ts) (.tup [.int (a:Int),.int (b:Int)]) (.int t)=some (dP ts')/\DictOk n ts'/\ts'.length<=ts.length+1/\Lr ts' a b/\Ext ts ts'/\YT ts'<=YT ts+t:=by
 have c:(ZE (ts.map fun e=>PV.int e.2.2)&&ZT (.int t)&&decide ((ts.map tk).length<=10000))=true:=by
  rw[J2,List.length_map,decide_eq_true hl];rfl
 have e0:FI (dP ts) (.tup [.int (a:Int),.int (b:Int)]) (.int t)=some (.dT (Up (ts.map tk) [.inl (a:Int),.inl (b:Int)]) (Uq (ts.map tk) (ts.map fun e=>PV.int e.2.2) [.inl (a:Int),.inl (b:Int)] (.int t))):=by
  show(gd _).bind _=_
  rw[T5 c,N8];rfl
 rw[e0]
 obtain⟨ts',p1,p2,p3⟩:=D3 ok hab hb h1 h9
 by_cases hm:∃t',(a,b,t')∈ts
 ·refine⟨ts.map fun e=>if(e.1,e.2.1)=(a,b) then(e.1,e.2.1,t) else e,?_,⟨?_,?_⟩,by simp,?_,?_,Ky a b (by omega) ts ok.nd fun e he=>(ok.ok e he).2.2.1⟩
  ·unfold Up Uq dP
   rw[if_pos (key_mem.mpr hm),if_pos (key_mem.mpr hm),N9,List.map_map,List.map_map,List.map_map]
   congr 2
   ·apply List.map_congr_left
    intro e _
    show tk e=tk (if(e.1,e.2.1)=(a,b) then(e.1,e.2.1,t) else e)
    split<;>rfl
   ·apply List.map_congr_left
    intro e _
    show(if tk e=[Sum.inl (a:Int),Sum.inl (b:Int)] then PV.int t else PV.int e.2.2)=PV.int (if(e.1,e.2.1)=(a,b) then((e.1,e.2.1,t):Y6) else e).2.2
    by_cases q:(e.1,e.2.1)=(a,b)
    ·rw[if_pos q,if_pos (by have:=Prod.mk.inj q;show [Sum.inl (e.1:Int),Sum.inl (e.2.1:Int)]=_;rw[this.1,this.2])]
    ·rw[if_neg q,if_neg (fun z=>q (by obtain⟨h1,h2⟩:=Lq z;rw[h1,h2]))]
  ·intro e he
   obtain⟨e',he',rfl⟩:=List.mem_map.mp he
   have:=ok.ok e' he'
   split
   ·exact⟨this.1,this.2.1,h1,h9⟩
   ·exact this
  ·rw[List.map_map]
   have e:((fun e:Y6=>(e.1,e.2.1)) ∘ fun e:Y6=>if(e.1,e.2.1)=(a,b) then(e.1,e.2.1,t) else e)=fun e:Y6=>(e.1,e.2.1):=by
    funext e
    show((if(e.1,e.2.1)=(a,b) then((e.1,e.2.1,t):Y6) else e).1,(if(e.1,e.2.1)=(a,b) then((e.1,e.2.1,t):Y6) else e).2.1)=_
    split<;>rfl
   rw[e];exact ok.nd
  ·obtain⟨t',ht'⟩:=hm
   exact⟨t,List.mem_map.mpr ⟨(a,b,t'),ht',if_pos rfl⟩⟩
  ·rintro c d ⟨u,hu⟩
   by_cases q:(c,d)=(a,b)
   ·exact⟨t,List.mem_map.mpr ⟨(c,d,u),hu,if_pos q⟩⟩
   ·exact⟨u,List.mem_map.mpr ⟨(c,d,u),hu,if_neg q⟩⟩
 ·have hn:∀t',(a,b,t')∉ts:=fun t' h=>hm ⟨t',h⟩
  refine⟨ts++[(a,b,t)],?_,⟨?_,?_⟩,by simp,⟨t,by simp⟩,fun c d ⟨u,hu⟩=>⟨u,List.mem_append_left _ hu⟩,by rw[Mc];exact Int.le_refl _⟩
  ·unfold Up Uq dP
   rw[if_neg (fun z=>hm (key_mem.mp z)),if_neg (fun z=>hm (key_mem.mp z)),List.map_append,List.map_append];rfl
  ·intro e he
   rcases List.mem_append.mp he with q | q
   ·exact ok.ok e q
   ·rw[List.mem_singleton.mp q];exact⟨hab,hb,h1,h9⟩
  ·rw[List.map_append]
   refine Ob ok.nd ?_
   rw[List.mem_map]
   rintro⟨e,he,q⟩
   have:=Prod.mk.inj q
   obtain⟨a',b',t'⟩:=e
   simp only at this
   rw[this.1,this.2] at he
   exact hn t' he
theorem Si{i:Nat}{fk fv:XE}{s:ZP}{d k v d':PV}(hv:fv s=some v)(hk:fk s=some k)(hd:(s[i]?).join=some d)(hp:FI d k v=some d'):VL.sDPut i fk fv s=some (.nx (s.set i (some d'))):=by
 unfold VL.sDPut;rw[hv,hk];simp only[Option.bind_some,hd,hp,Option.map_some]
theorem OQ(ts:List Y6):Pz (dP ts)=some (ts.map fun e=>.tup [.int (e.1:Int),.int (e.2.1:Int)]):=by
 show some ((ts.map tk).map FJ)=_
 rw[List.map_map];rfl
def Cl(ts:List Y6)(P:Nat->Prop):Prop:=∀a b,Lr ts a b->(P a↔P b)
def Hang(n:Nat)(ts:List Y6):Prop:=∀P:Nat->Prop,Cl ts P->∀i j,i<n->j<n->(P i↔P j)
def Tn(W:List (List Int)):Prop:=∀P:Nat->Prop,(∀a b,a<W.length->b<W.length->0<Z2 W a b->(P a↔P b))->∀i j,i<W.length->j<W.length->(P i↔P j)
theorem QD{n:Nat}{M:List (List Int)}{e:Y6}(ok:MatOk n M)(h:e.1<e.2.1/\e.2.1<n/\1<=e.2.2/\e.2.2<=9)(i j:Nat):Z2 (Z6 M e) i j=if e.2.1=i/\e.1=j then e.2.2 else if e.1=i/\e.2.1=j then e.2.2 else Z2 M i j:=by
 obtain⟨a,b,t⟩:=e
 simp only at h ⊢
 obtain⟨l1,r1⟩:=VH (t:=t) (b:=b) ok.len ok.row (show a<n by omega)
 show Z2 (Wb (Wb M a b t) b a t) i j=_
 rw[TF l1 r1 (by omega) (by omega),TF ok.len ok.row (by omega) (by omega)]
theorem Ed{n:Nat}{ts:List Y6}(ok:DictOk n ts){a b:Nat}(h:Lr ts a b):a<n/\b<n/\0<Z2 (LY n ts) a b:=by
 have keep:∀(l:List Y6)(M:List (List Int)),(∀e∈l,e.1<e.2.1/\e.2.1<n/\1<=e.2.2/\e.2.2<=9)->MatOk n M->0<Z2 M a b->0<Z2 (l.foldl Z6 M) a b:=by
  intro l
  induction l with
  | nil=>exact fun M _ _ h=>h
  | cons e r ih=>
   intro M hl hM hp
   have he:=hl e (by simp)
   refine ih _ (fun e' h'=>hl e' (by simp[h'])) (hM.step he) ?_
   rw[QD hM he]
   split
   ·omega
   ·split
    ·omega
    ·exact hp
 have gen:∀(l:List Y6)(M:List (List Int)),(∀e∈l,e.1<e.2.1/\e.2.1<n/\1<=e.2.2/\e.2.2<=9)->MatOk n M->Lr l a b->0<Z2 (l.foldl Z6 M) a b:=by
  intro l
  induction l with
  | nil=>rintro M _ _ ⟨t,ht⟩;simp at ht
  | cons e r ih=>
   rintro M hl hM ⟨t,ht⟩
   have he:=hl e (by simp)
   rcases List.mem_cons.mp ht with q | q
   ·refine keep r _ (fun e' h'=>hl e' (by simp[h'])) (hM.step he) ?_
    rw[QD hM he];subst q
    simp only at he
    split
    ·show 0<t;omega
    ·rw[if_pos ⟨rfl,rfl⟩];show 0<t;omega
   ·exact ih _ (fun e' h'=>hl e' (by simp[h'])) (hM.step he) ⟨t,q⟩
 obtain⟨t,ht⟩:=id h
 have:=ok.ok _ ht
 simp only at this
 exact⟨by omega,by omega,gen ts _ ok.ok (MatOk.zero n) h⟩
theorem Hang.conn{n:Nat}{ts:List Y6}(h:Hang n ts)(ok:DictOk n ts):Tn (LY n ts):=by
 intro P hP i j hi hj
 have hl:=(RV ok).len
 refine h P (fun a b hab=>?_) i j (by omega) (by omega)
 obtain⟨ha,hb,hp⟩:=Ed ok hab
 exact hP a b (by omega) (by omega) hp
theorem Md:∀{l m:List Int},l.Nodup->(∀x∈l,x∈m)->l.length<=m.length
 | [],m,_,_=>Nat.zero_le _
 | x::r,m,nd,h=>by
  have hx:x∈m:=h x (by simp)
  have nd':=List.nodup_cons.mp nd
  have:=Md (l:=r) (m:=m.erase x) nd'.2 fun y hy=>(List.mem_erase_of_ne (show y≠x from fun z=>nd'.1 (by rw[<-z];exact hy))).mpr (h y (by simp[hy]))
  rw[List.length_erase_of_mem hx] at this;have hp:=List.length_pos_of_mem hx
  rw[List.length_cons];omega
theorem B2{n:Nat}{l:List Int}(nd:l.Nodup)(h:∀x∈l,∃k:Nat,k<n/\x=(k:Int))(hl:l.length=n){j:Nat}(hj:j<n):(j:Int)∈l:=by
 by_cases q:(j:Int)∈l
 ·exact q
 ·have:=Md (l:=(j:Int)::l) (m:=(List.range n).map fun(k:Nat)=>(k:Int)) (List.nodup_cons.mpr ⟨q,nd⟩) (fun x hx=>by
   rcases List.mem_cons.mp hx with rfl | hx
   ·exact List.mem_map.mpr ⟨j,List.mem_range.mpr hj,rfl⟩
   ·obtain⟨k,hk,rfl⟩:=h x hx
    exact List.mem_map.mpr ⟨k,List.mem_range.mpr hk,rfl⟩)
  rw[List.length_cons,List.length_map,List.length_range] at this;omega
def rL(M:List (List Int)):List PV:=M.map fun r=>.lst (iL r)
theorem Ga{M:List (List Int)}{a:Nat}(h:a<M.length):(rL M)[a]?=some (.lst (iL (ZD M a))):=by
 unfold rL
 rw[List.getElem?_map,RU h];rfl
theorem Gb{M:List (List Int)}{a b:Nat}{t:Int}:(rL M).set a (.lst ((iL (ZD M a)).set b (.int t)))=rL (Wb M a b t):=by
 unfold rL Wb;rw[List.map_set]
 show _=(List.map (fun r=>PV.lst (iL r)) M).set a (PV.lst (((ZD M a).set b t).map PV.int))
 rw[List.map_set]
theorem J3{n:Nat}{ts:List Y6}(ok:DictOk n ts)(hn:n<=7):XZ [dP ts,.int (n:Int)]=some (wP (LY n ts)):=by
 have hc:ZG 1 [1] (Z5 [Za 1]) (.one 0) ZW (Zi Q0 (Yr [eC (.int 0)]) (Za 1)) [some (dP ts),some (.int (n:Int)),none,none,none]=some (.lst (rL (List.replicate n (List.replicate n 0)))):=by
  rw[YB (List.range n) (fun(i:Nat)=>.int (i:Int)) (fun _=>.lst (iL (List.replicate n 0))) (Y2 (by simp) (by omega)) (by simp;omega) (fun i _=>⟨_,rfl,rfl,?_⟩)]
  ·unfold rL
   rw[List.map_const',List.length_range,List.map_replicate]
  ·have e:Q0 (.lst [.int 0]) (.int (n:Int))=some (.lst (iL (List.replicate n 0))):=by
    show(if ZE [PV.int 0]=true/\(-1000000:Int)<=(n:Int)/\(n:Int)<=1000000/\[PV.int 0].length*((n:Int)).toNat<=10000 then some (PV.lst (List.replicate ((n:Int)).toNat [PV.int 0]).flatten) else none)=_
    rw[if_pos ⟨rfl,by omega,by omega,by simp;omega⟩,Int.toNat_natCast,Nm]
    simp
   simp[Yk,e]
 have mat:∀i,MatOk n ((ts.take i).foldl Z6 (List.replicate n (List.replicate n 0))):=fun i=>RV (ts:=ts.take i) ⟨fun e he=>ok.ok e (List.mem_of_mem_take he),by rw[List.map_take];exact ok.nd.sublist (List.take_sublist _ _)⟩
 obtain⟨s',h1,x,y,h2⟩:=ZU (T:=.many [3,4]) (fb:=Zm (W6 2 (Za 3) (Za 4) (Zi WH (Za 0) (Yq [Za 3,Za 4]))) (W6 2 (Za 4) (Za 3) (Zi WH (Za 0) (Yq [Za 3,Za 4])))) (ls:=ts.map fun e=>.tup [.int (e.1:Int),.int (e.2.1:Int)]) (s:=[some (dP ts),some (.int (n:Int)),some (.lst (rL (List.replicate n (List.replicate n 0)))),none,none])
  (fun i st=>∃x y,st=[some (dP ts),some (.int (n:Int)),some (.lst (rL ((ts.take i).foldl Z6 (List.replicate n (List.replicate n 0))))),x,y]) ⟨none,none,rfl⟩ (fun i l st hl hJ=>by
   obtain⟨x,y,rfl⟩:=hJ
   rw[List.getElem?_map] at hl
   cases he:ts[i]? with
   | none=>rw[he] at hl;cases hl
   | some e=>
    rw[he] at hl;cases hl
    obtain⟨a,b,t⟩:=e
    have hmem:(a,b,t)∈ts:=List.mem_of_getElem? he
    obtain⟨hab,hbn,t1,t9⟩:=ok.ok _ hmem
    simp only at hab hbn t1 t9
    have mi:=mat i;have hg:=Ma ok hmem
    refine⟨_,_,rfl,?_,some (.int (a:Int)),some (.int (b:Int)),rfl⟩
    show Zm _ _ [some (dP ts),some (.int (n:Int)),some (.lst (rL ((ts.take i).foldl Z6 (List.replicate n (List.replicate n 0))))),some (.int (a:Int)),some (.int (b:Int))]=_
    have sh:=VH (t:=t) (b:=b) mi.len mi.row (show a<n by omega)
    have lenM:(rL ((ts.take i).foldl Z6 (List.replicate n (List.replicate n 0)))).length=n:=by unfold rL;rw[List.length_map];exact mi.len
    have lenM2:(rL (Wb ((ts.take i).foldl Z6 (List.replicate n (List.replicate n 0))) a b t)).length=n:=by unfold rL;rw[List.length_map];exact sh.1
    rw[Yt,Qi (l:=.int t) (a:=(a:Int)) (b:=(b:Int)) (j:=a) (c:=b) (m:=rL ((ts.take i).foldl Z6 (List.replicate n (List.replicate n 0)))) (n:=iL (ZD ((ts.take i).foldl Z6 (List.replicate n (List.replicate n 0))) a)) (by simp[hg]) rfl rfl rfl (RA (by rw[lenM];omega)) (Ga (by rw[mi.len];omega)) (Xy _) rfl (RA (by rw[List.length_map,mi.row a (by omega)];omega))]
    simp only[Option.bind_some,Gb]
    show W6 _ _ _ _ [some (dP ts),some (.int (n:Int)),some (.lst (rL (Wb ((ts.take i).foldl Z6 (List.replicate n (List.replicate n 0))) a b t))),some (.int (a:Int)),some (.int (b:Int))]=_
    rw[Qi (l:=.int t) (a:=(b:Int)) (b:=(a:Int)) (j:=b) (c:=a) (m:=rL (Wb ((ts.take i).foldl Z6 (List.replicate n (List.replicate n 0))) a b t)) (n:=iL (ZD (Wb ((ts.take i).foldl Z6 (List.replicate n (List.replicate n 0))) a b t) b)) (by simp[hg]) rfl rfl rfl (RA (by rw[lenM2];omega)) (Ga (by rw[sh.1];omega)) (Xy _) rfl (RA (by rw[List.length_map,sh.2 b (by omega)];omega)),Gb]
    have e5:(ts.take (i+1)).foldl Z6 (List.replicate n (List.replicate n 0))=Z6 ((ts.take i).foldl Z6 (List.replicate n (List.replicate n 0))) (a,b,t):=MN _ _ he
    rw[e5];rfl)
 rw[List.length_map,List.take_length] at h2
 have hsq:(ts.foldl Z6 (List.replicate n (List.replicate n 0)))=LY n ts:=rfl
 rw[hsq] at h2
 have hc2:ZG 1 [] (Wd (Za 2)) (.one 0) ZW (Ze WE [Za 0]) [some (dP ts),some (.int (n:Int)),some (.lst (rL (LY n ts))),x,y]=some (.lst ((LY n ts).map pP)):=by
  rw[YB (LY n ts) (fun r=>.lst (iL r)) pP (by simp[rL]) (by rw[(RV ok).len];omega) (fun r _=>⟨_,rfl,rfl,by simp[Yk]⟩)]
 show Xl 5 VR [dP ts,.int (n:Int)]=_
 unfold VR;simp only[Xl,YF,List.map_cons,List.map_nil,List.length_cons,List.length_nil,Yt,Zt]
 show(((ZG 1 [1] (Z5 [Za 1]) (.one 0) ZW (Zi Q0 (Yr [eC (.int 0)]) (Za 1)) [some (dP ts),some (.int (n:Int)),none,none,none]).map _).bind _).bind Xw=_
 rw[hc];simp only[Option.map_some,Option.bind_some]
 show((Qe 0 _ _ [some (dP ts),some (.int (n:Int)),some (.lst (rL (List.replicate n (List.replicate n 0)))),none,none]).bind _).bind Xw=_
 unfold Qe
 show(((Pz (dP ts)).bind fun ls=>Xs _ _ ls [some (dP ts),some (.int (n:Int)),some (.lst (rL (List.replicate n (List.replicate n 0)))),none,none]).bind _).bind Xw=_
 rw[OQ];simp only[Option.bind_some];rw[h1,h2];simp[hc2]
theorem Cv(l:List Int)(k:Nat)(x:Int):(iL l).take k++PV.int x::(iL l).drop k=iL (l.take k++x::l.drop k):=by
 show(l.map PV.int).take k++PV.int x::(l.map PV.int).drop k=(l.take k++x::l.drop k).map PV.int
 rw[List.map_append,List.map_cons,List.map_take,List.map_drop]
theorem Me{n:Nat}{ts:List Y6}(ok:DictOk n ts)(hn:n<=7)(hl:ts.length<=1000)(c:Int):∃ts',W9 [dP ts,.int c,.int (n:Int)]=some (dP ts')/\DictOk n ts'/\ts'.length<=ts.length/\(Hang n ts->Hang n ts')/\YT ts'<=YT ts:=by
 obtain⟨s1,h1,c1,x1,l1,e1,nk⟩:=ZU (T:=.one 4) (fb:=Zm (UQ 3 (Zi Xa (Za 1) (Zi Yo (Za 4) (eC (.int 1)))) (Za 4)) (Zn 1 (eP (Zi Wj (Za 1) (Zi Yo (Za 4) (eC (.int 1))))))) (ls:=Wl n) (s:=[some (dP ts),some (.int c),some (.int (n:Int)),some (.lst []),none,none,none,none,none])
  (fun i st=>∃(c':Int) (x:Option PV) (l:List Int),st=[some (dP ts),some (.int c'),some (.int (n:Int)),some (.lst (iL l)),x,none,none,none,none]/\NamesOk i l) ⟨c,none,[],rfl,NamesOk.nil⟩ (fun i l st hl hJ=>by
   obtain⟨hi,rfl⟩:=Vp hl
   obtain⟨c',x,nl,rfl,nk⟩:=hJ
   have hd:0<(i:Int)+1:=by omega
   have hm0:=Int.emod_nonneg c' (show(i:Int)+1≠0 by omega)
   have hm1:=Int.emod_lt_of_pos c' hd
   refine⟨_,_,rfl,?_,c'/((i:Int)+1),some (.int (i:Int)),nl.take (c'%((i:Int)+1)).toNat++(i:Int)::nl.drop (c'%((i:Int)+1)).toNat,rfl,nk.ins _⟩
   show Zm _ _ [some (dP ts),some (.int c'),some (.int (n:Int)),some (.lst (iL nl)),some (.int (i:Int)),none,none,none,none]=_
   rw[Yt,M3 (k:=c'%((i:Int)+1)) (l:=.int (i:Int)) (m:=iL nl) (by simp[hd]) rfl rfl (Xy nl) rfl hm0 (by omega) (by rw[List.length_map,nk.len];omega),Cv]
   have hcd:Su c' ((i:Int)+1):=Uu hd (by omega)
   simp[hcd])
 have nkn:=nk;rw[Ut] at nkn
 obtain⟨s2,h2,x6,x7,x8,ts',e2,ok',hle,hsu,hall⟩:=ZU (T:=.many [6,7]) (fb:=Zm (Zn 8 (eP (Yq [Ze V7 [Zi ZK (Za 3) (Za 6),Zi ZK (Za 3) (Za 7)],Ze Pq [Zi ZK (Za 3) (Za 6),Zi ZK (Za 3) (Za 7)]]))) (VL.sDPut 5 (Za 8) (Zi WH (Za 0) (Yq [Za 6,Za 7])))) (ls:=ts.map fun e=>.tup [.int (e.1:Int),.int (e.2.1:Int)])
  (s:=[some (dP ts),some (.int c1),some (.int (n:Int)),some (.lst (iL l1)),x1,some (dP []),none,none,none])
  (fun i st=>∃(x6 x7 x8:Option PV) (ts':List Y6),st=[some (dP ts),some (.int c1),some (.int (n:Int)),some (.lst (iL l1)),x1,some (dP ts'),x6,x7,x8]/\DictOk n ts'/\ts'.length<=i/\YT ts'<=YT (ts.take i)/\∀(j:Nat)(e:Y6),j<i->ts[j]?=some e->Lr ts' (YE l1 e.1).toNat (YE l1 e.2.1).toNat\/Lr ts' (YE l1 e.2.1).toNat (YE l1 e.1).toNat) ⟨none,none,none,[],rfl,DictOk.nil n,Nat.le_refl _,Int.le_refl _,fun j e hj _=>by omega⟩ (fun i l st hl' hJ=>by
   obtain⟨x6,x7,x8,ts',rfl,ok',hle,hsu,hall⟩:=hJ
   rw[List.getElem?_map] at hl'
   cases he:ts[i]? with
   | none=>rw[he] at hl';cases hl'
   | some e=>
    rw[he] at hl'
    cases hl'
    obtain⟨a,b,t⟩:=e
    have hil:=(List.getElem?_eq_some_iff.mp he).1
    have hmem:(a,b,t)∈ts:=List.mem_of_getElem? he
    obtain⟨hab,hbn,t1,t9⟩:=ok.ok _ hmem
    simp only at hab hbn t1 t9
    have hg:=Ma ok hmem;rw[Ut] at nk
    have na:=nk.at (x:=a) (by omega)
    have nb:=nk.at (x:=b) (by omega)
    have ne:=nk.ne (x:=a) (y:=b) (by omega) (by omega) (by omega)
    -- the pair
    obtain⟨p,q,ep,eq,hpq,hqn⟩:∃p q:Nat,(if YE l1 b<YE l1 a then YE l1 b else YE l1 a)=(p:Int)/\(if YE l1 b>YE l1 a then YE l1 b else YE l1 a)=(q:Int)/\p<q/\q<n:=by
     refine⟨(if YE l1 b<YE l1 a then YE l1 b else YE l1 a).toNat,(if YE l1 b>YE l1 a then YE l1 b else YE l1 a).toNat,?_,?_,?_,?_⟩<;>split<;>(try split)<;>omega
    obtain⟨ts2,pe,ok2,hle2,hh2,hx2,hs2⟩:=Sh (t:=t) ok' hpq hqn t1 t9 (by omega)
    have ia:=VQ (l:=l1) (k:=a) (by rw[nk.len];omega)
    have ib:=VQ (l:=l1) (k:=b) (by rw[nk.len];omega)
    refine⟨_,_,rfl,?_,some (.int (a:Int)),some (.int (b:Int)),some (.tup [.int (p:Int),.int (q:Int)]),ts2,rfl,ok2,by omega,by rw[List.take_add_one,he];show _<=YT (ts.take i++[(a,b,t)]);rw[Mc];omega,fun j e hj hje=>by
     by_cases hji:j<i
     ·exact(hall j e hji hje).imp (hx2 _ _) (hx2 _ _)
     ·have hj':j=i:=by omega
      subst hj'
      rw[he] at hje;cases hje
      show Lr ts2 (YE l1 a).toNat (YE l1 b).toNat\/Lr ts2 (YE l1 b).toNat (YE l1 a).toNat
      by_cases hlt:YE l1 b<YE l1 a
      ·rw[if_pos hlt] at ep
       rw[if_neg (by omega)] at eq
       exact .inr (by rw[ep,eq];exact hh2)
      ·rw[if_neg hlt] at ep
       rw[if_pos (by omega)] at eq
       exact .inl (by rw[ep,eq];exact hh2)⟩
    show Zm _ _ [some (dP ts),some (.int c1),some (.int (n:Int)),some (.lst (iL l1)),x1,some (dP ts'),some (.int (a:Int)),some (.int (b:Int)),x8]=_
    have hset:Zn 8 (eP (Yq [Ze V7 [Zi ZK (Za 3) (Za 6),Zi ZK (Za 3) (Za 7)],Ze Pq [Zi ZK (Za 3) (Za 6),Zi ZK (Za 3) (Za 7)]])) [some (dP ts),some (.int c1),some (.int (n:Int)),some (.lst (iL l1)),x1,some (dP ts'),some (.int (a:Int)),some (.int (b:Int)),x8]=some (.nx [some (dP ts),some (.int c1),some (.int (n:Int)),some (.lst (iL l1)),x1,some (dP ts'),some (.int (a:Int)),some (.int (b:Int)),some (.tup [.int (p:Int),.int (q:Int)])]):=by
     simp[ia,ib,ep,eq]
    rw[Yt,hset];simp only[Option.bind_some]
    rw[Si (v:=.int t) (k:=.tup [.int (p:Int),.int (q:Int)]) (d:=dP ts') (by simp[hg]) rfl rfl pe]
    rfl)
 rw[List.length_map] at hle hall hsu
 rw[List.take_length] at hsu
 refine⟨ts',?_,ok',hle,fun hg P hP i j hi hj=>?_,hsu⟩
 rotate_left
 ·have sur:∀k,k<n->∃x,x<n/\(YE l1 x).toNat=k:=fun k hk=>by
   have hm:=B2 nkn.nd (fun x hx=>⟨x.toNat,by have:=nkn.lo x hx;have:=nkn.hi x hx;omega,by have:=nkn.lo x hx;omega⟩) nkn.len hk
   obtain⟨x,hx,ex⟩:=List.getElem_of_mem hm
   refine⟨x,by rw[<-nkn.len];exact hx,?_⟩
   unfold YE
   rw[List.getD_eq_getElem?_getD,List.getElem?_eq_getElem hx,ex];rfl
  obtain⟨x,hx,rfl⟩:=sur i hi
  obtain⟨y,hy,rfl⟩:=sur j hj
  refine hg (fun k=>P (YE l1 k).toNat) (fun a b hab=>?_) x y hx hy
  obtain⟨t,ht⟩:=hab
  obtain⟨k,hk,ek⟩:=List.getElem_of_mem ht
  rcases hall k (a,b,t) hk (by rw[List.getElem?_eq_getElem hk,ek]) with q | q
  ·exact hP _ _ q
  ·exact(hP _ _ q).symm
 show Xl 9 W8 [dP ts,.int c,.int (n:Int)]=_
 unfold W8;simp only[Xl,YF,List.map_cons,List.map_nil,List.length_cons,List.length_nil,Yt,Zt]
 have hr:Z5 [Za 2] (ZJ [3,5] [some (dP ts),some (.int c),some (.int (n:Int)),some (.lst []),none,none,none,none,none])=some (Wl n):=Y2 (by simp[ZJ]) (by omega)
 show((Yp [3,5] (Z5 [Za 2]) (.one 4) _ [some (dP ts),some (.int c),some (.int (n:Int)),some (.lst []),none,none,none,none,none]).bind _).bind Xw=_
 rw[Yc,hr];simp only[Option.bind_some]
 rw[show(Xs (.one 4) (Zm (UQ 3 (Zi Xa (Za 1) (Zi Yo (Za 4) (eC (.int 1)))) (Za 4)) (Zn 1 (eP (Zi Wj (Za 1) (Zi Yo (Za 4) (eC (.int 1))))))) (Wl n) [some (dP ts),some (.int c),some (.int (n:Int)),some (.lst []),none,none,none,none,none])=some (.nx s1) from h1,e1]
 show((Qe 0 _ _ [some (dP ts),some (.int c1),some (.int (n:Int)),some (.lst (iL l1)),x1,some (dP []),none,none,none]).bind _).bind Xw=_
 unfold Qe
 show(((Pz (dP ts)).bind fun ls=>Xs _ _ ls [some (dP ts),some (.int c1),some (.int (n:Int)),some (.lst (iL l1)),x1,some (dP []),none,none,none]).bind _).bind Xw=_
 rw[OQ];simp only[Option.bind_some];rw[h2,e2];rfl
theorem Gd{r m:Int}(h1:1<=m)(h9:m<=9):0<=r%2*(1+r/2%m)/\r%2*(1+r/2%m)<=9:=by
 have a1:=Int.emod_nonneg (r/2) (show m≠0 by omega)
 have a2:=Int.emod_lt_of_pos (r/2) (show 0<m by omega)
 have a3:r%2=0\/r%2=1:=by omega
 rcases a3 with e | e<;>rw[e]<;>omega
theorem AX{x y:PV}(c:Int):Ub [x,y] (c%2)=some (if c%2=0 then x else y):=by
 have h:c%2=0\/c%2=1:=by omega
 rcases h with h | h<;>rw[h]<;>rfl
theorem B3(neg:Bool)(a:Int)(l:List Int):Nu neg (.int a) (.lst (iL l))=some (.bl (if neg then !decide (a∈l) else decide (a∈l))):=by
 unfold Nu
 have c:((iL l).all fun z=>XX 8 z (.int a))=true:=by
  rw[List.all_map,List.all_eq_true]
  intro x _;rfl
 show(some (iL l)).bind _=_
 simp only[Option.bind_some,if_pos c]
 have:decide (PV.int a∈iL l)=decide (a∈l):=decide_eq_decide.mpr (by
  rw[List.mem_map];constructor
  ·rintro⟨x,hx,e⟩;cases e;exact hx
  ·intro h;exact⟨a,h,rfl⟩)
 rw[this]
noncomputable def De:XS:=(Zm (Zn 8 (eP (Ze V7 [(Zi Fx (Zi Xa (Za 0) (eC (.int 2))) (Zi Yo (eC (.int 1)) (Zi Xa (Zi Wj (Za 0) (eC (.int 2))) (Za 3)))),(Za 2)])))
  (Zm (Zn 0 (eP (Zi ZK (Yr [(Zi Wj (Za 0) (eC (.int 2))),(Zi Wj (Zi Wj (Za 0) (eC (.int 2))) (Za 3))]) (Zi Xa (Za 0) (eC (.int 2))))))
  (WR (xB (Zi Tt (Za 8) (eC (.int 0)))) (Zm (VL.sDPut 4 (Yq [(Za 6),(Za 7)]) (Za 8))
  (Zn 2 (eP (Zi YQ (Za 2) (Za 8))))) ZN)))
def Wm(n:Nat)(most:Int)(ts:List Y6)(rest room:Int)(x6 x7 x8:Option Int)(x9:Option Int)(met:List Int):ZP:=
 [some (.int rest),some (.int (n:Int)),some (.int room),some (.int most),some (dP ts),some (.lst (iL met)),x6.map PV.int,x7.map PV.int,x8.map PV.int,x9.map PV.int]
theorem Cw{n:Nat}{most:Int}{ts:List Y6}{rest room:Int}{a b:Nat}{x8 x9:Option Int}{met:List Int}(h1:1<=most)(h9:most<=9)(ok:DictOk n ts)(hl:ts.length<=1000)(hab:a<b)(hb:b<n) :
  ∃ts' rest' room' x8',De (Wm n most ts rest room (some (a:Int)) (some (b:Int)) x8 x9 met)=some (.nx (Wm n most ts' rest' room' (some (a:Int)) (some (b:Int)) (some x8') x9 met))/\DictOk n ts'/\ts'.length<=ts.length+1/\(0<=room->0<=room'/\YT ts'+room'<=YT ts+room):=by
 obtain⟨d0,d9⟩:=Gd (r:=rest) h1 h9
 have cm:CMul (rest%2) (1+rest/2%most):=Cq (by omega) (by omega)
 have cd:Su rest 2:=Uu (by omega) (by omega)
 have cd2:Su (rest/2) most:=Uu (by omega) (by omega)
 have hm:0<most:=by omega
 generalize hdp:(if room<rest%2*(1+rest/2%most) then room else rest%2*(1+rest/2%most))=dp
 have hdp9:dp<=9:=by rw[<-hdp];split<;>omega
 have hdpr:dp<=room:=by rw[<-hdp];split<;>omega
 generalize hrs:(if rest%2=0 then rest/2 else rest/2/most)=rs
 have hif:(if rest%2=0 then PV.int (rest/2) else PV.int (rest/2/most))=PV.int rs:=by rw[<-hrs];split<;>rfl
 have first:(Zm (Zn 8 (eP (Ze V7 [(Zi Fx (Zi Xa (Za 0) (eC (.int 2))) (Zi Yo (eC (.int 1)) (Zi Xa (Zi Wj (Za 0) (eC (.int 2))) (Za 3)))),(Za 2)]))) (Zn 0 (eP (Zi ZK (Yr [(Zi Wj (Za 0) (eC (.int 2))),(Zi Wj (Zi Wj (Za 0) (eC (.int 2))) (Za 3))]) (Zi Xa (Za 0) (eC (.int 2)))))))
   (Wm n most ts rest room (some (a:Int)) (some (b:Int)) x8 x9 met)=some (.nx (Wm n most ts rs room (some (a:Int)) (some (b:Int)) (some dp) x9 met)):=by
  simp[Wm,cm,cd,cd2,hm,AX,hif,hdp]
 have split3:∀(f g h:XS)(s s1:ZP),Zm f g s=some (.nx s1)->Zm f (Zm g h) s=h s1:=fun f g h s s1 e=>by
  simp only[Yt] at e ⊢
  cases q:f s with
  | none=>rw[q] at e;cases e
  | some o=>
   rw[q] at e
   cases o with
   | nx s2=>
    simp only[Option.bind_some] at e ⊢
    rw[e];rfl
   | _=>cases e
 by_cases hpos:0<dp
 ·obtain⟨ts2,pe,ok2,hle2,_,_,hs2⟩:=Sh (t:=dp) ok hab hb (by omega) hdp9 (by omega)
  refine⟨ts2,rs,room-dp,dp,?_,ok2,hle2,fun _=>⟨by omega,by omega⟩⟩
  unfold De;rw[split3 _ _ _ _ _ first]
  have hput:=Si (i:=4) (fk:=Yq [Za 6,Za 7]) (fv:=Za 8) (s:=Wm n most ts rs room (some (a:Int)) (some (b:Int)) (some dp) x9 met) (v:=.int dp) (k:=.tup [.int (a:Int),.int (b:Int)]) (d:=dP ts) rfl (by simp[Wm]) rfl pe
  have ht:xB (Zi Tt (Za 8) (eC (.int 0))) (Wm n most ts rs room (some (a:Int)) (some (b:Int)) (some dp) x9 met)=some true:=by simp[Wm,hpos]
  rw[Yl,ht];simp only[Option.bind_some,if_true];rw[Yt,hput];simp[Wm]
 ·refine⟨ts,rs,room,dp,?_,ok,by omega,fun h=>⟨h,Int.le_refl _⟩⟩
  unfold De;rw[split3 _ _ _ _ _ first]
  have ht:xB (Zi Tt (Za 8) (eC (.int 0))) (Wm n most ts rs room (some (a:Int)) (some (b:Int)) (some dp) x9 met)=some false:=by simp[Wm,hpos]
  rw[Yl,ht]
  simp
theorem Ge{n:Nat}{most:Int}{a:Nat}{ts:List Y6}{rest room:Int}{x7 x8 x9:Option Int}{met:List Int}(h1:1<=most)(h9:most<=9)(ok:DictOk n ts)(hl:ts.length<=100)(ha:a<n)(hn:n<=7) :
  ∃ts' rest' room' y7 y8,Xs (.one 7) De (Xn ((a:Int)+1) (n-(a+1))) (Wm n most ts rest room (some (a:Int)) x7 x8 x9 met)=some (.nx (Wm n most ts' rest' room' (some (a:Int)) y7 y8 x9 met))/\DictOk n ts'/\ts'.length<=ts.length+7/\(0<=room->0<=room'/\YT ts'+room'<=YT ts+room):=by
 obtain⟨s',h,ts',rest',room',y7,y8,e,ok',hle,hsu⟩:=ZU (T:=.one 7) (fb:=De) (ls:=Xn ((a:Int)+1) (n-(a+1))) (s:=Wm n most ts rest room (some (a:Int)) x7 x8 x9 met)
  (fun j st=>∃ts' rest' room' y7 y8,st=Wm n most ts' rest' room' (some (a:Int)) y7 y8 x9 met/\DictOk n ts'/\ts'.length<=ts.length+j/\(0<=room->0<=room'/\YT ts'+room'<=YT ts+room)) ⟨ts,rest,room,x7,x8,rfl,ok,by omega,fun h=>⟨h,Int.le_refl _⟩⟩ (fun j l st hl' hJ=>by
   obtain⟨hj,rfl⟩:=WL hl'
   obtain⟨ts',rest',room',y7,y8,rfl,ok',hle,hsu⟩:=hJ
   have e1:(a:Int)+1+(j:Int)=((a+1+j:Nat):Int):=by omega
   rw[e1]
   obtain⟨ts2,r2,m2,z8,e2,ok2,hle2,hs2⟩:=Cw (rest:=rest') (room:=room') (x8:=y8) (x9:=x9) (met:=met) h1 h9 ok' (by omega) (show a<a+1+j by omega) (by omega)
   exact⟨_,_,rfl,e2,ts2,r2,m2,some ((a+1+j:Nat):Int),some z8,rfl,ok2,by omega,fun h=>by have a1:=hsu h;have a2:=hs2 a1.1;exact⟨a2.1,by omega⟩⟩)
 rw[Vq] at hle
 exact⟨ts',rest',room',y7,y8,by rw[h,e],ok',by omega,hsu⟩
theorem Gf{n:Nat}{most:Int}{rest room:Int}{met:List Int}(h1:1<=most)(h9:most<=9)(hn:n<=7) :
  ∃ts' rest' room' y6 y7 y8,Xs (.one 6) (Yp [4,5] (ZY [Zi Yo (Za 6) (eC (.int 1)),Za 1]) (.one 7) De) (Wl n) (Wm n most [] rest room none none none none met)=some (.nx (Wm n most ts' rest' room' y6 y7 y8 none met))/\DictOk n ts'/\ts'.length<=49/\(0<=room->YT ts'<=room):=by
 obtain⟨s',h,ts',rest',room',y6,y7,y8,e,ok',hle,hsu⟩:=ZU (T:=.one 6) (fb:=Yp [4,5] (ZY [Zi Yo (Za 6) (eC (.int 1)),Za 1]) (.one 7) De) (ls:=Wl n) (s:=Wm n most [] rest room none none none none met)
  (fun i st=>∃ts' rest' room' y6 y7 y8,st=Wm n most ts' rest' room' y6 y7 y8 none met/\DictOk n ts'/\ts'.length<=7*i/\(0<=room->0<=room'/\YT ts'+room'<=room)) ⟨[],rest,room,none,none,none,rfl,DictOk.nil n,by simp,fun h=>⟨h,by show(0:Int)+room<=room;omega⟩⟩ (fun i l st hl' hJ=>by
   obtain⟨hi,rfl⟩:=Vp hl'
   obtain⟨ts',rest',room',y6,y7,y8,rfl,ok',hle,hsu⟩:=hJ
   obtain⟨ts2,r2,m2,z7,z8,e2,ok2,hle2,hs2⟩:=Ge (rest:=rest') (room:=room') (x7:=y7) (x8:=y8) (x9:=none) (met:=met) h1 h9 ok' (by omega) hi hn
   refine⟨_,_,rfl,?_,ts2,r2,m2,some (i:Int),z7,z8,rfl,ok2,by omega,fun h=>by have a1:=hsu h;have a2:=hs2 a1.1;exact⟨a2.1,by omega⟩⟩
   have hr:ZY [Zi Yo (Za 6) (eC (.int 1)),Za 1] (ZJ [4,5] (Wm n most ts' rest' room' (some (i:Int)) y7 y8 none met))=some (Xn ((i:Int)+1) (n-(i+1))):=by
    rw[Xf (i:=(i:Int)+1) (j:=(n:Int)) (by simp[ZJ,Wm]) (by simp[ZJ,Wm]) ⟨by omega,by omega⟩ ⟨by omega,by omega⟩]
    congr 2;omega
   show Yp _ _ _ _ (Wm n most ts' rest' room' (some (i:Int)) y7 y8 none met)=_
   rw[Yc,hr]
   exact e2)
 rw[Ut] at hle
 exact⟨ts',rest',room',y6,y7,y8,by rw[h,e],ok',by omega,fun h=>by have:=hsu h;omega⟩
noncomputable def Ls:XS:=(Zm (WR (VJ (xB (Zi (Nu false) (Za 6) (Za 5))) (xB (Zi (Nu true) (Za 7) (Za 5)))) (X5 5 (eP (Za 7))) ZN)
  (WR (VJ (xB (Zi (Nu false) (Za 7) (Za 5))) (xB (Zi (Nu true) (Za 6) (Za 5)))) (X5 5 (eP (Za 6))) ZN))
structure MetOk(n:Nat)(ts:List Y6)(met:List Int):Prop where
 nd:met.Nodup
 ok:∀m∈met,∃k:Nat,k<n/\m=(k:Int)/\∀P:Nat->Prop,Cl ts P->(P k↔P 0)
theorem MetOk.add{n:Nat}{ts:List Y6}{met:List Int}{a b:Nat}(h:MetOk n ts met)(hab:Lr ts a b\/Lr ts b a)(hb:b<n)(ha:(a:Int)∈met)(hnb:(b:Int)∉met):MetOk n ts (met++[(b:Int)]):=by
 refine⟨?_,fun m hm=>?_⟩
 ·rw[List.nodup_append]
  refine⟨h.nd,by simp,fun x hx y hy z=>?_⟩
  rw[List.mem_singleton.mp hy] at z
  exact hnb (z▸hx)
 ·rcases List.mem_append.mp hm with hm | hm
  ·exact h.ok m hm
  ·refine⟨b,hb,List.mem_singleton.mp hm,fun P hP=>?_⟩
   obtain⟨k,hk,e,q⟩:=h.ok _ ha
   have:a=k:=by omega
   subst this
   rcases hab with z | z
   ·exact(hP _ _ z).symm.trans (q P hP)
   ·exact(hP _ _ z).trans (q P hP)
theorem MetOk.hang{n:Nat}{ts:List Y6}{met:List Int}(h:MetOk n ts met)(hl:met.length=n):Hang n ts:=by
 have all:∀P,Cl ts P->∀i,i<n->(P i↔P 0):=fun P hP i hi=>by
  have hm:=B2 h.nd (fun x hx=>by obtain⟨k,hk,e,_⟩:=h.ok x hx;exact⟨k,hk,e⟩) hl hi
  obtain⟨k,hk,e,q⟩:=h.ok _ hm
  have:i=k:=by omega
  subst this
  exact q P hP
 exact fun P hP i j hi hj=>(all P hP i hi).trans (all P hP j hj).symm
theorem Mf{n:Nat}{most:Int}{ts:List Y6}{rest room:Int}{a b:Int}{x8 x9:Option Int}{met:List Int}(hl:met.length<=5000)(f g:Nat)(va vb:Int)(hf:∀met,(Wm n most ts rest room (some a) (some b) x8 x9 met)[f]?=some (some (.int va)))(hg:∀met,(Wm n most ts rest room (some a) (some b) x8 x9 met)[g]?=some (some (.int vb))) :
  ∃met',WR (VJ (xB (Zi (Nu false) (Za f) (Za 5))) (xB (Zi (Nu true) (Za g) (Za 5)))) (X5 5 (eP (Za g))) ZN (Wm n most ts rest room (some a) (some b) x8 x9 met)=some (.nx (Wm n most ts rest room (some a) (some b) x8 x9 met'))/\met'.length<=met.length+1/\(met'=met\/(va∈met/\vb∉met/\met'=met++[vb])):=by
 have h5:(Wm n most ts rest room (some a) (some b) x8 x9 met)[5]?=some (some (.lst (iL met))):=rfl
 have t:VJ (xB (Zi (Nu false) (Za f) (Za 5))) (xB (Zi (Nu true) (Za g) (Za 5))) (Wm n most ts rest room (some a) (some b) x8 x9 met)=some (decide (va∈met)&&!decide (vb∈met)):=by
  simp only[T1,Ys,ZA,WI,hf,hg,h5,Option.join_some,Option.bind_some,B3,Cm]
  by_cases h:va∈met<;>simp[h]
 rw[Yl,t];simp only[Option.bind_some]
 split
 ·rename_i hc
  refine⟨met++[vb],?_,by simp,.inr ⟨by simp at hc;exact hc.1,by simp at hc;exact hc.2,rfl⟩⟩
  rw[Qh (l:=.int vb) (m:=iL met) (by simp only[YZ,WI,hg,Option.join_some,Option.bind_some,Jx,if_true]) rfl (by rw[List.length_map];omega)]
  simp[Wm]
 ·exact⟨met,rfl,by omega,.inl rfl⟩
theorem Ee{n:Nat}{most:Int}{ts:List Y6}{rest room:Int}{a b:Int}{x8 x9:Option Int}{met:List Int}(hl:met.length<=4000) :
  ∃met',Ls (Wm n most ts rest room (some a) (some b) x8 x9 met)=some (.nx (Wm n most ts rest room (some a) (some b) x8 x9 met'))/\met'.length<=met.length+2/\(∀a' b':Nat,a=a'->b=b'->Lr ts a' b'->a'<n->b'<n->MetOk n ts met->MetOk n ts met'):=by
 obtain⟨m1,e1,l1,o1⟩:=Mf (n:=n) (most:=most) (ts:=ts) (rest:=rest) (room:=room) (a:=a) (b:=b) (x8:=x8) (x9:=x9) (met:=met) (by omega) 6 7 a b (fun _=>rfl) (fun _=>rfl)
 obtain⟨m2,e2,l2,o2⟩:=Mf (n:=n) (most:=most) (ts:=ts) (rest:=rest) (room:=room) (a:=a) (b:=b) (x8:=x8) (x9:=x9) (met:=m1) (by omega) 7 6 b a (fun _=>rfl) (fun _=>rfl)
 refine⟨m2,?_,by omega,fun a' b' ha hb hab han hbn mk=>?_⟩
 rotate_left
 ·subst ha hb
  have k1:MetOk n ts m1:=by
   rcases o1 with rfl | ⟨u,v,rfl⟩
   ·exact mk
   ·exact mk.add (.inl hab) hbn u v
  rcases o2 with rfl | ⟨u,v,rfl⟩
  ·exact k1
  ·exact k1.add (.inr hab) han u v
 unfold Ls;rw[Yt,e1];exact e2
theorem J4{n:Nat}{most:Int}{ts:List Y6}{rest room:Int}{x6 x7 x8 x9:Option Int}{met:List Int}:M0 [4,5] (.nx (Wm n most ts rest room x6 x7 x8 x9 met)) = .nx (Wm n most ts rest room x6 x7 x8 x9 met):=by
 cases x6<;>cases x7<;>cases x8<;>cases x9<;>rfl
theorem Gg{n:Nat}{most:Int}{ts:List Y6}{rest room:Int}{x6 x7 x8 x9:Option Int}{met:List Int}(hl:met.length<=2000)(ht:ts.length<=49)(ok:DictOk n ts)(mk:MetOk n ts met) :
  ∃y6 y7 met',Tf [4,5] 4 (.many [6,7]) Ls (Wm n most ts rest room x6 x7 x8 x9 met)=some (.nx (Wm n most ts rest room y6 y7 x8 x9 met'))/\met'.length<=met.length+98/\MetOk n ts met':=by
 obtain⟨s',h,y6,y7,met',e,hle,mk'⟩:=ZU (T:=.many [6,7]) (fb:=Ls) (ls:=ts.map fun e=>.tup [.int (e.1:Int),.int (e.2.1:Int)]) (s:=Wm n most ts rest room x6 x7 x8 x9 met)
  (fun j st=>∃y6 y7 met',st=Wm n most ts rest room y6 y7 x8 x9 met'/\met'.length<=met.length+2*j/\MetOk n ts met') ⟨x6,x7,met,rfl,by omega,mk⟩ (fun j l st hl' hJ=>by
   obtain⟨y6,y7,met',rfl,hle,mk'⟩:=hJ
   rw[List.getElem?_map] at hl'
   cases he:ts[j]? with
   | none=>rw[he] at hl';cases hl'
   | some e=>
    rw[he] at hl'
    cases hl'
    have hj:=(List.getElem?_eq_some_iff.mp he).1
    have hmem:=List.mem_of_getElem? he
    have hoe:=ok.ok e hmem
    obtain⟨m2,e2,l2,o2⟩:=Ee (n:=n) (most:=most) (ts:=ts) (rest:=rest) (room:=room) (a:=(e.1:Int)) (b:=(e.2.1:Int)) (x8:=x8) (x9:=x9) (met:=met') (by omega)
    exact⟨_,_,rfl,e2,some (e.1:Int),some (e.2.1:Int),m2,rfl,by omega,o2 e.1 e.2.1 rfl rfl ⟨e.2.2,hmem⟩ (by omega) (by omega) mk'⟩)
 rw[List.length_map] at hle
 refine⟨y6,y7,met',?_,by omega,mk'⟩
 unfold Tf
 show((Pz (dP ts)).bind fun ls=>(Xs _ _ ls _).map (M0 [4,5]))=_
 rw[OQ];simp only[Option.bind_some];rw[h,e,Option.map_some,J4]
theorem Ef{n:Nat}{most:Int}{ts:List Y6}{rest room:Int}{x6 x7 x8:Option Int}(ht:ts.length<=49)(hn:n<=7)(ok:DictOk n ts)(hn1:1<=n) :
  ∃y6 y7 y9 met',Xs (.one 9) (Tf [4,5] 4 (.many [6,7]) Ls) (Wl n) (Wm n most ts rest room x6 x7 x8 none [0])=some (.nx (Wm n most ts rest room y6 y7 x8 y9 met'))/\MetOk n ts met':=by
 obtain⟨s',h,y6,y7,y9,met',e,hle,mk⟩:=ZU (T:=.one 9) (fb:=Tf [4,5] 4 (.many [6,7]) Ls) (ls:=Wl n) (s:=Wm n most ts rest room x6 x7 x8 none [0])
  (fun i st=>∃y6 y7 y9 met',st=Wm n most ts rest room y6 y7 x8 y9 met'/\met'.length<=1+98*i/\MetOk n ts met') ⟨x6,x7,none,[0],rfl,by simp,⟨by simp,fun m hm=>⟨0,by omega,List.mem_singleton.mp hm,fun P _=>Iff.rfl⟩⟩⟩ (fun i l st hl' hJ=>by
   obtain⟨hi,rfl⟩:=Vp hl'
   obtain⟨y6,y7,y9,met',rfl,hle,mk⟩:=hJ
   obtain⟨z6,z7,m2,e2,l2,mk2⟩:=Gg (n:=n) (most:=most) (ts:=ts) (rest:=rest) (room:=room) (x6:=y6) (x7:=y7) (x8:=x8) (x9:=some (i:Int)) (met:=met') (by omega) ht ok mk
   exact⟨_,_,rfl,e2,z6,z7,some (i:Int),m2,rfl,by omega,mk2⟩)
 exact⟨y6,y7,y9,met',by rw[h,e],mk⟩
theorem QE{n:Nat}{most rest room:Int}(h1:1<=most)(h9:most<=9)(hn:n<=7)(hn1:1<=n):∃r,YR [.int rest,.int (n:Int),.int room,.int most]=some r/\(r = .non\/∃ts,r=dP ts/\DictOk n ts/\ts.length<=49/\Hang n ts/\(0<=room->YT ts<=room)):=by
 obtain⟨ts,rest',room',y6,y7,y8,e1,ok,hle,hsu⟩:=Gf (n:=n) (rest:=rest) (room:=room) (met:=[0]) h1 h9 hn
 obtain⟨z6,z7,z9,met,e2,mk⟩:=Ef (n:=n) (most:=most) (ts:=ts) (rest:=rest') (room:=room') (x6:=y6) (x7:=y7) (x8:=y8) hle hn ok hn1
 refine⟨if met.length=n then dP ts else .non,?_,?_⟩
 ·show Xl 10 XJ [.int rest,.int (n:Int),.int room,.int most]=_
  have r1:Z5 [Za 1] (ZJ [4,5] (Wm n most [] rest room none none none none [0]))=some (Wl n):=Y2 (by simp[ZJ,Wm]) (by omega)
  have r2:Z5 [Za 1] (ZJ [4,5] (Wm n most ts rest' room' y6 y7 y8 none [0]))=some (Wl n):=Y2 (by simp[ZJ,Wm]) (by omega)
  unfold XJ;simp only[Xl,YF,List.map_cons,List.map_nil,List.length_cons,List.length_nil,Yt,Zt]
  show((Yp [4,5] (Z5 [Za 1]) (.one 6) (Yp [4,5] (ZY [Zi Yo (Za 6) (eC (.int 1)),Za 1]) (.one 7) De) (Wm n most [] rest room none none none none [0])).bind _).bind Xw=_
  rw[Yc,r1];simp only[Option.bind_some];rw[e1];simp only[Option.bind_some]
  show((Yp [4,5] (Z5 [Za 1]) (.one 9) (Tf [4,5] 4 (.many [6,7]) Ls) (Wm n most ts rest' room' y6 y7 y8 none [0])).bind _).bind Xw=_
  rw[Yc,r2];simp only[Option.bind_some];rw[e2];simp only[Option.bind_some];unfold Ox
  by_cases h:met.length=n
  ·simp[Wm,h]
  ·have h':¬((met.length:Int)=(n:Int)):=by omega
   simp[Wm,h,h']
 ·by_cases h:met.length=n
  ·rw[if_pos h];exact .inr ⟨ts,rfl,ok,hle,mk.hang h,hsu⟩
  ·rw[if_neg h];exact .inl rfl
theorem Cy(ts:List Y6)(a b:Int):∃c,Ap (dP ts) (.tup [.int a,.int b])=some c:=⟨_,rfl⟩
theorem Eg{f g h k:XS}{s s1 s2 s3:ZP}(e1:f s=some (.nx s1))(e2:g s1=some (.nx s2))(e3:h s2=some (.nx s3)):Zm f (Zm g (Zm h k)) s=k s3:=by
 simp only[Yt,e1,e2,e3,Option.bind_some]
theorem Yi{f g:XS}{s s1:ZP}(e1:f s=some (.nx s1)):Zm f g s=g s1:=by
 simp only[Yt,e1,Option.bind_some]
theorem B4{f g h:XS}{s s1 s2:ZP}(e1:f s=some (.nx s1))(e2:g s1=some (.nx s2)):Zm f (Zm g h) s=h s2:=by
 simp only[Yt,e1,e2,Option.bind_some]
section
variable {s:ZP} {f g:XE} {a b:Int} {C:Int->Int->Prop} [∀i j,Decidable (C i j)] {op:Int->Int->Int}
theorem vC(h1:f s=some (.int a))(h2:g s=some (.int b))(c:C a b):Zi (GK C op) f g s=some (.int (op a b)):=by
 rw[ZA,h1,h2];simp only[Option.bind_some,Ck,if_pos c]
theorem vI(h1:f s=some (.int a))(h2:g s=some (.int b)):Zi (gI op) f g s=some (.int (op a b)):=by
 rw[ZA,h1,h2];rfl
theorem vP(h1:f s=some (.int a)):eP f s=some (.int a):=by
 rw[YZ,h1];rfl
theorem To{v:PV}(h1:f s=some v):ZS f s=some (.rt v):=by
 rw[NH,h1];rfl
end
def sW(ns:List Int)(mo:Nat)(c n:Nat->Int)(x:Nat):Unit:=()
def nL(l:List Nat):List Int:=l.map fun(i:Nat)=>(i:Int)
end PW
namespace PW
def sN:Nat->(Nat->Int)->Int
 | 0,_=>0
 | n+1,f=>sN n f+f n
theorem Zz{f g:Nat->Int}:∀{n:Nat},(∀i,i<n->f i=g i)->sN n f=sN n g
 | 0,_=>rfl
 | n+1,h=>by
  show sN n f+f n=sN n g+g n
  rw[Zz fun i hi=>h i (by omega),h n (by omega)]
theorem RF{f:Nat->Int}{n:Nat}(h:∀i,i<n->f i=0):sN n f=0:=by
 rw[Zz (g:=fun _=>0) h]
 clear h
 induction n with
 | zero=>rfl
 | succ n ih=>show sN n _+0=0;rw[ih];rfl
theorem Wn(f g:Nat->Int):∀n,sN n (fun i=>f i+g i)=sN n f+sN n g
 | 0=>rfl
 | n+1=>by
  show sN n _+(f n+g n)=(sN n f+f n)+(sN n g+g n)
  rw[Wn f g n];omega
theorem Xo(c:Int)(f:Nat->Int):∀n,sN n (fun i=>c*f i)=c*sN n f
 | 0=>by show(0:Int)=c*0;simp
 | n+1=>by
  show sN n _+c*f n=c*(sN n f+f n)
  rw[Xo c f n,Int.mul_add]
theorem Kz(f:Nat->Nat->Int)(m:Nat):∀n,sN n (fun i=>sN m (f i))=sN m (fun j=>sN n fun i=>f i j)
 | 0=>by
  show(0:Int)=sN m fun _=>0
  rw[RF (fun _ _=>rfl)]
 | n+1=>by
  show sN n (fun i=>sN m (f i))+sN m (f n)=sN m (fun j=>(sN n fun i=>f i j)+f n j)
  rw[Wn,Kz f m n]
theorem YL{f:Nat->Int}{k:Nat}:∀{n:Nat},k<n->(∀i,i<n->i≠k->f i=0)->sN n f=f k
 | 0,h,_=>by omega
 | n+1,h,z=>by
  show sN n f+f n=f k
  by_cases q:k=n
  ·subst q
   rw[RF fun i hi=>z i (by omega) (by omega)];omega
  ·rw[YL (n:=n) (by omega) fun i hi=>z i (by omega),z n (by omega) (by omega)];omega
theorem Gh{f:Nat->Int}{k:Nat}:∀{n:Nat},k+1<n->(∀i,i<n->i≠k->i≠k+1->f i=0)->sN n f=f k+f (k+1)
 | 0,h,_=>by omega
 | n+1,h,z=>by
  show sN n f+f n=_
  by_cases q:k+1=n
  ·subst q
   rw[YL (k:=k) (by omega) fun i hi hk=>z i (by omega) hk (by omega)]
  ·rw[Gh (n:=n) (by omega) fun i hi=>z i (by omega),z n (by omega) (by omega) (by omega)];omega
theorem Sj(f:Nat->Int)(n:Nat):((List.range n).map f).sum=sN n f:=by
 induction n with
 | zero=>rfl
 | succ n ih=>rw[List.range_succ,List.map_append,List.sum_append,ih];simp[sN]
abbrev Mt:=Nat->Nat->Int
def Rf(i:Nat)(A:Mt):Mt:=fun r c=>A (if r<i then r else r+1) (c+1)
def sg:Nat->Int
 | 0=>1
 | n+1=>- sg n
def Z4:Nat->Mt->Int
 | 0,_=>1
 | n+1,A=>sN (n+1) fun i=>sg i*A i 0*Z4 n (Rf i A)
theorem Wg(n:Nat)(A:Mt):Z4 (n+1) A=sN (n+1) fun i=>sg i*A i 0*Z4 n (Rf i A):=rfl
theorem Z8:∀{n:Nat}{A B:Mt},(∀r c,r<n->c<n->A r c=B r c)->Z4 n A=Z4 n B
 | 0,_,_,_=>rfl
 | n+1,A,B,h=>by
  rw[Wg,Wg]
  refine Zz fun i hi=>?_
  rw[h i 0 hi (by omega),Z8 (n:=n) (A:=Rf i A) (B:=Rf i B) fun r c hr hc=>?_];unfold Rf
  exact h _ _ (by split<;>omega) (by omega)
theorem KA:∀{n:Nat}{A B C:Mt}{k:Nat}{x y:Int},k<n->(∀r c,r<n->c<n->r≠k->A r c=C r c/\B r c=C r c)->(∀c,c<n->C k c=x*A k c+y*B k c)->Z4 n C=x*Z4 n A+y*Z4 n B
 | 0,_,_,_,k,_,_,h,_,_=>by omega
 | n+1,A,B,C,k,x,y,hk,h1,h2=>by
  rw[Wg,Wg,Wg,<-Xo,<-Xo,<-Wn]
  refine Zz fun i hi=>?_
  by_cases q:i=k
  ·subst q
   have e1:Z4 n (Rf i A)=Z4 n (Rf i C):=Z8 fun r c hr hc=>by
    unfold Rf
    exact(h1 _ _ (by split<;>omega) (by omega) (by split<;>omega)).1
   have e2:Z4 n (Rf i B)=Z4 n (Rf i C):=Z8 fun r c hr hc=>by
    unfold Rf
    exact(h1 _ _ (by split<;>omega) (by omega) (by split<;>omega)).2
   rw[e1,e2,h2 0 (by omega),Int.mul_add,Int.add_mul];simp only[Int.mul_assoc,Int.mul_left_comm]
  ·obtain⟨a1,a2⟩:=h1 i 0 hi (by omega) q
   have e:Z4 n (Rf i C)=x*Z4 n (Rf i A)+y*Z4 n (Rf i B):=KA (k:=if k<i then k else k-1) (by split<;>omega) (fun r c hr hc hrk=>by
    unfold Rf
    exact h1 _ _ (by split<;>omega) (by omega) (by split at hrk<;>split<;>omega)) (fun c hc=>by
    have e:(if(if k<i then k else k-1)<i then(if k<i then k else k-1) else(if k<i then k else k-1)+1)=k:=by split<;>(try split)<;>omega
    unfold Rf;rw[e]
    exact h2 (c+1) (by omega))
   rw[a1,a2,e,Int.mul_add];simp only[Int.mul_assoc,Int.mul_left_comm]
theorem RG:∀{n:Nat}{A:Mt}{k:Nat},k+1<n->(∀c,c<n->A k c=A (k+1) c)->Z4 n A=0
 | 0,_,k,h,_=>by omega
 | n+1,A,k,hk,he=>by
  rw[Wg,Gh hk]
  ·have e:Z4 n (Rf k A)=Z4 n (Rf (k+1) A):=Z8 fun r c hr hc=>by
    unfold Rf
    by_cases q:r<k
    ·rw[if_pos q,if_pos (by omega)]
    ·rw[if_neg q]
     by_cases q2:r=k
     ·subst q2
      rw[if_pos (by omega)]
      exact(he (c+1) (by omega)).symm
     ·rw[if_neg (by omega)]
   rw[e,he 0 (by omega)]
   show sg k*_*_ + - sg k*_*_=0
   rw[Int.neg_mul,Int.neg_mul];omega
  ·intro i hi h1 h2
   rw[RG (n:=n) (A:=Rf i A) (k:=if k+1<i then k else k-1) (by split<;>omega) fun c hc=>?_,Int.mul_zero]
   have e1:(if(if k+1<i then k else k-1)<i then(if k+1<i then k else k-1) else(if k+1<i then k else k-1)+1)=k:=by split<;>(try split)<;>omega
   have e2:(if(if k+1<i then k else k-1)+1<i then(if k+1<i then k else k-1)+1 else(if k+1<i then k else k-1)+1+1)=k+1:=by split<;>(try split)<;>omega
   unfold Rf;rw[e1,e2]
   exact he (c+1) (by omega)
def put(k:Nat)(v:Nat->Int)(A:Mt):Mt:=fun r=>if r=k then v else A r
theorem ZQ(k:Nat)(v:Nat->Int)(A:Mt):put k v A k=v:=by unfold put;rw[if_pos rfl]
theorem Xp{k r:Nat}(v:Nat->Int)(A:Mt)(h:r≠k):put k v A r=A r:=by unfold put;rw[if_neg h]
theorem X7{n k:Nat}{A:Mt}{u v:Nat->Int}{x y:Int}(hk:k<n):Z4 n (put k (fun c=>x*u c+y*v c) A)=x*Z4 n (put k u A)+y*Z4 n (put k v A):=
 KA hk (fun r c _ _ h=>by rw[Xp _ _ h,Xp _ _ h,Xp _ _ h];exact⟨rfl,rfl⟩) (fun c _=>by rw[ZQ,ZQ,ZQ])
def Ar(k:Nat)(A:Mt):Mt:=put k (A (k+1)) (put (k+1) (A k) A)
theorem Eh{n k:Nat}{A:Mt}(hk:k+1<n):Z4 n (Ar k A) = - Z4 n A:=by
 have two:∀u v:Nat->Int,Z4 n (put k (fun c=>1*u c+1*v c) (put (k+1) (fun c=>1*u c+1*v c) A))=0:=fun u v=>RG hk fun c _=>by
  rw[ZQ,Xp _ _ (by omega),ZQ]
 have same:∀u:Nat->Int,Z4 n (put k u (put (k+1) u A))=0:=fun u=>RG hk fun c _=>by
  rw[ZQ,Xp _ _ (by omega),ZQ]
 have comm:∀u v:Nat->Int,put k u (put (k+1) v A)=put (k+1) v (put k u A):=fun u v=>by
  funext r
  unfold put
  by_cases q:r=k
  ·rw[if_pos q,if_neg (by omega),if_pos q]
  ·rw[if_neg q]
   by_cases q2:r=k+1
   ·rw[if_pos q2,if_pos q2]
   ·rw[if_neg q2,if_neg q2,if_neg q]
 have h:=two (A k) (A (k+1))
 rw[X7 (by omega),comm,X7 hk,comm,X7 hk,<-comm,<-comm,<-comm,<-comm,same,same] at h
 have e:put k (A k) (put (k+1) (A (k+1)) A)=A:=by
  funext r
  unfold put
  by_cases q:r=k
  ·rw[if_pos q,q]
  ·rw[if_neg q]
   by_cases q2:r=k+1
   ·rw[if_pos q2,q2]
   ·rw[if_neg q2]
 rw[e] at h;unfold Ar;omega
theorem UD:∀(d:Nat){n i:Nat}{A:Mt},i+1+d<n->(∀c,c<n->A i c=A (i+1+d) c)->Z4 n A=0
 | 0,n,i,A,h,e=>RG h e
 | d+1,n,i,A,h,e=>by
  have h1:Z4 n (Ar (i+1+d) A)=0:=UD d (n:=n) (i:=i) (by omega) fun c hc=>by
   unfold Ar;rw[Xp _ _ (by omega),Xp _ _ (by omega),ZQ]
   exact e c hc
  rw[Eh (by omega)] at h1;omega
theorem UE{n i j:Nat}{A:Mt}(hi:i<n)(hj:j<n)(hij:i≠j)(e:∀c,c<n->A i c=A j c):Z4 n A=0:=by
 rcases Nat.lt_or_gt_of_ne hij with h | h
 ·exact UD (j-i-1) (i:=i) (by omega) fun c hc=>by rw[show i+1+(j-i-1)=j by omega];exact e c hc
 ·exact UD (i-j-1) (i:=j) (by omega) fun c hc=>by rw[show j+1+(i-j-1)=i by omega];exact(e c hc).symm
theorem QG:∀{n:Nat}{A:Mt},(∀c,c<n->A n c=0)->Z4 (n+1) A=A n n*Z4 n A
 | 0,A,_=>by
  show 0+1*A 0 0*1=A 0 0*1
  omega
 | n+1,A,h=>by
  rw[Wg (n+1)]
  show sN (n+1) _+sg (n+1)*A (n+1) 0*_=_
  rw[h 0 (by omega),Int.mul_zero,Int.zero_mul,Int.add_zero,Wg n,<-Xo]
  refine Zz fun i hi=>?_
  rw[QG (n:=n) (A:=Rf i A) fun c hc=>?_]
  ·have e:Rf i A n n=A (n+1) (n+1):=by unfold Rf;rw[if_neg (by omega)]
   rw[e];simp only[Int.mul_assoc,Int.mul_left_comm]
  ·unfold Rf;rw[if_neg (by omega)];exact h (c+1) (by omega)
theorem QH{n j:Nat}{A:Mt}{a:Nat->Int}{v:Nat->Nat->Int}(hj:j<n):∀m,Z4 n (put j (fun c=>sN m fun k=>a k*v k c) A)=sN m fun k=>a k*Z4 n (put j (v k) A)
 | 0=>by
  have:Z4 n (put j (fun c=>0*(0:Int)+0*(0:Int)) A)=0*Z4 n (put j (fun _=>0) A)+0*Z4 n (put j (fun _=>0) A):=X7 (u:=fun _=>0) (v:=fun _=>0) hj
  simp only[Int.zero_mul,Int.add_zero] at this;exact this
 | m+1=>by
  have:=X7 (n:=n) (A:=A) (u:=fun c=>sN m fun k=>a k*v k c) (v:=v m) (x:=1) (y:=a m) hj
  simp only[Int.one_mul] at this
  show Z4 n (put j (fun c=>(sN m fun k=>a k*v k c)+a m*v m c) A)=_
  rw[this,QH hj m];rfl
theorem Ei{n j:Nat}{A:Mt}{a:Nat->Int}(hj:j<n):Z4 n (put j (fun c=>sN n fun k=>a k*A k c) A)=a j*Z4 n A:=by
 rw[QH hj n,YL (k:=j) hj]
 ·have:put j (A j) A=A:=by funext r;unfold put;split<;>simp_all
  rw[this]
 ·intro i hi hij
  rw[UE (i:=i) (j:=j) hi hj hij fun c _=>by rw[Xp _ _ hij,ZQ],Int.mul_zero]
def Ej(n:Nat)(A:Mt)(i j:Nat):Int:=Z4 n (put j (fun c=>if c=i then 1 else 0) A)
theorem Ek{n:Nat}{A:Mt}{j:Nat}(hj:j<n)(v:Nat->Int):sN n (fun i=>v i*Ej n A i j)=Z4 n (put j v A):=by
 unfold Ej;rw[<-QH (v:=fun i c=>if c=i then 1 else 0) hj n]
 refine Z8 fun r c hr hc=>?_
 unfold put
 split
 ·show sN n (fun k=>v k*if c=k then 1 else 0)=v c
  rw[YL (k:=c) hc]
  ·simp
  ·intro i hi hic
   rw[if_neg (fun z=>hic z.symm),Int.mul_zero]
 ·rfl
theorem El{n:Nat}{A:Mt}{k j:Nat}(hk:k<n)(hj:j<n):sN n (fun i=>A k i*Ej n A i j)=if k=j then Z4 n A else 0:=by
 rw[Ek hj]
 split
 ·rename_i h
  subst h
  have:put k (A k) A=A:=by funext r;unfold put;split<;>simp_all
  rw[this]
 ·rename_i h
  exact UE (i:=k) (j:=j) hk hj h fun c _=>by rw[Xp _ _ h,ZQ]
theorem S2{f:Nat->Int}{q:Nat}:∀{m:Nat},q<=m->(∀k,q<=k->k<m->f k=0)->sN m f=sN q f
 | 0,h,_=>by rw[show q=0 by omega]
 | m+1,h,z=>by
  by_cases e:q=m+1
  ·rw[e]
  ·show sN m f+f m=_
   rw[S2 (m:=m) (by omega) (fun k h1 h2=>z k h1 (by omega)),z m (by omega) (by omega)];omega
theorem KC{f:Nat->Int}{q i:Nat}:∀{m:Nat},q<=i->i<m->(∀k,q<=k->k<m->k≠i->f k=0)->sN m f=sN q f+f i
 | 0,_,h,_=>by omega
 | m+1,hq,hi,z=>by
  show sN m f+f m=_
  by_cases e:i=m
  ·subst e
   rw[S2 (q:=q) (by omega) fun k h1 h2=>z k h1 (by omega) (by omega)]
  ·rw[KC (m:=m) hq (by omega) (fun k h1 h2=>z k h1 (by omega)),z m (by omega) (by omega) (fun q=>e q.symm)];omega
def U7(m:Nat)(X:Mt):Nat->Mt×Int
 | 0=>(X,1)
 | p+1=>(fun i j=>if i=p then(U7 m X p).1 i j else((U7 m X p).1 p p*(U7 m X p).1 i j-(U7 m X p).1 i p*(U7 m X p).1 p j).fdiv (U7 m X p).2,(U7 m X p).1 p p)
structure B5(m:Nat)(A X:Mt):Prop where
 sym:∀i j,i<m->j<m->A i j=A j i
 inj:∀p,p<=m->∀z:Nat->Int,(∀j,j<p->sN p (fun k=>z k*A k j)=0)->∀k,k<p->z k=0
 ext:∀i j,i<m->j<m->X i j=A i j
structure AY(m p:Nat)(X:Mt)(E:Mt)(d:Int)(i:Nat)(a:Nat->Int):Prop where
 off:∀k,k<m->p<=k->k≠i->a k=0
 on:p<=i->a i=d
 val:∀j,j<=m->E i j=sN m (fun k=>a k*X k j)
 uni:∀j,j<p->E i j=if i=j then d else 0
structure Cz(m:Nat)(A X:Mt)(p:Nat)(E:Mt)(d:Int):Prop where
 de:d=Z4 p A
 nz:d≠0
 row:∀i,i<m->∃a,AY m p X E d i a
theorem QI{m:Nat}{A X:Mt}{p:Nat}{E:Mt}{d:Int}(ok:B5 m A X)(hp:p<m)(I:Cz m A X p E d) :
  Cz m A X (p+1) (fun i j=>if i=p then E i j else(E p p*E i j-E i p*E p j).fdiv d) (E p p)/\∀i j,i<m->j<=m->i≠p->∃q,E p p*E i j-E i p*E p j=d*q:=by
 obtain⟨ap,Rp⟩:=I.row p hp
 have hd:=I.nz
 -- the pivot's row
 have rowp:∀j,j<m->E p j=sN (p+1) (fun k=>ap k*A k j):=fun j hj=>by
  rw[Rp.val j (by omega),S2 (q:=p+1) (by omega) fun k h1 h2=>by rw[Rp.off k h2 (by omega) (by omega),Int.zero_mul]]
  exact Zz fun k hk=>by rw[ok.ext k j (by omega) hj]
 have pd:E p p=Z4 (p+1) A:=by
  have h1:=Ei (n:=p+1) (j:=p) (A:=A) (a:=ap) (by omega)
  have h2:=QG (n:=p) (A:=put p (fun c=>sN (p+1) fun k=>ap k*A k c) A) fun c hc=>by
   rw[ZQ]
   show sN (p+1) (fun k=>ap k*A k c)=0
   rw[<-rowp c (by omega),Rp.uni c hc,if_neg (by omega)]
  have h3:Z4 p (put p (fun c=>sN (p+1) fun k=>ap k*A k c) A)=Z4 p A:=Z8 fun r c hr hc=>by rw[Xp _ _ (by omega)]
  rw[ZQ,h3,h1,Rp.on (Nat.le_refl p),<-I.de] at h2
  have h4:d*Z4 (p+1) A=E p p*d:=by
   rw[h2]
   show sN (p+1) (fun k=>ap k*A k p)*d=_
   rw[<-rowp p hp]
  have h5:d*(Z4 (p+1) A)=d*E p p:=by rw[h4,Int.mul_comm]
  exact(Int.eq_of_mul_eq_mul_left hd h5).symm
 have pz:E p p≠0:=fun z=>by
  have:=ok.inj (p+1) (by omega) ap (fun j hj=>by
   rw[<-rowp j (by omega)]
   by_cases q:j=p
   ·rw[q];exact z
   ·rw[Rp.uni j (by omega),if_neg (by omega)]) p (by omega)
  rw[Rp.on (Nat.le_refl p)] at this
  exact hd this
 -- the other rows
 have other:∀i,i<m->i≠p->∃b:Nat->Int,(∀k,k<m->p+1<=k->k≠i->b k=0)/\(p+1<=i->b i=E p p)/\(∀l,l<p+1->sN m (fun k=>b k*A k l)=if i=l then E p p else 0)/\∀j,j<=m->E p p*E i j-E i p*E p j=d*sN m (fun k=>b k*X k j):=by
  intro i hi hip
  obtain⟨b,b1,b2,b3⟩:∃b:Nat->Int,(∀k,k<m->p+1<=k->k≠i->b k=0)/\(p+1<=i->b i=E p p)/\(∀l,l<p+1->sN m (fun k=>b k*A k l)=if i=l then E p p else 0):=by
   have cm:∀j l,j<p+1->l<p+1->sN (p+1) (fun k=>Ej (p+1) A k j*A k l)=if l=j then E p p else 0:=fun j l hj hl=>by
    rw[pd,<-El (A:=A) hl hj]
    exact Zz fun k hk=>by rw[ok.sym l k (by omega) (by omega),Int.mul_comm]
   by_cases q:i<p
   ·obtain⟨b,hb⟩:∃b:Nat->Int,∀k,b k=if k<p+1 then Ej (p+1) A k i else 0:=⟨_,fun _=>rfl⟩
    refine⟨b,fun k hk h1 _=>by rw[hb,if_neg (by omega)],fun h=>by omega,fun l hl=>?_⟩
    rw[S2 (q:=p+1) (by omega) fun k h1 h2=>by rw[hb,if_neg (by omega),Int.zero_mul]]
    rw[Zz (g:=fun k=>Ej (p+1) A k i*A k l) fun k hk=>by rw[hb,if_pos hk],cm i l (by omega) hl]
    by_cases e:i=l
    ·rw[if_pos e,if_pos e.symm]
    ·rw[if_neg e,if_neg (fun z=>e z.symm)]
   ·obtain⟨b,hb⟩:∃b:Nat->Int,∀k,b k=if k<p+1 then-sN (p+1) (fun j=>A i j*Ej (p+1) A k j) else if k=i then E p p else 0:=⟨_,fun _=>rfl⟩
    have hbi:b i=E p p:=by rw[hb,if_neg (by omega),if_pos rfl]
    refine⟨b,fun k hk h1 h2=>by rw[hb,if_neg (by omega),if_neg h2],fun h=>hbi,fun l hl=>?_⟩
    rw[KC (q:=p+1) (i:=i) (by omega) hi fun k h1 h2 h3=>by rw[hb,if_neg (by omega),if_neg h3,Int.zero_mul]]
    rw[hbi,if_neg (show ¬i=l by omega)]
    have e1:sN (p+1) (fun k=>b k*A k l)=sN (p+1) (fun k=>(-1)*sN (p+1) (fun j=>A i j*(Ej (p+1) A k j*A k l))):=Zz fun k hk=>by
     rw[hb,if_pos hk,Int.neg_mul,Int.mul_comm _ (A k l),<-Xo,Int.neg_mul,Int.one_mul]
     congr 1
     exact Zz fun j _=>by rw[Int.mul_comm (A k l),Int.mul_assoc]
    rw[e1,Xo,Kz]
    have e2:(sN (p+1) fun j=>sN (p+1) fun k=>A i j*(Ej (p+1) A k j*A k l))=A i l*E p p:=by
     rw[Zz (g:=fun j=>A i j*(if l=j then E p p else 0)) fun j hj=>by rw[Xo,cm j l hj hl]]
     rw[YL (k:=l) hl fun j _ hjl=>by rw[if_neg (fun z=>hjl z.symm),Int.mul_zero],if_pos rfl]
    rw[e2,Int.mul_comm (E p p)];omega
  refine⟨b,b1,b2,b3,?_⟩
  obtain⟨ai,Ri⟩:=I.row i hi
  have hw:∀k,k<m->E p p*ai k-E i p*ap k-d*b k=0:=by
   have hi2:∀k,k<m->p+1<=k->E p p*ai k-E i p*ap k-d*b k=0:=fun k hk h1=>by
    have zp:=Rp.off k hk (by omega) (by omega)
    by_cases q:k=i
    ·subst q
     rw[Ri.on (by omega),zp,b2 h1,Int.mul_comm d];omega
    ·rw[Ri.off k hk (by omega) q,zp,b1 k hk h1 q];omega
   intro k hk
   by_cases q:k<p+1
   ·refine ok.inj (p+1) (by omega) (fun k=>E p p*ai k-E i p*ap k-d*b k) (fun l hl=>?_) k q
    rw[<-S2 (q:=p+1) (m:=m) (by omega) fun k h1 h2=>by rw[hi2 k h2 h1,Int.zero_mul]]
    have e1:sN m (fun k=>(E p p*ai k-E i p*ap k-d*b k)*A k l)=E p p*sN m (fun k=>ai k*A k l)+((- E i p)*sN m (fun k=>ap k*A k l)+(- d)*sN m (fun k=>b k*A k l)):=by
     rw[<-Xo,<-Xo,<-Xo,<-Wn,<-Wn]
     exact Zz fun k _=>by
      rw[Int.sub_mul,Int.sub_mul];simp only[Int.mul_assoc,Int.neg_mul];omega
    have eX:∀a:Nat->Int,sN m (fun k=>a k*X k l)=sN m (fun k=>a k*A k l):=fun a=>Zz fun k hk=>by rw[ok.ext k l hk (by omega)]
    rw[e1,b3 l hl,<-eX,<-eX,<-Ri.val l (by omega),<-Rp.val l (by omega)]
    by_cases q2:l=p
    ·subst q2
     rw[if_neg hip,Int.mul_comm (E l l),Int.neg_mul];omega
    ·rw[Ri.uni l (by omega),Rp.uni l (by omega),if_neg (show ¬p=l by omega)]
     by_cases q3:i=l
     ·rw[if_pos q3,if_pos q3,Int.neg_mul d,Int.mul_comm d];omega
     ·rw[if_neg q3,if_neg q3];omega
   ·exact hi2 k hk (by omega)
  intro j hj;rw[Ri.val j hj,Rp.val j hj,<-Xo,<-Xo,<-Xo]
  have:sN m (fun k=>E p p*(ai k*X k j))=sN m (fun k=>d*(b k*X k j))+sN m (fun k=>E i p*(ap k*X k j)):=by
   rw[<-Wn]
   refine Zz fun k hk=>?_
   have:=hw k hk
   rw[<-Int.mul_assoc,<-Int.mul_assoc,<-Int.mul_assoc,<-Int.add_mul]
   congr 1
   omega
  omega
 refine⟨⟨pd,pz,fun i hi=>?_⟩,fun i j hi hj hip=>?_⟩
 ·by_cases hip:i=p
  ·subst hip
   refine⟨ap,fun k hk h1 h2=>Rp.off k hk (by omega) h2,fun h=>by omega,fun j hj=>by rw[if_pos rfl];exact Rp.val j hj,fun j hj=>?_⟩
   rw[if_pos rfl]
   by_cases q:i=j
   ·subst q;rw[if_pos rfl]
   ·rw[if_neg q,Rp.uni j (by omega),if_neg q]
  ·obtain⟨b,b1,b2,b3,b4⟩:=other i hi hip
   have hv:∀j,j<=m->(E p p*E i j-E i p*E p j).fdiv d=sN m (fun k=>b k*X k j):=fun j hj=>by rw[b4 j hj,Int.mul_fdiv_cancel_left _ hd]
   refine⟨b,b1,b2,fun j hj=>by rw[if_neg hip];exact hv j hj,fun j hj=>?_⟩
   rw[if_neg hip,hv j (by omega),<-b3 j hj]
   exact Zz fun k hk=>by rw[ok.ext k j hk (by omega)]
 ·obtain⟨b,b1,b2,b3,b4⟩:=other i hi hip
  exact⟨_,b4 j hj⟩
theorem UY{m:Nat}{A X:Mt}(ok:B5 m A X):∀{p:Nat},p<=m->Cz m A X p (U7 m X p).1 (U7 m X p).2
 | 0,_=>⟨rfl,(show(1:Int)≠0 by decide),fun i hi=>⟨fun k=>if k=i then 1 else 0,fun k _ _ h=>if_neg h,fun _=>if_pos rfl,fun j hj=>by
   rw[YL (k:=i) hi fun k _ hk=>by rw[if_neg hk,Int.zero_mul],if_pos rfl,Int.one_mul];rfl,fun j hj=>by omega⟩⟩
 | p+1,h=>(QI ok (by omega) (UY ok (p:=p) (by omega))).1
open L2 VL
theorem Gi{z:Int}(h:z.natAbs<2^1000):z.natAbs.log2<1000:=by
 by_cases h0:z.natAbs=0
 ·rw[h0];decide +kernel
 ·exact(Nat.log2_lt h0).mpr h
theorem KD{a b:Int}(h:a.natAbs<2^1000)(h':b.natAbs<2^1000):CMulW a b:=⟨by have:=Gi h;omega,by have:=Gi h';omega⟩
theorem Em{a b:Int}(h0:b≠0)(h:b.natAbs<2^1000):PH a b:=⟨h0,by have:=Gi h;omega⟩
def Mb:Nat->Nat
 | 0=>2^7
 | p+1=>2*Mb p*Mb p
def Nb:Nat->Nat
 | 0=>2^208
 | p+1=>2*Mb p*Nb p
theorem AZ{p:Nat}(h:p<=6):Mb p<2^1000:=by
 have:p=0\/p=1\/p=2\/p=3\/p=4\/p=5\/p=6:=by omega
 rcases this with rfl | rfl | rfl | rfl | rfl | rfl | rfl<;>decide +kernel
theorem A0{p:Nat}(h:p<=6):Nb p<2^1000:=by
 have:p=0\/p=1\/p=2\/p=3\/p=4\/p=5\/p=6:=by omega
 rcases this with rfl | rfl | rfl | rfl | rfl | rfl | rfl<;>decide +kernel
theorem KG{a b c d:Int}{M N:Nat}(ha:a.natAbs<=M)(hb:b.natAbs<=N)(hc:c.natAbs<=M)(hd:d.natAbs<=N):(a*b-c*d).natAbs<=2*M*N:=by
 have h1:(a*b).natAbs<=M*N:=by rw[Int.natAbs_mul];exact Nat.mul_le_mul ha hb
 have h2:(c*d).natAbs<=M*N:=by rw[Int.natAbs_mul];exact Nat.mul_le_mul hc hd
 have h3:(a*b-c*d).natAbs<=(a*b).natAbs+(c*d).natAbs:=by omega
 have h4:2*M*N=M*N+M*N:=by rw[Nat.mul_assoc];omega
 omega
theorem Mg{x d q:Int}(hd:d≠0)(e:x=d*q):(x.fdiv d).natAbs<=x.natAbs:=by
 rw[e,Int.mul_fdiv_cancel_left _ hd,Int.natAbs_mul]
 have:1<=d.natAbs:=by omega
 calc q.natAbs=1*q.natAbs:=by omega
  _<=d.natAbs*q.natAbs:=Nat.mul_le_mul_right _ this
theorem En(p:Nat):Mb p<=Mb (p+1):=by
 have h:∀p,1<=Mb p:=fun p=>by
  induction p with
  | zero=>decide
  | succ p ih=>show 1<=2*Mb p*Mb p;exact Nat.mul_le_mul (show 1<=2*Mb p by omega) ih
 show Mb p<=2*Mb p*Mb p
 calc Mb p=1*Mb p:=by omega
  _<=2*Mb p*Mb p:=Nat.mul_le_mul_right _ (by have:=h p;omega)
theorem Eo(p:Nat):Nb p<=Nb (p+1):=by
 have h:∀p,1<=Mb p:=fun p=>by
  induction p with
  | zero=>decide
  | succ p ih=>show 1<=2*Mb p*Mb p;exact Nat.mul_le_mul (show 1<=2*Mb p by omega) ih
 show Nb p<=2*Mb p*Nb p
 calc Nb p=1*Nb p:=by omega
  _<=2*Mb p*Nb p:=Nat.mul_le_mul_right _ (by have:=h p;omega)
theorem PM{m:Nat}{A X:Mt}(ok:B5 m A X)(h0:∀i j,i<m->j<m->(X i j).natAbs<=2^7)(h1:∀i,i<m->(X i m).natAbs<=2^208):∀{p:Nat},p<=m->(∀i j,i<m->j<m->((U7 m X p).1 i j).natAbs<=Mb p)/\∀i,i<m->((U7 m X p).1 i m).natAbs<=Nb p
 | 0,_=>⟨h0,h1⟩
 | p+1,hp=>by
  obtain⟨b1,b2⟩:=PM ok h0 h1 (p:=p) (by omega)
  have I:=UY ok (p:=p) (by omega)
  have ex:=(QI ok (by omega) I).2
  refine⟨fun i j hi hj=>?_,fun i hi=>?_⟩
  ·show(if i=p then(U7 m X p).1 i j else _).natAbs<=_
   split
   ·exact Nat.le_trans (b1 i j hi hj) (En p)
   ·rename_i hip
    obtain⟨q,e⟩:=ex i j hi (by omega) hip
    exact Nat.le_trans (Mg I.nz e) (KG (b1 p p (by omega) (by omega)) (b1 i j hi hj) (b1 i p hi (by omega)) (b1 p j (by omega) hj))
  ·show(if i=p then(U7 m X p).1 i m else _).natAbs<=_
   split
   ·exact Nat.le_trans (b2 i hi) (Eo p)
   ·rename_i hip
    obtain⟨q,e⟩:=ex i m hi (by omega) hip
    exact Nat.le_trans (Mg I.nz e) (KG (b1 p p (by omega) (by omega)) (b2 i hi) (b1 i p hi (by omega)) (b2 p (by omega)))
def YM(w:Nat)(f:Nat->Int):List Int:=(List.range w).map f
theorem Tp(w:Nat)(f:Nat->Int):(YM w f).length=w:=by simp[YM]
theorem OR{w:Nat}{f:Nat->Int}{j:Nat}(h:j<w):YE (YM w f) j=f j:=QX h
theorem B6{l:List Int}:(Option.bind ((Option.bind (some (PV.lst (iL l))) fun x=>(Td [] s).map (x::·)).bind WE) fun l=>if ZT l=true then some l else none)=some (pP l):=by
 show(if ZT (pP l)=true then some (pP l) else none)=_
 rw[if_pos (by simp)]
theorem Lu{w p:Nat}{f g:Nat->Int}{d:Int}(hw:w<=100)(hp:p<w)(hf:∀j,j<w->(f j).natAbs<2^1000)(hg:∀j,j<w->(g j).natAbs<2^1000)(hd:d≠0)(hdb:d.natAbs<2^1000) :
  XB [pP (YM w f),pP (YM w g),.int (p:Int),.int d]=some (pP (YM w fun j=>(g p*f j-f p*g j).fdiv d)):=by
 have hz:QZ (iL (YM w f)) (iL (YM w g))=(List.range w).map fun(j:Nat)=>.tup [.int (f j),.int (g j)]:=by
  rw[M1 _ _ (by simp[Tp]),List.length_map,Tp]
  apply List.map_congr_left
  intro i hi;have hi:=List.mem_range.mp hi
  rw[Kl _ i (by rw[Tp];exact hi),Kl _ i (by rw[Tp];exact hi),OR hi,OR hi]
 have hx:Hb false false [Za 0,Za 1] [some (pP (YM w f)),some (pP (YM w g)),some (.int (p:Int)),some (.int d)]=some ((List.range w).map fun(j:Nat)=>.tup [.int (f j),.int (g j)]):=by
  show some (QZ (iL (YM w f)) (iL (YM w g)))=_
  rw[hz]
 have hc:ZG 2 [3,1,2,0] (Hb false false [(Za 0),(Za 1)]) (.many [0,1]) ZW (Zi Hu (Zi YQ (Zi NL (Zi ZK (Za 3) (Za 4)) (Za 0)) (Zi NL (Zi ZK (Za 5) (Za 4)) (Za 1))) (Za 2)) [some (pP (YM w f)),some (pP (YM w g)),some (.int (p:Int)),some (.int d)]=some (.lst (iL (YM w fun j=>(g p*f j-f p*g j).fdiv d))):=by
  rw[YB (List.range w) (fun(j:Nat)=>.tup [.int (f j),.int (g j)]) (fun j=>.int ((g p*f j-f p*g j).fdiv d)) hx (by simp;omega) (fun j hj=>⟨[some (.int (f j)),some (.int (g j)),some (.int d),some (pP (YM w g)),some (.int (p:Int)),some (pP (YM w f))],rfl,rfl,?_⟩)]
  ·simp[YM]
  ·have hj:=List.mem_range.mp hj
   have i1:=VQ (l:=YM w g) (k:=p) (by rw[Tp];exact hp)
   have i2:=VQ (l:=YM w f) (k:=p) (by rw[Tp];exact hp)
   rw[OR hp] at i1 i2
   exact(vC (C:=PH) (op:=Int.fdiv) (vI (vC (C:=CMulW) (op:=(· * ·)) (a:=g p) (b:=f j) i1 rfl (KD (hg p hp) (hf j hj))) (vC (C:=CMulW) (op:=(· * ·)) (a:=f p) (b:=g j) i2 rfl (KD (hf p hp) (hg j hj)))) rfl (Em hd hdb))
 show Xl 4 UU _=_
 unfold UU
 show(ZS _ [some (pP (YM w f)),some (pP (YM w g)),some (.int (p:Int)),some (.int d)]).bind Xw=_
 rw[To (v:=pP (YM w fun j=>(g p*f j-f p*g j).fdiv d)) (by rw[YZ,Yg,ZH,hc];exact B6)]
 rfl
def WQ(m w:Nat)(E:Mt):List (List Int):=(List.range m).map fun i=>YM w (E i)
theorem Ep(m w:Nat)(E:Mt):(WQ m w E).length=m:=by simp[WQ]
def tL(M:List (List Int)):List PV:=M.map pP
theorem Lv(m w:Nat)(E:Mt):tL (WQ m w E)=(List.range m).map fun i=>pP (YM w (E i)):=by
 unfold tL WQ;rw[List.map_map];rfl
theorem Lw(m w:Nat)(E:Mt):(tL (WQ m w E)).length=m:=by simp[tL,Ep]
theorem Gj{m w:Nat}{E:Mt}{i:Nat}(h:i<m):(tL (WQ m w E))[i]?=some (pP (YM w (E i))):=by
 rw[Lv,List.getElem?_map,List.getElem?_range h];rfl
theorem KH(M:List (List Int)):ZE (tL M)=true:=NI M
theorem J5{m w:Nat}{A X:Mt}(hm:m<=6)(hw:m<=w)(hw1:w<=m+1)(ok:B5 m A X)(h0:∀i j,i<m->j<m->(X i j).natAbs<=2^7)(h1:∀i,i<m->(X i m).natAbs<=2^208){R:PV}(hR:R = .lst (tL (WQ m w X))\/R = .tup (tL (WQ m w X))) :
  Vr [R]=some (.tup [.int (U7 m X m).2,.lst (tL (WQ m w (U7 m X m).1))]):=by
 have bd:∀{p:Nat},p<=m->∀i j,i<m->j<m+1->((U7 m X p).1 i j).natAbs<2^1000:=fun{p} hp i j hi hj=>by
  obtain⟨b1,b2⟩:=PM ok h0 h1 hp
  by_cases q:j<m
  ·exact Nat.lt_of_le_of_lt (b1 i j hi q) (AZ (by omega))
  ·rw[show j=m by omega];exact Nat.lt_of_le_of_lt (b2 i hi) (A0 (by omega))
 have db:∀{p:Nat},p<=m->(U7 m X p).2.natAbs<2^1000:=fun{p} hp=>by
  cases p with
  | zero=>show(1:Int).natAbs<_;decide +kernel
  | succ p=>exact bd (p:=p) (by omega) p p (by omega) (by omega)
 let st:Nat->Option PV->Option PV->ZP:=fun p x3 x4=>[some R,some (.lst (tL (WQ m w (U7 m X p).1))),some (.int (U7 m X p).2),x3,x4]
 have e1:Zn 1 (Ze Y3 [(Za 0)]) [some R,none,none,none,none]=some (.nx [some R,some (.lst (tL (WQ m w X))),none,none,none]):=by
  have:Ze Y3 [(Za 0)] [some R,none,none,none,none]=some (.lst (tL (WQ m w X))):=by
   show Y3 [R]=_
   rcases hR with rfl | rfl
   ·rw[Hq,if_pos (KH _)]
   ·rw[NJ,if_pos (KH _)]
  rw[Zt,this];rfl
 have e2:Zn 2 (eP (eC (.int 1))) [some R,some (.lst (tL (WQ m w X))),none,none,none]=some (.nx (st 0 none none)):=by
  rw[Zt,vP (a:=1) rfl];rfl
 let fb:XS:=(Zm (Zn 4 (eP (Zi ZK (Za 1) (Za 3))))
  (Zm (Zn 1 (ZG 2 [3,4,2] (U6 true [(Za 1)]) (.many [0,1]) ZW (eP (O1 (xB (Zi (YJ false) (Za 0) (Za 2))) (Za 1) (Ze XB [(Za 1),(Za 3),(Za 2),(Za 4)])))))
  (Zn 2 (eP (Zi ZK (Za 4) (Za 3))))))
 obtain⟨s',f1,x3,x4,hs⟩:=ZU (T:=.one 3) (fb:=fb) (ls:=Wl m) (s:=st 0 none none) (fun p s=>∃x3 x4,s=st p x3 x4) ⟨none,none,rfl⟩ (by
  rintro p l s hl ⟨x3,x4,rfl⟩
  obtain⟨hp,rfl⟩:=Vp hl
  generalize hE:(U7 m X p).1=E
  generalize hd:(U7 m X p).2=d
  have I:=UY ok (p:=p) (by omega)
  have bE:∀i j,i<m->j<w->(E i j).natAbs<2^1000:=by rw[<-hE];exact fun i j hi hj=>bd (by omega) i j hi (by omega)
  have bD:d.natAbs<2^1000:=by rw[<-hd];exact db (by omega)
  rw[hE,hd] at I
  let E':Mt:=fun i j=>if i=p then E i j else(E p p*E i j-E i p*E p j).fdiv d
  have hs1:(U7 m X (p+1)).1=E':=by
   show(fun i j=>if i=p then(U7 m X p).1 i j else((U7 m X p).1 p p*(U7 m X p).1 i j-(U7 m X p).1 i p*(U7 m X p).1 p j).fdiv (U7 m X p).2)=E'
   rw[hE,hd]
  have hs2:(U7 m X (p+1)).2=E p p:=by rw[<-hE];rfl
  have q0:st p (some (.int (p:Int))) x4=[some R,some (.lst (tL (WQ m w E))),some (.int d),some (.int (p:Int)),x4]:=by rw[<-hE,<-hd]
  have q1:Zn 4 (eP (Zi ZK (Za 1) (Za 3))) [some R,some (.lst (tL (WQ m w E))),some (.int d),some (.int (p:Int)),x4]=some (.nx [some R,some (.lst (tL (WQ m w E))),some (.int d),some (.int (p:Int)),some (pP (YM w (E p)))]):=by
   have:Ub (tL (WQ m w E)) (p:Int)=some (pP (YM w (E p))):=VD (Gj hp)
   have:eP (Zi ZK (Za 1) (Za 3)) [some R,some (.lst (tL (WQ m w E))),some (.int d),some (.int (p:Int)),x4]=some (pP (YM w (E p))):=by
    show(Option.bind (Ub (tL (WQ m w E)) (p:Int)) fun l=>if ZT l=true then some l else none)=_
    rw[this]
    show(if ZT (pP (YM w (E p)))=true then _ else _)=_
    rw[if_pos (by simp)]
   rw[Zt,this];rfl
  have q2:Zn 1 (ZG 2 [3,4,2] (U6 true [(Za 1)]) (.many [0,1]) ZW (eP (O1 (xB (Zi (YJ false) (Za 0) (Za 2))) (Za 1) (Ze XB [(Za 1),(Za 3),(Za 2),(Za 4)])))) [some R,some (.lst (tL (WQ m w E))),some (.int d),some (.int (p:Int)),some (pP (YM w (E p)))]=some (.nx [some R,some (.lst (tL (WQ m w E'))),some (.int d),some (.int (p:Int)),some (pP (YM w (E p)))]):=by
   have hx:U6 true [Za 1] [some R,some (.lst (tL (WQ m w E))),some (.int d),some (.int (p:Int)),some (pP (YM w (E p)))]=some ((List.range m).map fun(i:Nat)=>.tup [.int (i:Int),pP (YM w (E i))]):=by
    show some (Vo (tL (WQ m w E)))=_
    rw[Ra,Lw]
    congr 1
    apply List.map_congr_left
    intro i hi;have hi:=List.mem_range.mp hi
    rw[List.getD_eq_getElem?_getD,Gj hi];rfl
   have hc:ZG 2 [3,4,2] (U6 true [(Za 1)]) (.many [0,1]) ZW (eP (O1 (xB (Zi (YJ false) (Za 0) (Za 2))) (Za 1) (Ze XB [(Za 1),(Za 3),(Za 2),(Za 4)]))) [some R,some (.lst (tL (WQ m w E))),some (.int d),some (.int (p:Int)),some (pP (YM w (E p)))]=some (.lst (tL (WQ m w E'))):=by
    rw[YB (List.range m) (fun(i:Nat)=>.tup [.int (i:Int),pP (YM w (E i))]) (fun i=>pP (YM w (E' i))) hx (by simp;omega) (fun i hi=>⟨[some (.int (i:Int)),some (pP (YM w (E i))),some (.int (p:Int)),some (pP (YM w (E p))),some (.int d)],rfl,rfl,?_⟩),Lv]
    have hi:=List.mem_range.mp hi
    have ev:O1 (xB (Zi (YJ false) (Za 0) (Za 2))) (Za 1) (Ze XB [(Za 1),(Za 3),(Za 2),(Za 4)]) [some (.int (i:Int)),some (pP (YM w (E i))),some (.int (p:Int)),some (pP (YM w (E p))),some (.int d)]=some (pP (YM w (E' i))):=by
     by_cases q:i=p
     ·have t:xB (Zi (YJ false) (Za 0) (Za 2)) [some (.int (i:Int)),some (pP (YM w (E i))),some (.int (p:Int)),some (pP (YM w (E p))),some (.int d)]=some true:=by simp[q]
      rw[T2,t]
      have:E' i=E i:=by funext j;show(if i=p then _ else _)=_;rw[if_pos q]
      rw[this];rfl
     ·have q':¬(i:Int)=(p:Int):=by omega
      have t:xB (Zi (YJ false) (Za 0) (Za 2)) [some (.int (i:Int)),some (pP (YM w (E i))),some (.int (p:Int)),some (pP (YM w (E p))),some (.int d)]=some false:=by simp[q']
      rw[T2,t]
      have:E' i=fun j=>(E p p*E i j-E i p*E p j).fdiv d:=by funext j;show(if i=p then _ else _)=_;rw[if_neg q]
      rw[this]
      exact Lu (f:=E i) (g:=E p) (by omega) (by omega) (fun j hj=>bE i j hi hj) (fun j hj=>bE p j hp hj) I.nz bD
    rw[YZ,ev]
    show(if ZT (pP (YM w (E' i)))=true then _ else _)=_
    rw[if_pos (by simp)]
   rw[Zt,hc];rfl
  have q3:Zn 2 (eP (Zi ZK (Za 4) (Za 3))) [some R,some (.lst (tL (WQ m w E'))),some (.int d),some (.int (p:Int)),some (pP (YM w (E p)))]=some (.nx [some R,some (.lst (tL (WQ m w E'))),some (.int (E p p)),some (.int (p:Int)),some (pP (YM w (E p)))]):=by
   have:=VQ (l:=YM w (E p)) (k:=p) (by rw[Tp];omega)
   rw[OR (by omega)] at this
   rw[Zt,vP (a:=E p p) this];rfl
  refine⟨st p (some (.int (p:Int))) x4,st (p+1) (some (.int (p:Int))) (some (pP (YM w (E p)))),rfl,?_,_,_,rfl⟩
  rw[q0]
  show Zm _ _ _=_
  rw[Yi q1,Yi q2,q3]
  show _=some (Out.nx [some R,some (.lst (tL (WQ m w (U7 m X (p+1)).1))),some (.int (U7 m X (p+1)).2),_,_])
  rw[hs1,hs2])
 subst hs;rw[Ut] at f1
 have e3:Yp [1] (Z5 [(Ze ZF [(Za 0)])]) (.one 3) fb (st 0 none none)=some (.nx (st m x3 x4)):=by
  show(Z5 [(Ze ZF [(Za 0)])] (ZJ [1] (st 0 none none))).bind _=_
  have:Ze ZF [(Za 0)] (ZJ [1] (st 0 none none))=some (.int (m:Int)):=by
   rcases hR with rfl | rfl
   ·show some (PV.int ((tL (WQ m w X)).length:Int))=_
    rw[Lw]
   ·show some (PV.int ((tL (WQ m w X)).length:Int))=_
    rw[Lw]
  rw[Y2 (n:=m) this (by omega)];exact f1
 show Xl 5 T9 _=_
 unfold T9
 show(Zm _ _ [some R,none,none,none,none]).bind Xw=_
 rw[Yi e1,Yi e2,Yi e3];rfl
def Vj(b i:Nat):Nat:=if i<b then i else i+1
def CA(b h:Nat):Nat:=if h<b then h else h-1
theorem CB(b i:Nat):Vj b i≠b:=by unfold Vj;split<;>omega
theorem UG{b i m:Nat}(h:i<m):Vj b i<m+1:=by unfold Vj;split<;>omega
theorem Er(b i:Nat):CA b (Vj b i)=i:=by unfold CA Vj;split<;>(try split)<;>omega
theorem Es{b h:Nat}(q:h≠b):Vj b (CA b h)=h:=by unfold CA Vj;split<;>(try split)<;>omega
theorem Mh{n b:Nat}(hn:n<=7)(hb:b<n):(List.range n).filter (fun h=>!decide (h=b))=(List.range (n-1)).map (Vj b):=by
 have:∀n,n<8->∀b,b<8->b<n->(List.range n).filter (fun h=>!decide (h=b))=(List.range (n-1)).map (Vj b):=by decide
 exact this n (by omega) b (by omega) hb
theorem Gk{f:Nat->Int}{b:Nat}(h0:f b=0):∀{m:Nat},b<m+1->sN (m+1) f=sN m (fun i=>f (Vj b i))
 | 0,h=>by
  have:b=0:=by omega
  subst this
  show 0+f 0=0
  rw[h0];rfl
 | m+1,h=>by
  by_cases q:b=m+1
  ·subst q
   show sN (m+1) f+f (m+1)=_
   rw[h0,Int.add_zero]
   exact Zz fun i hi=>by unfold Vj;rw[if_pos hi]
  ·show sN (m+1) f+f (m+1)=sN m (fun i=>f (Vj b i))+f (Vj b m)
   rw[Gk h0 (m:=m) (by omega),show Vj b m=m+1 by unfold Vj;rw[if_neg (by omega)]]
theorem Rg{f:Nat->Int}:∀{n:Nat},(∀i,i<n->0<=f i)->sN n f<=0->∀i,i<n->f i=0
 | 0,_,_,i,h=>by omega
 | n+1,h,s,i,hi=>by
  have s:sN n f+f n<=0:=s
  have h1:0<=sN n f:=by
   have:∀k,k<=n->0<=sN k f:=by
    intro k
    induction k with
    | zero=>intro _;exact Int.le_refl 0
    | succ k ih=>intro hk;have:=ih (by omega);have:=h k (by omega);show 0<=sN k f+f k;omega
   exact this n (Nat.le_refl n)
  have h2:=h n (by omega)
  by_cases q:i=n
  ·subst q;omega
  ·exact Rg (n:=n) (fun i hi=>h i (by omega)) (by omega) i (by omega)
theorem Mi(Y:Nat->Int):∀{n:Nat},0<n->∃h,h<n/\∀g,g<n->Y h<=Y g
 | 0,h=>by omega
 | 1,_=>⟨0,by omega,fun g hg=>by rw[show g=0 by omega];exact Int.le_refl _⟩
 | n+2,_=>by
  obtain⟨h,h1,h2⟩:=Mi Y (n:=n+1) (by omega)
  by_cases q:Y h<=Y (n+1)
  ·exact⟨h,by omega,fun g hg=>by
    by_cases e:g=n+1
    ·rw[e];exact q
    ·exact h2 g (by omega)⟩
  ·exact⟨n+1,by omega,fun g hg=>by
    by_cases e:g=n+1
    ·rw[e];exact Int.le_refl _
    ·have:=h2 g (by omega);omega⟩
def gN(W:List (List Int))(Y:Nat->Int)(h:Nat):Int:=sN W.length (fun g=>Z2 W h g*(Y g-Y h))
theorem CC{W:List (List Int)}(c:Int)(Y:Nat->Int)(h:Nat):gN W (fun x=>c*Y x) h=c*gN W Y h:=by
 unfold gN;rw[<-Xo]
 exact Zz fun g _=>by
  show Z2 W h g*(c*Y g-c*Y h)=_
  rw[<-Int.mul_sub,Int.mul_left_comm]
def Wh(W:List (List Int))(b:Nat):Mt:=fun i j=>if Vj b j=Vj b i then(ZD W (Vj b i)).sum else-Z2 W (Vj b i) (Vj b j)
def Mj(W:List (List Int))(b:Nat)(c:Nat->Int):Mt:=fun i j=>if j<W.length-1 then Wh W b i j else c (Vj b i)
end PW
namespace PW
theorem Wi(k:Nat)(A:Mt):put k (A k) A=A:=by funext r;unfold put;split<;>simp_all
theorem V3{n k:Nat}{A:Mt}{u v:Nat->Int}(hk:k<n):Z4 n (put k (fun c=>u c+v c) A)=Z4 n (put k u A)+Z4 n (put k v A):=by
 have:=X7 (n:=n) (A:=A) (u:=u) (v:=v) (x:=1) (y:=1) hk
 simpa using this
theorem KI{n k:Nat}{A:Mt}{u:Nat->Int}(hk:k<n):Z4 n (put k (fun c=>- u c) A) = - Z4 n (put k u A):=by
 have:=X7 (n:=n) (A:=A) (u:=u) (v:=u) (x:=-1) (y:=0) hk
 simpa using this
theorem OS{n k:Nat}{A:Mt}{u v:Nat->Int}(hk:k<n):Z4 n (put k (fun c=>u c-v c) A)=Z4 n (put k u A)-Z4 n (put k v A):=by
 have:=X7 (n:=n) (A:=A) (u:=u) (v:=v) (x:=1) (y:=-1) hk
 have e:(fun c=>1*u c + -1*v c)=fun c=>u c-v c:=by funext c;omega
 rw[e] at this;omega
theorem Gm{n k:Nat}{A:Mt}(hk:k<n)(h:∀c,c<n->A k c=0):Z4 n A=0:=by
 have:=X7 (n:=n) (A:=A) (u:=A k) (v:=A k) (x:=0) (y:=0) hk
 rw[Z8 (B:=A) (n:=n) fun r c hr hc=>?_] at this
 ·simpa using this
 ·unfold put
  split
  ·rename_i q;subst q;rw[h c hc];simp
  ·rfl
theorem S3{n k j:Nat}{A:Mt}{u:Nat->Int}(hk:k<n)(hj:j<n)(hkj:j≠k)(h:∀c,c<n->u c=A j c):Z4 n (put k u A)=0:=
 UE hk hj (Ne.symm hkj) fun c hc=>by rw[ZQ,Xp _ _ hkj];exact h c hc
theorem Y9{k j:Nat}(h:k≠j)(u v:Nat->Int)(A:Mt):put k u (put j v A)=put j v (put k u A):=by
 funext r
 unfold put
 by_cases q:r=k
 ·subst q;simp[h]
 ·simp[q]
theorem Gn{n k j:Nat}{A:Mt}{u v:Nat->Int}(hk:k<n)(hj:j<n)(h:k≠j):Z4 n (put k u (put j v A)) = - Z4 n (put k v (put j u A)):=by
 have same:∀w:Nat->Int,Z4 n (put k w (put j w A))=0:=fun w=>UE hk hj h fun c _=>by rw[ZQ,Xp _ _ (Ne.symm h),ZQ]
 have z:=same (fun c=>u c+v c)
 rw[V3 hk,Y9 h,V3 hj,Y9 h,V3 hj,<-Y9 h,<-Y9 h,<-Y9 h,<-Y9 h,same,same] at z;omega
theorem Mk{n q:Nat}{A B:Mt}{k:Nat->Int}(hq:q<n)(h0:∀c,c<n->B q c=A q c)(h:∀r c,r<n->c<n->r≠q->B r c=A r c+k r*A q c):Z4 n B=Z4 n A:=by
 have go:∀t,t<=n->Z4 n (fun r=>if r<t then B r else A r)=Z4 n A:=by
  intro t
  induction t with
  | zero=>intro _;exact Z8 fun r c _ _=>by simp
  | succ t ih=>
   intro ht;rw[<-ih (by omega)]
   by_cases e:t=q
   ·subst e
    refine Z8 fun r c hr hc=>?_
    by_cases z:r<t
    ·rw[if_pos (by omega),if_pos z]
    ·by_cases z2:r=t
     ·subst z2;rw[if_pos (by omega),if_neg (by omega)];exact h0 c hc
     ·rw[if_neg (by omega),if_neg z]
   ·have e1:Z4 n (fun r=>if r<t+1 then B r else A r)=Z4 n (put t (fun c=>(1:Int)*A t c+k t*A q c) (fun r=>if r<t then B r else A r)):=by
     refine Z8 fun r c hr hc=>?_
     unfold put
     by_cases z2:r=t
     ·subst z2
      rw[if_pos rfl];rw[if_pos (by omega),h r c hr hc e,Int.one_mul]
     ·rw[if_neg z2]
      show(if r<t+1 then B r else A r) c=(if r<t then B r else A r) c
      by_cases z:r<t
      ·rw[if_pos (by omega),if_pos z]
      ·rw[if_neg (by omega),if_neg z]
    rw[e1,X7 (by omega)]
    have e2:put t (A t) (fun r=>if r<t then B r else A r)=fun r=>if r<t then B r else A r:=by
     have:=Wi t (fun r=>if r<t then B r else A r)
     simp only[Nat.lt_irrefl,if_false] at this;exact this
    rw[e2,S3 (j:=q) (by omega) hq (Ne.symm e) (fun c hc=>by
     split
     ·rw[h0 c hc]
     ·rfl)]
    omega
 rw[<-go n (Nat.le_refl n)]
 exact Z8 fun r c hr _=>by rw[if_pos hr]
abbrev ZL:=Nat×Nat
def Yb(a b:Nat):Int:=if a=b then 1 else 0
theorem Yd(a:Nat):Yb a a=1:=if_pos rfl
theorem Z3{a b:Nat}(h:a≠b):Yb a b=0:=if_neg h
def dl(e:ZL)(y:Nat):Int:=Yb e.1 y-Yb e.2 y
def mrg(P:Nat->Nat)(a b:Nat):Nat->Nat:=fun x=>if P x=P b then P a else P x
theorem YN(P:Nat->Nat)(a b x y:Nat):mrg P a b x=mrg P a b y↔P x=P y\/((P x=P a\/P x=P b)/\(P y=P a\/P y=P b)):=by
 unfold mrg
 split<;>split<;>omega
def Vx:List ZL->(Nat->Nat)->Nat->Nat
 | [],_,0=>1
 | [],_,_+1=>0
 | e::E,P,0=>Vx E P 0
 | e::E,P,s+1=>(if P e.1=P e.2 then 0 else Vx E (mrg P e.1 e.2) s)+Vx E P (s+1)
def Eqv(n:Nat)(P Q:Nat->Nat):Prop:=∀x y,x<n->y<n->(P x=P y↔Q x=Q y)
theorem Eqv.mrg{n:Nat}{P Q:Nat->Nat}(h:Eqv n P Q){a b:Nat}(ha:a<n)(hb:b<n):Eqv n (mrg P a b) (PW.mrg Q a b):=fun x y hx hy=>by
 rw[YN,YN,h x y hx hy,h x a hx ha,h x b hx hb,h y a hy ha,h y b hy hb]
def Gp(n:Nat)(E:List ZL):Prop:=∀e∈E,e.1<n/\e.2<n
theorem XN{n:Nat}:∀{E:List ZL}{P Q:Nat->Nat}{s:Nat},Gp n E->Eqv n P Q->Vx E P s=Vx E Q s
 | [],P,Q,0,_,_=>rfl
 | [],P,Q,s+1,_,_=>rfl
 | e::E,P,Q,0,hE,h=>XN (E:=E) (fun f hf=>hE f (by simp[hf])) h
 | e::E,P,Q,s+1,hE,h=>by
  have he:=hE e (by simp)
  have hE':Gp n E:=fun f hf=>hE f (by simp[hf])
  show(if P e.1=P e.2 then 0 else _)+_=(if Q e.1=Q e.2 then 0 else _)+_
  rw[XN hE' (h.mrg he.1 he.2),XN hE' h]
  by_cases q:P e.1=P e.2
  ·rw[if_pos q,if_pos ((h _ _ he.1 he.2).mp q)]
  ·rw[if_neg q,if_neg fun z=>q ((h _ _ he.1 he.2).mpr z)]
def Sk(P:Nat->Nat)(E:List ZL)(x y:Nat):Int:=(E.map fun e=>(Yb (P e.1) x-Yb (P e.2) x)*dl e y).sum
def Yj(P:Nat->Nat)(E:List ZL):Mt:=fun r c=>if P (r+1)=r+1 then Sk P E (r+1) (c+1) else Yb (r+1) (c+1)-Yb (P (r+1)) (c+1)
structure RepOk(m:Nat)(P:Nat->Nat):Prop where
 le:∀x,x<=m->P x<=m
 rep:∀x,x<=m->P (P x)=P x
 root:P 0=0
theorem XC(P:Nat->Nat)(e:ZL)(E:List ZL)(x y:Nat):Sk P (e::E) x y=(Yb (P e.1) x-Yb (P e.2) x)*dl e y+Sk P E x y:=by
 unfold Sk;rw[List.map_cons,List.sum_cons]
theorem J6(P:Nat->Nat)(a b:Nat)(E:List ZL)(x y:Nat):Sk P ((a,b)::E) x y=Sk P ((b,a)::E) x y:=by
 rw[XC,XC]
 congr 1
 unfold dl
 simp only
 rw[<-Int.neg_mul_neg]
 congr 1<;>omega
theorem J7(P:Nat->Nat)(a b:Nat)(E:List ZL):Yj P ((a,b)::E)=Yj P ((b,a)::E):=by
 funext r c
 unfold Yj;rw[J6]
theorem QJ{P:Nat->Nat}{a b:Nat}{E:List ZL}{x y:Nat}(h:P a≠P b):Sk (mrg P a b) E x y=if x=P a then Sk P E (P a) y+Sk P E (P b) y else if x=P b then 0 else Sk P E x y:=by
 have key:∀u:Nat,Yb (mrg P a b u) x=if x=P a then Yb (P u) (P a)+Yb (P u) (P b) else if x=P b then 0 else Yb (P u) x:=fun u=>by
  unfold mrg Yb
  split<;>split<;>(try split)<;>(try split)<;>omega
 unfold Sk
 induction E with
 | nil=>simp
 | cons e E ih=>
  rw[List.map_cons,List.sum_cons,ih,key,key];simp only[List.map_cons,List.sum_cons]
  by_cases q:x=P a
  ·simp only[if_pos q]
   have:(Yb (P e.1) (P a)+Yb (P e.1) (P b)-(Yb (P e.2) (P a)+Yb (P e.2) (P b)))*dl e y=(Yb (P e.1) (P a)-Yb (P e.2) (P a))*dl e y+(Yb (P e.1) (P b)-Yb (P e.2) (P b))*dl e y:=by
    rw[<-Int.add_mul];congr 1;omega
   rw[this];omega
  ·simp only[if_neg q]
   by_cases q2:x=P b
   ·simp only[if_pos q2];simp
   ·simp only[if_neg q2]
theorem RepOk.mrg{m:Nat}{P:Nat->Nat}(ok:RepOk m P){a b:Nat}(ha:a<=m)(hb:b<=m)(hq:P b≠0)(hne:P a≠P b):RepOk m (mrg P a b):=by
 have pa:=ok.rep a ha;have pb:=ok.rep b hb;have la:=ok.le a ha
 refine⟨fun x hx=>?_,fun x hx=>?_,?_⟩
 ·unfold PW.mrg
  split
  ·exact la
  ·exact ok.le x hx
 ·have px:=ok.rep x hx
  unfold PW.mrg
  by_cases q:P x=P b
  ·rw[if_pos q,pa,if_neg hne]
  ·rw[if_neg q,px,if_neg q]
 ·unfold PW.mrg
  rw[ok.root,if_neg (Ne.symm hq)]
theorem OT{P:Nat->Nat}{E:List ZL}{x:Nat}(h0:x≠0)(h:P x≠x)(c:Nat):Yj P E (x-1) c=Yb x (c+1)-Yb (P x) (c+1):=by
 unfold Yj;rw[show x-1+1=x by omega,if_neg h]
theorem X8{P:Nat->Nat}{E:List ZL}{x:Nat}(h0:x≠0)(h:P x=x)(c:Nat):Yj P E (x-1) c=Sk P E x (c+1):=by
 unfold Yj;rw[show x-1+1=x by omega,if_pos h]
theorem Et(c:Nat):Yb 0 (c+1)=0:=Z3 (by omega)
theorem PN{m:Nat}{P:Nat->Nat}{E:List ZL}(ok:RepOk m P){k a:Nat}{u:Nat->Int}(hk:k<m)(ha:a<=m)(hka:k+1≠a\/P a=a) :
  Z4 m (put k (fun c=>u c+Yb a (c+1)) (Yj P E))=Z4 m (put k (fun c=>u c+Yb (P a) (c+1)) (Yj P E)):=by
 by_cases q:P a=a
 ·rw[q]
 ·have hka:k+1≠a:=hka.resolve_right q
  have a0:a≠0:=fun z=>q (by rw[z];exact ok.root)
  have e:(fun c=>u c+Yb a (c+1))=fun c=>(u c+Yb (P a) (c+1))+(Yb a (c+1)-Yb (P a) (c+1)):=by funext c;omega
  rw[e,V3 hk,S3 (j:=a-1) (A:=Yj P E) hk (by omega) (by omega) fun c _=>(OT a0 q c).symm];omega
theorem QK{m:Nat}{P:Nat->Nat}{E:List ZL}(ok:RepOk m P){k a:Nat}{u:Nat->Int}(hk:k<m)(ha:a<=m)(hka:k+1≠a\/P a=a) :
  Z4 m (put k (fun c=>u c-Yb a (c+1)) (Yj P E))=Z4 m (put k (fun c=>u c-Yb (P a) (c+1)) (Yj P E)):=by
 by_cases q:P a=a
 ·rw[q]
 ·have hka:k+1≠a:=hka.resolve_right q
  have a0:a≠0:=fun z=>q (by rw[z];exact ok.root)
  have e:(fun c=>u c-Yb a (c+1))=fun c=>(u c-Yb (P a) (c+1))-(Yb a (c+1)-Yb (P a) (c+1)):=by funext c;omega
  rw[e,OS hk,S3 (j:=a-1) (A:=Yj P E) hk (by omega) (by omega) fun c _=>(OT a0 q c).symm];omega
theorem PQ{m:Nat}{P:Nat->Nat}{E:List ZL}{a b:Nat}(ok:RepOk m P)(ha:a<=m)(hb:b<=m)(hp:P a=0)(hq:P b≠0) :
  Z4 m (Yj P ((a,b)::E))=Z4 m (Yj P E)+Z4 m (Yj (mrg P a b) E):=by
 have lb:=ok.le b hb;have rb:=ok.rep b hb
 generalize hqq:P b=q at hq lb rb
 have e1:Z4 m (Yj P ((a,b)::E))=Z4 m (put (q-1) (fun c=>Yj P E (q-1) c+(Yb b (c+1)-Yb a (c+1))) (Yj P E)):=by
  refine Z8 fun r c hr hc=>?_
  unfold put
  by_cases z:r=q-1
  ·rw[if_pos z,z,X8 hq rb,X8 hq rb,XC]
   simp only[dl,hp,hqq];rw[Z3 (Ne.symm hq),Yd];omega
  ·rw[if_neg z]
   unfold Yj
   split
   ·rw[XC]
    simp only[hp,hqq];rw[Z3 (by omega),Z3 (by omega)]
    simp
   ·rfl
 rw[e1,V3 (by omega)];rw[show put (q-1) (fun c=>Yj P E (q-1) c) (Yj P E)=Yj P E from Wi _ _]
 congr 1
 have ka:q-1+1≠a\/P a=a:=by
  by_cases z:q-1+1=a
  ·exact absurd (show P a=q by rw[<-z,show q-1+1=q by omega];exact rb) (by omega)
  ·exact .inl z
 have kb:q-1+1≠b\/P b=b:=by
  by_cases z:q-1+1=b
  ·exact .inr (by rw[hqq];omega)
  ·exact .inl z
 rw[QK (u:=fun c=>Yb b (c+1)) ok (by omega) ha ka,hp]
 have e2:(fun c=>Yb b (c+1)-Yb 0 (c+1))=fun c=>0+Yb b (c+1):=by funext c;rw[Et];omega
 rw[e2,PN (u:=fun _=>0) ok (by omega) hb kb,hqq]
 symm
 refine Mk (q:=q-1) (k:=fun r=>if P (r+1)=q/\r+1≠q then 1 else 0) (by omega) (fun c hc=>?_) (fun r c hr hc hrq=>?_)
 ·rw[ZQ]
  rw[OT (P:=mrg P a b) hq (by unfold PW.mrg;rw[rb,hqq,if_pos rfl,hp];exact Ne.symm hq)]
  have:mrg P a b q=0:=by unfold PW.mrg;rw[rb,hqq,if_pos rfl,hp]
  rw[this,Et];omega
 ·rw[Xp _ _ hrq,ZQ]
  have hx:r+1≠q:=by omega
  unfold Yj
  have mx:mrg P a b (r+1)=if P (r+1)=q then 0 else P (r+1):=by unfold PW.mrg;rw[hqq,hp]
  by_cases z:P (r+1)=q
  ·have k1:(if P (r+1)=q/\r+1≠q then(1:Int) else 0)=1:=if_pos ⟨z,hx⟩
   rw[k1,mx,if_pos z,if_neg (by omega),z,if_neg (by omega),Et];omega
  ·have k0:(if P (r+1)=q/\r+1≠q then(1:Int) else 0)=0:=if_neg fun y=>z y.1
   rw[k0,mx,if_neg z]
   split
   ·rw[QJ (by rw[hp,hqq];omega),hp,hqq,if_neg (by omega),if_neg hx];omega
   ·omega
theorem Eu{m i j:Nat}{M:Mt}{d:Nat->Int}(hi:i<m)(hj:j<m)(h:i≠j) :
  Z4 m (put i (fun c=>M i c+d c) (put j (fun c=>M j c-d c) M))=Z4 m M+Z4 m (put i d M)-Z4 m (put j d M):=by
 rw[V3 hi,Y9 h,OS hj,Y9 h d,OS hj]
 have s1:put j (fun c=>M j c) (put i (fun c=>M i c) M)=M:=by
  rw[show put i (fun c=>M i c) M=M from Wi _ _];exact Wi _ _
 have s2:put j d (put i (fun c=>M i c) M)=put j d M:=by
  rw[show put i (fun c=>M i c) M=M from Wi _ _]
 have s3:put j (fun c=>M j c) (put i d M)=put i d M:=by
  rw[<-Y9 h,show put j (fun c=>M j c) M=M from Wi _ _]
 have s4:Z4 m (put j d (put i d M))=0:=UE (i:=j) (j:=i) hj hi (Ne.symm h) fun c _=>by rw[ZQ,Xp _ _ h,ZQ]
 rw[s1,s2,s3,s4];omega
theorem Gq{m:Nat}{P:Nat->Nat}{E:List ZL}{a b:Nat}(ok:RepOk m P)(ha:a<=m)(hb:b<=m)(hp:P a≠0)(hq:P b≠0)(hne:P a≠P b) :
  Z4 m (Yj P ((a,b)::E))=Z4 m (Yj P E)+Z4 m (Yj (mrg P a b) E):=by
 have la:=ok.le a ha;have ra:=ok.rep a ha;have lb:=ok.le b hb;have rb:=ok.rep b hb
 generalize hpp:P a=p at hp la ra hne
 generalize hqq:P b=q at hq lb rb hne
 have hpq:p-1≠q-1:=by omega
 let M:=Yj P E
 let d:Nat->Int:=fun c=>Yb a (c+1)-Yb b (c+1)
 let d':Nat->Int:=fun c=>Yb p (c+1)-Yb q (c+1)
 have e1:Z4 m (Yj P ((a,b)::E))=Z4 m (put (p-1) (fun c=>M (p-1) c+d c) (put (q-1) (fun c=>M (q-1) c-d c) M)):=by
  refine Z8 fun r c hr hc=>?_
  unfold put
  by_cases z:r=p-1
  ·rw[if_pos z,z,X8 hp ra]
   show _=Yj P E (p-1) c+d c
   rw[X8 hp ra,XC];simp only[dl,hpp,hqq];rw[Z3 (Ne.symm hne),Yd]
   show(1-0)*(Yb a (c+1)-Yb b (c+1))+_=_+(Yb a (c+1)-Yb b (c+1))
   omega
  ·rw[if_neg z]
   by_cases z2:r=q-1
   ·rw[if_pos z2,z2,X8 hq rb]
    show _=Yj P E (q-1) c-d c
    rw[X8 hq rb,XC];simp only[dl,hpp,hqq];rw[Z3 hne,Yd]
    show(0-1)*(Yb a (c+1)-Yb b (c+1))+_=_-(Yb a (c+1)-Yb b (c+1))
    omega
   ·rw[if_neg z2]
    show Yj P ((a,b)::E) r c=Yj P E r c
    unfold Yj
    split
    ·rw[XC]
     simp only[hpp,hqq];rw[Z3 (by omega),Z3 (by omega)]
     simp
    ·rfl
 have ka:∀{k:Nat},k+1=p\/k+1=q->k+1≠a\/P a=a:=fun{k} hk=>by
  by_cases z:k+1=a
  ·rcases hk with hk | hk
   ·exact .inr (by rw[hpp];omega)
   ·exact absurd (show P a=q by rw[<-z,hk];exact rb) (by omega)
  ·exact .inl z
 have kb:∀{k:Nat},k+1=p\/k+1=q->k+1≠b\/P b=b:=fun{k} hk=>by
  by_cases z:k+1=b
  ·rcases hk with hk | hk
   ·exact absurd (show P b=p by rw[<-z,hk];exact ra) (by omega)
   ·exact .inr (by rw[hqq];omega)
  ·exact .inl z
 have dd:∀k,k<m->(k+1=p\/k+1=q)->Z4 m (put k d M)=Z4 m (put k d' M):=fun k hk hk2=>by
  have f1:Z4 m (put k (fun c=>Yb a (c+1)-Yb b (c+1)) M)=Z4 m (put k (fun c=>Yb a (c+1)-Yb q (c+1)) M):=by
   rw[<-hqq];exact QK (u:=fun c=>Yb a (c+1)) ok hk hb (kb hk2)
  have f2:(fun c=>Yb a (c+1)-Yb q (c+1))=fun c=>- Yb q (c+1)+Yb a (c+1):=by funext c;omega
  have f3:Z4 m (put k (fun c=>- Yb q (c+1)+Yb a (c+1)) M)=Z4 m (put k (fun c=>- Yb q (c+1)+Yb p (c+1)) M):=by
   rw[<-hpp];exact PN (u:=fun c=>- Yb q (c+1)) ok hk ha (ka hk2)
  show Z4 m (put k (fun c=>Yb a (c+1)-Yb b (c+1)) M)=Z4 m (put k (fun c=>Yb p (c+1)-Yb q (c+1)) M)
  rw[f1,f2,f3]
  congr 2
  funext c;omega
 -- what the tie adds
 have e2:Z4 m (put (p-1) (fun c=>M (p-1) c+d c) (put (q-1) (fun c=>M (q-1) c-d c) M))=Z4 m M+Z4 m (put (p-1) d M)-Z4 m (put (q-1) d M):=by
  exact Eu (by omega) (by omega) hpq
 -- the pieces made one
 have e3:Z4 m (Yj (mrg P a b) E)=Z4 m (put (q-1) (fun c=>- d' c) (put (p-1) (fun c=>M (p-1) c+M (q-1) c) M)):=by
  refine Mk (q:=q-1) (k:=fun r=>if P (r+1)=q/\r+1≠q then 1 else 0) (by omega) (fun c hc=>?_) (fun r c hr hc hrq=>?_)
  ·rw[ZQ]
   have:mrg P a b q=p:=by unfold PW.mrg;rw[rb,hqq,if_pos rfl,hpp]
   rw[OT (P:=mrg P a b) hq (by rw[this];exact hne),this]
   show _ = -(Yb p (c+1)-Yb q (c+1))
   omega
  ·rw[Xp _ _ hrq,ZQ]
   have hx:r+1≠q:=by omega
   have mx:mrg P a b (r+1)=if P (r+1)=q then p else P (r+1):=by unfold PW.mrg;rw[hqq,hpp]
   by_cases zp:r=p-1
   ·have hrp:r+1=p:=by omega
    have k0:(if P (r+1)=q/\r+1≠q then(1:Int) else 0)=0:=if_neg fun y=>hne (by rw[<-y.1,hrp];exact ra.symm)
    rw[k0,zp,ZQ,X8 hp (by unfold PW.mrg;rw[ra,hqq,if_neg hne]),QJ (by rw[hpp,hqq];exact hne),hpp,hqq,if_pos rfl]
    show _=Yj P E (p-1) c+Yj P E (q-1) c+_
    rw[X8 hp ra,X8 hq rb];omega
   ·rw[Xp _ _ zp]
    show Yj (mrg P a b) E r c=Yj P E r c+_
    unfold Yj
    by_cases z:P (r+1)=q
    ·have k1:(if P (r+1)=q/\r+1≠q then(1:Int) else 0)=1:=if_pos ⟨z,hx⟩
     rw[k1,mx,if_pos z,if_neg (by omega),z,if_neg (by omega)]
     show _=_+1 * -(Yb p (c+1)-Yb q (c+1))
     omega
    ·have k0:(if P (r+1)=q/\r+1≠q then(1:Int) else 0)=0:=if_neg fun y=>z y.1
     rw[k0,mx,if_neg z]
     split
     ·rw[QJ (by rw[hpp,hqq];exact hne),hpp,hqq,if_neg (by omega),if_neg hx];omega
     ·omega
 have e4:Z4 m (put (q-1) (fun c=>- d' c) (put (p-1) (fun c=>M (p-1) c+M (q-1) c) M))=Z4 m (put (p-1) d' M)-Z4 m (put (q-1) d' M):=by
  rw[Y9 (Ne.symm hpq),V3 (by omega)]
  have s1:put (p-1) (fun c=>M (p-1) c) (put (q-1) (fun c=>- d' c) M)=put (q-1) (fun c=>- d' c) M:=by
   rw[Y9 hpq,show put (p-1) (fun c=>M (p-1) c) M=M from Wi _ _]
  have s2:Z4 m (put (p-1) (fun c=>M (q-1) c) (put (q-1) (fun c=>- d' c) M))=Z4 m (put (p-1) d' M):=by
   rw[Gn (by omega) (by omega) hpq,show put (q-1) (fun c=>M (q-1) c) M=M from Wi _ _,KI (by omega)];omega
  rw[s1,s2,KI (by omega)];omega
 rw[e1,e2,e3,e4,dd (p-1) (by omega) (.inl (by omega)),dd (q-1) (by omega) (.inr (by omega))]
 show Z4 m M+_-_=Z4 m M+_
 omega
theorem Gr{e ux uy uc ud xc xd yc yd:Prop}:((e\/(ux/\uy))\/(((xc\/(ux/\uc))\/(xd\/(ux/\ud)))/\((yc\/(uy/\uc))\/(yd\/(uy/\ud)))))↔(e\/(ux/\uy)\/(((xc\/xd)\/(ux/\(uc\/ud)))/\((yc\/yd)\/(uy/\(uc\/ud))))):=by grind
theorem J8{e ux uy vx vy m:Prop}:(e\/(ux/\uy)\/((vx\/(ux/\m))/\(vy\/(uy/\m))))↔(e\/(vx/\vy)\/((ux\/(vx/\m))/\(uy\/(vy/\m)))):=by grind
theorem Ml(P:Nat->Nat)(a b c d x y:Nat):mrg (mrg P a b) c d x=mrg (mrg P a b) c d y↔(P x=P y\/((P x=P a\/P x=P b)/\(P y=P a\/P y=P b))\/(((P x=P c\/P x=P d)\/((P x=P a\/P x=P b)/\((P c=P a\/P c=P b)\/(P d=P a\/P d=P b))))/\((P y=P c\/P y=P d)\/((P y=P a\/P y=P b)/\((P c=P a\/P c=P b)\/(P d=P a\/P d=P b)))))):=by
 rw[YN (mrg P a b),YN P a b x y,YN P a b x c,YN P a b x d,YN P a b y c,YN P a b y d];exact Gr
theorem J9(P:Nat->Nat)(a b c d x y:Nat):mrg (mrg P a b) c d x=mrg (mrg P a b) c d y↔mrg (mrg P c d) a b x=mrg (mrg P c d) a b y:=by
 rw[Ml,Ml]
 have m:((P c=P a\/P c=P b)\/(P d=P a\/P d=P b))↔((P a=P c\/P a=P d)\/(P b=P c\/P b=P d)):=by
  constructor
  ·rintro((h | h) | (h | h))
   ·exact .inl (.inl h.symm)
   ·exact .inr (.inl h.symm)
   ·exact .inl (.inr h.symm)
   ·exact .inr (.inr h.symm)
  ·rintro((h | h) | (h | h))
   ·exact .inl (.inl h.symm)
   ·exact .inr (.inl h.symm)
   ·exact .inl (.inr h.symm)
   ·exact .inr (.inr h.symm)
 rw[m];exact J8
def Vk(m:Nat)(P:Nat->Nat):Int:=sN (m+1) fun x=>Yb (P x) x
theorem CD{f g:Nat->Int}{q:Nat}:∀{n:Nat},q<n->(∀x,x<n->x≠q->f x=g x)->sN n f=sN n g+(f q-g q):=by
 intro n hq h
 have e:=Wn (fun x=>g x) (fun x=>f x-g x) n
 have e2:sN n f=sN n fun x=>g x+(f x-g x):=Zz fun x _=>by omega
 rw[e2,e,YL (f:=fun x=>f x-g x) hq (fun x hx hxq=>by rw[h x hx hxq];omega)]
theorem Sl{m:Nat}{P:Nat->Nat}(ok:RepOk m P){a b:Nat}(ha:a<=m)(hb:b<=m)(hne:P a≠P b):Vk m (mrg P a b)=Vk m P-1:=by
 have ra:=ok.rep a ha;have rb:=ok.rep b hb;have lb:=ok.le b hb;unfold Vk;rw[CD (q:=P b) (f:=fun x=>Yb (mrg P a b x) x) (g:=fun x=>Yb (P x) x) (by omega) fun x hx hxq=>?_]
 ·have e1:mrg P a b (P b)=P a:=by unfold mrg;rw[rb,if_pos rfl]
  show _+(Yb (mrg P a b (P b)) (P b)-Yb (P (P b)) (P b))=_
  rw[e1,Z3 hne,rb,Yd];omega
 ·show Yb (mrg P a b x) x=Yb (P x) x
  unfold mrg
  split
  ·rename_i q
   unfold Yb
   have:P a≠x:=fun z=>by rw[<-z,ra] at q;exact hne q
   rw[if_neg this,if_neg (by omega)]
  ·rfl
theorem Gs{f:Nat->Int}:∀{n:Nat},(∀x,x<n->0<=f x)->0<=sN n f
 | 0,_=>Int.le_refl 0
 | n+1,h=>by
  have h1:=Gs (n:=n) fun x hx=>h x (by omega)
  have h2:=h n (by omega)
  show 0<=sN n f+f n
  omega
theorem Gu{f:Nat->Int}{k:Nat}:∀{n:Nat},k<n->(∀x,x<n->0<=f x)->f k<=sN n f
 | 0,hk,_=>by omega
 | n+1,hk,h=>by
  have h1:=Gs (n:=n) fun x hx=>h x (by omega)
  have h2:=h n (by omega)
  show f k<=sN n f+f n
  by_cases q:k=n
  ·rw[q];omega
  ·have:=Gu (n:=n) (k:=k) (by omega) fun x hx=>h x (by omega)
   omega
theorem Gw(a b:Nat):0<=Yb a b:=by unfold Yb;split<;>omega
theorem QL{m:Nat}{P:Nat->Nat}(ok:RepOk m P):1<=Vk m P:=by
 have:=Gu (f:=fun x=>Yb (P x) x) (k:=0) (n:=m+1) (by omega) fun x _=>Gw _ _
 simp only[ok.root,Yd] at this;exact this
theorem Mm:∀{n:Nat}{A:Mt},(∀r c,r<n->c<n->A r c=Yb r c)->Z4 n A=1
 | 0,_,_=>rfl
 | n+1,A,h=>by
  rw[QG (fun c hc=>by rw[h n c (by omega) (by omega)];exact Z3 (by omega)),h n n (by omega) (by omega),Yd,Mm (n:=n) fun r c hr hc=>h r c (by omega) (by omega)]
  rfl
theorem PR{f:Nat->Int}{j k:Nat}:∀{n:Nat},j<k->k<n->(∀x,x<n->0<=f x)->f j+f k<=sN n f
 | 0,_,hk,_=>by omega
 | n+1,hj,hk,h=>by
  have h2:=h n (by omega)
  show f j+f k<=sN n f+f n
  by_cases q:k=n
  ·have:=Gu (f:=f) (n:=n) (k:=j) (by omega) fun x hx=>h x (by omega)
   rw[q];omega
  ·have:=PR (n:=n) hj (by omega) fun x hx=>h x (by omega)
   omega
theorem UH{m:Nat}:∀{E:List ZL}{P:Nat->Nat}{s:Nat},Gp (m+1) E->RepOk m P->Vk m P=(s:Int)+1->Z4 m (Yj P E)=(Vx E P s:Int)
 | [],P,0,_,ok,hr=>by
  have all0:∀x,x<=m->x≠0->P x=0:=fun x hx h0=>by
   have:=PR (f:=fun x=>Yb (P x) x) (j:=0) (k:=P x) (n:=m+1)
   by_cases q:P x=0
   ·exact q
   ·have t:=this (by omega) (by have:=ok.le x hx;omega) fun x _=>Gw _ _
    simp only[ok.root,ok.rep x hx,Yd] at t;unfold Vk at hr;simp only[Int.natCast_zero] at hr;omega
  show Z4 m (Yj P [])=1
  refine Mm fun r c hr hc=>?_
  unfold Yj
  have:=all0 (r+1) (by omega) (by omega)
  rw[this,if_neg (by omega),Et];unfold Yb
  by_cases q:r=c
  ·rw[if_pos (by omega),if_pos q];omega
  ·rw[if_neg (by omega),if_neg q];omega
 | [],P,s+1,_,ok,hr=>by
  show Z4 m (Yj P [])=0
  have:∃x,x<=m/\x≠0/\P x=x:=by
   apply Classical.byContradiction
   intro hn
   have e:Vk m P=1:=by
    unfold Vk;rw[YL (k:=0) (by omega) fun x hx h0=>Z3 fun z=>hn ⟨x,by omega,h0,z⟩,ok.root,Yd]
   omega
  obtain⟨x,hx,h0,hp⟩:=this
  exact Gm (k:=x-1) (by omega) fun c _=>by rw[X8 h0 hp];rfl
 | e::E,P,s,hE,ok,hr=>by
  obtain⟨a,b⟩:=e
  have he:=hE (a,b) (by simp)
  have ha:a<=m:=by have:=he.1;simp only at this;omega
  have hb:b<=m:=by have:=he.2;simp only at this;omega
  have hE':Gp (m+1) E:=fun f hf=>hE f (by simp[hf])
  have ih:=UH hE' ok hr
  by_cases q:P a=P b
  ·have e1:Yj P ((a,b)::E)=Yj P E:=by
    funext r c
    unfold Yj;rw[XC];simp only[q]
    split
    ·rw[Int.sub_self,Int.zero_mul,Int.zero_add]
    ·rfl
   rw[e1,ih]
   cases s with
   | zero=>rfl
   | succ s=>
    show _=(((if P a=P b then 0 else _)+Vx E P (s+1):Nat):Int)
    rw[if_pos q,Nat.zero_add]
  ·have step:Z4 m (Yj P ((a,b)::E))=Z4 m (Yj P E)+Z4 m (Yj (if P b=0 then mrg P b a else mrg P a b) E)/\RepOk m (if P b=0 then mrg P b a else mrg P a b)/\Vk m (if P b=0 then mrg P b a else mrg P a b)=Vk m P-1:=by
    by_cases qb:P b=0
    ·rw[if_pos qb]
     refine⟨?_,ok.mrg hb ha (by omega) (by omega),Sl ok hb ha (by omega)⟩
     rw[J7]
     exact PQ ok hb ha qb (by omega)
    ·rw[if_neg qb]
     refine⟨?_,ok.mrg ha hb qb q,Sl ok ha hb q⟩
     by_cases qa:P a=0
     ·exact PQ ok ha hb qa qb
     ·exact Gq ok ha hb qa qb q
   obtain⟨s1,s2,s3⟩:=step
   have pos:=QL s2
   obtain⟨t,rfl⟩:∃t,s=t+1:=⟨s-1,by omega⟩
   have ih2:=UH (s:=t) hE' s2 (by rw[s3];omega)
   have eq:Vx E (if P b=0 then mrg P b a else mrg P a b) t=Vx E (mrg P a b) t:=by
    refine XN hE' fun x y hx hy=>?_
    split
    ·rw[YN,YN];omega
    ·exact Iff.rfl
   rw[s1,ih,ih2,eq]
   show _=(((if P a=P b then 0 else Vx E (mrg P a b) t)+Vx E P (t+1):Nat):Int)
   rw[if_neg q];omega
 termination_by E=>E.length
theorem Sm{E:List ZL}{e:ZL}{P:Nat->Nat}{s:Nat}(h:P e.1=P e.2):Vx (e::E) P s=Vx E P s:=by
 cases s with
 | zero=>rfl
 | succ s=>
  show(if P e.1=P e.2 then 0 else _)+_=_
  rw[if_pos h,Nat.zero_add]
theorem RH{E:List ZL}{e:ZL}{P:Nat->Nat}{s:Nat}(h:P e.1≠P e.2):Vx (e::E) P (s+1)=Vx E (mrg P e.1 e.2) s+Vx E P (s+1):=by
 show(if P e.1=P e.2 then 0 else _)+_=_
 rw[if_neg h]
def Yn(T:List ZL)(t:Nat):ZL:=T.getD t (0,0)
def WV(T:List ZL):(Nat->Nat)->List Nat->Nat->Nat
 | P,[]=>P
 | P,t::g=>WV T (mrg P (Yn T t).1 (Yn T t).2) g
theorem UZ(T:List ZL):∀(g:List Nat)(P:Nat->Nat)(t:Nat),WV T P (g++[t])=mrg (WV T P g) (Yn T t).1 (Yn T t).2
 | [],P,t=>rfl
 | x::g,P,t=>UZ T g _ t
def YH(g:List Nat):Nat:=match g.getLast? with | some t=>t+1 | none=>0
theorem Ve(g:List Nat)(t:Nat):YH (g++[t])=t+1:=by unfold YH;simp
def Sn(T:List ZL)(g:List Nat):List Nat:=(List.range' (YH g) (T.length-YH g)).filter fun t=>!decide (WV T id g (Yn T t).1=WV T id g (Yn T t).2)
def Yu(T:List ZL)(gs:List (List Nat)):List (List Nat):=gs.flatMap fun g=>(Sn T g).map fun t=>g++[t]
theorem Mn{k n:Nat}(h:k<n):List.range' k (n-k)=k::List.range' (k+1) (n-(k+1)):=by
 rw[show n-k=(n-(k+1))+1 by omega,List.range'_succ]
theorem Ia{T:List ZL}{k:Nat}(h:k<T.length):T.drop k=Yn T k::T.drop (k+1):=by
 unfold Yn
 rw[List.drop_eq_getElem_cons h,List.getD_eq_getElem?_getD,List.getElem?_eq_getElem h];rfl
theorem QM(T:List ZL)(P:Nat->Nat)(r:Nat):∀(d k:Nat),T.length-k=d->Vx (T.drop k) P (r+1) =
  (((List.range' k (T.length-k)).filter fun t=>!decide (P (Yn T t).1=P (Yn T t).2)).map fun t=>Vx (T.drop (t+1)) (mrg P (Yn T t).1 (Yn T t).2) r).sum
 | 0,k,h=>by
  rw[List.drop_eq_nil_of_le (by omega),h];rfl
 | d+1,k,h=>by
  rw[Ia (by omega),Mn (by omega)]
  have ih:=QM T P r d (k+1) (by omega)
  by_cases q:P (Yn T k).1=P (Yn T k).2
  ·rw[Sm q,ih,List.filter_cons_of_neg (by simp[q])]
  ·rw[RH q,ih,List.filter_cons_of_pos (by simp[q]),List.map_cons,List.sum_cons]
theorem Mo{α β:Type}(f:β->Nat)(g:α->List β):∀l:List α,((l.flatMap g).map f).sum=(l.map fun a=>((g a).map f).sum).sum
 | []=>rfl
 | a::l=>by rw[List.flatMap_cons,List.map_append,List.sum_append,Mo f g l,List.map_cons,List.sum_cons]
def Ib(T:List ZL)(r:Nat)(g:List Nat):Nat:=Vx (T.drop (YH g)) (WV T id g) r
theorem Ic(T:List ZL)(gs:List (List Nat))(r:Nat):((Yu T gs).map (Ib T r)).sum=(gs.map (Ib T (r+1))).sum:=by
 unfold Yu;rw[Mo]
 congr 1
 apply List.map_congr_left
 intro g _;unfold Ib Sn;rw[QM T _ r _ _ rfl,List.map_map]
 congr 1
 apply List.map_congr_left
 intro t _
 show Vx (T.drop (YH (g++[t]))) (WV T id (g++[t])) r=_
 rw[Ve,UZ]
def Ya(T:List ZL):Nat->List (List Nat)
 | 0=>[[]]
 | s+1=>Yu T (Ya T s)
theorem QN(T:List ZL):∀s r,((Ya T s).map (Ib T r)).sum=Vx T id (s+r)
 | 0,r=>by
  show Vx (T.drop 0) id r+0=_
  rw[List.drop_zero,Nat.zero_add,Nat.add_zero]
 | s+1,r=>by
  show((Yu T (Ya T s)).map (Ib T r)).sum=_
  rw[Ic,QN T s (r+1)]
  congr 1;omega
theorem So:∀(E:List ZL)(P:Nat->Nat),Vx E P 0=1
 | [],_=>rfl
 | e::E,P=>So E P
theorem Mp{α:Type}{f:α->Nat}:∀{l:List α},(∀a∈l,f a=1)->(l.map f).sum=l.length
 | [],_=>rfl
 | a::l,h=>by rw[List.map_cons,List.sum_cons,h a (by simp),Mp fun b hb=>h b (by simp[hb]),List.length_cons];omega
theorem Tq(T:List ZL)(s:Nat):(Ya T s).length=Vx T id s:=by
 have:=QN T s 0
 rw[Mp (f:=Ib T 0) fun g _=>So _ _] at this;exact this
def bn:Nat->Nat->Nat
 | _,0=>1
 | 0,_+1=>0
 | k+1,s+1=>bn k s+bn k (s+1)
theorem Lx:∀(E:List ZL)(P:Nat->Nat)(s:Nat),Vx E P s<=bn E.length s
 | [],P,0=>by show 1<=1;omega
 | [],P,s+1=>by show 0<=_;omega
 | e::E,P,0=>by rw[So];show 1<=bn (E.length+1) 0;simp[bn]
 | e::E,P,s+1=>by
  have h1:=Lx E (mrg P e.1 e.2) s
  have h2:=Lx E P (s+1)
  show(if P e.1=P e.2 then 0 else _)+_<=bn E.length s+bn E.length (s+1)
  split<;>omega
structure Gv(T:List ZL)(g:List Nat):Prop where
 lt:∀t∈g,t<T.length
 ris:g.Pairwise (· < ·)
 btw:∀i t,g[i]?=some t->WV T id (g.take i) (Yn T t).1≠WV T id (g.take i) (Yn T t).2
theorem Ie{g:List Nat}(h:g.Pairwise (· < ·)){t x:Nat}(ht:YH g<=t)(hx:x∈g):x<t:=by
 rcases List.eq_nil_or_concat g with rfl | ⟨l,b,rfl⟩
 ·simp at hx
 ·rw[List.concat_eq_append] at *
  rw[Ve] at ht
  rcases List.mem_append.mp hx with q | q
  ·have:=(List.pairwise_append.mp h).2.2 x q b (by simp)
   omega
  ·simp at q;omega
theorem Gv.snoc{T:List ZL}{g:List Nat}(h:Gv T g){t:Nat}(ht:t∈Sn T g):Gv T (g++[t]):=by
 unfold Sn at ht;rw[List.mem_filter,List.mem_range'_1] at ht
 obtain⟨⟨h1,h2⟩,h3⟩:=ht
 refine⟨fun x hx=>?_,?_,fun i x hx=>?_⟩
 ·rcases List.mem_append.mp hx with q | q
  ·exact h.lt x q
  ·simp at q;omega
 ·rw[List.pairwise_append]
  exact⟨h.ris,by simp,fun x hx y hy=>by simp at hy;rw[hy];exact Ie h.ris h1 hx⟩
 ·by_cases q:i<g.length
  ·rw[List.getElem?_append_left q] at hx
   rw[List.take_append_of_le_length (by omega)]
   exact h.btw i x hx
  ·have:i=g.length:=by
    have:=(List.getElem?_eq_some_iff.mp hx).1
    simp at this;omega
   subst this;rw[List.getElem?_append_right (Nat.le_refl _)] at hx
   simp at hx
   subst hx;rw[List.take_left']
   ·simpa using h3
   ·rfl
theorem Vw(T:List ZL):∀s,∀g∈Ya T s,Gv T g/\g.length=s
 | 0,g,hg=>by
  have:g=[]:=by simpa [Ya] using hg
  subst this
  exact⟨⟨fun t ht=>by simp at ht,.nil,fun i t h=>by simp at h⟩,rfl⟩
 | s+1,g,hg=>by
  have hg:g∈Yu T (Ya T s):=hg
  unfold Yu at hg
  obtain⟨h,hh,hg⟩:=List.mem_flatMap.mp hg
  obtain⟨t,ht,rfl⟩:=List.mem_map.mp hg
  obtain⟨a,b⟩:=Vw T s h hh
  exact⟨a.snoc ht,by rw[List.length_append,b];rfl⟩
def OU:List Nat->List Nat->Prop
 | a::g,b::h=>a<b\/(a=b/\OU g h)
 | _,_=>False
theorem PU:∀{g h:List Nat}{x y:Nat},g.length=h.length->OU g h->OU (g++[x]) (h++[y])
 | [],[],_,_,_,q=>q.elim
 | a::g,b::h,x,y,hl,q=>by
  rcases q with q | ⟨q,r⟩
  ·exact .inl q
  ·exact .inr ⟨q,PU (by simpa using hl) r⟩
theorem PX:∀(g:List Nat){x y:Nat},x<y->OU (g++[x]) (g++[y])
 | [],x,y,h=>.inl h
 | a::g,x,y,h=>.inr ⟨rfl,PX g h⟩
theorem UI(T:List ZL):∀s,(Ya T s).Pairwise OU
 | 0=>by show([[]]:List (List Nat)).Pairwise OU;simp
 | s+1=>by
  show(Yu T (Ya T s)).Pairwise OU
  have ih:=UI T s;have gv:=Vw T s;unfold Yu
  generalize Ya T s=gs at ih gv
  induction gs with
  | nil=>simp
  | cons g gs ihg=>
   rw[List.flatMap_cons,List.pairwise_append];have ih':=List.pairwise_cons.mp ih
   refine⟨?_,ihg ih'.2 fun h hh=>gv h (by simp[hh]),fun x hx y hy=>?_⟩
   ·rw[List.pairwise_map]
    unfold Sn
    exact(List.pairwise_lt_range' (s:=YH g) (n:=T.length-YH g)).filter _ |>.imp fun q=>PX g q
   ·obtain⟨t,_,rfl⟩:=List.mem_map.mp hx
    obtain⟨h,hh,hy⟩:=List.mem_flatMap.mp hy
    obtain⟨u,_,rfl⟩:=List.mem_map.mp hy
    exact PU (by rw[(gv g (by simp)).2,(gv h (by simp[hh])).2]) (ih'.1 h hh)
theorem RepOk.id(m:Nat):RepOk m id:=⟨fun _ h=>h,fun _ _=>rfl,rfl⟩
theorem OV(m:Nat):Vk m id=(m:Int)+1:=by
 unfold Vk
 have:∀n:Nat,sN n (fun x=>Yb (id x) x)=(n:Int):=by
  intro n
  induction n with
  | zero=>rfl
  | succ n ih=>show sN n _+Yb n n=_;rw[ih,Yd];omega
 rw[this];omega
def MC(n:Nat):List ZL:=(List.range n).flatMap fun a=>(List.range (n-(a+1))).map fun j=>(a,a+1+j)
theorem mem_prs{n a b:Nat}:(a,b)∈MC n↔a<b/\b<n:=by
 unfold MC;simp only[List.mem_flatMap,List.mem_range,List.mem_map,Prod.mk.injEq];constructor
 ·rintro⟨x,hx,j,hj,rfl,rfl⟩;omega
 ·rintro⟨h1,h2⟩
  exact⟨a,by omega,b-(a+1),by omega,rfl,by omega⟩
structure Wt(n:Nat)(w:Nat->Nat->Int):Prop where
 nn:∀a b,a<n->b<n->0<=w a b
 sy:∀a b,a<n->b<n->w a b=w b a
 dg:∀a,a<n->w a a=0
def Vf(n:Nat)(w:Nat->Nat->Int):List ZL:=(MC n).flatMap fun p=>List.replicate (w p.1 p.2).toNat p
theorem QO(n:Nat)(w:Nat->Nat->Int):Gp n (Vf n w):=fun e he=>by
 unfold Vf at he
 obtain⟨p,hp,he⟩:=List.mem_flatMap.mp he
 rw[List.mem_replicate] at he;rw[he.2]
 have:=mem_prs.mp (show(p.1,p.2)∈MC n from hp)
 omega
theorem Ew(f:ZL->Int):∀n,((MC n).map f).sum=sN n fun a=>sN n fun b=>if a<b then f (a,b) else 0:=by
 intro n;unfold MC
 have flat:∀(l:List Nat)(g:Nat->List ZL),((l.flatMap g).map f).sum=(l.map fun a=>((g a).map f).sum).sum:=by
  intro l g
  induction l with
  | nil=>rfl
  | cons a l ih=>rw[List.flatMap_cons,List.map_append,List.sum_append,ih,List.map_cons,List.sum_cons]
 rw[flat,Sj]
 refine Zz fun a ha=>?_
 rw[List.map_map,Sj]
 -- the tail of the row
 have tail:∀k,sN (a+1+k) (fun b=>if a<b then f (a,b) else 0)=sN k fun j=>f (a,a+1+j):=by
  intro k
  induction k with
  | zero=>exact RF fun i hi=>if_neg (by omega)
  | succ k ih=>
   show sN (a+1+k) _+(if a<a+1+k then f (a,a+1+k) else 0)=sN k _+f (a,a+1+k)
   rw[ih,if_pos (by omega)]
 have:=tail (n-(a+1))
 rw[show a+1+(n-(a+1))=n by omega] at this
 rw[this];rfl
theorem KJ(f:ZL->Int)(p:ZL):∀k:Nat,((List.replicate k p).map f).sum=(k:Int)*f p
 | 0=>by simp
 | k+1=>by rw[List.replicate_succ,List.map_cons,List.sum_cons,KJ f p k,Int.natCast_succ,Int.add_mul];omega
theorem Ig{n:Nat}{w:Nat->Nat->Int}(ok:Wt n w)(f:ZL->Int):((Vf n w).map f).sum=sN n fun a=>sN n fun b=>if a<b then w a b*f (a,b) else 0:=by
 unfold Vf
 have flat:∀(l:List ZL)(g:ZL->List ZL),((l.flatMap g).map f).sum=(l.map fun a=>((g a).map f).sum).sum:=by
  intro l g
  induction l with
  | nil=>rfl
  | cons a l ih=>rw[List.flatMap_cons,List.map_append,List.sum_append,ih,List.map_cons,List.sum_cons]
 rw[flat,Ew (fun p=>((List.replicate (w p.1 p.2).toNat p).map f).sum)]
 refine Zz fun a ha=>Zz fun b hb=>?_
 split
 ·rw[KJ]
  show((w a b).toNat:Int)*_=_
  rw[Int.toNat_of_nonneg (ok.nn a b ha hb)]
 ·rfl
theorem Gx{n:Nat}{w:Nat->Nat->Int}(ok:Wt n w){x y:Nat}(hx:x<n)(hy:y<n):Sk id (Vf n w) x y=if x=y then sN n (w x) else-w x y:=by
 unfold Sk;rw[Ig ok (fun e=>(Yb (id e.1) x-Yb (id e.2) x)*dl e y)];simp only[id,dl]
 by_cases q:x=y
 ·subst q
  rw[if_pos rfl]
  have e:∀a,a<n->sN n (fun b=>if a<b then w a b*((Yb a x-Yb b x)*(Yb a x-Yb b x)) else 0)=(if a=x then sN n (fun b=>if x<b then w x b else 0) else 0)+(if a<x then w x a else 0):=fun a ha=>by
   by_cases qa:a=x
   ·subst qa
    rw[if_pos rfl,if_neg (by omega),Int.add_zero]
    refine Zz fun b hb=>?_
    split
    ·rw[Yd,Z3 (by omega)];simp
    ·rfl
   ·rw[if_neg qa]
    rw[YL (k:=x) hx fun b hb hbx=>?_]
    ·split
     ·rw[Z3 qa,Yd,ok.sy a x ha hx];simp
     ·simp
    ·split
     ·rw[Z3 qa,Z3 hbx];simp
     ·rfl
  rw[Zz e,Wn,YL (k:=x) hx fun a ha hax=>if_neg hax,if_pos rfl,<-Wn]
  refine Zz fun b hb=>?_
  by_cases q1:x<b
  ·rw[if_pos q1,if_neg (by omega)];omega
  ·rw[if_neg q1]
   by_cases q2:b<x
   ·rw[if_pos q2];omega
   ·have:b=x:=by omega
    subst this
    rw[if_neg q2,ok.dg b hb];rfl
 ·rw[if_neg q]
  have e:∀a,a<n->sN n (fun b=>if a<b then w a b*((Yb a x-Yb b x)*(Yb a y-Yb b y)) else 0)=(if a=x then(if x<y then-w x y else 0) else 0)+(if a=y then(if y<x then-w x y else 0) else 0):=fun a ha=>by
   by_cases qa:a=x
   ·subst qa
    rw[if_pos rfl,if_neg q,Int.add_zero,YL (k:=y) hy fun b hb hby=>?_]
    ·split
     ·rw[Yd,Z3 (Ne.symm q),Z3 q,Yd];simp
     ·rfl
    ·split
     ·rw[Yd,Z3 q,Z3 hby];simp
     ·rfl
   ·rw[if_neg qa,Int.zero_add]
    by_cases qy:a=y
    ·subst qy
     rw[if_pos rfl,YL (k:=x) hx fun b hb hbx=>?_]
     ·split
      ·rw[Z3 qa,Yd,Yd,Z3 q,ok.sy a x ha hx];simp
      ·rfl
     ·split
      ·rw[Z3 qa,Z3 hbx];simp
      ·rfl
    ·rw[if_neg qy]
     refine RF fun b hb=>?_
     split
     ·rw[Z3 qa,Z3 qy]
      by_cases z:b=x
      ·subst z;rw[Z3 q];simp
      ·rw[Z3 z];simp
     ·rfl
  rw[Zz e,Wn,YL (k:=x) hx fun a ha hax=>if_neg hax,if_pos rfl,YL (k:=y) hy fun a ha hay=>if_neg hay,if_pos rfl]
  split<;>split<;>omega
theorem Ex{m:Nat}{w:Nat->Nat->Int}(ok:Wt (m+1) w):Z4 m (fun r c=>if r=c then sN (m+1) (w (r+1)) else-w (r+1) (c+1))=(Vx (Vf (m+1) w) id m:Int):=by
 rw[<-UH (QO (m+1) w) (RepOk.id m) (OV m)]
 refine Z8 fun r c hr hc=>?_
 refine Eq.trans ?_ (if_pos (show id (r+1)=r+1 from rfl)).symm
 rw[Gx ok (by omega) (by omega)]
 by_cases q:r=c
 ·rw[if_pos q,if_pos (by omega)]
 ·rw[if_neg q,if_neg (by omega)]
theorem CG:∀n,n<=7->(MC n).Nodup:=by decide +kernel
theorem PY{f:ZL->Nat}{p:ZL}:∀{l:List ZL},l.Nodup->(∀q∈l,q≠p->f q=0)->(l.map f).sum=if p∈l then f p else 0
 | [],_,_=>by simp
 | q::l,nd,h=>by
  have nd':=List.nodup_cons.mp nd
  rw[List.map_cons,List.sum_cons,PY nd'.2 fun r hr=>h r (by simp[hr])]
  by_cases e:q=p
  ·subst e
   rw[if_neg nd'.1,if_pos (by simp)];omega
  ·rw[h q (by simp) e,Nat.zero_add]
   by_cases z:p∈l
   ·rw[if_pos z,if_pos (by simp[z])]
   ·rw[if_neg z,if_neg (by simp[z];exact fun y=>e y.symm)]
theorem Ly{n k:Nat}{f:Nat->Int}(hk:k<n):sN n (fun x=>Yb x k*f x)=f k:=by
 rw[YL (k:=k) hk fun x hx hxk=>by rw[Z3 hxk,Int.zero_mul],Yd,Int.one_mul]
def GO(m:Nat)(E:List ZL)(P:Nat->Nat):Prop:=∀χ:Nat->Bool,(∀e∈E,χ e.1=χ e.2)->(∀x y,x<=m->y<=m->P x=P y->χ x=χ y)->∀x,x<=m->χ x=χ 0
theorem Gy{m:Nat}{P:Nat->Nat}(ok:RepOk m P){a b:Nat}(ha:a<=m)(hb:b<=m)(q:P a≠P b):∃Q,Eqv (m+1) (mrg P a b) Q/\RepOk m Q/\Vk m Q=Vk m P-1:=by
 refine⟨if P b=0 then mrg P b a else mrg P a b,fun x y _ _=>?_,?_⟩
 ·split
  ·rw[YN,YN];omega
  ·exact Iff.rfl
 ·split
  ·exact⟨ok.mrg hb ha (by omega) (by omega),Sl ok hb ha (by omega)⟩
  ·exact⟨ok.mrg ha hb (by assumption) q,Sl ok ha hb q⟩
theorem KN{m:Nat}{E:List ZL}{P Q:Nat->Nat}(e:Eqv (m+1) P Q)(h:GO m E P):GO m E Q:=fun χ h1 h2=>h χ h1 fun x y hx hy z=>h2 x y hx hy ((e x y (by omega) (by omega)).mp z)
theorem KO{m:Nat}{E:List ZL}{P:Nat->Nat}{a b:Nat}(ha:a<=m)(hb:b<=m)(h:GO m ((a,b)::E) P):GO m E (mrg P a b):=fun χ h1 h2=>by
 refine h χ (fun e he=>?_) fun x y hx hy z=>h2 x y hx hy ((YN _ _ _ _ _).mpr (.inl z))
 rcases List.mem_cons.mp he with rfl | he
 ·exact h2 a b ha hb ((YN _ _ _ _ _).mpr (.inr (by omega)))
 ·exact h1 e he
theorem Ey{m:Nat}{P:Nat->Nat}(ok:RepOk m P)(h:∀x,x<=m->P x=P 0):Vk m P=1:=by
 unfold Vk
 have:sN (m+1) (fun x=>Yb (P x) x)=sN (m+1) (fun x=>Yb x 0*1):=Zz fun x hx=>by
  rw[h x (by omega),ok.root,Int.mul_one];unfold Yb
  by_cases q:x=0
  ·rw[if_pos q,if_pos q.symm]
  ·rw[if_neg q,if_neg (Ne.symm q)]
 rw[this,Ly (by omega)]
theorem RI{m:Nat}:∀{E:List ZL}{P:Nat->Nat}{k:Nat},Gp (m+1) E->RepOk m P->Vk m P=(k:Int)+1->GO m E P->Vx E P k≠0
 | [],P,k,_,ok,hr,h=>by
  have all:∀x,x<=m->P x=P 0:=fun x hx=>by
   have:=h (fun x=>decide (P x=P 0)) (by simp) (fun x y _ _ z=>by simp only[z]) x hx
   simpa using this
  have:k=0:=by rw[Ey ok all] at hr;omega
  subst this;exact Nat.one_ne_zero
 | (a,b)::E,P,k,hE,ok,hr,h=>by
  have he:=hE (a,b) (by simp)
  have ha:a<=m:=by have:=he.1;simp only at this;omega
  have hb:b<=m:=by have:=he.2;simp only at this;omega
  have hE':Gp (m+1) E:=fun f hf=>hE f (by simp[hf])
  by_cases q:P a=P b
  ·rw[Sm (e:=(a,b)) q]
   refine RI hE' ok hr fun χ h1 h2=>h χ (fun e he=>?_) h2
   rcases List.mem_cons.mp he with rfl | he
   ·exact h2 a b ha hb q
   ·exact h1 e he
  ·obtain⟨Q,e1,okQ,rQ⟩:=Gy ok ha hb q
   have:1<=Vk m Q:=QL okQ
   obtain⟨j,rfl⟩:∃j,k=j+1:=⟨k-1,by omega⟩
   rw[RH (e:=(a,b)) q]
   have:=RI (k:=j) hE' okQ (by rw[rQ,hr];omega) (KN e1 (KO ha hb h))
   rw[XN hE' e1];omega
 termination_by E=>E.length
theorem V4{m a b:Nat}{χ:Nat->Bool}(ha:a<=m)(hb:b<=m)(hab:χ a≠χ b):∀{E:List ZL}{P:Nat->Nat}{s:Nat},Gp (m+1) E->(∀e∈E,χ e.1=χ e.2)->(∀x y,x<=m->y<=m->P x=P y->χ x=χ y)->Vx E P s=Vx E (mrg P a b) s
 | [],P,0,_,_,_=>rfl
 | [],P,_+1,_,_,_=>rfl
 | e::E,P,0,hE,h1,h2=>V4 ha hb hab (E:=E) (fun f hf=>hE f (by simp[hf])) (fun f hf=>h1 f (by simp[hf])) h2
 | (c,d)::E,P,s+1,hE,h1,h2=>by
  have he:=hE (c,d) (by simp)
  have hc:c<=m:=by have:=he.1;simp only at this;omega
  have hd:d<=m:=by have:=he.2;simp only at this;omega
  have hE':Gp (m+1) E:=fun f hf=>hE f (by simp[hf])
  have h1':∀e∈E,χ e.1=χ e.2:=fun f hf=>h1 f (by simp[hf])
  have hcd:χ c=χ d:=h1 (c,d) (by simp)
  show(if P c=P d then 0 else Vx E (mrg P c d) s)+Vx E P (s+1)=(if mrg P a b c=mrg P a b d then 0 else Vx E (mrg (mrg P a b) c d) s)+Vx E (mrg P a b) (s+1)
  rw[V4 ha hb hab (s:=s+1) hE' h1' h2]
  congr 1
  have key:mrg P a b c=mrg P a b d↔P c=P d:=by
   rw[YN];constructor
   ·rintro(z | ⟨z1 | z1,z2 | z2⟩)
    ·exact z
    ·omega
    ·exact absurd (by rw[<-h2 c a hc ha z1,<-h2 d b hd hb z2,hcd]) hab
    ·exact absurd (by rw[<-h2 d a hd ha z2,<-h2 c b hc hb z1,hcd]) hab
    ·omega
   ·exact .inl
  by_cases q:P c=P d
  ·rw[if_pos q,if_pos (key.mpr q)]
  ·rw[if_neg q,if_neg fun z=>q (key.mp z)]
   rw[V4 ha hb hab (s:=s) hE' h1' (P:=mrg P c d) fun x y hx hy z=>?_]
   ·exact XN hE' fun x y _ _=>J9 _ _ _ _ _ _ _
   ·rw[YN] at z
    rcases z with z | ⟨z1 | z1,z2 | z2⟩
    ·exact h2 x y hx hy z
    ·rw[h2 x c hx hc z1,h2 y c hy hc z2]
    ·rw[h2 x c hx hc z1,h2 y d hy hd z2,hcd]
    ·rw[h2 x d hx hd z1,h2 y c hy hc z2,hcd]
    ·rw[h2 x d hx hd z1,h2 y d hy hd z2]
def ch:Nat->Nat->Nat
 | _,0=>1
 | 0,_+1=>0
 | k+1,s+1=>ch k s+ch k (s+1)
theorem Ez(k s:Nat):ch k s<=ch (k+1) (s+1):=by show _<=ch k s+ch k (s+1);omega
theorem U0{m:Nat}:∀{E:List ZL}{P:Nat->Nat}{k s:Nat},Gp (m+1) E->RepOk m P->Vk m P=(k:Int)+1->GO m E P->Vx E P s<=ch k s*Vx E P k
 | E,P,k,0,hE,ok,hr,h=>by
  have:=RI hE ok hr h
  rw[So]
  show 1<=ch k 0*_
  have:ch k 0=1:=by cases k<;>rfl
  rw[this];omega
 | [],P,k,s+1,hE,ok,hr,h=>Nat.zero_le _
 | (a,b)::E,P,k,s+1,hE,ok,hr,h=>by
  have he:=hE (a,b) (by simp)
  have ha:a<=m:=by have:=he.1;simp only at this;omega
  have hb:b<=m:=by have:=he.2;simp only at this;omega
  have hE':Gp (m+1) E:=fun f hf=>hE f (by simp[hf])
  by_cases q:P a=P b
  ·rw[Sm (e:=(a,b)) q,Sm (e:=(a,b)) q]
   refine U0 hE' ok hr fun χ h1 h2=>h χ (fun e he=>?_) h2
   rcases List.mem_cons.mp he with rfl | he
   ·exact h2 a b ha hb q
   ·exact h1 e he
  ·obtain⟨Q,e1,okQ,rQ⟩:=Gy ok ha hb q
   have:1<=Vk m Q:=QL okQ
   obtain⟨j,rfl⟩:∃j,k=j+1:=⟨k-1,by omega⟩
   rw[RH (e:=(a,b)) q,RH (e:=(a,b)) q]
   have hQ:Vk m Q=(j:Int)+1:=by rw[rQ,hr];omega
   have hngQ:GO m E Q:=KN e1 (KO ha hb h)
   simp only
   by_cases hh:GO m E P
   ·have i1:=U0 (s:=s) hE' okQ hQ hngQ
    have i2:=U0 (s:=s+1) hE' ok hr hh
    rw[XN hE' e1,XN hE' e1,Nat.mul_add]
    have:=Nat.mul_le_mul_right (Vx E Q j) (Ez j s)
    omega
   ·have:∃χ:Nat->Bool,(∀e∈E,χ e.1=χ e.2)/\(∀x y,x<=m->y<=m->P x=P y->χ x=χ y)/\¬ ∀x,x<=m->χ x=χ 0:=by
     unfold GO at hh
     exact Classical.byContradiction fun z=>hh fun χ h1 h2=>Classical.byContradiction fun z2=>z ⟨χ,h1,h2,z2⟩
    obtain⟨χ,h1,h2,h3⟩:=this
    have hab:χ a≠χ b:=fun z=>h3 (h χ (fun e he=>by
     rcases List.mem_cons.mp he with rfl | he
     ·exact z
     ·exact h1 e he) h2)
    have i1:=U0 (s:=s) hE' okQ hQ hngQ
    have i2:=U0 (s:=s+1) hE' okQ hQ hngQ
    have e2:Vx E P (s+1)=Vx E Q (s+1):=by rw[V4 ha hb hab hE' h1 h2,XN hE' e1]
    rw[XN hE' e1,XN hE' e1,e2]
    show _<=(ch j s+ch j (s+1))*_
    rw[Nat.add_mul,Nat.mul_add,Nat.mul_add];omega
 termination_by E=>E.length
theorem B7:∀k,k<=6->∀s,s<=6->ch k s<=20:=by decide +kernel
end PW
namespace PB
open L2 VL PW
structure WebOk(w:List (List Int)):Prop where
 pos:1<=w.length
 few:w.length<=7
 sq:∀i,i<w.length->(ZD w i).length=w.length
 lo:∀i j,i<w.length->j<w.length->0<=Z2 w i j
 hi:∀i j,i<w.length->j<w.length->Z2 w i j<=18
 sym:∀i j,i<w.length->j<w.length->Z2 w i j=Z2 w j i
 dia:∀i,i<w.length->Z2 w i i=0
theorem CH{W:List (List Int)}(ok:L2.WebOk W):WebOk W:=⟨ok.pos,ok.few,ok.sq,ok.lo,fun i j hi hj=>Int.le_trans (ok.hi i j hi hj) (by decide),ok.sym,ok.dia⟩
theorem OW{W:List (List Int)}(ok:WebOk W){i:Nat}(hi:i<W.length):(ZD W i).sum=((List.range W.length).map fun j=>Z2 W i j).sum:=by
 rw[<-Fs (ZD W i),ok.sq i hi];rfl
theorem Mq{f:Nat->Int}:∀{n:Nat},(∀i,i<n->0<=f i/\f i<=18)->0<=sN n f/\sN n f<=18*n
 | 0,_=>⟨Int.le_refl _,by show(0:Int)<=_;omega⟩
 | n+1,h=>by
  obtain⟨a,b⟩:=Mq (n:=n) fun i hi=>h i (by omega)
  have:=h n (by omega)
  refine⟨?_,?_⟩
  ·show 0<=sN n f+f n;omega
  ·show sN n f+f n<=_;omega
theorem B8{W:List (List Int)}(ok:WebOk W)(cn:Tn W){Y:Nat->Int}{b:Nat}(hb:b<W.length)(hyp:∀h,h<W.length->h≠b->Y h<Y b->gN W Y h<=0):∀h,h<W.length->Y b<=Y h:=by
 intro h hh
 refine Int.not_lt.mp fun hlt=>?_
 obtain⟨h0,l0,m0⟩:=Mi Y (n:=W.length) (by omega)
 have lt0:Y h0<Y b:=by have:=m0 h hh;omega
 have step:∀a c,a<W.length->c<W.length->0<Z2 W a c->Y a=Y h0->Y c=Y h0:=fun a c ha hc hp ea=>by
  have s:=hyp a ha (fun z=>by rw[z] at ea;omega) (by omega)
  have t:=Rg (f:=fun g=>Z2 W a g*(Y g-Y a)) (fun g hg=>Int.mul_nonneg (ok.lo a g ha hg) (by have:=m0 g hg;omega)) s c hc
  have:Y c-Y a=0:=by
   rcases Int.mul_eq_zero.mp t with z | z
   ·omega
   ·exact z
  omega
 have:=(cn (fun x=>Y x=Y h0) (fun a c ha hc hp=>⟨step a c ha hc hp,step c a hc ha (by rw[ok.sym c a hc ha];exact hp)⟩) h0 b l0 hb).mp rfl
 omega
theorem CI{W:List (List Int)}(ok:WebOk W){b:Nat}(hb:b<W.length){Y:Nat->Int}(h0:Y b=0){k:Nat}(hk:k<W.length-1):gN W Y (Vj b k) = - sN (W.length-1) (fun i=>Wh W b k i*Y (Vj b i)):=by
 have hp:=ok.pos
 obtain⟨m,hm⟩:∃m,W.length=m+1:=⟨W.length-1,by omega⟩
 have hm1:W.length-1=m:=by omega
 rw[hm1] at hk ⊢
 generalize hh:Vj b k=h
 have hhn:h<W.length:=by rw[hm,<-hh];exact UG hk
 have e1:sN m (fun i=>Wh W b k i*Y (Vj b i))=sN (m+1) (fun g=>(if g=h then(ZD W h).sum else-Z2 W h g)*Y g):=by
  rw[Gk (b:=b) (f:=fun g=>(if g=h then(ZD W h).sum else-Z2 W h g)*Y g) (by rw[h0,Int.mul_zero]) (by omega)]
  exact Zz fun i _=>by unfold Wh;rw[hh]
 have e2:sN (m+1) (fun g=>(if g=h then(ZD W h).sum else-Z2 W h g)*Y g)=(-1)*sN (m+1) (fun g=>Z2 W h g*Y g)+(ZD W h).sum*Y h:=by
  have:sN (m+1) (fun g=>if g=h then(ZD W h).sum*Y h else 0)=(ZD W h).sum*Y h:=by
   rw[YL (k:=h) (by omega) fun i _ hi=>if_neg hi,if_pos rfl]
  rw[<-this,<-Xo,<-Wn]
  refine Zz fun g hg=>?_
  by_cases q:g=h
  ·subst q
   rw[if_pos rfl,if_pos rfl,ok.dia g hhn];omega
  ·rw[if_neg q,if_neg q,Int.neg_mul,Int.neg_mul,Int.one_mul];omega
 have e3:(ZD W h).sum=sN (m+1) (fun g=>Z2 W h g):=by rw[OW ok hhn,Sj,hm]
 have e4:gN W Y h=sN (m+1) (fun g=>Z2 W h g*Y g)+(- Y h)*sN (m+1) (fun g=>Z2 W h g):=by
  unfold gN;rw[hm,<-Xo,<-Wn]
  exact Zz fun g _=>by rw[Int.mul_sub,Int.mul_comm (- Y h),Int.mul_neg];omega
 rw[e4,e1,e2,e3,Int.mul_comm (sN (m+1) fun g=>Z2 W h g) (Y h),Int.neg_mul];omega
theorem CJ{W:List (List Int)}(ok:WebOk W)(cn:Tn W){b:Nat}(hb:b<W.length)(c:Nat->Int):B5 (W.length-1) (Wh W b) (Mj W b c):=by
 have hp:=ok.pos
 obtain⟨m,hm⟩:∃m,W.length=m+1:=⟨W.length-1,by omega⟩
 have hm1:W.length-1=m:=by omega
 have sym:∀i j,i<m->j<m->Wh W b i j=Wh W b j i:=fun i j hi hj=>by
  unfold Wh
  by_cases q:Vj b j=Vj b i
  ·rw[if_pos q,if_pos q.symm,q]
  ·rw[if_neg q,if_neg (fun z=>q z.symm),ok.sym _ _ (by rw[hm];exact UG hi) (by rw[hm];exact UG hj)]
 rw[hm1]
 refine⟨sym,fun p hp' z hz k hk=>?_,fun i j hi hj=>by unfold Mj;rw[hm1,if_pos hj]⟩
 obtain⟨Z,hZ⟩:∃Z:Nat->Int,∀h,Z h=if h=b then 0 else if CA b h<p then z (CA b h) else 0:=⟨_,fun _=>rfl⟩
 have Zb:Z b=0:=by rw[hZ,if_pos rfl]
 have Zo:∀i,Z (Vj b i)=if i<p then z i else 0:=fun i=>by rw[hZ,if_neg (CB b i),Er]
 have flat:∀j,j<p->gN W Z (Vj b j)=0:=fun j hj=>by
  rw[CI ok hb Zb (by omega),hm1]
  have e:sN m (fun i=>Wh W b j i*Z (Vj b i))=sN p (fun k=>z k*Wh W b k j):=by
   rw[S2 (q:=p) hp' fun k h1 h2=>by rw[Zo,if_neg (by omega),Int.mul_zero]]
   exact Zz fun k hk=>by rw[Zo,if_pos hk,sym j k (by omega) (by omega),Int.mul_comm]
  rw[e,hz j hj];rfl
 have off:∀h,h<W.length->Z h≠0->gN W Z h=0:=fun h hh ne=>by
  have hb':h≠b:=fun z=>ne (by rw[z];exact Zb)
  have hi:CA b h<p:=by
   refine Nat.not_le.mp fun q=>ne ?_
   rw[hZ,if_neg hb',if_neg (by omega)]
  have:=flat _ hi
  rw[Es hb'] at this;exact this
 have up:=B8 ok cn (Y:=Z) hb (fun h hh _ hlt=>by rw[off h hh (by rw[Zb] at hlt;omega)];exact Int.le_refl _)
 have dn:=B8 ok cn (Y:=fun x=>(-1)*Z x) hb (fun h hh _ hlt=>by
  simp only[Zb] at hlt
  rw[CC,off h hh (by omega)];decide)
 have h1:=up (Vj b k) (by rw[hm];exact UG (by omega))
 have h2:=dn (Vj b k) (by rw[hm];exact UG (by omega))
 simp only[Zb,Zo,if_pos hk] at h1 h2
 omega
theorem Ih{W:List (List Int)}{h m:Nat}{f:Nat->Nat}(ok:WebOk W)(hh:h<W.length)(hm:m<=6)(hf:∀i,i<m->f i<W.length) :
  Uv [wP W,.int (h:Int),.lst (iL (nL ((List.range m).map f)))]=some (pP (YM m fun j=>if f j=h then(ZD W h).sum else-Z2 W h (f j))):=by
 have hc:ZG 1 [1,0] (Wd (Za 2)) (.one 0) ZW (O1 (xB (Zi (YJ false) (Za 0) (Za 1))) (Ze Wz [(Za 2),(Za 1)]) (Nt Rn (Zi ZK (Zi ZK (Za 2) (Za 1)) (Za 0)))) [some (wP W),some (.int (h:Int)),some (.lst (iL (nL ((List.range m).map f))))]=some (.lst (iL (YM m fun j=>if f j=h then(ZD W h).sum else-Z2 W h (f j)))):=by
  rw[YB (List.range m) (fun(j:Nat)=>.int ((f j:Nat):Int)) (fun j=>.int (if f j=h then(ZD W h).sum else-Z2 W h (f j))) (by simp[nL]) (by simp;omega) (fun j hj=>⟨[some (.int ((f j:Nat):Int)),some (.int (h:Int)),some (wP W)],rfl,rfl,?_⟩)]
  ·simp[YM]
  ·have hj:=List.mem_range.mp hj
   have hfj:=hf j hj
   by_cases q:f j=h
   ·have t:xB (Zi (YJ false) (Za 0) (Za 1)) [some (.int ((f j:Nat):Int)),some (.int (h:Int)),some (wP W)]=some true:=by simp[q]
    rw[if_pos q];rw[T2,t]
    exact Ln hh
   ·have q':¬((f j:Nat):Int)=(h:Int):=by omega
    have t:xB (Zi (YJ false) (Za 0) (Za 1)) [some (.int ((f j:Nat):Int)),some (.int (h:Int)),some (wP W)]=some false:=by simp[q']
    rw[if_neg q];rw[T2,t]
    have:=VQ (l:=ZD W h) (k:=f j) (by rw[ok.sq h hh];exact hfj)
    simp[Oy hh,this,Rn];rfl
 show Xl 3 Sa _=_
 unfold Sa
 show(ZS _ [some (wP W),some (.int (h:Int)),some (.lst (iL (nL ((List.range m).map f))))]).bind Xw=_
 rw[To (v:=pP (YM m fun j=>if f j=h then(ZD W h).sum else-Z2 W h (f j))) (by rw[YZ,Yg,ZH,hc];exact B6)]
 rfl
theorem Sq{W:List (List Int)}{b:Nat}(ok:WebOk W)(hb:b<W.length) :
  Xh [wP W,.int (b:Int)]=some (wP (WQ (W.length-1) (W.length-1) (Wh W b))):=by
 have hp:=ok.pos;have hf:=ok.few
 obtain⟨m,hm⟩:∃m,W.length=m+1:=⟨W.length-1,by omega⟩
 have hm1:W.length-1=m:=by omega
 rw[hm1]
 let os:=(List.range m).map (Vj b)
 have fo:∀i,i<m->Vj b i<W.length:=fun i hi=>by rw[hm];exact UG hi
 have e1:Zn 2 (ZG 1 [1] (Z5 [(Ze ZF [(Za 0)])]) (.one 0) (xB (Zi (YJ true) (Za 0) (Za 1))) (eP (Za 0))) [some (wP W),some (.int (b:Int)),none]=some (.nx [some (wP W),some (.int (b:Int)),some (.lst (iL (nL os)))]):=by
  have hc:ZG 1 [1] (Z5 [(Ze ZF [(Za 0)])]) (.one 0) (xB (Zi (YJ true) (Za 0) (Za 1))) (eP (Za 0)) [some (wP W),some (.int (b:Int)),none]=some (.lst (iL (nL os))):=by
   rw[T4 (List.range W.length) (fun(i:Nat)=>.int (i:Int)) (fun(i:Nat)=>.int (i:Int)) (fun h=>!decide (h=b)) (Y2 (n:=W.length) (by simp) (by omega)) (by simp;omega) fun y hy=>⟨[some (.int (y:Int)),some (.int (b:Int))],rfl,?_,fun _=>by simp⟩]
   ·rw[Mh hf hb,hm1]
    simp[nL,os]
   ·by_cases q:y=b
    ·simp[q]
    ·have q':¬(y:Int)=(b:Int):=by omega
     simp[q,q']
  rw[Zt,hc];rfl
 have hc:ZG 1 [0,2] (Wd (Za 2)) (.one 0) ZW (Ze Uv [(Za 1),(Za 0),(Za 2)]) [some (wP W),some (.int (b:Int)),some (.lst (iL (nL os)))]=some (.lst (tL (WQ m m (Wh W b)))):=by
  rw[YB (List.range m) (fun(i:Nat)=>.int ((Vj b i:Nat):Int)) (fun i=>pP (YM m (Wh W b i))) (by simp[nL,os]) (by simp;omega) (fun i hi=>⟨[some (.int ((Vj b i:Nat):Int)),some (wP W),some (.lst (iL (nL os)))],rfl,rfl,?_⟩),Lv]
  exact Ih (f:=Vj b) ok (fo i (List.mem_range.mp hi)) (by omega) fo
 show Xl 3 Xg _=_
 unfold Xg
 show(Zm _ _ [some (wP W),some (.int (b:Int)),none]).bind Xw=_
 rw[Yi e1,To (v:=wP (WQ m m (Wh W b))) (by
  rw[YZ,Yg,ZH,hc]
  show(if ZT (wP (WQ m m (Wh W b)))=true then some (wP (WQ m m (Wh W b))) else none)=_
  rw[if_pos (by rw[SM];exact NI _)])]
 rfl
theorem Ii{W:List (List Int)}(ok:WebOk W){b:Nat}{c:Nat->Int}{i j:Nat}(hi:i<W.length-1)(hj:j<W.length-1):(Mj W b c i j).natAbs<=2^7:=by
 have hp:=ok.pos;have hf:=ok.few
 have h1:Vj b i<W.length:=by have:=UG (b:=b) hi;omega
 have h2:Vj b j<W.length:=by have:=UG (b:=b) hj;omega
 unfold Mj Wh;rw[if_pos hj]
 split
 ·rw[OW ok h1,Sj]
  obtain⟨a,b⟩:=Mq (f:=fun j=>Z2 W (Vj b i) j) (n:=W.length) fun j hj=>⟨ok.lo _ j h1 hj,ok.hi _ j h1 hj⟩
  omega
 ·have:=ok.lo _ _ h1 h2
  have:=ok.hi _ _ h1 h2
  omega
theorem wt{W:List (List Int)}(ok:WebOk W):Wt W.length (Z2 W):=⟨fun a b ha hb=>ok.lo a b ha hb,fun a b ha hb=>ok.sym a b ha hb,fun a ha=>ok.dia a ha⟩
def tr(n:Nat)(w:Nat->Nat->Int):Nat:=Vx (Vf n w) id (n-1)
theorem OX{W:List (List Int)}(ok:WebOk W):YV [wP W]=some (wP (WQ (W.length-1) (W.length-1) (Wh W 0))):=by
 have h:=Sq ok (b:=0) ok.pos
 show Xl 1 Vb _=_
 unfold Vb
 show(ZS _ [some (wP W)]).bind Xw=_
 rw[To (v:=wP (WQ (W.length-1) (W.length-1) (Wh W 0))) h];rfl
theorem Ij{m:Nat}{A B:Mt}(h:∀i j,i<m->j<m->A i j=B i j):WQ m m A=WQ m m B:=by
 unfold WQ YM
 exact List.map_congr_left fun i hi=>List.map_congr_left fun j hj=>h i j (List.mem_range.mp hi) (List.mem_range.mp hj)
theorem X9{W:List (List Int)}(ok:WebOk W)(cn:Tn W):Zs [wP W]=some (.int (tr W.length (Z2 W):Int)):=by
 have hp:=ok.pos;have hf:=ok.few
 obtain⟨m,hm⟩:∃m,W.length=m+1:=⟨W.length-1,by omega⟩
 have hm1:W.length-1=m:=by omega
 have bk:=CJ ok cn (b:=0) hp (fun _=>0)
 rw[hm1] at bk
 have I:=UY bk (Nat.le_refl m)
 have sq:=OX ok;rw[hm1] at sq
 have ex:WQ m m (Wh W 0)=WQ m m (Mj W 0 fun _=>0):=Ij fun i j hi hj=>by
  unfold Mj;rw[if_pos (by omega)]
 have ev:=J5 (w:=m) (R:=wP (WQ m m (Wh W 0))) (by omega) (by omega) (by omega) bk (fun i j hi hj=>Ii ok (by omega) (by omega)) (fun i hi=>by
  unfold Mj;rw[if_neg (by omega)];exact Nat.zero_le _) (.inr (by rw[ex];rfl))
 have dd:(U7 m (Mj W 0 fun _=>0) m).2=(tr W.length (Z2 W):Int):=by
  rw[I.de];unfold tr
  rw[hm,Nat.add_sub_cancel,<-Ex (by rw[<-hm];exact wt ok)]
  refine Z8 fun r c hr hc=>?_
  unfold Wh
  have o1:∀i,Vj 0 i=i+1:=fun i=>by unfold Vj;rw[if_neg (by omega)]
  rw[o1,o1]
  by_cases q:r=c
  ·subst q
   rw[if_pos rfl,if_pos rfl,OW ok (by omega),Sj,hm]
  ·rw[if_neg (by omega),if_neg q]
 rw[dd] at ev
 have hd:YG [wP (WQ m m (Wh W 0))]=some (.int (tr W.length (Z2 W):Int)):=by
  show Xl 1 X6 _=_
  unfold X6
  show(ZS _ [some (wP (WQ m m (Wh W 0)))]).bind Xw=_
  rw[To (v:=.int (tr W.length (Z2 W):Int)) (vP (by
   rw[show Zi ZK (Ze Vr [(Za 0)]) (eC (.int 0)) [some (wP (WQ m m (Wh W 0)))]=(Vr [wP (WQ m m (Wh W 0))]).bind fun x=>ZK x (.int 0) from rfl,ev]
   rfl))]
  rfl
 show Xl 1 Wu _=_
 unfold Wu
 show(ZS _ [some (wP W)]).bind Xw=_
 rw[To (v:=.int (tr W.length (Z2 W):Int)) (by
  rw[show Ze YG [(Ze YV [(Za 0)])] [some (wP W)]=(YV [wP W]).bind fun x=>YG [x] from by
   simp only[Ze,Td]
   show((((YV [wP W])).bind fun x=>(some []).map (x::·)).bind YG)=_
   cases YV [wP W]<;>rfl,sq]
  exact hd)]
 rfl
theorem mem_ties{n:Nat}{w:Nat->Nat->Int}{e:ZL}:e∈Vf n w↔e.1<e.2/\e.2<n/\0<w e.1 e.2:=by
 unfold Vf;rw[List.mem_flatMap];constructor
 ·rintro⟨p,hp,h⟩
  rw[List.mem_replicate] at h
  obtain⟨h1,rfl⟩:=h
  have:=mem_prs.mp (show(e.1,e.2)∈MC n from hp)
  exact⟨this.1,this.2,by omega⟩
 ·rintro⟨h1,h2,h3⟩
  exact⟨e,mem_prs.mpr ⟨h1,h2⟩,List.mem_replicate.mpr ⟨by omega,rfl⟩⟩
theorem Mr{W:List (List Int)}(ok:WebOk W)(cn:Tn W):GO (W.length-1) (Vf W.length (Z2 W)) id:=fun χ h1 _ x hx=>by
 have hp:=ok.pos
 have key:=cn (fun x=>χ x=true) (fun a b ha hb hab=>?_) x 0 (by omega) hp
 ·cases e1:χ x<;>cases e2:χ 0<;>simp_all
 ·have:χ a=χ b:=by
   rcases Nat.lt_trichotomy a b with q | q | q
   ·exact h1 (a,b) (mem_ties.mpr ⟨q,hb,hab⟩)
   ·rw[q]
   ·exact(h1 (b,a) (mem_ties.mpr ⟨q,ha,by rw[ok.sym b a hb ha];exact hab⟩)).symm
  rw[this]
theorem CK{W:List (List Int)}(ok:WebOk W)(cn:Tn W):1<=tr W.length (Z2 W):=by
 have hp:=ok.pos
 have:=RI (m:=W.length-1) (k:=W.length-1) (by rw[show W.length-1+1=W.length by omega];exact QO _ _) (RepOk.id _) (OV _) (Mr ok cn)
 unfold tr;omega
theorem CM{W:List (List Int)}(ok:WebOk W){i j:Nat}(hi:i<W.length)(hj:j<W.length){f g h:XE}{s:ZP}(h1:f s=some (wP W))(h2:g s=some (.int (i:Int)))(h3:h s=some (.int (j:Int))):Zi ZK (Zi ZK f g) h s=some (.int (Z2 W i j)):=by
 have a1:Ub (W.map pP) (i:Int)=some (pP (ZD W i)):=Oy hi
 have a2:=VQ (l:=ZD W i) (k:=j) (by rw[ok.sq i hi];exact hj)
 have b1:Zi ZK f g s=some (pP (ZD W i)):=by
  rw[ZA,h1,h2];exact a1
 rw[ZA,b1,h3];exact a2
end PB
namespace PC
open L2 VL PW
theorem A1(c:Int):∃v:Int,1<=v/\v<=9/\Ub [PV.int 1,PV.int 1,PV.int 1,PV.int 2,PV.int 3] (c%5)=some (.int v):=by
 have h:c%5=0\/c%5=1\/c%5=2\/c%5=3\/c%5=4:=by omega
 rcases h with h | h | h | h | h<;>rw[h]
 ·exact⟨1,by decide,by decide,rfl⟩
 ·exact⟨1,by decide,by decide,rfl⟩
 ·exact⟨1,by decide,by decide,rfl⟩
 ·exact⟨2,by decide,by decide,rfl⟩
 ·exact⟨3,by decide,by decide,rfl⟩
theorem A2(c:Int):∃v:Int,0<=v/\v<=9/\Ub [PV.int 0,PV.int 1,PV.int 0,PV.int 1,PV.int 2] (c%5)=some (.int v):=by
 have h:c%5=0\/c%5=1\/c%5=2\/c%5=3\/c%5=4:=by omega
 rcases h with h | h | h | h | h<;>rw[h]
 ·exact⟨0,by decide,by decide,rfl⟩
 ·exact⟨1,by decide,by decide,rfl⟩
 ·exact⟨0,by decide,by decide,rfl⟩
 ·exact⟨1,by decide,by decide,rfl⟩
 ·exact⟨2,by decide,by decide,rfl⟩
def XQ(ns:List Int)(Y7 n:Nat)(first:Int)(ts:List Y6)(room:Int)(x6 x7 x8 x9 x10 x11:Option Int):ZP:=
 [some (.cst (iL ns)),some (.int (Y7:Int)),some (.int (n:Int)),some (.int first),some (.int room),some (dP ts),x6.map PV.int,x7.map PV.int,x8.map PV.int,x9.map PV.int,x10.map PV.int,x11.map PV.int]
noncomputable def B9:XS:=(Zm (Zn 7 (Ze Zx [(Za 0),(Zi Yo (Za 1) (Za 6))]))
  (Zm (Zn 8 (eP (Ze V7 [(Zi ZK (Yr [(eC (.int 1)),(eC (.int 1)),(eC (.int 1)),(eC (.int 2)),(eC (.int 3))]) (Zi Xa (Zi Wj (Za 7) (Za 6)) (eC (.int 5)))),(Zi YQ (Za 4) (Zi YQ (Zi YQ (Za 2) (eC (.int 1))) (Za 6)))])))
  (Zm (VL.sDPut 5 (Yq [(Zi Xa (Za 7) (Za 6)),(Za 6)]) (Za 8))
  (Zn 4 (eP (Zi YQ (Za 4) (Za 8)))))))
theorem CN{ns:List Int}{Y7 n:Nat}{first:Int}{ts:List Y6}{room:Int}{x7 x8 x9 x10 x11:Option Int}{h:Nat}(hns:ns.length<=63)(ok:DictOk n ts)(hl:ts.length<=1000)(h1:1<=h)(hh:h<n)(hn:n<=7)(hr:(n:Int)-(h:Int)<=room) :
  ∃ts' room' y7 y8,B9 (XQ ns Y7 n first ts room (some (h:Int)) x7 x8 x9 x10 x11)=some (.nx (XQ ns Y7 n first ts' room' (some (h:Int)) (some y7) (some y8) x9 x10 x11))/\DictOk n ts'/\ts'.length<=ts.length+1/\(n:Int)-((h:Int)+1)<=room'/\Ext ts ts'/\YT ts'+room'<=YT ts+room/\∃c,c<h/\Lr ts' c h:=by
 generalize hc:YE ns (Y7+h)=c
 have e1:Zn 7 (Ze Zx [(Za 0),(Zi Yo (Za 1) (Za 6))]) (XQ ns Y7 n first ts room (some (h:Int)) x7 x8 x9 x10 x11)=some (.nx (XQ ns Y7 n first ts room (some (h:Int)) (some c) x8 x9 x10 x11)):=by
  have z:(Y7:Int)+(h:Int)=((Y7+h:Nat):Int):=by omega
  have q:=UX hns (Y7+h)
  rw[hc] at q
  have q:Zx [PV.cst (ns.map PV.int),PV.int ((Y7:Int)+(h:Int))]=some (PV.int c):=by rw[z];exact q
  simp[XQ,q]
 obtain⟨v,v1,v9,ev⟩:=A1 (c/(h:Int))
 have cd:Su c (h:Int):=Uu (by omega) (by omega)
 have hp:(0:Int)<(h:Int):=by omega
 generalize hd:(if room-((n:Int)-1-(h:Int))<v then room-((n:Int)-1-(h:Int)) else v)=dp
 have d1:1<=dp:=by rw[<-hd];split<;>omega
 have d9:dp<=9:=by rw[<-hd];split<;>omega
 have dr:dp<=room-((n:Int)-1-(h:Int)):=by rw[<-hd];split<;>omega
 have e2:Zn 8 (eP (Ze V7 [(Zi ZK (Yr [(eC (.int 1)),(eC (.int 1)),(eC (.int 1)),(eC (.int 2)),(eC (.int 3))]) (Zi Xa (Zi Wj (Za 7) (Za 6)) (eC (.int 5)))),(Zi YQ (Za 4) (Zi YQ (Zi YQ (Za 2) (eC (.int 1))) (Za 6)))])) (XQ ns Y7 n first ts room (some (h:Int)) (some c) x8 x9 x10 x11)=some (.nx (XQ ns Y7 n first ts room (some (h:Int)) (some c) (some dp) x9 x10 x11)):=by
  simp[XQ,cd,ev,hd]
 have m0:=Int.emod_nonneg c (show(h:Int)≠0 by omega)
 have m1:=Int.emod_lt_of_pos c hp
 obtain⟨ts2,pe,ok2,hle2,hh2,hx2,hs2⟩:=Sh (a:=(c%(h:Int)).toNat) (b:=h) (t:=dp) ok (by omega) hh d1 d9 (by omega)
 have hcast:(((c%(h:Int)).toNat:Nat):Int)=c%(h:Int):=by omega
 rw[hcast] at pe
 have e3:VL.sDPut 5 (Yq [(Zi Xa (Za 7) (Za 6)),(Za 6)]) (Za 8) (XQ ns Y7 n first ts room (some (h:Int)) (some c) (some dp) x9 x10 x11)=some (.nx (XQ ns Y7 n first ts2 room (some (h:Int)) (some c) (some dp) x9 x10 x11)):=by
  rw[Si (v:=.int dp) (k:=.tup [.int (c%(h:Int)),.int (h:Int)]) (d:=dP ts) rfl (by simp[XQ,show 0<h by omega]) rfl pe]
  rfl
 refine⟨ts2,room-dp,c,dp,?_,ok2,hle2,by omega,hx2,by omega,(c%(h:Int)).toNat,by omega,hh2⟩
 unfold B9;rw[Eg e1 e2 e3];simp[XQ]
noncomputable def C0:XS:=(Zm (Zn 8 (eP (Zi ZK (Yr [(eC (.int 0)),(eC (.int 1)),(eC (.int 0)),(eC (.int 1)),(eC (.int 2))]) (Zi Xa (Ze Zx [(Za 0),(Za 9)]) (eC (.int 5))))))
  (Zm (Zn 9 (eP (Zi Yo (Za 9) (eC (.int 1)))))
  (WR (VJ (xB (MY true (Yq [(Za 10),(Za 11)]) (Za 5))) (xB (EZ Fy An (eC (.int 0)) (Za 8) (Za 4)))) (Zm (VL.sDPut 5 (Yq [(Za 10),(Za 11)]) (Za 8))
  (Zn 4 (eP (Zi YQ (Za 4) (Za 8))))) ZN)))
theorem CO{ns:List Int}{Y7 n:Nat}{first:Int}{ts:List Y6}{room:Int}{x6 x7 x8:Option Int}{k a b:Nat}(hns:ns.length<=63)(ok:DictOk n ts)(hl:ts.length<=1000)(hab:a<b)(hb:b<n) :
  ∃ts' room' y8,C0 (XQ ns Y7 n first ts room x6 x7 x8 (some (k:Int)) (some (a:Int)) (some (b:Int)))=some (.nx (XQ ns Y7 n first ts' room' x6 x7 (some y8) (some ((k+1:Nat):Int)) (some (a:Int)) (some (b:Int))))/\DictOk n ts'/\ts'.length<=ts.length+1/\Ext ts ts'/\(0<=room->0<=room'/\YT ts'+room'<=YT ts+room):=by
 obtain⟨v,v0,v9,ev⟩:=A2 (YE ns k)
 have e1:Zn 8 (eP (Zi ZK (Yr [(eC (.int 0)),(eC (.int 1)),(eC (.int 0)),(eC (.int 1)),(eC (.int 2))]) (Zi Xa (Ze Zx [(Za 0),(Za 9)]) (eC (.int 5))))) (XQ ns Y7 n first ts room x6 x7 x8 (some (k:Int)) (some (a:Int)) (some (b:Int)))=some (.nx (XQ ns Y7 n first ts room x6 x7 (some v) (some (k:Int)) (some (a:Int)) (some (b:Int)))):=by
  have q:Zx [PV.cst (ns.map PV.int),PV.int (k:Int)]=some (PV.int (YE ns k)):=UX hns k
  simp[XQ,q,ev]
 have e2:Zn 9 (eP (Zi Yo (Za 9) (eC (.int 1)))) (XQ ns Y7 n first ts room x6 x7 (some v) (some (k:Int)) (some (a:Int)) (some (b:Int)))=some (.nx (XQ ns Y7 n first ts room x6 x7 (some v) (some ((k+1:Nat):Int)) (some (a:Int)) (some (b:Int)))):=by
  simp[XQ]
 obtain⟨cc,ec⟩:=Cy ts (a:Int) (b:Int)
 unfold C0;rw[B4 e1 e2]
 have tst:∃q:Bool,VJ (xB (MY true (Yq [(Za 10),(Za 11)]) (Za 5))) (xB (EZ Fy An (eC (.int 0)) (Za 8) (Za 4))) (XQ ns Y7 n first ts room x6 x7 (some v) (some ((k+1:Nat):Int)) (some (a:Int)) (some (b:Int)))=some q/\(q=true->0<v/\v<=room):=by
  have t1:xB (MY true (Yq [(Za 10),(Za 11)]) (Za 5)) (XQ ns Y7 n first ts room x6 x7 (some v) (some ((k+1:Nat):Int)) (some (a:Int)) (some (b:Int)))=some !cc:=by
   simp[XQ,MY,ec]
  have t2:xB (EZ Fy An (eC (.int 0)) (Za 8) (Za 4)) (XQ ns Y7 n first ts room x6 x7 (some v) (some ((k+1:Nat):Int)) (some (a:Int)) (some (b:Int)))=some (decide (0<v)&&decide (v<=room)):=by
   by_cases hv:0<v
   ·simp[XQ,EZ,hv]
   ·simp[XQ,EZ,hv]
  rw[T1,t1,t2]
  cases cc with
  | true=>exact⟨false,rfl,fun z=>by cases z⟩
  | false=>exact⟨_,rfl,fun z=>by
    rw[Bool.and_eq_true] at z
    exact⟨of_decide_eq_true z.1,of_decide_eq_true z.2⟩⟩
 obtain⟨q,eq,hq⟩:=tst
 rw[Yl,eq];simp only[Option.bind_some]
 cases q with
 | false=>exact⟨ts,room,v,rfl,ok,by omega,Ext.refl ts,fun h=>⟨h,Int.le_refl _⟩⟩
 | true=>
  obtain⟨hv,hvr⟩:=hq rfl
  obtain⟨ts2,pe,ok2,hle2,_,hx2,hs2⟩:=Sh (t:=v) ok hab hb (by omega) v9 (by omega)
  refine⟨ts2,room-v,v,?_,ok2,hle2,hx2,fun _=>⟨by omega,by omega⟩⟩
  rw[if_pos rfl]
  have e3:VL.sDPut 5 (Yq [(Za 10),(Za 11)]) (Za 8) (XQ ns Y7 n first ts room x6 x7 (some v) (some ((k+1:Nat):Int)) (some (a:Int)) (some (b:Int)))=some (.nx (XQ ns Y7 n first ts2 room x6 x7 (some v) (some ((k+1:Nat):Int)) (some (a:Int)) (some (b:Int)))):=by
   rw[Si (v:=.int v) (k:=.tup [.int (a:Int),.int (b:Int)]) (d:=dP ts) rfl (by simp[XQ]) rfl pe]
   rfl
  rw[Yi e3];simp[XQ]
def roomN(n:Nat):Int:=if 4<n then(n:Int)+1 else 8
theorem times_eq{ns:List Int}{Y7 n:Nat}(hns:ns.length<=63)(h1:1<=n)(hn:n<=7):∃ts,Xx [.cst (iL ns),.int (Y7:Int),.int (n:Int)]=some (dP ts)/\DictOk n ts/\Hang n ts/\YT ts<=roomN n:=by
 have hR:(n:Int)+1<=roomN n/\roomN n<=8:=by unfold roomN;split<;>omega
 generalize hRd:roomN n=R at *
 generalize hf:YE ns Y7=first
 have hcell:Zx [PV.cst (ns.map PV.int),PV.int (Y7:Int)]=some (PV.int first):=by rw[<-hf];exact UX hns Y7
 obtain⟨r,er,alt⟩:=QE (n:=n) (most:=9) (rest:=first/2) (room:=R) (by omega) (by omega) hn h1
 have cd2:Su first 2:=Uu (by omega) (by omega)
 -- the first test
 have hstart:Zn 3 (Ze Zx [(Za 0),(Za 1)]) [some (.cst (iL ns)),some (.int (Y7:Int)),some (.int (n:Int)),none,none,none,none,none,none,none,none,none]=some (.nx [some (.cst (iL ns)),some (.int (Y7:Int)),some (.int (n:Int)),some (.int first),none,none,none,none,none,none,none,none]):=by
  simp[hcell]
 have hroom0:Zn 4 (eP (Zi ZK (Yr [(eC (.int 8)),(Zi Yo (Za 2) (eC (.int 1)))]) (Ze Xk [(Zi Tt (Za 2) (eC (.int 4)))]))) [some (.cst (iL ns)),some (.int (Y7:Int)),some (.int (n:Int)),some (.int first),none,none,none,none,none,none,none,none]=some (.nx [some (.cst (iL ns)),some (.int (Y7:Int)),some (.int (n:Int)),some (.int first),some (.int R),none,none,none,none,none,none,none]):=by
  rw[<-hRd];unfold roomN
  by_cases q:4<n
  ·have q':(4:Int)<(n:Int):=by omega
   have d:decide ((4:Int)<(n:Int))=true:=decide_eq_true q'
   rw[if_pos q]
   have g:Ze Xk [(Zi Tt (Za 2) (eC (.int 4)))] [some (.cst (iL ns)),some (.int (Y7:Int)),some (.int (n:Int)),some (.int first),none,none,none,none,none,none,none,none]=some (.int 1):=by
    show Xk [.bl (decide ((4:Int)<(n:Int)))]=_
    rw[d];rfl
   rw[Zt,YZ,ZA,g];rfl
  ·have d:decide ((4:Int)<(n:Int))=false:=decide_eq_false (by omega)
   rw[if_neg q]
   have g:Ze Xk [(Zi Tt (Za 2) (eC (.int 4)))] [some (.cst (iL ns)),some (.int (Y7:Int)),some (.int (n:Int)),some (.int first),none,none,none,none,none,none,none,none]=some (.int 0):=by
    show Xk [.bl (decide ((4:Int)<(n:Int)))]=_
    rw[d];rfl
   rw[Zt,YZ,ZA,g];rfl
 have htest:VJ (xB (Zi (YJ false) (Zi Xa (Za 3) (eC (.int 2))) (eC (.int 1)))) (xB (Rl true (Ze YR [(Zi Wj (Za 3) (eC (.int 2))),(Za 2),(Za 4),(eC (.int 9))]))) [some (.cst (iL ns)),some (.int (Y7:Int)),some (.int (n:Int)),some (.int first),some (.int R),none,none,none,none,none,none,none]=some (decide (first%2=1)&&!RZ r):=by
  have eb:D7 true r=some (.bl (!RZ r)):=by cases r<;>rfl
  by_cases h:first%2=1
  ·simp[h,cd2,er,eb]
  ·simp[h]
 show ∃ts,Xl 12 VV [.cst (iL ns),.int (Y7:Int),.int (n:Int)]=some (dP ts)/\DictOk n ts/\Hang n ts/\YT ts<=R
 unfold VV;simp only[Xl,YF,List.map_cons,List.map_nil,List.length_cons,List.length_nil]
 show ∃ts,(Zm (Zn 3 (Ze Zx [(Za 0),(Za 1)])) _ [some (.cst (iL ns)),some (.int (Y7:Int)),some (.int (n:Int)),none,none,none,none,none,none,none,none,none]).bind Xw=some (dP ts)/\DictOk n ts/\Hang n ts/\YT ts<=R
 rw[Yi hstart,Yi hroom0,Yt,Yl,htest];simp only[Option.bind_some]
 by_cases hc:(decide (first%2=1)&&!RZ r)=true
 ·rw[if_pos hc]
  rw[Bool.and_eq_true] at hc
  rcases alt with rfl | ⟨ts,rfl,ok,_,hg,hsu⟩
  ·exact absurd hc.2 (by decide)
  ·exact⟨ts,by simp[cd2,er],ok,hg,hsu (by omega)⟩
 ·rw[if_neg hc]
  simp only[Jw,Option.bind_some]
  -- the dict,the room
  have e45:∀g:XS,Zm (Zn 5 (eC (.dT [] []))) g [some (.cst (iL ns)),some (.int (Y7:Int)),some (.int (n:Int)),some (.int first),some (.int R),none,none,none,none,none,none,none]=g (XQ ns Y7 n first [] R none none none none none none):=fun g=>by
   rw[Yi (s1:=XQ ns Y7 n first [] R none none none none none none) (by simp[XQ];rfl)]
  rw[e45]
  -- the first loop
  obtain⟨s1,l1,ts1,room1,y6,y7,y8,es1,ok1,hle1,hrm1,hsu1,tree⟩:=ZU (T:=.one 6) (fb:=B9) (ls:=Xn 1 (n-1)) (s:=XQ ns Y7 n first [] R none none none none none none)
   (fun i st=>∃ts room y6 y7 y8,st=XQ ns Y7 n first ts room y6 y7 y8 none none none/\DictOk n ts/\ts.length<=i/\(n:Int)-((i:Int)+1)<=room/\YT ts+room<=R/\∀h,1<=h->h<=i->∃c,c<h/\Lr ts c h) ⟨[],R,none,none,none,rfl,DictOk.nil n,Nat.le_refl _,by omega,by show(0:Int)+R<=R;omega,fun h h1 h2=>by omega⟩ (fun i l st hl' hJ=>by
    obtain⟨hi,rfl⟩:=WL hl'
    obtain⟨ts,room,y6,y7,y8,rfl,ok,hle,hroom,hsu,tree⟩:=hJ
    have z:(1:Int)+(i:Int)=((i+1:Nat):Int):=by omega
    rw[z]
    obtain⟨ts2,room2,z7,z8,e2,ok2,hle2,hr2,hx2,hs2,hc2⟩:=CN (Y7:=Y7) (first:=first) (room:=room) (x7:=y7) (x8:=y8) (x9:=none) (x10:=none) (x11:=none) (h:=i+1) hns ok (by omega) (by omega) (by omega) hn (by omega)
    exact⟨_,_,rfl,e2,ts2,room2,some ((i+1:Nat):Int),some z7,some z8,rfl,ok2,by omega,by omega,by omega,fun h h1 h2=>by
     by_cases q:h<=i
     ·obtain⟨c,a,b⟩:=tree h h1 q
      exact⟨c,a,hx2 _ _ b⟩
     ·have:h=i+1:=by omega
      subst this
      exact hc2⟩)
  rw[Vq] at hle1 tree hrm1
  have r1:ZY [eC (.int 1),Za 2] (ZJ [5] (XQ ns Y7 n first [] R none none none none none none))=some (Xn 1 (n-1)):=by
   rw[Xf (i:=1) (j:=(n:Int)) rfl (by simp[ZJ,XQ]) ⟨by omega,by omega⟩ ⟨by omega,by omega⟩]
   congr 2;omega
  have f1:Yp [5] (ZY [eC (.int 1),Za 2]) (.one 6) B9 (XQ ns Y7 n first [] R none none none none none none)=some (.nx (XQ ns Y7 n first ts1 room1 y6 y7 y8 none none none)):=by
   rw[Yc,r1]
   exact l1.trans (by rw[es1])
  obtain⟨k0,e9⟩:∃k0:Nat,Zn 9 (eP (Zi Yo (Za 1) (Zi ZK (Yr [(eC (.int 5)),(eC (.int 27))]) (Ze Xk [(Zi Tt (Za 2) (eC (.int 4)))])))) (XQ ns Y7 n first ts1 room1 y6 y7 y8 none none none)=some (.nx (XQ ns Y7 n first ts1 room1 y6 y7 y8 (some ((k0:Nat):Int)) none none)):=by
   have g:Ze Xk [(Zi Tt (Za 2) (eC (.int 4)))] (XQ ns Y7 n first ts1 room1 y6 y7 y8 none none none)=some (.int (if 4<n then 1 else 0)):=by
    show Xk [.bl (decide ((4:Int)<(n:Int)))]=_
    by_cases q:4<n
    ·rw[if_pos q,decide_eq_true (show(4:Int)<(n:Int) by omega)];rfl
    ·rw[if_neg q,decide_eq_false (show ¬(4:Int)<(n:Int) by omega)];rfl
   by_cases q:4<n
   ·rw[if_pos q] at g
    refine⟨Y7+27,?_⟩
    rw[Zt,YZ,ZA,ZA,g];rfl
   ·rw[if_neg q] at g
    refine⟨Y7+5,?_⟩
    rw[Zt,YZ,ZA,ZA,g];rfl
  -- the second loops
  have inner:∀(a:Nat)(ts:List Y6)(room:Int)(x8:Option Int)(k:Nat)(x11:Option Int),a<n->DictOk n ts->ts.length<=500->∃ts' room' y8 k' y11,Xs (.one 11) C0 (Xn ((a:Int)+1) (n-(a+1))) (XQ ns Y7 n first ts room y6 y7 x8 (some (k:Int)) (some (a:Int)) x11)=some (.nx (XQ ns Y7 n first ts' room' y6 y7 y8 (some ((k':Nat):Int)) (some (a:Int)) y11))/\DictOk n ts'/\ts'.length<=ts.length+7/\Ext ts ts'/\(0<=room->0<=room'/\YT ts'+room'<=YT ts+room):=by
   intro a ts room x8 k x11 ha ok hl
   obtain⟨s',h,ts',room',z8,k',z11,e,ok',hle,hx,hsu⟩:=ZU (T:=.one 11) (fb:=C0) (ls:=Xn ((a:Int)+1) (n-(a+1))) (s:=XQ ns Y7 n first ts room y6 y7 x8 (some (k:Int)) (some (a:Int)) x11)
    (fun j st=>∃ts' room' z8 k' z11,st=XQ ns Y7 n first ts' room' y6 y7 z8 (some ((k':Nat):Int)) (some (a:Int)) z11/\DictOk n ts'/\ts'.length<=ts.length+j/\Ext ts ts'/\(0<=room->0<=room'/\YT ts'+room'<=YT ts+room)) ⟨ts,room,x8,k,x11,rfl,ok,by omega,Ext.refl ts,fun h=>⟨h,Int.le_refl _⟩⟩ (fun j l st hl' hJ=>by
     obtain⟨hj,rfl⟩:=WL hl'
     obtain⟨ts',room',z8,k',z11,rfl,ok',hle,hx,hsu⟩:=hJ
     have z:(a:Int)+1+(j:Int)=((a+1+j:Nat):Int):=by omega
     rw[z]
     obtain⟨ts2,room2,w8,e2,ok2,hle2,hx2,hs2⟩:=CO (Y7:=Y7) (first:=first) (room:=room') (x6:=y6) (x7:=y7) (x8:=z8) (k:=k') hns ok' (by omega) (show a<a+1+j by omega) (by omega)
     exact⟨_,_,rfl,e2,ts2,room2,some w8,k'+1,some ((a+1+j:Nat):Int),rfl,ok2,by omega,hx.trans hx2,fun h=>by have a1:=hsu h;have a2:=hs2 a1.1;exact⟨a2.1,by omega⟩⟩)
   rw[Vq] at hle
   exact⟨ts',room',z8,k',z11,by rw[h,e],ok',by omega,hx,hsu⟩
  obtain⟨s2,l2,ts2,room2,w8,w9,w10,w11,es2,ok2,hle2,hx2,hsu2⟩:=ZU (T:=.one 10) (fb:=Yp [5] (ZY [Zi Yo (Za 10) (eC (.int 1)),Za 2]) (.one 11) C0) (ls:=Wl n) (s:=XQ ns Y7 n first ts1 room1 y6 y7 y8 (some ((k0:Nat):Int)) none none)
   (fun i st=>∃ts room w8 k w10 w11,st=XQ ns Y7 n first ts room y6 y7 w8 (some ((k:Nat):Int)) w10 w11/\DictOk n ts/\ts.length<=7+7*i/\Ext ts1 ts/\0<=room/\YT ts+room<=R) ⟨ts1,room1,y8,k0,none,none,rfl,ok1,by omega,Ext.refl ts1,by omega,hsu1⟩ (fun i l st hl' hJ=>by
    obtain⟨hi,rfl⟩:=Vp hl'
    obtain⟨ts,room,w8,k,w10,w11,rfl,ok,hle,hx,hrm,hsu⟩:=hJ
    obtain⟨ts',room',z8,k',z11,e2,ok',hle',hx',hs'⟩:=inner i ts room w8 k w11 hi ok (by omega)
    refine⟨_,_,rfl,?_,ts',room',z8,k',some (i:Int),z11,rfl,ok',by omega,hx.trans hx',(hs' hrm).1,by have:=(hs' hrm).2;omega⟩
    have hr:ZY [Zi Yo (Za 10) (eC (.int 1)),Za 2] (ZJ [5] (XQ ns Y7 n first ts room y6 y7 w8 (some (k:Int)) (some (i:Int)) w11))=some (Xn ((i:Int)+1) (n-(i+1))):=by
     rw[Xf (i:=(i:Int)+1) (j:=(n:Int)) (by simp[ZJ,XQ]) (by simp[ZJ,XQ]) ⟨by omega,by omega⟩ ⟨by omega,by omega⟩]
     congr 2;omega
    show Yp _ _ _ _ (XQ ns Y7 n first ts room y6 y7 w8 (some (k:Int)) (some (i:Int)) w11)=_
    rw[Yc,hr]
    exact e2)
  rw[Ut] at hle2
  have r2:Z5 [Za 2] (ZJ [5] (XQ ns Y7 n first ts1 room1 y6 y7 y8 (some ((k0:Nat):Int)) none none))=some (Wl n):=Y2 (by simp[ZJ,XQ]) (by omega)
  have f2:Yp [5] (Z5 [Za 2]) (.one 10) (Yp [5] (ZY [Zi Yo (Za 10) (eC (.int 1)),Za 2]) (.one 11) C0) (XQ ns Y7 n first ts1 room1 y6 y7 y8 (some ((k0:Nat):Int)) none none)=some (.nx (XQ ns Y7 n first ts2 room2 y6 y7 w8 (some ((w9:Nat):Int)) w10 w11)):=by
   rw[Yc,r2]
   exact l2.trans (by rw[es2])
  have hg:Hang n ts2:=by
   have all:∀P,Cl ts2 P->∀i,i<n->(P i↔P 0):=by
    intro P hP i
    induction i using Nat.strongRecOn with
    | _ i ih=>
     intro hi
     by_cases h0:i=0
     ·subst h0;exact Iff.rfl
     ·obtain⟨c,hc,hb⟩:=tree i (by omega) (by omega)
      exact(hP _ _ (hx2 _ _ hb)).symm.trans (ih c hc (by omega))
   exact fun P hP i j hi hj=>(all P hP i hi).trans (all P hP j hj).symm
  obtain⟨ts',eR,okR,_,hgR,hsR⟩:=Me ok2 hn (by omega) (first/7)
  have cd7:Su first 7:=Uu (by omega) (by omega)
  refine⟨ts',?_,okR,hgR hg,by omega⟩
  refine Eq.trans (congrArg (fun o=>Option.bind o Xw) (Eg (f:=Yp [5] (ZY [eC (.int 1),Za 2]) (.one 6) B9) f1 e9 f2)) ?_
  simp[XQ,hcell,cd7,eR]
end PC
namespace PB
open L2 VL PW
def T0(W:List (List Int)):List ZL:=Vf W.length (Z2 W)
theorem Ms(W:List (List Int)):(WO W).map (fun l=>((YE l 0).toNat,(YE l 1).toNat))=T0 W:=by
 unfold T0 Vf MC WO;rw[List.map_flatMap,List.flatMap_assoc]
 congr 1
 funext a
 unfold UC;rw[List.map_flatMap,List.flatMap_map]
 congr 1
 funext j
 unfold X4;rw[List.map_map]
 show List.map (fun _=>((YE [(a:Int),((a+1+j:Nat):Int),_] 0).toNat,(YE [(a:Int),((a+1+j:Nat):Int),_] 1).toNat)) (List.range (Z2 W a (a+1+j)).toNat)=_
 rw[show(fun t:Nat=>((YE [(a:Int),((a+1+j:Nat):Int),(t:Int)] 0).toNat,(YE [(a:Int),((a+1+j:Nat):Int),(t:Int)] 1).toNat))=fun _=>(a,a+1+j) from by funext t;simp only[YE];exact Prod.ext (by simp) (by simp only[List.getD_cons_succ,List.getD_cons_zero];omega)]
 rw[List.map_const',List.length_range]
theorem Lz(W:List (List Int)):(T0 W).length=(WO W).length:=by rw[<-Ms,List.length_map]
theorem OY{W:List (List Int)}{t:Nat}(ht:t<(T0 W).length):(Yn (T0 W) t).1<(Yn (T0 W) t).2/\(Yn (T0 W) t).2<W.length/\∃c:Int,(WO W)[t]?=some [((Yn (T0 W) t).1:Int),((Yn (T0 W) t).2:Int),c]:=by
 have hm:Yn (T0 W) t∈T0 W:=by
  unfold Yn;rw[List.getD_eq_getElem?_getD,List.getElem?_eq_getElem ht]
  exact List.getElem_mem _
 obtain⟨h1,h2,h3⟩:=mem_ties.mp hm
 refine⟨h1,h2,?_⟩
 have ht':t<(WO W).length:=by rw[<-Lz];exact ht
 obtain⟨x,hl⟩:∃x,(WO W)[t]?=some x:=⟨_,List.getElem?_eq_getElem ht'⟩
 have hmem:x∈WO W:=List.mem_of_getElem? hl
 unfold WO UC X4 at hmem
 obtain⟨a,_,hmem⟩:=List.mem_flatMap.mp hmem
 obtain⟨j,_,hmem⟩:=List.mem_flatMap.mp hmem
 obtain⟨c,_,hmem⟩:=List.mem_map.mp hmem
 have e:Yn (T0 W) t=(a,a+1+j):=by
  unfold Yn;rw[List.getD_eq_getElem?_getD,<-Ms,List.getElem?_map,hl,<-hmem]
  show((YE [(a:Int),((a+1+j:Nat):Int),(c:Int)] 0).toNat,(YE [(a:Int),((a+1+j:Nat):Int),(c:Int)] 1).toNat)=_
  exact Prod.ext (by simp[YE]) (by simp only[YE,List.getD_cons_succ,List.getD_cons_zero];omega)
 rw[e,hl,<-hmem]
 exact⟨(c:Int),rfl⟩
def WW(n:Nat)(P:Nat->Nat):List Int:=nL ((List.range n).map P)
theorem EA(n:Nat)(P:Nat->Nat):(WW n P).length=n:=by simp[WW,nL]
theorem Tr{n:Nat}{P:Nat->Nat}{x:Nat}(h:x<n):Ub (iL (WW n P)) (x:Int)=some (.int ((P x:Nat):Int)):=by
 rw[VQ (by rw[EA];exact h)]
 congr 2
 unfold WW nL YE;simp[h]
def Xu(W:List (List Int)):PV:=.lst ((WO W).map pP)
theorem Mu{W:List (List Int)}{t:Nat}(ht:t<(T0 W).length):∃c:Int,Ub ((WO W).map pP) (t:Int)=some (pP [((Yn (T0 W) t).1:Int),((Yn (T0 W) t).2:Int),c]):=by
 obtain⟨_,_,c,h⟩:=OY ht
 exact⟨c,VD (by rw[List.getElem?_map,h];rfl)⟩
theorem LA{n:Nat}{P:Nat->Nat}{a b:Nat}{s:ZP}{i j k:Nat}(hn:n<=7)(hs:s[i]?=some (some (.lst (iL (WW n P)))))(hj:s[j]?=some (some (.int ((P a:Nat):Int))))(hk:s[k]?=some (some (.int ((P b:Nat):Int)))) :
  ZG 1 [j,k] (Wd (Za i)) (.one 0) ZW (eP (O1 (xB (Zi (YJ false) (Za 0) (Za 2))) (Za 1) (Za 0))) s=some (.lst (iL (WW n (mrg P a b)))):=by
 rw[YB (List.range n) (fun x=>.int ((P x:Nat):Int)) (fun x=>.int ((mrg P a b x:Nat):Int)) (by simp[hs,WW,nL,iL]) (by simp;omega) (fun x hx=>⟨[some (.int ((P x:Nat):Int)),some (.int ((P a:Nat):Int)),some (.int ((P b:Nat):Int))],by simp[Yk,hj,hk],rfl,?_⟩)]
 ·simp[WW,nL,iL]
 ·unfold mrg
  by_cases q:P x=P b
  ·simp[q]
  ·have q':¬((P x:Nat):Int)=((P b:Nat):Int):=by omega
   simp[q,q']
def gP(g:List Nat):PV:=pP (nL g)
theorem Ik{W:List (List Int)}(ok:WebOk W){g:List Nat}(hg:∀t∈g,t<(T0 W).length):Y8 [wP W,Xu W,gP g]=some (.lst (iL (WW W.length (WV (T0 W) id g)))):=by
 have hf:=ok.few
 let st:Option PV->Option PV->Option PV->Option PV->Option PV->ZP:=fun x3 x4 x5 x6 x7=>[some (wP W),some (Xu W),some (gP g),x3,x4,x5,x6,x7]
 let pc:Nat->Option PV:=fun i=>some (.lst (iL (WW W.length (WV (T0 W) id (g.take i)))))
 have e1:Zn 3 (Nt SR (Ze ZF [(Za 0)])) (st none none none none none)=some (.nx (st (pc 0) none none none none)):=by
  have:Nt SR (Ze ZF [(Za 0)]) (st none none none none none)=some (.lst (iL (WW W.length id))):=by
   have l:Ze ZF [(Za 0)] (st none none none none none)=some (.int (W.length:Int)):=by simp[st]
   unfold Nt;rw[l]
   show SR (.int (W.length:Int))=_
   show(if 0<=(W.length:Int)/\(W.length:Int)<=10000 then some (PV.lst (iL ((List.range ((W.length:Int)).toNat).map fun(i:Nat)=>(i:Int)))) else none)=_
   rw[if_pos ⟨by omega,by omega⟩,Int.toNat_natCast];simp[WW,nL]
  rw[Zt,this];rfl
 obtain⟨s',f1,x4,x5,x6,x7,hs⟩:=ZU (T:=.one 4) (fb:=(Zm (Zn 5 (eP (Zi ZK (Za 1) (Za 4))))
  (Zm (Zn 6 (eP (Zi ZK (Za 3) (Zi ZK (Za 5) (eC (.int 0))))))
  (Zm (Zn 7 (eP (Zi ZK (Za 3) (Zi ZK (Za 5) (eC (.int 1))))))
  (Zn 3 (ZG 1 [6,7] (Wd (Za 3)) (.one 0) ZW (eP (O1 (xB (Zi (YJ false) (Za 0) (Za 2))) (Za 1) (Za 0))))))))) (ls:=iL (nL g)) (s:=st (pc 0) none none none none) (fun i s=>∃x4 x5 x6 x7,s=st (pc i) x4 x5 x6 x7) ⟨none,none,none,none,rfl⟩ (by
  rintro i l s hl ⟨x4,x5,x6,x7,rfl⟩
  obtain⟨t,ht,rfl⟩:∃t,g[i]?=some t/\l = .int (t:Int):=by
   simp only[iL,nL,List.getElem?_map] at hl
   cases e:g[i]? with
   | none=>rw[e] at hl;cases hl
   | some t=>rw[e] at hl;cases hl;exact⟨t,rfl,rfl⟩
  have htl:=hg t (List.mem_of_getElem? ht)
  obtain⟨h1,h2,_⟩:=OY htl
  obtain⟨c,hc⟩:=Mu htl
  generalize hP:WV (T0 W) id (g.take i)=P at *
  have pci:pc i=some (.lst (iL (WW W.length P))):=by simp only[pc,hP]
  have pcs:pc (i+1)=some (.lst (iL (WW W.length (mrg P (Yn (T0 W) t).1 (Yn (T0 W) t).2)))):=by
   simp only[pc];rw[List.take_add_one,ht]
   show some (PV.lst (iL (WW W.length (WV (T0 W) id (g.take i++[t])))))=_
   rw[UZ,hP]
  generalize (Yn (T0 W) t).1=a at *
  generalize (Yn (T0 W) t).2=b at *
  refine⟨st (pc i) (some (.int (t:Int))) x5 x6 x7,st (pc (i+1)) (some (.int (t:Int))) (some (pP [(a:Int),(b:Int),c])) (some (.int ((P a:Nat):Int))) (some (.int ((P b:Nat):Int))),rfl,?_,_,_,_,_,rfl⟩
  have b1:Zn 5 (eP (Zi ZK (Za 1) (Za 4))) (st (pc i) (some (.int (t:Int))) x5 x6 x7)=some (.nx (st (pc i) (some (.int (t:Int))) (some (pP [(a:Int),(b:Int),c])) x6 x7)):=by
   have:Zi ZK (Za 1) (Za 4) (st (pc i) (some (.int (t:Int))) x5 x6 x7)=some (pP [(a:Int),(b:Int),c]):=hc
   rw[Zt,YZ,this];rfl
  have b2:Zn 6 (eP (Zi ZK (Za 3) (Zi ZK (Za 5) (eC (.int 0))))) (st (pc i) (some (.int (t:Int))) (some (pP [(a:Int),(b:Int),c])) x6 x7)=some (.nx (st (pc i) (some (.int (t:Int))) (some (pP [(a:Int),(b:Int),c])) (some (.int ((P a:Nat):Int))) x7)):=by
   have:Zi ZK (Za 3) (Zi ZK (Za 5) (eC (.int 0))) (st (pc i) (some (.int (t:Int))) (some (pP [(a:Int),(b:Int),c])) x6 x7)=some (.int ((P a:Nat):Int)):=by
    rw[pci];exact Tr (by omega)
   rw[Zt,vP this];rfl
  have b3:Zn 7 (eP (Zi ZK (Za 3) (Zi ZK (Za 5) (eC (.int 1))))) (st (pc i) (some (.int (t:Int))) (some (pP [(a:Int),(b:Int),c])) (some (.int ((P a:Nat):Int))) x7)=some (.nx (st (pc i) (some (.int (t:Int))) (some (pP [(a:Int),(b:Int),c])) (some (.int ((P a:Nat):Int))) (some (.int ((P b:Nat):Int))))):=by
   have:Zi ZK (Za 3) (Zi ZK (Za 5) (eC (.int 1))) (st (pc i) (some (.int (t:Int))) (some (pP [(a:Int),(b:Int),c])) (some (.int ((P a:Nat):Int))) x7)=some (.int ((P b:Nat):Int)):=by
    rw[pci];exact Tr (by omega)
   rw[Zt,vP this];rfl
  rw[Eg b1 b2 b3,Zt,LA (a:=a) (b:=b) hf (by rw[pci];rfl) rfl rfl,pcs]
  rfl)
 have e2:Yp [3] (TQ (Za 2)) (.one 4) (Zm (Zn 5 (eP (Zi ZK (Za 1) (Za 4))))
  (Zm (Zn 6 (eP (Zi ZK (Za 3) (Zi ZK (Za 5) (eC (.int 0))))))
  (Zm (Zn 7 (eP (Zi ZK (Za 3) (Zi ZK (Za 5) (eC (.int 1))))))
  (Zn 3 (ZG 1 [6,7] (Wd (Za 3)) (.one 0) ZW (eP (O1 (xB (Zi (YJ false) (Za 0) (Za 2))) (Za 1) (Za 0)))))))) (st (pc 0) none none none none)=some (.nx (st (pc g.length) x4 x5 x6 x7)):=by
  rw[Yc,show TQ (Za 2) (ZJ [3] (st (pc 0) none none none none))=some (iL (nL g)) from rfl]
  show Xs _ _ _ _=_
  rw[f1,hs];simp[iL,nL]
 show Xl 8 Vc _=_
 unfold Vc
 show(Zm _ _ (st none none none none none)).bind Xw=_
 rw[Yi e1,Yi e2,To (v:=.lst (iL (WW W.length (WV (T0 W) id g)))) (by
  show pc g.length=_
  simp[pc])]
 rfl
theorem LB{n a b:Nat}{P:Nat->Nat}{c:Int}(ha:a<n)(hb:b<n):Y0 [.lst (iL (WW n P)),pP [(a:Int),(b:Int),c]]=some (.bl (!decide (P a=P b))):=by
 have v1:Zi ZK (Za 0) (Zi ZK (Za 1) (eC (.int 0))) [some (.lst (iL (WW n P))),some (pP [(a:Int),(b:Int),c])]=some (.int ((P a:Nat):Int)):=Tr ha
 have v2:Zi ZK (Za 0) (Zi ZK (Za 1) (eC (.int 1))) [some (.lst (iL (WW n P))),some (pP [(a:Int),(b:Int),c])]=some (.int ((P b:Nat):Int)):=Tr hb
 have:decide (((P a:Nat):Int)=((P b:Nat):Int))=decide (P a=P b):=decide_eq_decide.mpr (by omega)
 show Xl 2 Wv _=_
 unfold Wv
 show(ZS _ [some (.lst (iL (WW n P))),some (pP [(a:Int),(b:Int),c])]).bind Xw=_
 rw[To (v:=.bl (!decide (P a=P b))) (by
  rw[YZ,ZA,v1,v2]
  show(YJ true (.int ((P a:Nat):Int)) (.int ((P b:Nat):Int))).bind _=_
  simp[this])]
 rfl
end PB
namespace PB
open L2 VL PW VX
theorem Mv(g:List Nat):g=[]\/∃h x,g=h++[x]:=by
 rcases List.eq_nil_or_concat g with h | ⟨h,x,e⟩
 ·exact .inl h
 ·exact .inr ⟨h,x,by rw[e,List.concat_eq_append]⟩
theorem Il{g:List Nat}{s:ZP}{k:Nat}(hs:s[k]?=some (some (gP g))):O1 (xB (Zi Tt (Ze ZF [(Za k)]) (eC (.int 0)))) (Zi Yo (Zi ZK (Za k) (Nt Rn (eC (.int 1)))) (eC (.int 1))) (eC (.int 0)) s=some (.int ((YH g:Nat):Int)):=by
 have l:Ze ZF [(Za k)] s=some (.int (g.length:Int)):=by simp[hs,gP,nL,iL]
 have v:Za k s=some (gP g):=by simp[hs]
 have t:xB (Zi Tt (Ze ZF [(Za k)]) (eC (.int 0))) s=some (decide (0<(g.length:Int))):=by
  rw[Ys,ZA,l];rfl
 rw[T2,t]
 rcases Mv g with rfl | ⟨h,x,rfl⟩
 ·rfl
 ·rw[Ve]
  have:decide (0<((h++[x]).length:Int))=true:=decide_eq_true (by simp)
  rw[this]
  show Zi Yo (Zi ZK (Za k) (Nt Rn (eC (.int 1)))) (eC (.int 1)) s=_
  refine vI (op:=(· + ·)) (a:=(x:Int)) (b:=1) ?_ rfl
  rw[ZA,v]
  show Ub (iL (nL (h++[x]))) (-1)=_
  unfold Ub
  have hl:(iL (nL (h++[x]))).length=h.length+1:=by simp[iL,nL]
  rw[hl]
  have:MA (h.length+1) (-1)=some h.length:=by
   unfold MA
   simp
   omega
  rw[this];simp[iL,nL]
theorem Gz{W:List (List Int)}(ok:L2.WebOk W){gs:List (List Nat)}(hg:∀g∈gs,∀t∈g,t<(T0 W).length)(hb:(Yu (T0 W) gs).length<=10000)(hl:∀g∈gs,g.length<=100) :
  Vd [wP W,Xu W,.lst (gs.map gP)]=some (.lst ((Yu (T0 W) gs).map gP)):=by
 have ok':=CH ok
 have tl:(WO W).length<=441:=(QC ok).2
 have TL:(T0 W).length<=441:=by rw[Lz];exact tl
 let st:Option PV->Option PV->Option PV->Option PV->ZP:=fun x3 x4 x5 x6=>[some (wP W),some (Xu W),some (.lst (gs.map gP)),x3,x4,x5,x6]
 let acc:Nat->Option PV:=fun i=>some (.lst ((Yu (T0 W) (gs.take i)).map gP))
 have pre:∀i,(Yu (T0 W) (gs.take i)).length<=(Yu (T0 W) gs).length:=fun i=>by
  have:Yu (T0 W) gs=Yu (T0 W) (gs.take i)++Yu (T0 W) (gs.drop i):=by
   unfold Yu;rw[<-List.flatMap_append,List.take_append_drop]
  rw[this,List.length_append];omega
 let fb:XS:=(Zm (Zn 5 (Ze Y8 [(Za 0),(Za 1),(Za 4)]))
  (Zm (Zn 6 (eP (O1 (xB (Zi Tt (Ze ZF [(Za 4)]) (eC (.int 0)))) (Zi Yo (Zi ZK (Za 4) (Nt Rn (eC (.int 1)))) (eC (.int 1))) (eC (.int 0)))))
  (Ws 3 (ZG 1 [4,5,1] (ZY [(Za 6),(Ze ZF [(Za 1)])]) (.one 0) (xB (Ze Y0 [(Za 2),(Zi ZK (Za 3) (Za 0))])) (eP (Zi Qj (Za 1) (Yq [(Za 0)])))))))
 obtain⟨s',f1,x4,x5,x6,hs⟩:=ZU (T:=.one 4) (fb:=fb) (ls:=gs.map gP) (s:=st (acc 0) none none none) (fun i s=>∃x4 x5 x6,s=st (acc i) x4 x5 x6) ⟨none,none,none,rfl⟩ (by
  rintro i l s hl' ⟨x4,x5,x6,rfl⟩
  obtain⟨g,hgi,rfl⟩:∃g,gs[i]?=some g/\l=gP g:=by
   rw[List.getElem?_map] at hl'
   cases e:gs[i]? with
   | none=>rw[e] at hl';cases hl'
   | some g=>rw[e] at hl';cases hl';exact⟨g,rfl,rfl⟩
  have hgm:=List.mem_of_getElem? hgi
  have hgt:=hg g hgm
  have bh:YH g<=(T0 W).length:=by
   rcases Mv g with rfl | ⟨h,x,rfl⟩
   ·exact Nat.zero_le _
   ·rw[Ve];have:=hgt x (by simp);omega
  let P:=WV (T0 W) id g
  let s1:Option PV->Option PV->ZP:=fun x5 x6=>st (acc i) (some (gP g)) x5 x6
  have b1:Zn 5 (Ze Y8 [(Za 0),(Za 1),(Za 4)]) (s1 x5 x6)=some (.nx (s1 (some (.lst (iL (WW W.length P)))) x6)):=by
   have:Ze Y8 [(Za 0),(Za 1),(Za 4)] (s1 x5 x6)=some (.lst (iL (WW W.length P))):=Ik ok' hgt
   rw[Zt,this];rfl
  have b2:Zn 6 (eP (O1 (xB (Zi Tt (Ze ZF [(Za 4)]) (eC (.int 0)))) (Zi Yo (Zi ZK (Za 4) (Nt Rn (eC (.int 1)))) (eC (.int 1))) (eC (.int 0)))) (s1 (some (.lst (iL (WW W.length P)))) x6)=some (.nx (s1 (some (.lst (iL (WW W.length P)))) (some (.int ((YH g:Nat):Int))))):=by
   rw[Zt,vP (Il (k:=4) (g:=g) rfl)];rfl
  let s2:=s1 (some (.lst (iL (WW W.length P)))) (some (.int ((YH g:Nat):Int)))
  have b3:ZG 1 [4,5,1] (ZY [(Za 6),(Ze ZF [(Za 1)])]) (.one 0) (xB (Ze Y0 [(Za 2),(Zi ZK (Za 3) (Za 0))])) (eP (Zi Qj (Za 1) (Yq [(Za 0)]))) s2=some (.lst (((Sn (T0 W) g).map fun t=>g++[t]).map gP)):=by
   have hr:ZY [(Za 6),(Ze ZF [(Za 1)])] s2=some ((List.range' (YH g) ((T0 W).length-YH g)).map fun(t:Nat)=>PV.int (t:Int)):=by
    rw[Xf (i:=((YH g:Nat):Int)) (j:=((T0 W).length:Int)) rfl (by
     rw[Lz]
     simp[s2,s1,st,Xu]) ⟨by omega,by omega⟩ ⟨by omega,by omega⟩]
    unfold Xn;rw[List.range'_eq_map_range,List.map_map]
    congr 1
    rw[show(((T0 W).length:Int)-((YH g:Nat):Int)).toNat=(T0 W).length-YH g by omega]
    refine List.map_congr_left fun t _=>?_
    show PV.int _=PV.int _
    congr 1
   rw[T4 (List.range' (YH g) ((T0 W).length-YH g)) (fun(t:Nat)=>PV.int (t:Int)) (fun t=>gP (g++[t])) (fun t=>!decide (P (Yn (T0 W) t).1=P (Yn (T0 W) t).2)) hr (by simp;omega) fun t ht=>?_]
   ·unfold Sn
    rw[List.map_map];rfl
   ·have htl:t<(T0 W).length:=by
     rw[List.mem_range'_1] at ht;omega
    obtain⟨h1,h2,_⟩:=OY htl
    obtain⟨c,hc⟩:=Mu htl
    refine⟨[some (.int (t:Int)),some (gP g),some (.lst (iL (WW W.length P))),some (Xu W)],rfl,?_,fun _=>?_⟩
    ·have i1:Zi ZK (Za 3) (Za 0) [some (.int (t:Int)),some (gP g),some (.lst (iL (WW W.length P))),some (Xu W)]=some (pP [((Yn (T0 W) t).1:Int),((Yn (T0 W) t).2:Int),c]):=hc
     have i2:Ze Y0 [(Za 2),(Zi ZK (Za 3) (Za 0))] [some (.int (t:Int)),some (gP g),some (.lst (iL (WW W.length P))),some (Xu W)]=some (.bl (!decide (P (Yn (T0 W) t).1=P (Yn (T0 W) t).2))):=by
      rw[Yg,ZH,ZH,i1]
      exact LB (by omega) h2
     rw[Ys,i2];rfl
    ·have e:Qj (gP g) (.tup [.int (t:Int)])=some (gP (g++[t])):=by
      show(if(iL (nL g)).length+1<=10000 then some (PV.tup (iL (nL g)++[.int (t:Int)])) else none)=_
      rw[if_pos (by simp[iL,nL];have:=hl g hgm;omega)]
      simp[gP,pP,iL,nL]
     show eP (Zi Qj (Za 1) (Yq [(Za 0)])) _=_
     have e':Zi Qj (Za 1) (Yq [(Za 0)]) [some (.int (t:Int)),some (gP g),some (.lst (iL (WW W.length P))),some (Xu W)]=some (gP (g++[t])):=e
     rw[YZ,e']
     show(if ZT (gP (g++[t]))=true then some (gP (g++[t])) else none)=_
     rw[if_pos (by unfold gP pP;rw[SM];exact Xy _)]
  have nx:Yu (T0 W) (gs.take (i+1))=Yu (T0 W) (gs.take i)++(Sn (T0 W) g).map fun t=>g++[t]:=by
   unfold Yu;rw[List.take_add_one,hgi,List.flatMap_append]
   simp
  refine⟨s1 x5 x6,st (acc (i+1)) (some (gP g)) (some (.lst (iL (WW W.length P)))) (some (.int ((YH g:Nat):Int))),rfl,?_,_,_,_,rfl⟩
  show Zm _ _ _=_
  rw[B4 b1 b2,Qg (m:=(Yu (T0 W) (gs.take i)).map gP) b3 rfl (by
   have:=pre (i+1)
   rw[nx,List.length_append] at this
   simp only[List.length_map] at this ⊢
   omega)]
  show some _=some _
  rw[show acc (i+1)=some (.lst ((Yu (T0 W) (gs.take i)).map gP++((Sn (T0 W) g).map fun t=>g++[t]).map gP)) by simp only[acc];rw[nx,List.map_append]]
  rfl)
 have e2:Yp [3] (Wd (Za 2)) (.one 4) fb (st (acc 0) none none none)=some (.nx (st (acc gs.length) x4 x5 x6)):=by
  rw[Yc,show Wd (Za 2) (ZJ [3] (st (acc 0) none none none))=some (gs.map gP) from rfl]
  show Xs _ _ _ _=_
  rw[f1,hs]
  simp
 have e1:Zn 3 (Yr []) (st none none none none)=some (.nx (st (acc 0) none none none)):=rfl
 show Xl 7 RE _=_
 unfold RE
 show(Zm _ _ (st none none none none)).bind Xw=_
 rw[Yi e1,Yi (show Yp [3] (Wd (Za 2)) (.one 4) _ _=_ from e2),To (v:=.lst ((Yu (T0 W) gs).map gP)) (by
  show acc gs.length=_
  simp[acc])]
 rfl
theorem LC{W:List (List Int)}(ok:WebOk W)(cn:Tn W)(h60:tr W.length (Z2 W)<=300){s:Nat}(hs:s<=6):(Ya (T0 W) s).length<=6000:=by
 have hp:=ok.pos;have hf:=ok.few;rw[Tq]
 have:=U0 (m:=W.length-1) (k:=W.length-1) (s:=s) (E:=T0 W) (P:=id) (by rw[show W.length-1+1=W.length by omega];exact QO _ _) (RepOk.id _) (OV _) (Mr ok cn)
 have h2:=B7 (W.length-1) (by omega) s hs
 have h3:Vx (T0 W) id (W.length-1)<=300:=h60
 have:=Nat.mul_le_mul h2 h3
 omega
theorem QP{W:List (List Int)}(ok:L2.WebOk W)(cn:Tn W)(h60:tr W.length (Z2 W)<=300){m:Int}(hm:(tr W.length (Z2 W):Int)<=m):ZX [wP W,.int m]=some (.lst ((Ya (T0 W) (W.length-1)).map gP)):=by
 have ok':=CH ok;have hp:=ok.pos;have hf:=ok.few;have tc:=X9 ok' cn
 let st:Option PV->Option PV->Option PV->ZP:=fun x2 x3 x4=>[some (wP W),some (.int m),x2,x3,x4]
 let gv:Nat->Option PV:=fun i=>some (.lst ((Ya (T0 W) i).map gP))
 have e0:WR (xB (Zi Tt (Ze Zs [(Za 0)]) (Za 1))) Tg ZN (st none none none)=some (.nx (st none none none)):=by
  have c:Ze Zs [(Za 0)] (st none none none)=some (.int (tr W.length (Z2 W):Int)):=tc
  have t:xB (Zi Tt (Ze Zs [(Za 0)]) (Za 1)) (st none none none)=some false:=by
   rw[Ys,ZA,c]
   show(Tt (.int (tr W.length (Z2 W):Int)) (.int m)).bind NF=_
   have:decide (m<(tr W.length (Z2 W):Int))=false:=decide_eq_false (by omega)
   show some (decide (m<(tr W.length (Z2 W):Int)))=_
   rw[this]
  rw[Yl,t];rfl
 have e1:Zn 2 (Ze XY [(Za 0)]) (st none none none)=some (.nx (st (some (Xu W)) none none)):=by
  have:Ze XY [(Za 0)] (st none none none)=some (Xu W):=(QC ok).1
  rw[Zt,this];rfl
 have e2:Zn 3 (Yr [(eP (Yq []))]) (st (some (Xu W)) none none)=some (.nx (st (some (Xu W)) (gv 0) none)):=rfl
 obtain⟨s',f1,x4,hs⟩:=ZU (T:=.one 4) (fb:=Zn 3 (Ze Vd [(Za 0),(Za 2),(Za 3)])) (ls:=Xn 1 (W.length-1)) (s:=st (some (Xu W)) (gv 0) none) (fun i s=>∃x4,s=st (some (Xu W)) (gv i) x4) ⟨none,rfl⟩ (by
  rintro i l s hl ⟨x4,rfl⟩
  obtain⟨hi,rfl⟩:=WL hl
  refine⟨st (some (Xu W)) (gv i) (some (.int (1+(i:Int)))),st (some (Xu W)) (gv (i+1)) (some (.int (1+(i:Int)))),rfl,?_,_,rfl⟩
  have gg:=Vw (T0 W) i
  have:=Gz ok (gs:=Ya (T0 W) i) (fun g hg t ht=>(gg g hg).1.lt t ht) (by
   have:=LC ok' cn h60 (s:=i+1) (by omega)
   show(Ya (T0 W) (i+1)).length<=_
   omega) (fun g hg=>by rw[(gg g hg).2];omega)
  have c:Ze Vd [(Za 0),(Za 2),(Za 3)] (st (some (Xu W)) (gv i) (some (.int (1+(i:Int)))))=some (.lst ((Ya (T0 W) (i+1)).map gP)):=this
  rw[Zt,c];rfl)
 have e3:Yp [3] (ZY [(eC (.int 1)),(Ze ZF [(Za 0)])]) (.one 4) (Zn 3 (Ze Vd [(Za 0),(Za 2),(Za 3)])) (st (some (Xu W)) (gv 0) none)=some (.nx (st (some (Xu W)) (gv (W.length-1)) x4)):=by
  have r:ZY [(eC (.int 1)),(Ze ZF [(Za 0)])] (ZJ [3] (st (some (Xu W)) (gv 0) none))=some (Xn 1 (W.length-1)):=by
   rw[Xf (i:=1) (j:=(W.length:Int)) rfl (by simp[ZJ,st]) ⟨by omega,by omega⟩ ⟨by omega,by omega⟩]
   congr 2;omega
  rw[Yc,r]
  show Xs _ _ _ _=_
  rw[f1,hs,Vq]
 show Xl 5 Se _=_
 unfold Se
 show(Zm _ _ (st none none none)).bind Xw=_
 rw[Yi e0,Yi e1,Yi e2,Yi e3,To (v:=.lst ((Ya (T0 W) (W.length-1)).map gP)) rfl];rfl
theorem Mw{W:List (List Int)}(ok:L2.WebOk W)(cn:Tn W){m:Int}(hm:m<(tr W.length (Z2 W):Int))(hs:Rb (.int m)=true):Ym [wP W,.int m]=some (("TooMany" : PySem.Str),.int m):=by
 have tc:=X9 (CH ok) cn
 have c:Ze Zs [(Za 0)] [some (wP W),some (.int m),none,none,none]=some (.int (tr W.length (Z2 W):Int)):=tc
 have t:xB (Zi Tt (Ze Zs [(Za 0)]) (Za 1)) [some (wP W),some (.int m),none,none,none]=some true:=by
  rw[Ys,ZA,c]
  show some (decide (m<(tr W.length (Z2 W):Int)))=_
  rw[decide_eq_true hm]
 unfold Ym
 show Qr _ _ _ [some (wP W),some (.int m),none,none,none]=_
 unfold Qr Ct;rw[t];simp only[Option.bind_some,if_true];unfold SU
 show(match (if Rb (.int m)=true then some (("TooMany" : PySem.Str),PV.int m) else none) with | some c=>some c | none=>_)=_
 rw[if_pos hs]
theorem Im{W:List (List Int)}(ok:L2.WebOk W)(cn:Tn W){m:Int}(hm:(tr W.length (Z2 W):Int)<=m):Ym [wP W,.int m]=none:=by
 have tc:=X9 (CH ok) cn
 have c:Ze Zs [(Za 0)] [some (wP W),some (.int m),none,none,none]=some (.int (tr W.length (Z2 W):Int)):=tc
 have t:xB (Zi Tt (Ze Zs [(Za 0)]) (Za 1)) [some (wP W),some (.int m),none,none,none]=some false:=by
  rw[Ys,ZA,c]
  show some (decide (m<(tr W.length (Z2 W):Int)))=_
  rw[decide_eq_false (by omega)]
 unfold Ym
 show Qr _ _ _ [some (wP W),some (.int m),none,none,none]=_
 unfold Qr Ct;rw[t];rfl
end PB
namespace PB
open L2 VL PW
def U1(e:ZL):PV:=.tup [.int (e.1:Int),.int (e.2:Int)]
def TB(W:List (List Int))(a m:Nat):List ZL:=(List.range m).flatMap fun j=>List.replicate (Z2 W a (a+1+j)).toNat (a,a+1+j)
def TA(W:List (List Int))(i:Nat):List ZL:=(List.range i).flatMap fun a=>TB W a (W.length-(a+1))
theorem CP(W:List (List Int)):TA W W.length=T0 W:=by
 unfold TA TB T0 Vf MC;rw[List.flatMap_assoc]
 congr 1
 funext a
 rw[List.flatMap_map]
theorem KP(W:List (List Int))(a m:Nat):TB W a (m+1)=TB W a m++List.replicate (Z2 W a (a+1+m)).toNat (a,a+1+m):=by unfold TB;rw[WA]
theorem KQ(W:List (List Int))(i:Nat):TA W (i+1)=TA W i++TB W i (W.length-(i+1)):=by unfold TA;rw[WA]
theorem LD{W:List (List Int)}(ok:L2.WebOk W){a:Nat}(ha:a<W.length):∀{m:Nat},m<=W.length-(a+1)->(TB W a m).length<=9*m
 | 0,_=>by simp[TB]
 | m+1,h=>by
  have:=LD ok ha (m:=m) (by omega)
  have:=ok.hi a (a+1+m) ha (by omega)
  rw[KP,List.length_append,List.length_replicate];omega
theorem GA{W:List (List Int)}(ok:L2.WebOk W):∀{i:Nat},i<=W.length->(TA W i).length<=63*i
 | 0,_=>by simp[TA]
 | i+1,h=>by
  have hf:=ok.few
  have:=GA ok (i:=i) (by omega)
  have:=LD ok (a:=i) (by omega) (Nat.le_refl (W.length-(i+1)))
  rw[KQ,List.length_append];omega
theorem KR(l:List ZL):ZE (l.map U1)=true:=US fun _ _=>rfl
def Vy(W:List (List Int))(g:List Nat)(x2 x3 x4 x5 x6 x7:Option PV):ZP:=[some (wP W),some (gP g),x2,x3,x4,x5,x6,x7]
def fT:XS:=Zn 2 (Zi Ur (Za 2) (Zi Q0 (Yr [(Yq [(Za 3),(Za 4)])]) (Zi ZK (Zi ZK (Za 0) (Za 3)) (Za 4))))
theorem Aa{W:List (List Int)}(ok:L2.WebOk W){g:List Nat}{a b:Nat}(ha:a<W.length)(hb:b<W.length){L:List ZL}(hL:L.length<=1000)(x5 x6 x7:Option PV) :
  fT (Vy W g (some (.lst (L.map U1))) (some (.int (a:Int))) (some (.int (b:Int))) x5 x6 x7)=some (.nx (Vy W g (some (.lst ((L++List.replicate (Z2 W a b).toNat (a,b)).map U1))) (some (.int (a:Int))) (some (.int (b:Int))) x5 x6 x7)):=by
 have lo:=ok.lo a b ha hb;have hi:=ok.hi a b ha hb
 have v1:Zi ZK (Zi ZK (Za 0) (Za 3)) (Za 4) (Vy W g (some (.lst (L.map U1))) (some (.int (a:Int))) (some (.int (b:Int))) x5 x6 x7)=some (.int (Z2 W a b)):=CM (CH ok) ha hb rfl rfl rfl
 have v2:Zi Q0 (Yr [(Yq [(Za 3),(Za 4)])]) (Zi ZK (Zi ZK (Za 0) (Za 3)) (Za 4)) (Vy W g (some (.lst (L.map U1))) (some (.int (a:Int))) (some (.int (b:Int))) x5 x6 x7)=some (.lst ((List.replicate (Z2 W a b).toNat (a,b)).map U1)):=by
  rw[ZA,v1]
  show Q0 (.lst [U1 (a,b)]) (.int (Z2 W a b))=_
  show(if ZE [U1 (a,b)]=true/\(-1000000:Int)<=Z2 W a b/\Z2 W a b<=1000000/\[U1 (a,b)].length*(Z2 W a b).toNat<=10000 then some (PV.lst (List.replicate (Z2 W a b).toNat [U1 (a,b)]).flatten) else none)=_
  rw[if_pos ⟨rfl,by omega,by omega,by simp only[List.length_singleton];omega⟩,Nm,List.map_replicate]
 have v3:Zi Ur (Za 2) (Zi Q0 (Yr [(Yq [(Za 3),(Za 4)])]) (Zi ZK (Zi ZK (Za 0) (Za 3)) (Za 4))) (Vy W g (some (.lst (L.map U1))) (some (.int (a:Int))) (some (.int (b:Int))) x5 x6 x7)=some (.lst ((L++List.replicate (Z2 W a b).toNat (a,b)).map U1)):=by
  rw[ZA,v2]
  show Ur (.lst (L.map U1)) (.lst ((List.replicate (Z2 W a b).toNat (a,b)).map U1))=_
  show(if(L.map U1).length+((List.replicate (Z2 W a b).toNat (a,b)).map U1).length<=10000/\ZE (L.map U1)=true/\ZE ((List.replicate (Z2 W a b).toNat (a,b)).map U1)=true then some (PV.lst (L.map U1++(List.replicate (Z2 W a b).toNat (a,b)).map U1)) else none)=_
  rw[if_pos ⟨by simp only[List.length_map,List.length_replicate];omega,KR _,KR _⟩,List.map_append]
 unfold fT
 rw[Zt,v3];rfl
theorem LF{W:List (List Int)}(ok:L2.WebOk W)(g:List Nat):∃x3 x4,Yp [] (Z5 [(Ze ZF [(Za 0)])]) (.one 3) (Yp [] (ZY [(Zi Yo (Za 3) (eC (.int 1))),(Ze ZF [(Za 0)])]) (.one 4) fT) (Vy W g (some (.lst [])) none none none none none)=some (.nx (Vy W g (some (.lst ((T0 W).map U1))) x3 x4 none none none)):=by
 have hf:=ok.few
 have len:∀s:ZP,s[0]?=some (some (wP W))->Ze ZF [(Za 0)] s=some (.int (W.length:Int)):=fun s hs=>by simp[hs]
 have hr:Z5 [(Ze ZF [(Za 0)])] (ZJ [] (Vy W g (some (.lst [])) none none none none none))=some (Wl W.length):=Y2 (n:=W.length) (len _ rfl) (by omega)
 rw[Yc,hr]
 obtain⟨s',f1,x3,x4,hs⟩:=ZU (T:=.one 3) (fb:=Yp [] (ZY [(Zi Yo (Za 3) (eC (.int 1))),(Ze ZF [(Za 0)])]) (.one 4) fT) (ls:=Wl W.length) (s:=Vy W g (some (.lst [])) none none none none none) (fun i s=>∃x3 x4,s=Vy W g (some (.lst ((TA W i).map U1))) x3 x4 none none none) ⟨none,none,rfl⟩ (by
  rintro i l s hl ⟨x3,x4,rfl⟩
  obtain⟨hi,rfl⟩:=Vp hl
  have hr2:ZY [(Zi Yo (Za 3) (eC (.int 1))),(Ze ZF [(Za 0)])] (ZJ [] (Vy W g (some (.lst ((TA W i).map U1))) (some (.int (i:Int))) x4 none none none))=some (Xn ((i:Int)+1) (W.length-(i+1))):=by
   rw[Xf (i:=(i:Int)+1) (j:=(W.length:Int)) rfl (len _ rfl) ⟨by omega,by omega⟩ ⟨by omega,by omega⟩]
   congr 2;omega
  have al:=GA ok (i:=i) (by omega)
  obtain⟨s2,g1,y4,hs2⟩:=ZU (T:=.one 4) (fb:=fT) (ls:=Xn ((i:Int)+1) (W.length-(i+1))) (s:=Vy W g (some (.lst ((TA W i).map U1))) (some (.int (i:Int))) x4 none none none) (fun j s=>∃y4,s=Vy W g (some (.lst ((TA W i++TB W i j).map U1))) (some (.int (i:Int))) y4 none none none) ⟨x4,by simp[TB]⟩ (by
   rintro j l s hl ⟨y4,rfl⟩
   obtain⟨hj,rfl⟩:=WL hl
   have z:(i:Int)+1+(j:Int)=((i+1+j:Nat):Int):=by omega
   rw[z]
   have bl:=LD ok (a:=i) (m:=j) hi (by omega)
   refine⟨_,_,rfl,Aa ok (g:=g) (a:=i) (b:=i+1+j) hi (by omega) (L:=TA W i++TB W i j) (by rw[List.length_append];omega) none none none,some (.int ((i+1+j:Nat):Int)),?_⟩
   rw[KP,List.append_assoc])
  refine⟨Vy W g (some (.lst ((TA W i).map U1))) (some (.int (i:Int))) x4 none none none,Vy W g (some (.lst ((TA W (i+1)).map U1))) (some (.int (i:Int))) y4 none none none,rfl,?_,_,_,rfl⟩
  rw[Yc,hr2]
  show Xs _ _ _ _=_
  rw[g1,hs2,Vq,KQ])
 refine⟨x3,x4,?_⟩
 show Xs _ _ _ _=_
 rw[f1,hs,show(Wl W.length).length=W.length by simp[Wl],CP]
theorem Ac{T:List ZL}{t:Nat}(h:t<T.length):Ub (T.map U1) (t:Int)=some (U1 (Yn T t)):=VD (by
 rw[List.getElem?_map];unfold Yn
 rw[List.getD_eq_getElem?_getD,List.getElem?_eq_getElem h];rfl)
theorem Io{l:List Int}(h:l.Pairwise (·<=·)):T6 l=l:=(NK (List.Perm.refl l) h).symm
theorem LG{W:List (List Int)}(ok:L2.WebOk W){g:List Nat}(gv:Gv (T0 W) g)(hl:g.length=W.length-1):ZV [wP W,gP g]=some (.bl true):=by
 have hf:=ok.few;have hp:=ok.pos
 let T:=T0 W
 let tp:Option PV:=some (.lst (T.map U1))
 let mk:Nat->Option PV:=fun i=>some (.lst (iL (WW W.length (WV T id (g.take i)))))
 obtain⟨x3,x4,e2⟩:=LF ok g
 have e1:Zn 2 (Yr []) (Vy W g none none none none none none)=some (.nx (Vy W g (some (.lst [])) none none none none none)):=rfl
 have ris:(nL g).Pairwise (·<=·):=by
  unfold nL;rw[List.pairwise_map]
  exact gv.ris.imp fun h=>by omega
 have e3:WR (Nq (Uj (xB (Ze XA [(Za 1),(Zi YQ (Ze ZF [(Za 0)]) (eC (.int 1)))]))) (xB (Zi (YJ true) (Ze Y3 [(Za 1)]) (Ze Vs [(Za 1)])))) (ZS (eP (eC (.bl false)))) ZN (Vy W g tp x3 x4 none none none)=some (.nx (Vy W g tp x3 x4 none none none)):=by
  have l0:Ze ZF [(Za 0)] (Vy W g tp x3 x4 none none none)=some (.int (W.length:Int)):=by simp[Vy]
  have s1:Zi YQ (Ze ZF [(Za 0)]) (eC (.int 1)) (Vy W g tp x3 x4 none none none)=some (.int ((nL g).length:Int)):=by
   rw[show(((nL g).length:Nat):Int)=(W.length:Int)-1 by simp only[nL,List.length_map];omega]
   exact vI (op:=(· - ·)) l0 rfl
  have t1:xB (Ze XA [(Za 1),(Zi YQ (Ze ZF [(Za 0)]) (eC (.int 1)))]) (Vy W g tp x3 x4 none none none)=some true:=by
   have v:Ze XA [(Za 1),(Zi YQ (Ze ZF [(Za 0)]) (eC (.int 1)))] (Vy W g tp x3 x4 none none none)=some (.bl true):=by
    rw[Yg,ZH,ZH,s1]
    exact H9 (l:=nL g) (by simp only[nL,List.length_map];omega)
   rw[Ys,v];rfl
  have l1:Ze Y3 [(Za 1)] (Vy W g tp x3 x4 none none none)=some (.lst (iL (nL g))):=by
   show Y3 [gP g]=_
   unfold gP pP;rw[NJ,if_pos (Xy _)]
  have l2:Ze Vs [(Za 1)] (Vy W g tp x3 x4 none none none)=some (.lst (iL (nL g))):=by
   show((XH (iL (nL g))).bind fun ns=>if ns.length<64 then some (PV.lst (iL (T6 ns))) else none)=_
   rw[Wc]
   show(if(nL g).length<64 then some (PV.lst (iL (T6 (nL g)))) else none)=_
   rw[if_pos (by simp[nL];omega),Io ris]
  have t2:xB (Zi (YJ true) (Ze Y3 [(Za 1)]) (Ze Vs [(Za 1)])) (Vy W g tp x3 x4 none none none)=some false:=by
   rw[Ys,ZA,l1,l2]
   show(YJ true (.lst ((nL g).map PV.int)) (.lst ((nL g).map PV.int))).bind NF=_
   rw[Co]
   simp
  rw[Yl,UR,WK,t1,t2];rfl
 have e4:Zn 5 (ZG 1 [] (Z5 [(Ze ZF [(Za 0)])]) (.one 0) ZW (eP (Za 0))) (Vy W g tp x3 x4 none none none)=some (.nx (Vy W g tp x3 x4 (mk 0) none none)):=by
  have hc:ZG 1 [] (Z5 [(Ze ZF [(Za 0)])]) (.one 0) ZW (eP (Za 0)) (Vy W g tp x3 x4 none none none)=some (.lst (iL (WW W.length id))):=by
   rw[YB (List.range W.length) (fun(i:Nat)=>.int (i:Int)) (fun(i:Nat)=>.int (i:Int)) (Y2 (n:=W.length) (by simp[Vy]) (by omega)) (by simp;omega) fun i _=>⟨[some (.int (i:Int))],rfl,rfl,rfl⟩]
   simp[WW,nL,iL]
  rw[Zt,hc];rfl
 let fb:XS:=(Zm (WR (Nq (xB (Zi Fy (Za 6) (eC (.int 0)))) (xB (Zi BE (Za 6) (Ze ZF [(Za 2)])))) (ZS (eP (eC (.bl false)))) ZN)
  (Zm (NA (.many [3,4]) (Zi ZK (Za 2) (Za 6)))
  (Zm (Zn 7 (eP (Zi ZK (Za 5) (Za 4))))
  (Zm (WR (xB (Zi (YJ false) (Zi ZK (Za 5) (Za 3)) (Za 7))) (ZS (eP (eC (.bl false)))) ZN)
  (Zn 5 (ZG 1 [5,3,7] (Wd (Za 5)) (.one 0) ZW (eP (Zi ZK (Yr [(Za 0),(Zi ZK (Za 1) (Za 2))]) (Ze Xk [(Zi (YJ false) (Za 0) (Za 3))])))))))))
 obtain⟨s',f1,y3,y4,y6,y7,hs⟩:=ZU (T:=.one 6) (fb:=fb) (ls:=iL (nL g)) (s:=Vy W g tp x3 x4 (mk 0) none none) (fun i s=>∃y3 y4 y6 y7,s=Vy W g tp y3 y4 (mk i) y6 y7) ⟨x3,x4,none,none,rfl⟩ (by
  rintro i l s hl' ⟨y3,y4,y6,y7,rfl⟩
  obtain⟨t,ht,rfl⟩:∃t,g[i]?=some t/\l = .int (t:Int):=by
   simp only[iL,nL,List.getElem?_map] at hl'
   cases e:g[i]? with
   | none=>rw[e] at hl';cases hl'
   | some t=>rw[e] at hl';cases hl';exact⟨t,rfl,rfl⟩
  have htl:=gv.lt t (List.mem_of_getElem? ht)
  have hbt:=gv.btw i t ht
  obtain⟨h1,h2,_⟩:=OY htl
  have he:=Ac htl
  have pcs:mk (i+1)=some (.lst (iL (WW W.length (mrg (WV T id (g.take i)) (Yn T t).1 (Yn T t).2)))):=by
   simp only[mk];rw[List.take_add_one,ht]
   show some (PV.lst (iL (WW W.length (WV T id (g.take i++[t])))))=_
   rw[UZ]
  have pci:mk i=some (.lst (iL (WW W.length (WV T id (g.take i))))):=rfl
  change WV T id (g.take i) (Yn T t).1≠WV T id (g.take i) (Yn T t).2 at hbt
  change (Yn T t).1<(Yn T t).2 at h1
  change t<T.length at htl
  change (Yn T t).2<W.length at h2
  change Ub (T.map U1) (t:Int)=some (U1 (Yn T t)) at he
  rw[pci]
  generalize WV T id (g.take i)=P at *
  obtain⟨a,b⟩:ZL:=Yn T t
  generalize Yn T t=ed at *
  obtain⟨a,b⟩:=ed
  simp only at h1 h2 hbt pcs
  let s0:Option PV->Option PV->Option PV->ZP:=fun y3 y4 y7=>Vy W g tp y3 y4 (some (.lst (iL (WW W.length P)))) (some (.int (t:Int))) y7
  have b1:WR (Nq (xB (Zi Fy (Za 6) (eC (.int 0)))) (xB (Zi BE (Za 6) (Ze ZF [(Za 2)])))) (ZS (eP (eC (.bl false)))) ZN (s0 y3 y4 y7)=some (.nx (s0 y3 y4 y7)):=by
   have c1:xB (Zi Fy (Za 6) (eC (.int 0))) (s0 y3 y4 y7)=some false:=by
    show some (decide ((t:Int)<0))=_
    rw[decide_eq_false (by omega)]
   have c2:xB (Zi BE (Za 6) (Ze ZF [(Za 2)])) (s0 y3 y4 y7)=some false:=by
    show some (decide (((T.map U1).length:Int)<=(t:Int)))=_
    rw[decide_eq_false (by rw[List.length_map];omega)]
   rw[Yl,UR,c1,c2];rfl
  have b2:NA (.many [3,4]) (Zi ZK (Za 2) (Za 6)) (s0 y3 y4 y7)=some (.nx (s0 (some (.int (a:Int))) (some (.int (b:Int))) y7)):=by
   have c:Zi ZK (Za 2) (Za 6) (s0 y3 y4 y7)=some (U1 (a,b)):=he
   unfold NA
   rw[c];rfl
  have b3:Zn 7 (eP (Zi ZK (Za 5) (Za 4))) (s0 (some (.int (a:Int))) (some (.int (b:Int))) y7)=some (.nx (s0 (some (.int (a:Int))) (some (.int (b:Int))) (some (.int ((P b:Nat):Int))))):=by
   have c:Zi ZK (Za 5) (Za 4) (s0 (some (.int (a:Int))) (some (.int (b:Int))) y7)=some (.int ((P b:Nat):Int)):=Tr h2
   rw[Zt,vP c];rfl
  let s3:=s0 (some (.int (a:Int))) (some (.int (b:Int))) (some (.int ((P b:Nat):Int)))
  have pa:Zi ZK (Za 5) (Za 3) s3=some (.int ((P a:Nat):Int)):=Tr (by omega)
  have b4:WR (xB (Zi (YJ false) (Zi ZK (Za 5) (Za 3)) (Za 7))) (ZS (eP (eC (.bl false)))) ZN s3=some (.nx s3):=by
   have c:xB (Zi (YJ false) (Zi ZK (Za 5) (Za 3)) (Za 7)) s3=some false:=by
    rw[Ys,ZA,pa]
    show(YJ false (.int ((P a:Nat):Int)) (.int ((P b:Nat):Int))).bind NF=_
    have:decide (((P a:Nat):Int)=((P b:Nat):Int))=false:=decide_eq_false (by omega)
    simp[this]
   rw[Yl,c];rfl
  have b5:ZG 1 [5,3,7] (Wd (Za 5)) (.one 0) ZW (eP (Zi ZK (Yr [(Za 0),(Zi ZK (Za 1) (Za 2))]) (Ze Xk [(Zi (YJ false) (Za 0) (Za 3))]))) s3=some (.lst (iL (WW W.length (mrg P a b)))):=by
   rw[YB (List.range W.length) (fun x=>.int ((P x:Nat):Int)) (fun x=>.int ((mrg P a b x:Nat):Int)) (by simp[s3,s0,Vy,WW,nL,iL,Wd,Ce]) (by simp;omega) (fun x hx=>⟨[some (.int ((P x:Nat):Int)),some (.lst (iL (WW W.length P))),some (.int (a:Int)),some (.int ((P b:Nat):Int))],rfl,rfl,?_⟩)]
   ·simp[WW,nL,iL]
   ·have q1:Zi ZK (Za 1) (Za 2) [some (.int ((P x:Nat):Int)),some (.lst (iL (WW W.length P))),some (.int (a:Int)),some (.int ((P b:Nat):Int))]=some (.int ((P a:Nat):Int)):=Tr (by omega)
    have q2:Yr [(Za 0),(Zi ZK (Za 1) (Za 2))] [some (.int ((P x:Nat):Int)),some (.lst (iL (WW W.length P))),some (.int (a:Int)),some (.int ((P b:Nat):Int))]=some (.lst [.int ((P x:Nat):Int),.int ((P a:Nat):Int)]):=by
     unfold Yr
     rw[ZH,ZH,q1];rfl
    refine vP ?_
    rw[ZA,q2];unfold mrg
    by_cases q:P x=P b
    ·rw[if_pos q]
     have:Ze Xk [(Zi (YJ false) (Za 0) (Za 3))] [some (.int ((P x:Nat):Int)),some (.lst (iL (WW W.length P))),some (.int (a:Int)),some (.int ((P b:Nat):Int))]=some (.int 1):=by simp[q,Xk]
     rw[this];rfl
    ·rw[if_neg q]
     have q':¬((P x:Nat):Int)=((P b:Nat):Int):=by omega
     have:Ze Xk [(Zi (YJ false) (Za 0) (Za 3))] [some (.int ((P x:Nat):Int)),some (.lst (iL (WW W.length P))),some (.int (a:Int)),some (.int ((P b:Nat):Int))]=some (.int 0):=by simp[q',Xk]
     rw[this];rfl
  refine⟨s0 y3 y4 y7,Vy W g tp (some (.int (a:Int))) (some (.int (b:Int))) (mk (i+1)) (some (.int (t:Int))) (some (.int ((P b:Nat):Int))),rfl,?_,_,_,_,_,rfl⟩
  show Zm _ _ _=_
  rw[Eg b1 b2 b3]
  show Zm _ _ s3=_
  rw[Yi b4,Zt,b5,pcs];rfl)
 have e5:Yp [] (TQ (Za 1)) (.one 6) fb (Vy W g tp x3 x4 (mk 0) none none)=some (.nx (Vy W g tp y3 y4 (mk g.length) y6 y7)):=by
  rw[Yc,show TQ (Za 1) (ZJ [] (Vy W g tp x3 x4 (mk 0) none none))=some (iL (nL g)) from rfl]
  show Xs _ _ _ _=_
  rw[f1,hs];simp[iL,nL]
 show Xl 8 Ww _=_
 unfold Ww
 show(Zm _ _ (Vy W g none none none none none none)).bind Xw=_
 unfold fT at e2
 rw[Yi e1,Yi e2,Yi e3,Yi e4,Yi (show Yp [] (TQ (Za 1)) (.one 6) _ _=_ from e5)]
 rw[To (v:=.bl true) rfl];rfl
theorem GB:∀{g h:List Nat},OU g h->HT.lexLt (nL g) (nL h)=true
 | a::g,b::h,q=>by
  show HT.lexLt ((a:Int)::nL g) ((b:Int)::nL h)=true
  rw[HT.lexLt_cons]
  rcases q with q | ⟨rfl,q⟩
  ·rw[if_neg (by omega)];exact decide_eq_true (by omega)
  ·rw[if_pos rfl];exact GB q
 | [],_,q=>by cases q
 | _::_,[],q=>by cases q
theorem Dg{G:List (List Nat)}{k:Nat}(h:k<G.length):Ub (G.map gP) (k:Int)=some (gP G[k]):=VD (by rw[List.getElem?_map,List.getElem?_eq_getElem h];rfl)
theorem Mx{v:PV}(neg:Bool)(h:XX 8 v v=true):YJ neg v v=some (.bl (!neg)):=by
 unfold YJ;rw[if_pos h]
 cases neg<;>simp
theorem KS(n:Nat)(G H:List (List Nat)):XX (n+3) (.lst (G.map gP)) (.lst (H.map gP))=true:=W7 (fun a b=>FL n (nL a) (nL b)) G H
theorem EB(G:List (List Nat)):ZE (G.map gP)=true:=US fun g _=>by
 unfold gP pP;rw[SM];exact Xy _
theorem PZ{G:List (List Nat)}(gr:G.Pairwise OU){i j:Nat}{s:ZP}(hs:s[i]?=some (some (.lst (G.map gP))))(hj:j≠i)(hl:j<s.length):∃x,Xs (.one j) (WR (xB (Zi Qs (Zi ZK (Za i) (Zi YQ (Za j) (eC (.int 1)))) (Zi ZK (Za i) (Za j)))) (ZS (eP (eC (.bl false)))) ZN) (Xn 1 (G.length-1)) s=some (.nx (s.set j x)):=by
 have s0:∃x,s=s.set j x:=⟨s[j],by rw[List.set_getElem_self]⟩
 obtain⟨s',f1,x,hx⟩:=ZU (T:=.one j) (fb:=WR (xB (Zi Qs (Zi ZK (Za i) (Zi YQ (Za j) (eC (.int 1)))) (Zi ZK (Za i) (Za j)))) (ZS (eP (eC (.bl false)))) ZN) (ls:=Xn 1 (G.length-1)) (s:=s) (fun _ t=>∃x,t=s.set j x) s0 (by
  rintro k l t hk ⟨x,rfl⟩
  obtain⟨hk,rfl⟩:=WL hk
  refine⟨s.set j (some (.int (1+(k:Int)))),s.set j (some (.int (1+(k:Int)))),by show some ((s.set j x).set j _)=_;rw[List.set_set],?_,_,rfl⟩
  have vi:Za i (s.set j (some (.int (1+(k:Int)))))=some (.lst (G.map gP)):=by
   rw[WI,List.getElem?_set_ne hj,hs];rfl
  have vj:Za j (s.set j (some (.int (1+(k:Int)))))=some (.int (1+(k:Int))):=by
   rw[WI,List.getElem?_set_self hl];rfl
  have v1:Zi ZK (Za i) (Zi YQ (Za j) (eC (.int 1))) (s.set j (some (.int (1+(k:Int)))))=some (gP G[k]):=by
   have a:Zi YQ (Za j) (eC (.int 1)) (s.set j (some (.int (1+(k:Int)))))=some (.int (k:Int)):=by
    rw[vI (op:=(· - ·)) vj rfl,show(1:Int)+(k:Int)-1=(k:Int) by omega]
   rw[ZA,vi,a]
   exact Dg (by omega)
  have v2:Zi ZK (Za i) (Za j) (s.set j (some (.int (1+(k:Int)))))=some (gP (G[k+1]'(by omega))):=by
   rw[ZA,vi,vj]
   show Ub (G.map gP) (1+(k:Int))=_
   rw[show(1:Int)+(k:Int)=((k+1:Nat):Int) by omega]
   exact Dg (by omega)
  have lx:=GB (List.pairwise_iff_getElem.mp gr k (k+1) (by omega) (by omega) (by omega))
  have tt:xB (Zi Qs (Zi ZK (Za i) (Zi YQ (Za j) (eC (.int 1)))) (Zi ZK (Za i) (Za j))) (s.set j (some (.int (1+(k:Int)))))=some false:=by
   rw[Ys,ZA,v1,v2]
   show(((XH (iL (nL G[k]))).bind fun ns=>(XH (iL (nL (G[k+1]'(by omega))))).bind fun ms=>some (PV.bl (!HT.lexLt ns ms)))).bind NF=_
   rw[Wc,Wc]
   show some (!HT.lexLt (nL G[k]) (nL (G[k+1]'(by omega))))=_
   rw[lx];rfl
  rw[Yl,tt];rfl)
 exact⟨x,by rw[f1,hx]⟩
theorem P0{W:List (List Int)}(ok:L2.WebOk W){G:List (List Nat)}(hG:∀g∈G,Gv (T0 W) g/\g.length=W.length-1)(hl:G.length<=1000){fw:XE}{ix:List Nat}{f:XL}{s:ZP}{y:PV}(hf:f s=some (G.map gP))(he:Yk 1 ix s=[none,some y])(hw:∀x,fw [x,some y]=some (wP W)):Ze TM [(ZG 1 ix f (.one 0) ZW (Ze ZV [fw,(Za 0)]))] s=some (.bl true):=by
 have hc:ZG 1 ix f (.one 0) ZW (Ze ZV [fw,(Za 0)]) s=some (.lst ((G.map fun _=>true).map PV.bl)):=by
  rw[YB G gP (fun _=>.bl true) hf (by omega) fun g hg=>⟨[some (gP g),some y],by rw[he];rfl,rfl,?_⟩]
  ·rw[List.map_map];rfl
  ·rw[Yg,ZH,hw]
   exact LG ok (hG g hg).1 (hG g hg).2
 rw[Yg,ZH,hc]
 show TM [.lst ((G.map fun _=>true).map PV.bl)]=_
 rw[Ho];simp
end PB
set_option maxHeartbeats 400000
namespace PB
open L2 VL PW VX
theorem KU{f g h:ZL->Nat}:∀{l:List ZL},(∀p∈l,f p<=g p+h p)->(l.map f).sum<=(l.map g).sum+(l.map h).sum
 | [],_=>by simp
 | p::r,H=>by
  have h1:=H p (by simp)
  have:=KU (l:=r) fun q hq=>H q (by simp[hq])
  simp only[List.map_cons,List.sum_cons];omega
def uN(n:Nat)(M:List (List Int)):Nat:=((MC n).map fun p=>(Z2 M p.1 p.2).toNat).sum
theorem Ad(W:List (List Int)):(T0 W).length=uN W.length W:=by
 unfold T0 Vf uN;rw[List.length_flatMap]
 congr 1
 refine List.map_congr_left fun p _=>?_
 rw[List.length_replicate]
theorem EC{n:Nat}(hn:n<=7){M:List (List Int)}{e:Y6}(ok:MatOk n M)(h:e.1<e.2.1/\e.2.1<n/\1<=e.2.2/\e.2.2<=9):uN n (Z6 M e)<=uN n M+e.2.2.toNat:=by
 have a:=KU (f:=fun p:ZL=>(Z2 (Z6 M e) p.1 p.2).toNat) (g:=fun p=>(Z2 M p.1 p.2).toNat) (h:=fun p=>if p=(e.1,e.2.1) then e.2.2.toNat else 0) (l:=MC n) fun p hp=>by
  have:=mem_prs.mp (show(p.1,p.2)∈MC n from hp)
  show(Z2 (Z6 M e) p.1 p.2).toNat<=(Z2 M p.1 p.2).toNat+(if p=(e.1,e.2.1) then e.2.2.toNat else 0)
  rw[QD ok h,if_neg (by omega)]
  by_cases q:e.1=p.1/\e.2.1=p.2
  ·rw[if_pos q,if_pos (Prod.ext q.1.symm q.2.symm)];omega
  ·rw[if_neg q];omega
 have b:=PY (f:=fun p:ZL=>if p=(e.1,e.2.1) then e.2.2.toNat else 0) (p:=(e.1,e.2.1)) (l:=MC n) (CG n hn) fun q _ hq=>if_neg hq
 have c:(if(e.1,e.2.1)∈MC n then(if(e.1,e.2.1)=(e.1,e.2.1) then e.2.2.toNat else 0) else 0)<=e.2.2.toNat:=by
  split
  ·rw[if_pos rfl];exact Nat.le_refl _
  ·omega
 unfold uN;rw[b] at a
 exact Nat.le_trans a (Nat.add_le_add_left c _)
theorem KW{n:Nat}(hn:n<=7):∀(l:List Y6)(M:List (List Int)),(∀e∈l,e.1<e.2.1/\e.2.1<n/\1<=e.2.2/\e.2.2<=9)->MatOk n M->(uN n (l.foldl Z6 M):Int)<=(uN n M:Int)+YT l
 | [],M,_,_=>by show(uN n M:Int)<=(uN n M:Int)+(0:Int);omega
 | e::r,M,hl,hM=>by
  have he:=hl e (by simp)
  have a:=EC hn hM he
  have b:=KW hn r _ (fun e' h'=>hl e' (by simp[h'])) (hM.step he)
  rw[S1]
  show(uN n (r.foldl Z6 (Z6 M e)):Int)<=_
  omega
abbrev My(n:Nat):List (List Int):=List.replicate n (List.replicate n 0)
theorem Ip{n a b:Nat}(ha:a<n)(hb:b<n):Z2 (My n) a b=0:=by
 unfold Z2 ZD YE;simp[List.getD_eq_getElem?_getD,List.getElem?_replicate,ha,hb]
theorem GC{n:Nat}{ts:List Y6}(ok:DictOk n ts)(hn:n<=7)(hs:YT ts<=8):uN n (LY n ts)<=8:=by
 have h:=KW hn ts (My n) ok.ok (MatOk.zero n)
 have z:uN n (My n)=0:=by
  unfold uN
  have:∀l:List ZL,(∀p∈l,p.1<n/\p.2<n)->(l.map fun p=>(Z2 (My n) p.1 p.2).toNat).sum=0:=by
   intro l
   induction l with
   | nil=>intro _;rfl
   | cons p r ih=>
    intro H
    have hp:=H p (by simp)
    rw[List.map_cons,List.sum_cons,ih fun q hq=>H q (by simp[hq]),Ip hp.1 hp.2];rfl
  exact this _ fun p hp=>by
   have:=mem_prs.mp (show(p.1,p.2)∈MC n from hp)
   omega
 have e:uN n (LY n ts)=uN n (ts.foldl Z6 (My n)):=rfl
 omega
theorem CQ:∀k,k<=8->∀s,s<=6->bn k s<=300:=by decide +kernel
theorem CS{W:List (List Int)}(hf:W.length<=7)(h:uN W.length W<=8):tr W.length (Z2 W)<=300:=by
 unfold tr
 refine Nat.le_trans (Lx _ _ _) (CQ _ ?_ _ (by omega))
 have:=Ad W
 unfold T0 at this;omega
theorem Iq(c:Int):∃n:Nat,1<=n/\n<=7/\X2 [.int c]=some (.int (n:Int)):=by
 have d4:Su c 4:=Uu (by omega) (by omega)
 have d16:Su c 16:=Uu (by omega) (by omega)
 by_cases q:c/4%4=3
 ·refine⟨(5+c/16%3).toNat,by omega,by omega,?_⟩
  rw[show(((5+c/16%3).toNat:Nat):Int)=5+c/16%3 by omega]
  show Xl 1 X1 _=_
  unfold X1;simp[Xl,YF,d4,d16,q]
 ·refine⟨(1+c%4).toNat,by omega,by omega,?_⟩
  rw[show(((1+c%4).toNat:Nat):Int)=1+c%4 by omega]
  show Xl 1 X1 _=_
  unfold X1;simp[Xl,YF,d4,d16,q]
def Dh(x:Int):List (List Int):=[[0,4,0,x],[4,0,4,0],[0,4,0,4],[x,0,4,0]]
theorem KY(x:Int):Z0 [.int 4,.int x]=some (wP (Dh x)):=rfl
theorem QQ{W:List (List Int)}(hl:W.length=4)(h:∀i,i<4->(ZD W i).length=4/\Z2 W i i=0/\∀j,j<4->0<=Z2 W i j/\Z2 W i j<=9/\Z2 W i j=Z2 W j i):L2.WebOk W:=by
 refine⟨by omega,by omega,fun i hi=>?_,fun i j hi hj=>?_,fun i j hi hj=>?_,fun i j hi hj=>?_,fun i hi=>?_⟩
 ·rw[(h i (by omega)).1,hl]
 ·exact((h i (by omega)).2.2 j (by omega)).1
 ·exact((h i (by omega)).2.2 j (by omega)).2.1
 ·exact((h i (by omega)).2.2 j (by omega)).2.2
 ·exact(h i (by omega)).2.1
theorem CT:L2.WebOk (Dh 4):=QQ rfl (by decide)
theorem CU:L2.WebOk (Dh 5):=QQ rfl (by decide)
theorem KZ(x:Int):Tn (Dh x):=fun P h=>by
 have h1:P 0↔P 1:=h 0 1 (by show 0<4;decide) (by show 1<4;decide) (by show(0:Int)<4;decide)
 have h2:P 1↔P 2:=h 1 2 (by show 1<4;decide) (by show 2<4;decide) (by show(0:Int)<4;decide)
 have h3:P 2↔P 3:=h 2 3 (by show 2<4;decide) (by show 3<4;decide) (by show(0:Int)<4;decide)
 have all:∀i,i<4->(P i↔P 0):=fun i hi=>by
  have:i=0\/i=1\/i=2\/i=3:=by omega
  rcases this with rfl | rfl | rfl | rfl
  ·exact Iff.rfl
  ·exact h1.symm
  ·exact h2.symm.trans h1.symm
  ·exact h3.symm.trans (h2.symm.trans h1.symm)
 exact fun i j hi hj=>(all i hi).trans (all j hj).symm
theorem CV:tr (Dh 4).length (Z2 (Dh 4))=256:=by decide +kernel
theorem CW:tr (Dh 5).length (Z2 (Dh 5))=304:=by decide +kernel
theorem GD{m:Int}(h:m.natAbs.log2<1920):Rb (.int m)=true:=decide_eq_true h
theorem Ts{m:Int}(h0 : -1000<=m)(h1:m<=1000):Rb (.int m)=true:=by
 refine GD ?_
 have:m.natAbs.log2<=1000:=Nat.le_trans (Nat.log2_le_self _) (by omega)
 omega
theorem Ir{W:List (List Int)}(hw:Z0 [.int 4,.int 5]=some (wP W))(ok:L2.WebOk W)(cn:Tn W)(h304:tr W.length (Z2 W)=304):ZC [.int 5]=some (.bl true):=by
 let st:Option PV->Option PV->ZP:=fun x1 x2=>[some (.int 5),x1,x2,none,none]
 have e1:Zn 1 (eP (eC .non)) (st none none)=some (.nx (st (some .non) none)):=rfl
 have e2:Zn 2 (eP (eC .non)) (st (some .non) none)=some (.nx (st (some .non) (some .non))):=rfl
 have hR:Ym [wP W,.int 300]=some (("TooMany" : PySem.Str),.int 300):=Mw ok cn (by rw[h304];decide) (Ts (by decide) (by decide))
 have e3:HL (Vu (fun ls=>Ym (ls++[.int 300])) [(Ze Z0 [(eC (.int 4)),(Za 0)])] 3 (Zn 2 (eP (Wf "TooMany" (Za 3))))) (Zn 1 (Ze (fun ls=>ZX (ls++[.int 300])) [(Ze Z0 [(eC (.int 4)),(Za 0)])])) (st (some .non) (some .non))=some (.nx (st (some .non) (some (.int 300)))):=by
  have ea:Td [(Ze Z0 [(eC (.int 4)),(Za 0)])] (st (some .non) (some .non))=some [wP W]:=by
   rw[ZH,show Ze Z0 [(eC (.int 4)),(Za 0)] (st (some .non) (some .non))=some (wP W) from hw];rfl
  unfold HL Vu;rw[ea]
  show(match ((Ym [wP W,.int 300]).bind fun nl=>(Zn 2 (eP (Wf "TooMany" (Za 3))) ((st (some .non) (some .non)).set 3 (some (.exf nl.1 nl.2)))).map (E5 3)) with | some o=>some o | none=>_)=_
  rw[hR]
  have f:Wf "TooMany" (Za 3) ((st (some .non) (some .non)).set 3 (some (.exf "TooMany" (.int 300))))=some (.int 300):=by
   simp[st,Wf,Ts (m:=300) (by decide) (by decide)]
  have q:Zn 2 (eP (Wf "TooMany" (Za 3))) ((st (some .non) (some .non)).set 3 (some (.exf "TooMany" (.int 300))))=some (.nx [some (.int 5),some .non,some (.int 300),some (.exf "TooMany" (.int 300)),none]):=by
   rw[Zt,vP f];rfl
  simp only[Option.bind_some]
  rw[q];rfl
 show Xl 5 YS _=_
 unfold YS
 show(Zm _ _ (st none none)).bind Xw=_
 rw[Yi e1,Yi e2,Yi e3,Yt,Yl]
 have t:xB (Zi (YJ false) (Za 0) (eC (.int 5))) (st (some .non) (some (.int 300)))=some true:=by
  show(YJ false (.int 5) (.int 5)).bind NF=_
  simp
 rw[t,Option.bind_some,if_pos rfl,To (v:=.bl true) (by
  have w:Ze Z7 [(Za 2)] (st (some .non) (some (.int 300)))=some (.bl true):=QB 300
  have w':xB (Ze Z7 [(Za 2)]) (st (some .non) (some (.int 300)))=some true:=by rw[Ys,w];rfl
  rw[YZ,Us,w',Option.bind_some,if_pos rfl]
  show(YJ false (.int 300) (.int 300)).bind _=_
  simp)]
 rfl
theorem GF:ZC [.int 5]=some (.bl true):=Ir (KY 5) CU (KZ 5) CW
theorem GG{f g:XS}{s:ZP}(h:f s=none):HL f g s=g s:=by
 unfold HL;rw[h]
theorem Iu{W:List (List Int)}(hw:Z0 [.int 4,.int 4]=some (wP W))(ok:L2.WebOk W)(cn:Tn W)(h256:tr W.length (Z2 W)=256):ZC [.int 4]=some (.bl true):=by
 have hR:Ym [wP W,.int 300]=none:=Im ok cn (by rw[h256];decide)
 have te:ZX [wP W,.int 300]=_:=QP ok cn (by rw[h256];decide) (by rw[h256];decide)
 have gg:=Vw (T0 W) (W.length-1)
 have gr:=UI (T0 W) (W.length-1)
 have gl:(Ya (T0 W) (W.length-1)).length=256:=(Tq _ _).trans h256
 generalize Ya (T0 W) (W.length-1)=G at *
 let st:Option PV->Option PV->Option PV->ZP:=fun x1 x2 x4=>[some (.int 4),x1,x2,none,x4]
 let gp:Option PV:=some (.lst (G.map gP))
 have e1:Zn 1 (eP (eC .non)) (st none none none)=some (.nx (st (some .non) none none)):=rfl
 have e2:Zn 2 (eP (eC .non)) (st (some .non) none none)=some (.nx (st (some .non) (some .non) none)):=rfl
 have e3:HL (Vu (fun ls=>Ym (ls++[.int 300])) [(Ze Z0 [(eC (.int 4)),(Za 0)])] 3 (Zn 2 (eP (Wf "TooMany" (Za 3))))) (Zn 1 (Ze (fun ls=>ZX (ls++[.int 300])) [(Ze Z0 [(eC (.int 4)),(Za 0)])])) (st (some .non) (some .non) none)=some (.nx (st gp (some .non) none)):=by
  have ea:Td [(Ze Z0 [(eC (.int 4)),(Za 0)])] (st (some .non) (some .non) none)=some [wP W]:=by
   rw[ZH,show Ze Z0 [(eC (.int 4)),(Za 0)] (st (some .non) (some .non) none)=some (wP W) from hw];rfl
  have n:Vu (fun ls=>Ym (ls++[.int 300])) [(Ze Z0 [(eC (.int 4)),(Za 0)])] 3 (Zn 2 (eP (Wf "TooMany" (Za 3)))) (st (some .non) (some .non) none)=none:=by
   unfold Vu;rw[ea]
   show((Ym [wP W,.int 300]).bind _)=_
   rw[hR];rfl
  have v:Ze (fun ls=>ZX (ls++[.int 300])) [(Ze Z0 [(eC (.int 4)),(Za 0)])] (st (some .non) (some .non) none)=some (.lst (G.map gP)):=by
   rw[Yg,ea];exact te
  rw[GG n,Zt,v];rfl
 have e4:WR (xB (Zi (YJ false) (Za 0) (eC (.int 5)))) (ZS (eP (Rk (Ze Z7 [(Za 2)]) (Zi (YJ false) (Za 2) (eC (.int 300)))))) ZN (st gp (some .non) none)=some (.nx (st gp (some .non) none)):=by
  have t:xB (Zi (YJ false) (Za 0) (eC (.int 5))) (st gp (some .non) none)=some false:=by
   show(YJ false (.int 4) (.int 5)).bind NF=_
   simp
  rw[Yl,t];rfl
 have e5:WR (Nq (xB (Rl true (Za 2))) (xB (Zi (YJ true) (Ze ZF [(Za 1)]) (eC (.int 256))))) (ZS (eP (eC (.bl false)))) ZN (st gp (some .non) none)=some (.nx (st gp (some .non) none)):=by
  have t1:xB (Rl true (Za 2)) (st gp (some .non) none)=some false:=rfl
  have t2:xB (Zi (YJ true) (Ze ZF [(Za 1)]) (eC (.int 256))) (st gp (some .non) none)=some false:=by
   show(YJ true (.int ((G.map gP).length:Int)) (.int 256)).bind NF=_
   rw[List.length_map,gl]
   simp
  rw[Yl,UR,t1,t2];rfl
 obtain⟨x,e6⟩:=PZ gr (i:=1) (j:=4) (s:=st gp (some .non) none) rfl (by decide) (by show 4<5;decide)
 rw[gl] at e6
 have r:ZY [(eC (.int 1)),(eC (.int 256))] (ZJ [] (st gp (some .non) none))=some (Xn 1 (256-1)):=by
  rw[Xf (i:=1) (j:=256) rfl rfl ⟨by omega,by omega⟩ ⟨by omega,by omega⟩];rfl
 have e7:Yp [] (ZY [(eC (.int 1)),(eC (.int 256))]) (.one 4) (WR (xB (Zi Qs (Zi ZK (Za 1) (Zi YQ (Za 4) (eC (.int 1)))) (Zi ZK (Za 1) (Za 4)))) (ZS (eP (eC (.bl false)))) ZN) (st gp (some .non) none)=some (.nx (st gp (some .non) x)):=by
  rw[Yc,r];exact e6
 have al:Ze TM [(ZG 1 [0] (Wd (Za 1)) (.one 0) ZW (Ze ZV [(Ze Z0 [(eC (.int 4)),(Za 1)]),(Za 0)]))] (st gp (some .non) x)=some (.bl true):=P0 ok gg (by omega) (y:=.int 4) rfl rfl fun _=>hw
 show Xl 5 YS _=_
 unfold YS
 show(Zm _ _ (st none none none)).bind Xw=_
 rw[Yi e1,Yi e2,Yi e3,Yi e4,Yi e5,Yi e7,To (v:=.bl true) (by rw[YZ,al];rfl)]
 rfl
theorem GH:ZC [.int 4]=some (.bl true):=Iu (KY 4) CT (KZ 4) CV
def ED(l:List Bool):List PV:=l.map PV.bl
theorem Ae(l:PV):Vv [.exf "TooMany" l]=some (.int 4):=by
 have t':∀(cx:PySem.Str)(x:Option PV),Xt (Rc "TooMany" cx) (Za 0) [some (.exf "TooMany" l),x]=some (.bl (decide (cx = "TooMany"))):=fun cx x=>by
  simp[Xt,Rc]
 have v':∀(x:Option PV),Xt (CZ "TooMany") (Za 0) [some (.exf "TooMany" l),x]=some (.bl true):=fun x=>by
  simp[Xt,CZ]
 have e1:Zn 1 (Yr [(eP (Xt (Rc "TooMany" "NoWeb") (Za 0))),(eP (Xt (Rc "TooMany" "Apart") (Za 0))),(eP (Xt (Rc "TooMany" "NoText") (Za 0))),(eP (Xt (Rc "TooMany" "NoOrder") (Za 0)))]) [some (.exf "TooMany" l),none]=some (.nx [some (.exf "TooMany" l),some (.lst (ED [false,false,false,false]))]):=by
  rw[Zt];simp only[Yr,Td,YZ,t',Option.bind_some,ZT,if_true,Option.map_some];rfl
 have e2:Zn 1 (Zi Ur (Za 1) (Yr [(Xt (Rc "TooMany" "TooMany") (Za 0)),(Xt (Rc "TooMany" "NotSettled") (Za 0)),(Xt (Rc "TooMany" "NoTree") (Za 0))])) [some (.exf "TooMany" l),some (.lst (ED [false,false,false,false]))]=some (.nx [some (.exf "TooMany" l),some (.lst (ED [false,false,false,false,true,false,false]))]):=by
  rw[Zt,ZA];simp only[Yr,Td,t',Option.bind_some,Option.map_some,WI];rfl
 have e3:Zn 1 (Zi Ur (Za 1) (Yr [(Xt (Rc "TooMany" "NoTotal") (Za 0)),(Xt (Rc "TooMany" "NoEnds") (Za 0)),(Xt (Rc "TooMany" "NoRow") (Za 0)),(Xt (Rc "TooMany" "NoName") (Za 0))])) [some (.exf "TooMany" l),some (.lst (ED [false,false,false,false,true,false,false]))]=some (.nx [some (.exf "TooMany" l),some (.lst (ED [false,false,false,false,true,false,false,false,false,false,false]))]):=by
  rw[Zt,ZA];simp only[Yr,Td,t',Option.bind_some,Option.map_some,WI];rfl
 have c:Zi Sb (Za 1) (eC (.bl true)) [some (.exf "TooMany" l),some (.lst (ED [false,false,false,false,true,false,false,false,false,false,false]))]=some (.int 1):=rfl
 have x:Zi RD (Za 1) (eC (.bl true)) [some (.exf "TooMany" l),some (.lst (ED [false,false,false,false,true,false,false,false,false,false,false]))]=some (.int 4):=rfl
 have e4:WR (Nq (Uj (xB (Xt (CZ "TooMany") (Za 0)))) (xB (Zi (YJ true) (Zi Sb (Za 1) (eC (.bl true))) (eC (.int 1))))) (ZS (eP (Nt Rn (eC (.int 1))))) ZN [some (.exf "TooMany" l),some (.lst (ED [false,false,false,false,true,false,false,false,false,false,false]))]=some (.nx [some (.exf "TooMany" l),some (.lst (ED [false,false,false,false,true,false,false,false,false,false,false]))]):=by
  rw[Yl,UR,WK,Ys,v'];simp only[Option.bind_some,NF,Option.map_some,Bool.not_true,Bool.false_eq_true,if_false];rw[Ys,ZA,c]
  simp
 show Xl 2 Sf _=_
 unfold Sf
 show(Zm _ _ [some (.exf "TooMany" l),none]).bind Xw=_
 rw[Yi e1,Yi e2,Yi e3,Yi e4,NH,YZ,x];rfl
theorem Mz{W:List (List Int)}(ok:L2.WebOk W)(cn:Tn W){m:Int}(hm:m<(tr W.length (Z2 W):Int))(hs:Rb (.int m)=true):Z1 [wP W,.int m]=some (.bl true):=by
 let st:Option PV->ZP:=fun x2=>[some (wP W),some (.int m),x2,none]
 let ex:PV:=.exf "TooMany" (.int m)
 have hR:=Mw ok cn hm hs
 have e1:Zn 2 (eP (eC .non)) (st none)=some (.nx (st (some .non))):=rfl
 have e2:HL (Vu Ym [(Za 0),(Za 1)] 3 (Zn 2 (eP (Za 3)))) (AW (Ze ZX [(Za 0),(Za 1)])) (st (some .non))=some (.nx (st (some ex))):=by
  have ea:Td [(Za 0),(Za 1)] (st (some .non))=some [wP W,.int m]:=rfl
  unfold HL Vu;rw[ea];simp only[Option.bind_some,hR];rfl
 have fl:Wf "TooMany" (Za 2) (st (some ex))=some (.int m):=by
  simp[st,ex,Wf,hs]
 have k:Ze Vv [(Za 2)] (st (some ex))=some (.int 4):=Ae (.int m)
 have w:Ze Z7 [(Wf "TooMany" (Za 2))] (st (some ex))=some (.bl true):=by
  rw[Yg];simp only[Td,fl,Option.bind_some,Option.map_some]
  exact QB m
 have b0:xB (Rl true (Za 2)) (st (some ex))=some true:=rfl
 have b1:xB (Zi (YJ false) (Ze Vv [(Za 2)]) (eC (.int 4))) (st (some ex))=some true:=by
  rw[Ys,ZA,k]
  show(YJ false (.int 4) (.int 4)).bind NF=_
  simp
 have b2:xB (Ze Z7 [(Wf "TooMany" (Za 2))]) (st (some ex))=some true:=by rw[Ys,w];rfl
 have b3:Zi (YJ false) (Wf "TooMany" (Za 2)) (Za 1) (st (some ex))=some (.bl true):=by
  rw[ZA,fl]
  show YJ false (.int m) (.int m)=_
  simp
 show Xl 4 Wx _=_
 unfold Wx
 show(Zm _ _ (st none)).bind Xw=_
 rw[Yi e1,Yi e2,To (v:=.bl true) (by
  rw[YZ,Us,b0,Option.bind_some,if_pos rfl,Us,b1,Option.bind_some,if_pos rfl,Us,b2,Option.bind_some,if_pos rfl,b3]
  rfl)]
 rfl
def XD(ns:List Int)(x1 x2 x3 x4 x5 x6:Option PV):ZP:=[some (.cst (iL ns)),x1,x2,x3,x4,x5,x6]
end PB
namespace PW
open L2 VL PB VX
theorem law_true(ns:List Int)(hns:ns.length<=63)(hbd:∀n∈ns,n.natAbs.log2<=1048576):D_law [.cst (iL ns)]=some (.bl true):=by
 have s0:=XD ns none none none none none none
 have e1:WR (VJ (xB (Zi (YJ false) (Zi Xa (Ze Zx [(Za 0),(eC (.int 13))]) (eC (.int 16))) (eC (.int 7)))) (Uj (xB (Ze ZC [(eC (.int 4))])))) (ZS (eP (eC (.bl false)))) ZN (XD ns none none none none none none)=some (.nx (XD ns none none none none none none)):=by
  have c:Ze Zx [(Za 0),(eC (.int 13))] (XD ns none none none none none none)=some (.int (YE ns 13)):=UX hns 13
  have m:Zi Xa (Ze Zx [(Za 0),(eC (.int 13))]) (eC (.int 16)) (XD ns none none none none none none)=some (.int (YE ns 13%16)):=by
   rw[ZA,c];rfl
  have d:xB (Ze ZC [(eC (.int 4))]) (XD ns none none none none none none)=some true:=by
   have:Ze ZC [(eC (.int 4))] (XD ns none none none none none none)=some (.bl true):=GH
   rw[Ys,this];rfl
  have t:xB (Zi (YJ false) (Zi Xa (Ze Zx [(Za 0),(eC (.int 13))]) (eC (.int 16))) (eC (.int 7))) (XD ns none none none none none none)=some (decide (YE ns 13%16=7)):=by
   rw[Ys,ZA,m]
   show(YJ false (.int (YE ns 13%16)) (.int 7)).bind NF=_
   simp
  rw[Yl,T1,t,WK,d]
  cases decide (YE ns 13%16=7)<;>rfl
 have e2:WR (Uj (xB (Ze ZC [(eC (.int 5))]))) (ZS (eP (eC (.bl false)))) ZN (XD ns none none none none none none)=some (.nx (XD ns none none none none none none)):=by
  have d:xB (Ze ZC [(eC (.int 5))]) (XD ns none none none none none none)=some true:=by
   have:Ze ZC [(eC (.int 5))] (XD ns none none none none none none)=some (.bl true):=GF
   rw[Ys,this];rfl
  rw[Yl,WK,d];rfl
 obtain⟨n,h1,h7,hn⟩:=Iq (YE ns 0)
 obtain⟨ts,eT,dok,hg,hsu⟩:=PC.times_eq (Y7:=1) hns h1 h7
 have hs8:YT ts<=8:=by
  have:PC.roomN n<=8:=by unfold PC.roomN;split<;>omega
  omega
 have eS:=J3 dok h7
 have ok:L2.WebOk (LY n ts):=(RV dok).web h1 h7
 have hl:(LY n ts).length=n:=(RV dok).len
 have cn:Tn (LY n ts):=hg.conn dok
 have fw:=GC dok h7 hs8
 generalize LY n ts=W at *
 rw[<-hl] at fw
 have t300:=CS (by omega) fw
 have tp:1<=tr W.length (Z2 W):=CK (CH ok) cn
 have tc:=X9 (CH ok) cn
 have te:ZX [wP W,.int 300]=_:=QP ok cn t300 (by omega)
 have te2:=QP ok cn t300 (Int.le_refl _)
 have tm:∀m:Int,-1000<=m->m<(tr W.length (Z2 W):Int)->Z1 [wP W,.int m]=some (.bl true):=fun m h0 h=>Mz ok cn h (Ts h0 (by omega))
 have gg:=Vw (T0 W) (W.length-1)
 have gr:=UI (T0 W) (W.length-1)
 have gl:(Ya (T0 W) (W.length-1)).length=tr W.length (Z2 W):=Tq _ _
 generalize Ya (T0 W) (W.length-1)=G at *
 generalize tr W.length (Z2 W)=c at *
 let nP:Option PV:=some (.int (n:Int))
 let wPv:Option PV:=some (wP W)
 let gp:Option PV:=some (.lst (G.map gP))
 have e3:Zn 1 (Ze X2 [(Ze Zx [(Za 0),(eC (.int 0))])]) (XD ns none none none none none none)=some (.nx (XD ns nP none none none none none)):=by
  have c:Ze Zx [(Za 0),(eC (.int 0))] (XD ns none none none none none none)=some (.int (YE ns 0)):=UX hns 0
  have:Ze X2 [(Ze Zx [(Za 0),(eC (.int 0))])] (XD ns none none none none none none)=some (.int (n:Int)):=by
   rw[Yg,ZH,c];exact hn
  rw[Zt,this];rfl
 have e4:Zn 2 (Ze XZ [(Ze Xx [(Za 0),(eC (.int 1)),(Za 1)]),(Za 1)]) (XD ns nP none none none none none)=some (.nx (XD ns nP wPv none none none none)):=by
  have t:Ze Xx [(Za 0),(eC (.int 1)),(Za 1)] (XD ns nP none none none none none)=some (dP ts):=eT
  have:Ze XZ [(Ze Xx [(Za 0),(eC (.int 1)),(Za 1)]),(Za 1)] (XD ns nP none none none none none)=some (wP W):=by
   rw[Yg,ZH,t];exact eS
  rw[Zt,this];rfl
 have e5:Zn 3 (Ze (fun ls=>ZX (ls++[.int 300])) [(Za 2)]) (XD ns nP wPv none none none none)=some (.nx (XD ns nP wPv gp none none none)):=by
  have:Ze (fun ls=>ZX (ls++[.int 300])) [(Za 2)] (XD ns nP wPv none none none none)=some (.lst (G.map gP)):=te
  rw[Zt,this];rfl
 have e6:WR (Nq (Uj (xB (Ze V8 [(Za 3),(eC (.ty "list"))]))) (Uj (xB (Ze TM [(ZG 1 [2] (Wd (Za 3)) (.one 0) ZW (Ze ZV [(Za 1),(Za 0)]))])))) (ZS (eP (eC (.bl false)))) ZN (XD ns nP wPv gp none none none)=some (.nx (XD ns nP wPv gp none none none)):=by
  have t1:xB (Ze V8 [(Za 3),(eC (.ty "list"))]) (XD ns nP wPv gp none none none)=some true:=rfl
  have al:Ze TM [(ZG 1 [2] (Wd (Za 3)) (.one 0) ZW (Ze ZV [(Za 1),(Za 0)]))] (XD ns nP wPv gp none none none)=some (.bl true):=P0 ok gg (by omega) (y:=wP W) rfl rfl fun _=>rfl
  have t2:xB (Ze TM [(ZG 1 [2] (Wd (Za 3)) (.one 0) ZW (Ze ZV [(Za 1),(Za 0)]))]) (XD ns nP wPv gp none none none)=some true:=by
   rw[Ys,al];rfl
  rw[Yl,UR,WK,t1,WK,t2];rfl
 obtain⟨x,e7'⟩:=PZ gr (i:=3) (j:=4) (s:=XD ns nP wPv gp none none none) rfl (by decide) (by show 4<7;decide)
 have e7:Yp [] (ZY [(eC (.int 1)),(Ze ZF [(Za 3)])]) (.one 4) (WR (xB (Zi Qs (Zi ZK (Za 3) (Zi YQ (Za 4) (eC (.int 1)))) (Zi ZK (Za 3) (Za 4)))) (ZS (eP (eC (.bl false)))) ZN) (XD ns nP wPv gp none none none)=some (.nx (XD ns nP wPv gp x none none)):=by
  have len:Ze ZF [(Za 3)] (ZJ [] (XD ns nP wPv gp none none none))=some (.int (G.length:Int)):=by
   show some (PV.int ((G.map gP).length:Int))=_
   rw[List.length_map]
  have r:ZY [(eC (.int 1)),(Ze ZF [(Za 3)])] (ZJ [] (XD ns nP wPv gp none none none))=some (Xn 1 (G.length-1)):=by
   rw[Xf (i:=1) (j:=(G.length:Int)) rfl len ⟨by omega,by omega⟩ ⟨by omega,by omega⟩]
   congr 2;omega
  rw[Yc,r];exact e7'
 have e8:Zn 5 (Ze Y3 [(Za 3)]) (XD ns nP wPv gp x none none)=some (.nx (XD ns nP wPv gp x gp none)):=by
  have:Ze Y3 [(Za 3)] (XD ns nP wPv gp x none none)=some (.lst (G.map gP)):=by
   show Y3 [.lst (G.map gP)]=_
   unfold Y3;simp[R3,EB]
  rw[Zt,this];rfl
 have len5:∀x3 x6,Ze ZF [(Za 5)] (XD ns nP wPv x3 x gp x6)=some (.int (c:Int)):=fun x3 x6=>by
  show some (PV.int ((G.map gP).length:Int))=_
  rw[List.length_map,gl]
 have e9:WR (Nq (xB (Zi (YJ true) (Ze ZF [(Za 5)]) (Ze Zs [(Za 2)]))) (xB (Zi (YJ true) (Ze ZX [(Za 2),(Ze ZF [(Za 5)])]) (Za 5)))) (ZS (eP (eC (.bl false)))) ZN (XD ns nP wPv gp x gp none)=some (.nx (XD ns nP wPv gp x gp none)):=by
  have v1:Ze Zs [(Za 2)] (XD ns nP wPv gp x gp none)=some (.int (c:Int)):=tc
  have t1:xB (Zi (YJ true) (Ze ZF [(Za 5)]) (Ze Zs [(Za 2)])) (XD ns nP wPv gp x gp none)=some false:=by
   rw[Ys,ZA,len5,v1]
   show(YJ true (.int (c:Int)) (.int (c:Int))).bind NF=_
   simp
  have v2:Ze ZX [(Za 2),(Ze ZF [(Za 5)])] (XD ns nP wPv gp x gp none)=some (.lst (G.map gP)):=by
   rw[Yg,ZH,ZH,len5];exact te2
  have t2:xB (Zi (YJ true) (Ze ZX [(Za 2),(Ze ZF [(Za 5)])]) (Za 5)) (XD ns nP wPv gp x gp none)=some false:=by
   rw[Ys,ZA,v2]
   show(YJ true (.lst (G.map gP)) (.lst (G.map gP))).bind NF=_
   rw[Mx true (KS 5 G G)];rfl
  rw[Yl,UR,t1,t2];rfl
 let gp2:Option PV:=some (.lst (G.map gP++[.tup []]))
 have e10:X5 3 (eP (Yq [])) (XD ns nP wPv gp x gp none)=some (.nx (XD ns nP wPv gp2 x gp none)):=by
  rw[Qh (l:=.tup []) (m:=G.map gP) rfl rfl (by rw[List.length_map];omega)]
  rfl
 obtain⟨d,hd0,hd1,hd⟩:∃d:Int,0<=d/\d<(c:Int)+2/\YE ns 12%((c:Int)+2)=d:=⟨_,Int.emod_nonneg _ (by omega),Int.emod_lt_of_pos _ (by omega),rfl⟩
 let dP6:Option PV:=some (.int d)
 have e11:Zn 6 (eP (Zi Xa (Ze Zx [(Za 0),(eC (.int 12))]) (Zi Yo (Ze ZF [(Za 5)]) (eC (.int 2))))) (XD ns nP wPv gp2 x gp none)=some (.nx (XD ns nP wPv gp2 x gp dP6)):=by
  have cc:Ze Zx [(Za 0),(eC (.int 12))] (XD ns nP wPv gp2 x gp none)=some (.int (YE ns 12)):=UX hns 12
  have a:Zi Yo (Ze ZF [(Za 5)]) (eC (.int 2)) (XD ns nP wPv gp2 x gp none)=some (.int ((c:Int)+2)):=vI (op:=(· + ·)) (len5 _ _) rfl
  have m:Zi Xa (Ze Zx [(Za 0),(eC (.int 12))]) (Zi Yo (Ze ZF [(Za 5)]) (eC (.int 2))) (XD ns nP wPv gp2 x gp none)=some (.int d):=by
   rw[ZA,cc,a]
   show(if(0:Int)<(c:Int)+2 then some (PV.int (YE ns 12%((c:Int)+2))) else none)=_
   rw[if_pos (by omega),hd]
  rw[Zt,vP m];rfl
 have e12:WR (VJ (xB (Zi Tt (Za 6) (eC (.int 0)))) (Uj (xB (Ze Z1 [(Za 2),(Zi YQ (Ze ZF [(Za 5)]) (Za 6))])))) (ZS (eP (eC (.bl false)))) ZN (XD ns nP wPv gp2 x gp dP6)=some (.nx (XD ns nP wPv gp2 x gp dP6)):=by
  have t1:xB (Zi Tt (Za 6) (eC (.int 0))) (XD ns nP wPv gp2 x gp dP6)=some (decide (0<d)):=rfl
  rw[Yl,T1,t1]
  by_cases q:0<d
  ·have a:Zi YQ (Ze ZF [(Za 5)]) (Za 6) (XD ns nP wPv gp2 x gp dP6)=some (.int ((c:Int)-d)):=vI (op:=(· - ·)) (len5 _ _) rfl
   have v:Ze Z1 [(Za 2),(Zi YQ (Ze ZF [(Za 5)]) (Za 6))] (XD ns nP wPv gp2 x gp dP6)=some (.bl true):=by
    rw[Yg,ZH,ZH,a];exact tm _ (by omega) (by omega)
   have t2:xB (Ze Z1 [(Za 2),(Zi YQ (Ze ZF [(Za 5)]) (Za 6))]) (XD ns nP wPv gp2 x gp dP6)=some true:=by rw[Ys,v];rfl
   rw[decide_eq_true q,Option.bind_some,if_pos rfl,WK,t2];rfl
  ·rw[decide_eq_false q];rfl
 show Xl 7 Kx _=_
 unfold Kx
 show(Zm _ _ (XD ns none none none none none none)).bind Xw=_
 rw[Yi e1,Yi e2,Yi e3,Yi e4,Yi e5,Yi e6,Yi e7,Yi e8,Yi e9,Yi e10,Yi e11,Yi e12]
 rw[To (v:=.bl true) (by
  have a:Zi YQ (Ze ZF [(Za 5)]) (eC (.int 1)) (XD ns nP wPv gp2 x gp dP6)=some (.int ((c:Int)-1)):=vI (op:=(· - ·)) (len5 _ _) rfl
  have v:Ze Z1 [(Za 2),(Zi YQ (Ze ZF [(Za 5)]) (eC (.int 1)))] (XD ns nP wPv gp2 x gp dP6)=some (.bl true):=by
   rw[Yg,ZH,ZH,a];exact tm _ (by omega) (by omega)
  have t2:xB (Ze Z1 [(Za 2),(Zi YQ (Ze ZF [(Za 5)]) (eC (.int 1)))]) (XD ns nP wPv gp2 x gp dP6)=some true:=by rw[Ys,v];rfl
  have v3:Ze (fun ls=>ZX (ls++[.int 300])) [(Za 2)] (XD ns nP wPv gp2 x gp dP6)=some (.lst (G.map gP)):=te
  rw[YZ,Us,t2,Option.bind_some,if_pos rfl,ZA,v3]
  show(YJ false (.lst (G.map gP)) (.lst (G.map gP))).bind _=_
  rw[Mx false (KS 5 G G)];rfl)]
 rfl
end PW
namespace PW
open PySem L2 VL
section
open PySem.Spec PyProof.Rows VX
variable {P:Program} {w:World} {K:PySem.W.Frag} {mg:Str->Option Value} {base:Heap}
abbrev WB:Stmt:=BZ 0 (Sr 6)
theorem LH{C Cb fI:Addr}{fd:FuncData}(Fn:Fun K "__init__" "TooMany.__init__" WB fI fd)(ex:exiIn K C veT "ValueError.__new__" fI=true)(BI:BInit K Cb "ValueError.__init__")(mB:mg "PurseError" = some (.ref Cb))(sa:PySem.W.findIn K (.ref C) "__setattr__" = some (some (.builtin "object.__setattr__")))(ve:veOver K C=true)(tk:PySem.W.takerIn K C "most" = some none)(hd:(PySem.W.clsIn K C).any (·.hasDict)=true) :
  Ue P w K mg base O0 1 fI fd ["self","most"] (Aq C "most"):=
 Fn.ok (k:=0) (N:=["self","most"]) ⟨rfl,rfl,rfl,by decide +kernel,rfl,by decide +kernel,by decide +kernel⟩ (fun _ _ _ _ h=>h.1) fun cdv A outer s H vs Q E hr h=>by
  refine⟨_,RK (WX (HG (pl:=?pl) F.excBase_ValueError BI ex rfl mB rfl (Yv (pv 0) (Yv (F1 hr (pv 1)) XU)))) (P5 (FZ ex sa ve tk hd rfl (pv 0) (pv 1))),?_⟩
  exact JG (a:="self") (b:="most") h
end
theorem all_mk{P:Program}{w:World}{K:PySem.W.Frag}{h:Heap}{mg:Str->Option Value}{fa:Addr}(X:K.In h)(G:h.Ns mainGlobals mg)(hfa:mg "law" = some (.ref fa))(B:Tb mg)
  (d0:Def K mg "_law_houses" Th)
  (d1:Def K mg "_law_square" Ti)
  (d2:Def K mg "ties_of" SV)
  (d3:Def K mg "reduced" SW)
  (d4:Def K mg "evened" Qu)
  (d5:Def K mg "determinant" Vi)
  (d6:Def K mg "ties_at" SX)
  (d7:Def K mg "row_of" Qx)
  (d8:Def K mg "square_without" X3)
  (d9:Def K mg "square_of" Uz)
  (d10:Def K mg "tree_count" VZ)
  (d11:Def K mg "pieces_of" UA)
  (d12:Def K mg "is_between" V0)
  (d13:Def K mg "grown" OO)
  (d14:Q1 K mg "trees" UW 300)
  (d15:Def K mg "_law_ring" Qy)
  (d16:Def K mg "_law_whole" SY)
  (d17:Def K mg "_law_tuple" S0)
  (d18:Def K mg "_law_is_tree" V1)
  (d19:Def K mg "_law_by_default" WM)
  (d20:Def K mg "_law_cell" Qz)
  (d21:Def K mg "_law_renamed" UB)
  (d22:Def K mg "_law_read_times" WN)
  (d23:Def K mg "_law_times" Tj)
  (d24:Def K mg "_law_kind" QA)
  (d25:Def K mg "_law_too_many" V2)
  (d26:Def K mg "law" HY)
  {CNoWeb CApart CNoText CNoOrder CTooMany CNotSettled CNoTree CNoTotal CNoEnds CNoRow CNoName Cb fW:Addr} {odW anW:Option Addr} {slW:Array (Option Value)} {kVW dcW pmW cdW ctW:Value}
  (qNoWeb:PySem.W.nsIn K mainGlobals "NoWeb" = some (some (.ref CNoWeb)))
  (qApart:PySem.W.nsIn K mainGlobals "Apart" = some (some (.ref CApart)))
  (qNoText:PySem.W.nsIn K mainGlobals "NoText" = some (some (.ref CNoText)))
  (qNoOrder:PySem.W.nsIn K mainGlobals "NoOrder" = some (some (.ref CNoOrder)))
  (qTooMany:PySem.W.nsIn K mainGlobals "TooMany" = some (some (.ref CTooMany)))
  (qNotSettled:PySem.W.nsIn K mainGlobals "NotSettled" = some (some (.ref CNotSettled)))
  (qNoTree:PySem.W.nsIn K mainGlobals "NoTree" = some (some (.ref CNoTree)))
  (qNoTotal:PySem.W.nsIn K mainGlobals "NoTotal" = some (some (.ref CNoTotal)))
  (qNoEnds:PySem.W.nsIn K mainGlobals "NoEnds" = some (some (.ref CNoEnds)))
  (qNoRow:PySem.W.nsIn K mainGlobals "NoRow" = some (some (.ref CNoRow)))
  (qNoName:PySem.W.nsIn K mainGlobals "NoName" = some (some (.ref CNoName)))
  (qB:PySem.W.nsIn K mainGlobals "PurseError" = some (some (.ref Cb)))
  (xB:PySem.W.ktsIn K Cb "BaseException" = true)
  (g1:PySem.W.specialIn K (.ref Cb) "__getattribute__" = some (some (.builtin "type.__getattribute__")))
  (g2:PySem.W.readsIn K Cb (.type "type")=true)
  (g3:PySem.W.findCls K (.ref Cb) (.type "type") "__init__" = some (.val (.builtin "ValueError.__init__")))
  (iW:PySem.W.findIn K (.ref CTooMany) "__init__" = some (some (.ref fW)))
  (lW:K.lookup fW=some ⟨.type "function",odW,.func (PySem.W.fnOf "__init__" "TooMany.__init__" (YX WB) (ZZ WB) (Zk WB) .none kVW dcW pmW anW cdW ctW),slW⟩)
  (cW:PySem.W.codeIn K cdW "TooMany.__init__" = true)
  (kW:PySem.W.keepIn K (.ref fW)=true)
  (eW:VX.exiIn K CTooMany VX.veT "ValueError.__new__" fW=true)
  (sW:PySem.W.findIn K (.ref CTooMany) "__setattr__" = some (some (.builtin "object.__setattr__")))
  (vW:VX.veOver K CTooMany=true)
  (uW:PySem.W.takerIn K CTooMany "most" = some none)
  (hW:(PySem.W.clsIn K CTooMany).any (·.hasDict)=true)
  (bW:VX.belowIn K CTooMany Cb=true)
  (nW:PySem.W.findIn K (.ref CTooMany) "most" = some none)
  (x1W:PySem.W.ktsIn K CTooMany "BaseException" = true)
  (x4W:PySem.W.findIn K (.ref CTooMany) "__getattribute__" = some (some (.builtin "BaseException.__getattribute__")))
  (x5W:PySem.W.findIn K (.ref CTooMany) "__getattr__" = some none)
  (x6W:PySem.W.findIn K (.ref CTooMany) "__class__" = some (some (.builtin "object.__class__")))
  (x7W:PySem.W.mroIn K CTooMany (.type "object")=some true)
  (x8W:PySem.W.kitOne K (.ref CTooMany) (.type "ValueError")=some true)
  (tNoWebW:PySem.W.kitOne K (.ref CTooMany) (.ref CNoWeb)=some false)
  (tApartW:PySem.W.kitOne K (.ref CTooMany) (.ref CApart)=some false)
  (tNoTextW:PySem.W.kitOne K (.ref CTooMany) (.ref CNoText)=some false)
  (tNoOrderW:PySem.W.kitOne K (.ref CTooMany) (.ref CNoOrder)=some false)
  (tTooManyW:PySem.W.kitOne K (.ref CTooMany) (.ref CTooMany)=some true)
  (tNotSettledW:PySem.W.kitOne K (.ref CTooMany) (.ref CNotSettled)=some false)
  (tNoTreeW:PySem.W.kitOne K (.ref CTooMany) (.ref CNoTree)=some false)
  (tNoTotalW:PySem.W.kitOne K (.ref CTooMany) (.ref CNoTotal)=some false)
  (tNoEndsW:PySem.W.kitOne K (.ref CTooMany) (.ref CNoEnds)=some false)
  (tNoRowW:PySem.W.kitOne K (.ref CTooMany) (.ref CNoRow)=some false)
  (tNoNameW:PySem.W.kitOne K (.ref CTooMany) (.ref CNoName)=some false)
  (sbW:VX.belowIn K CTooMany CTooMany=true)
  : ∃fd:FuncData,(∀(s:Shared)(u:Value),BindsTo s fd ⟨[u],[]⟩ [("_law_script",u)])/\∀base:Heap,K.In base->base.Ns mainGlobals mg->Ue P w K mg base O0 8 fa fd ["_law_script"] (YU K D_law 1):=by
 have mB:=PySem.W.mg_of X G qB
 have BI:VX.BInit K Cb "ValueError.__init__":=⟨g1,g2,g3⟩
 have FW:Fun K "__init__" "TooMany.__init__" WB fW _:=IK (st:=WB) lW cW kW
 have QW:∀base:Heap,VX.QF "TooMany" P w K mg base CTooMany Cb:=fun base=>
  ⟨qTooMany,PySem.W.mg_of X G qTooMany,⟨fW,_,_,eW,lW,rfl,FW.binds (fun _ _ _ _ _ _ us hl=>match us,hl with | [_,_],_=>rfl),LH FW eW BI mB sW vW uW hW⟩,⟨qTooMany,⟨x4W,x5W,x6W,x7W,x1W⟩,nW,hW⟩,bW,fun cx hc=>by
   unfold VX.nms at hc;simp only[List.mem_cons,List.not_mem_nil,or_false] at hc
   rcases hc with rfl | rfl | rfl | rfl | rfl | rfl | rfl | rfl | rfl | rfl | rfl
   ·exact⟨CNoWeb,PySem.W.mg_of X G qNoWeb,tNoWebW⟩
   ·exact⟨CApart,PySem.W.mg_of X G qApart,tApartW⟩
   ·exact⟨CNoText,PySem.W.mg_of X G qNoText,tNoTextW⟩
   ·exact⟨CNoOrder,PySem.W.mg_of X G qNoOrder,tNoOrderW⟩
   ·exact⟨CTooMany,PySem.W.mg_of X G qTooMany,tTooManyW⟩
   ·exact⟨CNotSettled,PySem.W.mg_of X G qNotSettled,tNotSettledW⟩
   ·exact⟨CNoTree,PySem.W.mg_of X G qNoTree,tNoTreeW⟩
   ·exact⟨CNoTotal,PySem.W.mg_of X G qNoTotal,tNoTotalW⟩
   ·exact⟨CNoEnds,PySem.W.mg_of X G qNoEnds,tNoEndsW⟩
   ·exact⟨CNoRow,PySem.W.mg_of X G qNoRow,tNoRowW⟩
   ·exact⟨CNoName,PySem.W.mg_of X G qNoName,tNoNameW⟩,x8W⟩
 refine Hl d26 hfa (fun _ _ _ _ _ _ _=>rfl) fun base f fd _ _ F=>?_
 have Q:VX.Q3 "TooMany" P w K mg base CTooMany Cb:=⟨mB,xB,QW base,sbW⟩
 have C_l_houses:=N5 (P:=P) (w:=w) (base:=base) d0 B
 have C_l_square:=N6 (P:=P) (w:=w) (base:=base) d1 B
 have C_ties_of:=Lc (P:=P) (w:=w) (base:=base) d2 B
 have C_reduced:=Lf (P:=P) (w:=w) (base:=base) d3 B
 have C_evened:=JQ (P:=P) (w:=w) (base:=base) d4 B C_reduced
 have C_determinant:=Qw (P:=P) (w:=w) (base:=base) d5 B C_evened
 have C_ties_at:=Lh (P:=P) (w:=w) (base:=base) d6 B
 have C_row_of:=JS (P:=P) (w:=w) (base:=base) d7 B C_ties_at
 have C_square_without:=Sg (P:=P) (w:=w) (base:=base) d8 B C_row_of
 have C_square_of:=OM (P:=P) (w:=w) (base:=base) d9 B C_square_without
 have C_tree_count:=Q4 (P:=P) (w:=w) (base:=base) d10 B C_determinant C_square_of
 have C_pieces_of:=ON (P:=P) (w:=w) (base:=base) d11 B
 have C_is_between:=Q6 (P:=P) (w:=w) (base:=base) d12 B
 have C_grown:=HW (P:=P) (w:=w) (base:=base) d13 B C_pieces_of C_is_between
 have C_trees:=HX (P:=P) (w:=w) (base:=base) d14 B C_tree_count C_ties_of C_grown
 have CF_trees:=JT (P:=P) (w:=w) (base:=base) d14 B C_tree_count C_ties_of C_grown
 have X_trees:=JU (P:=P) (w:=w) (base:=base) d14 B Q C_tree_count
 have XD_trees:=Li (P:=P) (w:=w) (base:=base) d14 B Q C_tree_count
 have C_l_ring:=JW (P:=P) (w:=w) (base:=base) d15 B
 have C_l_whole:=Lk (P:=P) (w:=w) (base:=base) d16 B
 have C_l_tuple:=Lm (P:=P) (w:=w) (base:=base) d17 B C_l_whole
 have C_l_is_treeL:=Q7 (P:=P) (w:=w) (base:=base) d18 B C_l_tuple
 have C_l_by_default:=Rq (P:=P) (w:=w) (base:=base) d19 B C_l_ring C_trees C_l_whole C_l_is_treeL Q XD_trees
 have C_l_cell:=JY (P:=P) (w:=w) (base:=base) d20 B
 have C_l_renamed:=OP (P:=P) (w:=w) (base:=base) d21 B
 have C_l_read_times:=Rr (P:=P) (w:=w) (base:=base) d22 B
 have C_l_timesL:=N7 (P:=P) (w:=w) (base:=base) d23 B C_l_cell C_l_read_times C_l_renamed
 have C_l_kind:=JZ (P:=P) (w:=w) (base:=base) d24 B  Q
 have C_l_too_many:=Q8 (P:=P) (w:=w) (base:=base) d25 B CF_trees C_l_whole C_l_kind Q X_trees
 exact Cu F B C_l_by_default C_l_cell C_l_houses C_l_square C_l_timesL C_trees C_l_is_treeL CF_trees C_tree_count C_l_too_many
end PW
def PySem.W.Fast.tw8246228673023805901:Unit:=()
def PySem.W.Fast.tw17053695043308000956:Unit:=()
def PySem.W.Fast.tw10789383788651432251:Unit:=()
def PySem.W.Fast.tw14084830173649596400:Unit:=()
def PySem.W.Fast.tw3312859440130266945:Unit:=()
def PySem.W.Fast.tw2734357703827765075:Unit:=()
def PySem.W.Fast.tw1070438478915251911:Unit:=()
def PySem.W.Fast.tw15137607874524628672:Unit:=()
def PySem.W.Fast.tw4117152450580445259:Unit:=()
def PySem.W.Fast.tw7919835022686967443:Unit:=()
def PySem.W.Fast.tw15310336415652467858:Unit:=()
def PySem.W.Fast.tw328896995350076707:Unit:=()
def PySem.W.Fast.tw6848537621373698431:Unit:=()
def PySem.W.Fast.tw15249892773266926178:Unit:=()
def PySem.W.Fast.tw6252382423214789908:Unit:=()
def PySem.W.Fast.tw7901584160900219554:Unit:=()
def PySem.W.Fast.tw2758792490473422362:Unit:=()
def PySem.W.Fast.tw11758933642110340572:Unit:=()
def PySem.W.Fast.tw2368469563102143770:Unit:=()
def PySem.W.Fast.tw11569108125580019169:Unit:=()
def PySem.W.Fast.tw2243408097632674757:Unit:=()
def PySem.W.Fast.tw13195046688482107347:Unit:=()
def PySem.W.Fast.tw6645861270018082390:Unit:=()
def PySem.W.Fast.tw18233546582067699081:Unit:=()
def PySem.W.Fast.tw7081259405196528478:Unit:=()
def PySem.W.Fast.tw7001356683814972284:Unit:=()
def PySem.W.Fast.tw12632720498128734708:Unit:=()
def PySem.W.Fast.tw3363509641522457743:Unit:=()
def PySem.W.Fast.tw7570664658535979843:Unit:=()
def PySem.W.Fast.tw5135291247019316085:Unit:=()
def PySem.W.Fast.tw134125435754764241:Unit:=()
def PySem.W.Fast.tw4957780566311953079:Unit:=()
def PySem.W.Fast.tw17165272840729084640:Unit:=()
def PySem.W.Fast.tw4453703782989448695:Unit:=()
def PySem.W.Fast.tw6255284667883711587:Unit:=()
def PySem.W.Fast.tw8022058013803012919:Unit:=()
def PySem.W.Fast.tw15947258590362752896:Unit:=()
def PySem.W.Fast.tw11797017806254072502:Unit:=()
def PySem.W.Fast.tw13568682975797437114:Unit:=()
def PySem.W.Fast.tw3526530533516758698:Unit:=()
def PySem.W.Fast.tw7189122603449913513:Unit:=()
def PySem.W.Fast.tw5712860430370791470:Unit:=()
def PySem.W.Fast.tw4747581739127470657:Unit:=()
def PySem.W.Fast.tw1441287107581513175:Unit:=()
def PySem.W.Fast.tw13105597393755214859:Unit:=()
def PySem.W.Fast.tw739399913574890324:Unit:=()
def PySem.W.Fast.tw589844301016823159:Unit:=()
def PySem.W.Fast.tw1039874207600750629:Unit:=()
def PySem.W.Fast.tw11897977786555254432:Unit:=()
def PySem.W.Fast.tw15590209501250283696:Unit:=()
def PySem.W.Fast.tw5698163914934070139:Unit:=()
def PySem.W.Fast.tw14830917475638384573:Unit:=()
def PySem.W.Fast.tw5495315380339751896:Unit:=()
def PySem.W.Fast.tw859709123053160156:Unit:=()
def PySem.W.Fast.tw10989575361827655767:Unit:=()
def PySem.W.Fast.tw9335134091702862225:Unit:=()
def PySem.W.Fast.tw358595162935453436:Unit:=()
def PySem.W.Fast.tw9209362048908595063:Unit:=()
def PySem.W.Fast.tw14982304120663190382:Unit:=()
def PySem.W.Fast.tw3761042385100970036:Unit:=()
def PySem.W.Fast.tw8707530997268127772:Unit:=()
def PySem.W.Fast.tw6429322355628029358:Unit:=()
def PySem.W.Fast.tw14235430003069004093:Unit:=()
def PySem.W.Fast.tw2517018176396907274:Unit:=()
def PySem.W.Fast.tw6978291662701059463:Unit:=()
def PySem.W.Fast.tw1620812234287547372:Unit:=()
def PySem.W.Fast.tw14608163910560002673:Unit:=()
def PySem.W.Fast.tw5509300363714100904:Unit:=()
def PySem.W.Fast.tw9290951536637567927:Unit:=()
def PySem.W.Fast.tw85128412578779690:Unit:=()
def PySem.W.Fast.tw15768012930079920184:Unit:=()
def PySem.W.Fast.tw4845698648946396128:Unit:=()
def PySem.W.Fast.tw17318980505019488354:Unit:=()
def PySem.W.Fast.tw7374809885224792832:Unit:=()
def PySem.W.Fast.tw3610927266825278206:Unit:=()
def PySem.W.Fast.tw1564198787618414291:Unit:=()
def PySem.W.Fast.tw6059316624922323352:Unit:=()
def PySem.W.Fast.tw15571058854574190493:Unit:=()
def PySem.W.Fast.tw2523128672932166636:Unit:=()
def PySem.W.Fast.tw3191317801171269009:Unit:=()
def PySem.W.Fast.tw7477157928731952440:Unit:=()
def PySem.W.Fast.tw7211631877546999727:Unit:=()
def PySem.W.Fast.tw3190454265125656541:Unit:=()
def PySem.W.Fast.tw792556738363409980:Unit:=()
def PySem.W.Fast.tw13894948187537694372:Unit:=()
open PySem PySem.W PyProof.Rows
set_option maxRecDepth 100000 in
set_option maxHeartbeats 0 in
theorem PySem.Challenge.cw_purseweb_k52_trees_told_holds : PySem.Challenge.rw_purseweb_k52_trees_told.Holds := by
 w_on;o_law;k_head;(case hw=>w_witness2)
 k_fill
 refine VL.law_walkB (l:=PySem.Challenge.rw_purseweb_k52_trees_told) (D:=PW.D_law) (x:="_law_script") 8 rfl rfl ⟨rfl,by decide,by decide,rfl⟩ PW.law_true (fun w h Y=>PySem.W.kIn_of Y) ?F
 case F=>
  intro w mg fa h KX G hmg
  refine' PW.all_mk KX G hmg ?B ?d0 ?d1 ?d2 ?d3 ?d4 ?d5 ?d6 ?d7 ?d8 ?d9 ?d10 ?d11 ?d12 ?d13 ?d14 ?d15 ?d16 ?d17 ?d18 ?d19 ?d20 ?d21 ?d22 ?d23 ?d24 ?d25 ?d26 ?qNoWeb ?qApart ?qNoText ?qNoOrder ?qTooMany ?qNotSettled ?qNoTree ?qNoTotal ?qNoEnds ?qNoRow ?qNoName ?qB ?xB ?g1 ?g2 ?g3 ?iW ?lW ?cW ?kW ?eW ?sW ?vW ?uW ?hW ?bW ?nW ?x1W ?x4W ?x5W ?x6W ?x7W ?x8W ?tNoWebW ?tApartW ?tNoTextW ?tNoOrderW ?tTooManyW ?tNotSettledW ?tNoTreeW ?tNoTotalW ?tNoEndsW ?tNoRowW ?tNoNameW ?sbW
  case B=>constructor<;>(refine PySem.W.mg_none_of KX G ?_;k_is)
  case d0 | d1 | d2 | d3 | d4 | d5 | d6 | d7 | d8 | d9 | d10 | d11 | d12 | d13 | d15 | d16 | d17 | d18 | d19 | d20 | d21 | d22 | d23 | d24 | d25 | d26=>(refine' L2.def_mk KX G ?a ?l ?c ?k;(case a=>k_is);(case l=>k_is);(case c=>k_is);(case k=>k_is))
  case d14=>(refine' VL.defD_mk KX G ?a ?l ?c ?k ?lt ?d;(case a=>k_is);(case l=>k_is);(case c=>k_is);(case k=>k_is);(case lt=>k_is);(case d=>rfl))
  (case qNoWeb=>k_is)
  (case qApart=>k_is)
  (case qNoText=>k_is)
  (case qNoOrder=>k_is)
  (case qTooMany=>k_is)
  (case qNotSettled=>k_is)
  (case qNoTree=>k_is)
  (case qNoTotal=>k_is)
  (case qNoEnds=>k_is)
  (case qNoRow=>k_is)
  (case qNoName=>k_is)
  (case qB=>k_is)
  (case xB=>kernel_rfl)
  (case g1=>kernel_rfl)
  (case g2=>kernel_rfl)
  (case g3=>kernel_rfl)
  (case iW=>k_is)
  (case lW=>k_is)
  (case cW=>k_is)
  (case kW=>k_is)
  (case eW=>kernel_rfl)
  (case sW=>k_is)
  (case vW=>kernel_rfl)
  (case uW=>kernel_rfl)
  (case hW=>kernel_rfl)
  (case bW=>kernel_rfl)
  (case nW=>k_is)
  (case x1W=>kernel_rfl)
  (case x4W=>k_is)
  (case x5W=>k_is)
  (case x6W=>k_is)
  (case x7W=>k_is)
  (case x8W=>kernel_rfl)
  (case tNoWebW=>kernel_rfl)
  (case tApartW=>kernel_rfl)
  (case tNoTextW=>kernel_rfl)
  (case tNoOrderW=>kernel_rfl)
  (case tTooManyW=>kernel_rfl)
  (case tNotSettledW=>kernel_rfl)
  (case tNoTreeW=>kernel_rfl)
  (case tNoTotalW=>kernel_rfl)
  (case tNoEndsW=>kernel_rfl)
  (case tNoRowW=>kernel_rfl)
  (case tNoNameW=>kernel_rfl)
  (case sbW=>kernel_rfl)
