import PyProof.Rows.All
import Wide.All
import OpenK.AllK
import Wide.FinOn
import Lean
import PyProof.EqAt
import PyProof.EqKinds
import PyProof.TupleCall
import PyProof.NeKinds
import PyProof.ListMulRoad
import PyProof.WalkInts
import PyProof.ListRange
import KE.KRevIter
import PySem.Challenge.RW_purseweb_k14_purses_of_orders
set_option Elab.async false
set_option linter.all false
set_option maxRecDepth 100000
namespace L2
open PySem PySem.Spec PyProof.Rows
abbrev Z4:=Sum Int Str
def TX:Z4->Value->Bool
 | .inl k,v=>Value.isInt k v
 | .inr x,v=>Value.isStrOf x v
def IL(w:World):Z4->Int
 | .inl k=>hashInt k
 | .inr x=>hashStr w x
theorem ZU:∀{k:Z4}{v:Value},TX k v=true->(∃i t,k=Sum.inl i/\v=Value.int i t)\/(∃x t,k=Sum.inr x/\v=Value.str x t)
 | .inl i,v,h=>by
  obtain⟨t,e⟩:=Value.isInt_shape (k:=i) (v:=v) h
  exact .inl ⟨i,t,rfl,e⟩
 | .inr x,v,h=>by
  obtain⟨t,e⟩:=Value.isStrOf_shape (x:=x) (v:=v) h
  exact .inr ⟨x,t,rfl,e⟩
theorem PQ(i:Int)(t:Tok):TX (.inl i) (.int i t)=true:=by simp[TX,Value.isInt]
theorem PR(x:Str)(t:Tok):TX (.inr x) (.str x t)=true:=by simp[TX,Value.isStrOf]
theorem LV(a b:Int):decide ((Sum.inl a:Z4)=Sum.inl b)=(a==b):=by
 by_cases e:a=b
 ·subst e;simp
 ·have h:¬(Sum.inl a:Z4)=Sum.inl b:=fun q=>e (Sum.inl.inj q)
  rw[decide_eq_false h]
  exact(beq_eq_false_iff_ne.mpr e).symm
theorem LW(a b:Str):decide ((Sum.inr a:Z4)=Sum.inr b)=decide (a=b):=by
 by_cases e:a=b
 ·subst e;simp
 ·have h:¬(Sum.inr a:Z4)=Sum.inr b:=fun q=>e (Sum.inr.inj q)
  rw[decide_eq_false h,decide_eq_false e]
theorem LX(a:Int)(b:Str):decide ((Sum.inl a:Z4)=Sum.inr b)=false:=decide_eq_false (fun q=>nomatch q)
theorem LY(a:Str)(b:Int):decide ((Sum.inr a:Z4)=Sum.inl b)=false:=decide_eq_false (fun q=>nomatch q)
def Z7(prog:Program)(w:World):PySem.KeyKind prog w Z4 where
 is:=TX
 hash:=IL w
 inj:=fun v a b ha hb=>by
  rcases ZU ha with⟨i,t,rfl,rfl⟩ | ⟨x,t,rfl,rfl⟩
  ·rcases ZU hb with⟨j,u,rfl,e⟩ | ⟨y,u,rfl,e⟩
   ·injection e with e1 _;rw[e1]
   ·exact nomatch e
  ·rcases ZU hb with⟨j,u,rfl,e⟩ | ⟨y,u,rfl,e⟩
   ·exact nomatch e
   ·injection e with e1 _;rw[e1]
 byValue:=fun k v h=>by
  rcases ZU h with⟨i,t,rfl,rfl⟩ | ⟨x,t,rfl,rfl⟩<;>rfl
 pyHash:=fun hv h=>by
  rcases ZU hv with⟨i,t,rfl,rfl⟩ | ⟨x,t,rfl,rfl⟩
  ·exact wpAny_pyHash_int h
  ·exact wpAny_pyHash_str h
 eqBool:=fun hu hv h=>by
  rcases ZU hu with⟨i,t,rfl,rfl⟩ | ⟨x,t,rfl,rfl⟩
  ·rcases ZU hv with⟨j,u,rfl,rfl⟩ | ⟨y,u,rfl,rfl⟩
   ·rw[LV] at h;exact wpAny_eqBool_int h
   ·rw[LX] at h;exact SeqAt.EqAt.int_str i t y u _ _ _ _ h
  ·rcases ZU hv with⟨j,u,rfl,rfl⟩ | ⟨y,u,rfl,rfl⟩
   ·rw[LY] at h;exact SeqAt.EqAt.str_int x t j u _ _ _ _ h
   ·rw[LW] at h;exact wpAny_eqBool_str h
 «strs»:=fun k x t v h=>by
  rcases ZU h with⟨i,u,rfl,e⟩ | ⟨y,u,rfl,e⟩
  ·exact nomatch e
  ·injection e with e1 _
   subst e1
   cases v<;>rfl
theorem Rc(prog:Program)(w:World)(i:Int)(t:Tok):(Z7 prog w).is (.inl i) (.int i t)=true:=PQ i t
theorem Re(prog:Program)(w:World)(x:Str)(t:Tok):(Z7 prog w).is (.inr x) (.str x t)=true:=PR x t
inductive V where
 | non | bl (b:Bool) | int (i:Int) | str (x:Str) | byt (b:Array UInt8) | flt (b:UInt64) | ref (a:Addr) | ty (n:String)
 deriving DecidableEq
def RelV:V->Value->Prop
 | .non,u=>u=Value.none
 | .bl b,u=>u=Value.bool b
 | .int i,u=>∃t,u=Value.int i t
 | .str x,u=>∃t,u=Value.str x t
 | .byt b,u=>∃t,u=Value.bytes b t
 | .flt b,u=>∃t,u=Value.float b t
 | .ref a,u=>u=Value.ref a
 | .ty n,u=>u=Value.type n
abbrev Vals:List V->List Value->Prop:=Paired RelV
theorem Vals.length{xs:List V}{us:List Value}(r:Vals xs us):xs.length=us.length:=Paired.length r
theorem Vals.get:∀{xs:List V}{us:List Value}{i:Nat}{x:V},Vals xs us->xs[i]?=some x->∃u,us[i]?=some u/\RelV x u
 | _,_,_,_,.nil,e=>by simp at e
 | _,_,0,_,.cons r _,e=>by simp at e;subst e;exact⟨_,rfl,r⟩
 | _,_,i+1,x,.cons _ t,e=>by
  obtain⟨u,h1,h2⟩:=Vals.get (i:=i) (x:=x) t (by simpa using e)
  exact⟨u,by simpa using h1,h2⟩
theorem Vals.set{x:V}{u:Value}(r:RelV x u):∀{xs:List V}{us:List Value}(i:Nat),Vals xs us->Vals (xs.set i x) (us.set i u)
 | _,_,_,.nil=>.nil
 | _,_,0,.cons _ t=>.cons r t
 | _,_,i+1,.cons q t=>.cons q (Vals.set r i t)
theorem Vals.append:∀{xs ys:List V}{us ws:List Value},Vals xs us->Vals ys ws->Vals (xs++ys) (us++ws)
 | _,_,_,_,.nil,s=>s
 | _,_,_,_,.cons r t,s=>.cons r (Vals.append t s)
theorem Vals.take:∀{xs:List V}{us:List Value}(n:Nat),Vals xs us->Vals (xs.take n) (us.take n)
 | _,_,0,_=>.nil
 | _,_,_+1,.nil=>.nil
 | _,_,n+1,.cons r t=>.cons r (Vals.take n t)
theorem Vals.drop:∀{xs:List V}{us:List Value}(n:Nat),Vals xs us->Vals (xs.drop n) (us.drop n)
 | _,_,0,r=>r
 | _,_,_+1,.nil=>.nil
 | _,_,n+1,.cons _ t=>Vals.drop n t
def RelO:Option V->Option Value->Prop
 | some v,some u=>RelV v u
 | none,none=>True
 | _,_=>False
def KV{κ:Type}:List (κ×V)->List (κ×Value)->Prop:=Paired fun(p:κ×V) (q:κ×Value)=>p.1=q.1/\RelV p.2 q.2
def kV:Z4->V
 | .inl i=>.int i
 | .inr x=>.str x
inductive HO where
 /-- a list -/
 | lst (xs:List V)
 /-- a tuple (never changes) -/
 | tup (xs:List V)
 /-- a dict whose keys are ints and texts;one whose keys are tuples of ints and texts (the empty one is both) -/
 | dK (kvs:List (Z4×V)) | dT (kvs:List (List Z4×V))
 /-- a set of ints: its members,its size -/
 | set (S:Int->Bool) (n:Nat)
 /-- an instance of the class at C,its dict at dx,its attributes -/
 | ins (C dx:Addr) (fs:List (Str×V))
 /-- the dict of the instance at x -/
 | own (x:Addr)
 /-- the dict of an exception -/
 | xd (fs:List (Str×V))
 /-- a bound method,f of x -/
 | met (f x:Addr)
 /-- a range object lo,lo+1,.. below hi -/
 | rng (lo hi:Int)
 /-- a thing that is known to the object (the script;a dict while a loop walks it): read,never written while it is so -/
 | frz (o:Obj) (u:HO)
 /-- a code object's table -/
 | tbl (ps:Array Value)
 /-- any other thing,by what is true of its one object (a def of one's own: SetO a S n:=HO.ext fun h=>..) -/
 | ext (φ:Heap->Prop)
abbrev Hp:=Addr->Option HO
def upd(H:Hp)(a:Addr)(o:HO):Hp:=fun b=>if b=a then some o else H b
theorem upd_same{H:Hp}{a:Addr}{o:HO}:upd H a o a=some o:=by unfold upd;rw[if_pos rfl]
theorem upd_ne{H:Hp}{a b:Addr}{o:HO}(h:b≠a):upd H a o b=H b:=by unfold upd;rw[if_neg h]
theorem Jz{H:Hp}{a b:Addr}{o u:HO}(h:H a=some o)(h':H b=some u)(d:o≠u):a≠b:=by
 intro e;subst e;rw[h] at h';exact d (Option.some.inj h')
theorem Zq{H:Hp}{a b:Addr}{o:HO}(h:H a=some o)(h':H b=none):a≠b:=by
 intro e;subst e;rw[h] at h';cases h'
section
variable (P:Program) (w:World)
def ObjOk(H:Hp)(h:Heap)(a:Addr):HO->Prop
 | .lst xs=>xs.length<=sizeLine/\∃(its:List Value) (n:Nat),Vals xs its/\h.get? a=some { cls:=.type "list",data:=.seq its.toArray n }
 | .tup xs=>xs.length<=sizeLine/\∃its:List Value,Vals xs its/\IsTup h a its.toArray
 | .dK kvs=>kvs.length<=sizeLine/\(a==sysModules)=false/\∃vs,KV kvs vs/\h.DictOf (Z7 P w) a vs
 | .dT kvs=>kvs.length<=sizeLine/\(a==sysModules)=false/\∃xs:List (List Z4×Addr×Value),
   Paired (fun(p:List Z4×V) (q:List Z4×Addr×Value)=>p.1=q.1/\H q.2.1=some (.tup (p.1.map kV))/\RelV p.2 q.2.2) kvs xs/\
   ∃o es ep,h.get? a=some o/\o.ExactDict/\o.data = .dict es ep/\es.toList=xs.map (entryOfKey (tupleKind (Z7 P w)))/\(xs.map (·.1)).Nodup
 | .set S n=>h.SetOf (intKind P w) a S n
 | .ins C dx fs=>H dx=some (.own a)/\fs.length<=1000/\dx≠a/\h.get? a=some (PySem.W.instObj C dx)/\
   ∃mA,h.Ns1 dx mA/\(∀f,RelO (fs.lookup f) (mA f))/\PySem.Within mA (fs.map (·.1))
 | .own _=>∃o,h.get? a=some o
 | .xd fs=>∃mA,h.Ns1 a mA/\∀f,RelO (fs.lookup f) (mA f)
 | .rng lo hi=>∃t u v,h.get? a=some { cls:=.type "range",data:=.fields #[.int lo t,.int hi u,.int 1 v] }
 | .frz o u=>h.get? a=some o/\ObjOk H h a u
 | .tbl ps=>h.get? a=some { cls:=.none,data:=.fields ps }
 | .met f x=>h.get? a=some (PySem.W.methodObj (.ref f) (.ref x))
 | .ext φ=>φ h/\(∃o,h.get? a=some o)/\∀h1 h2:Heap,φ h1->(∀o,h1.get? a=some o->h2.get? a=some o)->φ h2
def HOk(H:Hp)(h:Heap):Prop:=∀a o,H a=some o->ObjOk P w H h a o
end
section
variable {P:Program} {w:World} {H H':Hp} {h h':Heap} {a:Addr} {o:HO}
theorem ObjOk.lt(x:ObjOk P w H h a o):a<h.objs.size:=by
 cases o with
 | lst xs=>obtain⟨_,_,_,_,e⟩:=x;exact Heap.lt_size e
 | tup xs=>obtain⟨_,_,_,p⟩:=x;exact p.lt
 | dK kvs=>obtain⟨_,_,_,_,o,_,_,e,_⟩:=x;exact Heap.lt_size e
 | dT kvs=>obtain⟨_,_,_,_,o,_,_,e,_⟩:=x;exact Heap.lt_size e
 | set S n=>obtain⟨o,_,_,_,e,_⟩:=x;exact Heap.lt_size e
 | ins C dx fs=>obtain⟨_,_,_,e,_⟩:=x;exact Heap.lt_size e
 | own y=>obtain⟨_,e⟩:=x;exact Heap.lt_size e
 | xd fs=>obtain⟨_,⟨_,_,_,e,_⟩,_⟩:=x;exact Heap.lt_size e
 | rng lo hi=>obtain⟨_,_,_,e⟩:=x;exact Heap.lt_size e
 | frz ob u=>obtain⟨e,_⟩:=x;exact Heap.lt_size e
 | tbl ps=>exact Heap.lt_size (show h.get? a=some _ from x)
 | met f y=>exact Heap.lt_size (show h.get? a=some _ from x)
 | ext φ=>obtain⟨_,⟨_,e⟩,_⟩:=x;exact Heap.lt_size e
theorem Paired.mapP{α β:Type}{F G:α->β->Prop}:∀{l₁:List α}{l₂:List β},Paired F l₁ l₂->(∀a b,F a b->G a b)->Paired G l₁ l₂
 | _,_,.nil,_=>.nil
 | _,_,.cons r t,f=>.cons (f _ _ r) (Paired.mapP t f)
theorem ObjOk.stay(x:ObjOk P w H h a o)(k:∀b u,(b=a\/H b=some (.own a))->h.get? b=some u->h'.get? b=some u)
  (ho:∀b,H b=some (.own a)->H' b=some (.own a)) (ht:∀b xs,H b=some (.tup xs)->H' b=some (.tup xs)):ObjOk P w H' h' a o:=by
 induction o with
 | lst xs=>obtain⟨z,its,n,r,e⟩:=x;exact⟨z,its,n,r,k _ _ (.inl rfl) e⟩
 | tup xs=>obtain⟨z,its,r,ob,e,c⟩:=x;exact⟨z,its,r,ob,k _ _ (.inl rfl) e,c⟩
 | dK kvs=>obtain⟨z,y,vs,r,ob,es,ep,e,c⟩:=x;exact⟨z,y,vs,r,ob,es,ep,k _ _ (.inl rfl) e,c⟩
 | dT kvs=>
  obtain⟨z,y,xs,r,ob,es,ep,e,c⟩:=x
  exact⟨z,y,xs,Paired.mapP r fun p q z=>⟨z.1,ht _ _ z.2.1,z.2.2⟩,ob,es,ep,k _ _ (.inl rfl) e,c⟩
 | set S n=>obtain⟨ob,es,ep,t,e,c⟩:=x;exact⟨ob,es,ep,t,k _ _ (.inl rfl) e,c⟩
 | ins C dx fs=>
  obtain⟨d,z,ne,e,mA,⟨od,es,ep,e2,c⟩,r⟩:=x
  exact⟨ho _ d,z,ne,k _ _ (.inl rfl) e,mA,⟨od,es,ep,k _ _ (.inr d) e2,c⟩,r⟩
 | own y=>obtain⟨ob,e⟩:=x;exact⟨ob,k _ _ (.inl rfl) e⟩
 | xd fs=>obtain⟨mA,⟨od,es,ep,e,c⟩,r⟩:=x;exact⟨mA,⟨od,es,ep,k _ _ (.inl rfl) e,c⟩,r⟩
 | rng lo hi=>obtain⟨t,u,v,e⟩:=x;exact⟨t,u,v,k _ _ (.inl rfl) e⟩
 | frz ob u ih=>obtain⟨e,q⟩:=x;exact⟨k _ _ (.inl rfl) e,ih q⟩
 | tbl ps=>
  have e:h.get? a=some { cls:=.none,data:=.fields ps }:=x
  show h'.get? a=some { cls:=.none,data:=.fields ps }
  exact k a _ (.inl rfl) e
 | met f y=>
  have e:h.get? a=some (PySem.W.methodObj (.ref f) (.ref y)):=x
  show h'.get? a=some (PySem.W.methodObj (.ref f) (.ref y))
  exact k a _ (.inl rfl) e
 | ext φ=>obtain⟨p,⟨o,e⟩,st⟩:=x;exact⟨st _ _ p fun o q=>k _ _ (.inl rfl) q,⟨o,k _ _ (.inl rfl) e⟩,st⟩
theorem HOk.lt(x:HOk P w H h)(e:H a=some o):a<h.objs.size:=(x a o e).lt
theorem HOk.fresh(x:HOk P w H h)(e:h.objs.size<=a):H a=none:=by
 cases q:H a with
 | none=>rfl
 | some u=>exact absurd (Nat.lt_of_lt_of_le (x.lt q) e) (Nat.lt_irrefl _)
theorem HOk.kept(x:HOk P w H h)(k:∀b u,h.get? b=some u->h'.get? b=some u):HOk P w H h':=fun a o e=>
 (x a o e).stay (fun b u _ q=>k b u q) (fun _ q=>q) fun _ _ q=>q
theorem HOk.laid(x:HOk P w H h)(k:∀b u,h.get? b=some u->h'.get? b=some u)(hp:h.objs.size<=a)(new:ObjOk P w (upd H a o) h' a o):HOk P w (upd H a o) h':=fun b u e=>by
 have hn:=x.fresh hp
 by_cases hb:b=a
 ·subst hb;rw[upd_same] at e;cases e;exact new
 ·rw[upd_ne hb] at e
  exact(x b u e).stay (fun c v _ q=>k c v q) (fun c q=>by rw[upd_ne (Zq q hn)];exact q) fun c xs q=>by rw[upd_ne (Zq q hn)];exact q
end
def Rd(H:Hp)(a:Addr)(u:HO):Prop:=H a=some u\/∃o,H a=some (.frz o u)
theorem Rd.ok{P:Program}{w:World}{H:Hp}{h:Heap}{a:Addr}{u:HO}(r:Rd H a u)(x:HOk P w H h):ObjOk P w H h a u:=by
 rcases r with r | ⟨o,r⟩
 ·exact x a u r
 ·obtain⟨_,q⟩:=x a _ r
  exact q
def X9:Option HO->Prop
 | some (.lst _)=>True
 | some (.dK _)=>True
 | some (.dT _)=>True
 | some (.set _ _)=>True
 | some (.ins _ _ _)=>True
 | some (.ext _)=>True
 | _=>False
section
variable {P:Program} {w:World} {H:Hp} {h h':Heap} {x e:Addr} {o':HO}
theorem HOk.write(ok:HOk P w H h)(mu:X9 (H x))(he:e=x\/H e=some (.own x))(k:∀b u,b≠e->h.get? b=some u->h'.get? b=some u)(heo:∃u,h'.get? e=some u)
  (new:ObjOk P w (upd H x o') h' x o'):HOk P w (upd H x o') h':=fun b u q=>by
 have nown:∀c y,H c=some (.own y)->c≠x:=fun c y r z=>by subst z;rw[r] at mu;exact mu
 have ntup:∀c xs,H c=some (.tup xs)->c≠x:=fun c xs r z=>by subst z;rw[r] at mu;exact mu
 by_cases hb:b=x
 ·subst hb;rw[upd_same] at q;cases q;exact new
 ·rw[upd_ne hb] at q
  by_cases hbe:b=e
  ·have q':H b=some (.own x):=by
    rcases he with z | z
    ·exact absurd (hbe.trans z) hb
    ·rw[hbe];exact z
   rw[q] at q';cases q'
   obtain⟨v,hv⟩:=heo
   exact⟨v,by rw[hbe];exact hv⟩
  ·refine(ok b u q).stay (fun c v hc r=>k c v ?_ r) (fun c r=>by rw[upd_ne (nown c b r)];exact r) fun c xs r=>by rw[upd_ne (ntup c xs r)];exact r
   rcases hc with rfl | hc
   ·exact hbe
   ·rintro rfl
    rcases he with z | z
    ·exact nown c b hc z
    ·rw[hc] at z;cases z;exact hb rfl
end
structure Un(fs ex:List Addr)(H H':Hp)(h h':Heap):Prop where
 keep:∀b o,h.get? b=some o->H b=none->b∉fs->b∉ex->h'.get? b=some o
 slot:∀b o,h.get? b=some o->H b=none->b∈fs->b∉ex->∃sl,h'.get? b=some { o with slots:=sl }
 free:∀b o,h.get? b=some o->H b=none->b∉ex->H' b=none
 there:∀b o,h.get? b=some o->b∉ex->∃o',h'.get? b=some o'
 tups:∀b xs,H b=some (.tup xs)->H' b=some (.tup xs)
 frzs:∀b o u,H b=some (.frz o u)->H' b=some (.frz o u)
 tbls:∀b ps,H b=some (.tbl ps)->∃more,H' b=some (.tbl (ps++more))
section
variable {fs fs' ex ex':List Addr} {H H1 H2:Hp} {h h1 h2 h':Heap} {a x e:Addr} {o:HO}
theorem Un.any(u:Un fs ex H H1 h h1){b:Addr}{ob:Obj}(q:h.get? b=some ob)(n:H b=none)(hx:b∉ex):∃sl,h1.get? b=some { ob with slots:=sl }:=by
 by_cases hb:b∈fs
 ·exact u.slot b ob q n hb hx
 ·exact⟨ob.slots,u.keep b ob q n hb hx⟩
theorem Un.kept(k:∀b u,h.get? b=some u->h'.get? b=some u):Un fs ex H H h h':=
 ⟨fun b ob q _ _ _=>k b ob q,fun b ob q _ _ _=>⟨ob.slots,k b ob q⟩,fun _ _ _ n _=>n,fun b ob q _=>⟨ob,k b ob q⟩,fun _ _ q=>q,fun _ _ _ q=>q,fun _ ps q=>⟨#[],by rw[q];simp⟩⟩
theorem Un.refl:Un fs ex H H h h:=Un.kept fun _ _ q=>q
theorem Un.laid(k:∀b u,h.get? b=some u->h'.get? b=some u)(hp:h.objs.size<=a)(hn:H a=none):Un fs ex H (upd H a o) h h' where
 keep:=fun b u q _ _ _=>k b u q
 slot:=fun b u q _ _ _=>⟨u.slots,k b u q⟩
 free:=fun b u q n _=>by rw[upd_ne (Nat.ne_of_lt (Nat.lt_of_lt_of_le (Heap.lt_size q) hp))];exact n
 there:=fun b u q _=>⟨u,k b u q⟩
 tups:=fun b xs q=>by rw[upd_ne (Zq q hn)];exact q
 frzs:=fun b u xs q=>by rw[upd_ne (Zq q hn)];exact q
 tbls:=fun b ps q=>⟨#[],by rw[upd_ne (Zq q hn),q];simp⟩
theorem Un.write(mu:X9 (H x))(he:e=x\/H e=some (.own x))(k:∀b u,b≠e->h.get? b=some u->h'.get? b=some u)(heo:∃u,h'.get? e=some u):Un fs ex H (upd H x o) h h':=by
 have hx:∀b,H b=none->b≠x:=fun b n z=>by subst z;rw[n] at mu;exact mu
 have hb:∀b,H b=none->b≠e:=fun b n z=>by
  subst z
  rcases he with r | r
  ·exact hx b n r
  ·rw[n] at r;cases r
 have hm:∀b u,H b=some u->¬X9 (some u)->b≠x:=fun b u q nm z=>by subst z;rw[q] at mu;exact nm mu
 refine⟨fun b u q n _ _=>k b u (hb b n) q,fun b u q n _ _=>⟨u.slots,k b u (hb b n) q⟩,fun b u q n _=>by rw[upd_ne (hx b n)];exact n,fun b u q _=>?_,
  fun b xs q=>by rw[upd_ne (hm b _ q fun z=>z)];exact q,fun b u xs q=>by rw[upd_ne (hm b _ q fun z=>z)];exact q,fun b ps q=>⟨#[],by rw[upd_ne (hm b _ q fun z=>z),q];simp⟩⟩
 by_cases hbe:b=e
 ·subst hbe;exact heo
 ·exact⟨u,k b u hbe q⟩
end
def Iy(h:Heap)(H:Hp):List Addr:=(List.range h.objs.size).filter fun a=>(H a).isSome
def Su(h:Heap)(H:Hp):Heap:=PySem.W.hideAll h (Iy h H)
theorem PU(h:Heap)(H:Hp):(Su h H).objs.size=h.objs.size:=PySem.W.hideAll_size _ _
theorem O0{h:Heap}{H:Hp}{b:Addr}{o:Obj}(e:h.get? b=some o)(n:H b=none):(Su h H).get? b=some o:=
 PySem.W.hideAll_get _ e fun hm=>by
  have q:(H b).isSome=true:=(List.mem_filter.mp hm).2
  rw[n] at q;simp at q
theorem Mn{h:Heap}{H:Hp}{b:Addr}{o:Obj}(e:(Su h H).get? b=some o):h.get? b=some o/\H b=none:=by
 have e':h.get? b=some o:=PySem.W.of_hideAll (Iy h H) e
 refine⟨e',?_⟩
 cases q:H b with
 | none=>rfl
 | some x=>
  have hm:b∈Iy h H:=List.mem_filter.mpr ⟨List.mem_range.mpr (Heap.lt_size e'),by simp[q]⟩
  have z:(Su h H).get? b=none:=PySem.W.hideAll_none (Iy h H) hm
  rw[z] at e;cases e
def Mo(g h:Heap)(L:Addr):List (Addr×Obj):=(List.range h.objs.size).filterMap fun a=>if a=L\/(g.get? a).isSome=true then none else(h.get? a).map fun o=>(a,o)
def Zk(g h:Heap)(L d:Addr):List (Addr×Obj):=(Mo g h L).filter fun p=>decide (p.1≠d)
structure Mod(K:PySem.W.Frag)(mg:Str->Option Value)(base:Heap):Prop where
 kin:K.In base
 glob:base.Ns mainGlobals mg
 blt:∃mb,base.Ns builtinsNs mb/\∀x:Str,x≠"__name__"->mb x=bootBuiltins x
 nolimit:base.NoLimit
structure Cx where
 prog:Program
 w:World
 K:PySem.W.Frag
 mg:Str->Option Value
 base:Heap
 A:Around
 N:List Str
 s₀:Shared
 H₀:Hp
 env:Env
 outer:List Env
 stack:List Env
 ex:List Addr
 fn:Str->Bool
 calm:Bool
 pn:List (Addr×Obj)
 xe:Value->Shared->Prop
def Qa(l:List Env):List Addr:=l.filterMap (·.frame)
abbrev Cx.fs(X:Cx):List Addr:=Qa X.outer
def IM(sc:Scope)(x:Str):Prop:=sc.names.lookup x=some .local\/sc.names.lookup x=some .cell\/sc.names.lookup x=some .free
def Jr(sc:Scope)(x:Str):Prop:=sc.names.lookup x=some .local\/sc.names.lookup x=some .cell
def IN(env:Env)(h:Heap)(m:Str->Option Value)(x:Str)(u:Value):Prop:=
 (env.kindOf x=some .local/\m x=some u)\/((env.kindOf x=some .cell\/env.kindOf x=some .free)/\∃c,env.cells.lookup x=some c/\h.IsCell c (some u))
structure Cx.Ok(X:Cx):Prop where
 mod:Mod X.K X.mg X.base
 kind:X.env.scope.kind = .function
 glob:X.env.globals=mainGlobals
 blt:X.env.builtins=builtinsNs
 above:X.s₀.heap.objs.size<=X.env.locals
 inj:∀x y c,X.env.cells.lookup x=some c->X.env.cells.lookup y=some c->x=y
 has:∀x,(X.env.kindOf x=some .cell\/X.env.kindOf x=some .free)->∃c,X.env.cells.lookup x=some c
 cab:∀x c,X.fn x=true->X.env.cells.lookup x=some c->X.s₀.heap.objs.size<=c
 hd:X.calm=true->X.A.handled=none
 frames:X.A.frames=some X.stack
 stk:X.stack=X.outer\/(X.stack=X.env::X.outer/\X.env.frame=some X.env.locals)
 exf:∀b∈X.ex,b≠X.env.locals/\∀x c,X.env.cells.lookup x=some c->c≠b
 bs:∀b o,X.base.get? b=some o->X.s₀.heap.get? b=some o/\X.H₀ b=none
 bsz:X.base.objs.size<=X.s₀.heap.objs.size
 noex:∀b o,X.base.get? b=some o->b∉X.ex
 exfs:∀b∈X.ex,b∉X.fs
 funs:X.s₀.heap.FunFrames X.base X.outer
 frf:∀b∈X.fs,X.H₀ b=none
structure Inv(X:Cx)(pins:List (Addr×Obj))(Z:List (Option V))(H:Hp)(s:Shared):Prop where
 ok:X.Ok
 os:s.os=X.s₀.os
 bare:AllBare s.gens
 base:Un X.fs X.ex X.H₀ H X.s₀.heap s.heap
 loc:∃m,s.heap.Ns X.env.locals m/\∀(i:Nat)(x:Str)(v:V),X.N[i]?=some x->Z[i]?=some (some v)->IM X.env.scope x->∃u,RelV v u/\IN X.env s.heap m x u
 cell:∀x c,X.env.cells.lookup x=some c->∃v,s.heap.IsCell c v
 free:H X.env.locals=none
 freeC:∀x c,X.env.cells.lookup x=some c->H c=none
 pin:∀p∈X.pn++pins,s.heap.get? p.1=some p.2/\H p.1=none/\p.1≠X.env.locals/\p.1∉X.fs/\∀v,p.2.data≠.cell v
 hok:HOk X.prog X.w H s.heap
 len:Z.length=X.N.length
section
variable {X:Cx} {pins:List (Addr×Obj)} {Z:List (Option V)} {H H':Hp} {s:Shared} {h':Heap}
theorem Cx.Ok.nofr(ok:X.Ok){b:Addr}{o:Obj}(e:X.base.get? b=some o):b∉X.fs:=fun hb=>by
 have:=(ok.funs.mem hb).1
 rw[e] at this;cases this
theorem Inv.bs(I:Inv X pins Z H s):∀b o,X.base.get? b=some o->s.heap.get? b=some o/\H b=none:=fun b o e=>
 ⟨I.base.keep b o (I.ok.bs b o e).1 (I.ok.bs b o e).2 (I.ok.nofr e) (I.ok.noex b o e),I.base.free b o (I.ok.bs b o e).1 (I.ok.bs b o e).2 (I.ok.noex b o e)⟩
theorem Inv.bk(I:Inv X pins Z H s):∀b o,X.base.get? b=some o->s.heap.get? b=some o:=fun b o e=>(I.bs b o e).1
theorem Inv.mod(I:Inv X pins Z H s):Mod X.K X.mg X.base:=I.ok.mod
theorem Inv.kIn(I:Inv X pins Z H s):X.K.In s.heap:=I.ok.mod.kin.keeps I.bk
theorem Inv.fr(I:Inv X pins Z H s):∃m,Fr X.base X.env.locals s.heap m:=
 let⟨m,hn,_⟩:=I.loc
 ⟨m,hn,I.bk,Nat.le_trans I.ok.bsz I.ok.above⟩
theorem Inv.lt(I:Inv X pins Z H s):X.env.locals<s.heap.objs.size:=let⟨_,hn,_⟩:=I.loc;hn.lt
theorem Inv.sz(I:Inv X pins Z H s):X.s₀.heap.objs.size<=s.heap.objs.size:=Nat.le_trans I.ok.above (Nat.le_of_lt I.lt)
theorem Inv.nofs(I:Inv X pins Z H s){a:Addr}(h:s.heap.objs.size<=a):a∉X.fs:=fun hb=>by
 obtain⟨_,o,ho,_⟩:=I.ok.funs.mem hb
 exact absurd (Nat.lt_of_lt_of_le (Heap.lt_size ho) (Nat.le_trans I.sz h)) (Nat.lt_irrefl _)
theorem Inv.cne(I:Inv X pins Z H s):∀x c,X.env.cells.lookup x=some c->c≠X.env.locals:=fun x c e z=>by
 obtain⟨v,o,ho,hd⟩:=I.cell x c e
 obtain⟨m,⟨o',es,ep,ho',hd',_⟩,_⟩:=I.loc
 rw[z,ho'] at ho;cases ho;rw[hd'] at hd;cases hd
theorem Inv.funs(I:Inv X pins Z H s):s.heap.FunFrames X.base X.outer:=by
 have all:∀(l:List Env),(∀b∈Qa l,b∈X.fs)->X.s₀.heap.FunFrames X.base l->s.heap.FunFrames X.base l:=by
  intro l
  induction l with
  | nil=>intro _ _;trivial
  | cons env r ih=>
   intro hs hl
   obtain⟨hk,⟨L,o,hf,hn,ho,hd⟩,hr⟩:=hl
   have hL:L∈X.fs:=hs L (by unfold Qa;rw[List.filterMap_cons,hf];exact List.mem_cons_self)
   obtain⟨sl,e⟩:=I.base.slot L o ho (I.ok.frf L hL) hL fun z=>I.ok.exfs L z hL
   exact⟨hk,⟨L,_,hf,hn,e,hd⟩,ih (fun b hb=>hs b (by unfold Qa;rw[List.filterMap_cons,hf];exact List.mem_cons_of_mem _ hb)) hr⟩
 exact all X.outer (fun _ hb=>hb) I.ok.funs
theorem Inv.stack(I:Inv X pins Z H s):s.heap.FunFrames X.base X.stack:=by
 rcases I.ok.stk with e | ⟨e,hf⟩
 ·rw[e];exact I.funs
 ·rw[e]
  obtain⟨m,hn,_⟩:=I.loc
  refine .cons (by rw[I.ok.kind];decide) hf hn ?_ I.funs
  exact Heap.get?_none_of_le (Nat.le_trans I.ok.bsz I.ok.above)
theorem Inv.stkSub(I:Inv X pins Z H s):∀b∈Qa X.stack,b∈X.env.locals::X.fs:=fun b hb=>by
 rcases I.ok.stk with e | ⟨e,hf⟩
 ·rw[e] at hb;exact List.mem_cons_of_mem _ hb
 ·rw[e] at hb
  unfold Qa at hb;rw[List.filterMap_cons,hf] at hb;exact hb
theorem Inv.stkFree(I:Inv X pins Z H s):∀b∈Qa X.stack,H b=none:=fun b hb=>by
 rcases List.mem_cons.mp (I.stkSub b hb) with e | hb
 ·rw[e];exact I.free
 ·obtain⟨_,o,ho,_⟩:=I.ok.funs.mem hb
  exact I.base.free b o ho (I.ok.frf b hb) fun z=>I.ok.exfs b z hb
theorem Inv.step{g':Array GenState}{t':Nat}{d':Drawn}{ch:List Addr}(I:Inv X pins Z H s)
  (hch:∀b∈ch,(b∈X.ex\/X.s₀.heap.objs.size<=b)/\b≠X.env.locals/\(∀x c,X.env.cells.lookup x=some c->c≠b)/\∀p∈X.pn++pins,p.1≠b)
  (keep:∀b o,b≠X.env.locals->b∉X.fs->b∉ch->s.heap.get? b=some o->H b=none->h'.get? b=some o)
  (slot:∀b o,b≠X.env.locals->b∈X.fs->b∉ch->s.heap.get? b=some o->H b=none->∃sl,h'.get? b=some { o with slots:=sl }) (free:∀b o,b∉ch->s.heap.get? b=some o->H b=none->H' b=none)
  (there:∀b o,b∉ch->s.heap.get? b=some o->∃o',h'.get? b=some o')
  (tups:∀b xs,H b=some (.tup xs)->H' b=some (.tup xs)) (frzs:∀b o u,H b=some (.frz o u)->H' b=some (.frz o u)) (tbls:∀b ps,H b=some (.tbl ps)->∃more,H' b=some (.tbl (ps++more)))
  (ns:∀m,s.heap.Ns X.env.locals m->h'.Ns X.env.locals m) (hok:HOk X.prog X.w H' h') (hg:AllBare g') :
  Inv X pins Z H' { s with heap:=h',gens:=g',drawn:=d',toks:=t' }:=by
 have neL:∀b o,X.s₀.heap.get? b=some o->b≠X.env.locals:=fun b o e=>Nat.ne_of_lt (Nat.lt_of_lt_of_le (Heap.lt_size e) I.ok.above)
 have neC:∀b o,X.s₀.heap.get? b=some o->b∉X.ex->b∉ch:=fun b o e hx hb=>by
  rcases(hch b hb).1 with z | z
  ·exact hx z
  ·exact absurd (Nat.lt_of_lt_of_le (Heap.lt_size e) z) (Nat.lt_irrefl _)
 have cellK:∀x c,X.env.cells.lookup x=some c->∀v,s.heap.IsCell c v->h'.IsCell c v:=fun x c e v ⟨o,ho,hd⟩=>by
  have nch:c∉ch:=fun z=>(hch c z).2.2.1 x c e rfl
  by_cases hc:c∈X.fs
  ·obtain⟨sl,q⟩:=slot c o (I.cne x c e) hc nch ho (I.freeC x c e)
   exact⟨_,q,hd⟩
  ·exact⟨o,keep c o (I.cne x c e) hc nch ho (I.freeC x c e),hd⟩
 refine⟨I.ok,I.os,hg,⟨fun b o e n hb hx=>?_,fun b o e n hb hx=>?_,fun b o e n hx=>?_,fun b o e hx=>?_,fun b xs e=>tups b xs (I.base.tups b xs e),fun b o xs e=>frzs b o xs (I.base.frzs b o xs e),fun b ps e=>?_⟩,?_,fun x c e=>?_,?_,fun x c e=>?_,fun p hp=>?_,hok,I.len⟩
 ·exact keep b o (neL b o e) hb (neC b o e hx) (I.base.keep b o e n hb hx) (I.base.free b o e n hx)
 ·obtain⟨sl,e1⟩:=I.base.slot b o e n hb hx
  obtain⟨sl',e2⟩:=slot b _ (neL b o e) hb (neC b o e hx) e1 (I.base.free b o e n hx)
  exact⟨sl',e2⟩
 ·obtain⟨o',e1⟩:=I.base.there b o e hx
  exact free b o' (neC b o e hx) e1 (I.base.free b o e n hx)
 ·obtain⟨o',e1⟩:=I.base.there b o e hx
  exact there b o' (neC b o e hx) e1
 ·obtain⟨m1,e1⟩:=I.base.tbls b ps e
  obtain⟨m2,e2⟩:=tbls b _ e1
  exact⟨m1++m2,by rw[e2,Array.append_assoc]⟩
 ·obtain⟨m,hn,hl⟩:=I.loc
  refine⟨m,ns m hn,fun i x v e1 e2 e3=>?_⟩
  obtain⟨u,r,l⟩:=hl i x v e1 e2 e3
  refine⟨u,r,?_⟩
  rcases l with l | ⟨k,c,e,z⟩
  ·exact .inl l
  ·exact .inr ⟨k,c,e,cellK x c e _ z⟩
 ·obtain⟨v,z⟩:=I.cell x c e
  exact⟨v,cellK x c e v z⟩
 ·obtain⟨m,⟨o,_,_,ho,_⟩,_⟩:=I.loc
  exact free _ o (fun z=>(hch _ z).2.1 rfl) ho I.free
 ·obtain⟨v,o,ho,hd⟩:=I.cell x c e
  exact free c o (fun z=>(hch c z).2.2.1 x c e rfl) ho (I.freeC x c e)
 ·obtain⟨e,n,ne,nf,d⟩:=I.pin p hp
  have nch:p.1∉ch:=fun z=>(hch p.1 z).2.2.2 p hp rfl
  exact⟨keep p.1 p.2 ne nf nch e n,free p.1 p.2 nch e n,ne,nf,d⟩
theorem Inv.un{t':Nat}(I:Inv X pins Z H s)(u:Un X.fs [] H H' s.heap h')(hok:HOk X.prog X.w H' h'):Inv X pins Z H' { s with heap:=h',toks:=t' }:=by
 obtain⟨m,⟨o,es,ep,ho,r⟩,_⟩:=id I.loc
 obtain⟨sl,hL⟩:=u.any ho I.free (by simp)
 exact I.step (g':=s.gens) (d':=s.drawn) (ch:=[]) (fun _ z=>nomatch z) (fun b o _ hb _ e n=>u.keep b o e n hb (by simp)) (fun b o _ hb _ e n=>u.slot b o e n hb (by simp)) (fun b o _ e n=>u.free b o e n (by simp)) (fun b o _ e=>u.there b o e (by simp)) u.tups u.frzs u.tbls (fun m' hm=>by
  obtain⟨o',es',ep',ho',r'⟩:=hm
  rw[ho] at ho';cases ho'
  exact⟨_,es',ep',hL,r'⟩) hok I.bare
theorem Inv.call{g':Array GenState}{t':Nat}{d':Drawn}{ch:List Addr}(I:Inv X pins Z H s)(u:Un (Qa X.stack) ch H H' s.heap h')(hok:HOk X.prog X.w H' h')(hg:AllBare g')
  (hch:∀b∈ch,(b∈X.ex\/X.s₀.heap.objs.size<=b)/\b≠X.env.locals/\(∀x c,X.env.cells.lookup x=some c->c≠b)/\∀p∈X.pn++pins,p.1≠b) :
  Inv X pins Z H' { s with heap:=h',gens:=g',drawn:=d',toks:=t' }:=by
 obtain⟨m,⟨o,es,ep,ho,r⟩,_⟩:=id I.loc
 obtain⟨sl,hL⟩:=u.any ho I.free fun z=>(hch _ z).2.1 rfl
 exact I.step (ch:=ch) hch (fun b o hL hb hc e n=>u.keep b o e n (fun z=>(List.mem_cons.mp (I.stkSub b z)).elim hL hb) hc) (fun b o _ _ hc e n=>u.any e n hc) (fun b o hc e n=>u.free b o e n hc) (fun b o hc e=>u.there b o e hc) u.tups u.frzs u.tbls (fun m' hm=>by
  obtain⟨o',es',ep',ho',r'⟩:=hm
  rw[ho] at ho';cases ho'
  exact⟨_,es',ep',hL,r'⟩) hok hg
theorem Inv.turned{t':Nat}{it:Addr}(I:Inv X pins Z H s)(k:∀b o,b≠it->s.heap.get? b=some o->h'.get? b=some o)(hn:H it=none)(hL:it≠X.env.locals)
  (h1:it∈X.ex\/X.s₀.heap.objs.size<=it) (h2:∀x c,X.env.cells.lookup x=some c->c≠it) (h3:∀p∈X.pn++pins,p.1≠it):Inv X pins Z H { s with heap:=h',toks:=t' }:=by
 have nit:∀b u,H b=some u->b≠it:=fun b u e z=>by rw[z,hn] at e;cases e
 refine I.step (g':=s.gens) (d':=s.drawn) (ch:=[it]) (fun b hb=>?_) (fun b o _ _ hc e _=>k b o (fun z=>hc (by simp[z])) e) (fun b o _ _ hc e _=>⟨o.slots,k b o (fun z=>hc (by simp[z])) e⟩) (fun _ _ _ _ n=>n)
  (fun b o hc e=>⟨o,k b o (fun z=>hc (by simp[z])) e⟩) (fun _ _ e=>e) (fun _ _ _ e=>e) (fun b ps e=>⟨#[],by rw[e];simp⟩) (fun m hm=>?_) (fun b u e=>?_) I.bare
 ·have e:b=it:=by simpa using hb
  subst e
  exact⟨h1,hL,h2,h3⟩
 ·obtain⟨o,es,ep,ho,r⟩:=hm
  exact⟨o,es,ep,k _ o (Ne.symm hL) ho,r⟩
 ·refine(I.hok b u e).stay (fun c v hc q=>k c v ?_ q) (fun _ q=>q) fun _ _ q=>q
  rcases hc with z | z
  ·rw[z];exact nit b u e
  ·exact nit c _ z
theorem Inv.tok(I:Inv X pins Z H s)(t:Nat):Inv X pins Z H { s with toks:=t }:=I.un (h':=s.heap) (t':=t) Un.refl I.hok
theorem Inv.kept{t':Nat}(I:Inv X pins Z H s)(k:∀b u,s.heap.get? b=some u->h'.get? b=some u):Inv X pins Z H { s with heap:=h',toks:=t' }:=I.un (Un.kept k) (I.hok.kept k)
theorem Inv.laid{a:Addr}{o:HO}{t':Nat}(I:Inv X pins Z H s)(k:∀b u,s.heap.get? b=some u->h'.get? b=some u)(hp:s.heap.objs.size<=a)(new:ObjOk X.prog X.w (upd H a o) h' a o) :
  Inv X pins Z (upd H a o) { s with heap:=h',toks:=t' }:=I.un (Un.laid k hp (I.hok.fresh hp)) (I.hok.laid k hp new)
theorem Inv.write{x e:Addr}{o:HO}{t':Nat}(I:Inv X pins Z H s)(mu:X9 (H x))(he:e=x\/H e=some (.own x))(k:∀b u,b≠e->s.heap.get? b=some u->h'.get? b=some u)(heo:∃u,h'.get? e=some u)
  (new:ObjOk X.prog X.w (upd H x o) h' x o):Inv X pins Z (upd H x o) { s with heap:=h',toks:=t' }:=I.un (Un.write mu he k heo) (I.hok.write mu he k heo new)
theorem Inv.weak{Z':List (Option V)}(I:Inv X pins Z H s)(hl:Z'.length=Z.length)(w:∀(i:Nat) v,Z'[i]?=some (some v)->Z[i]?=some (some v)):Inv X pins Z' H s:=
 ⟨I.ok,I.os,I.bare,I.base,let⟨m,hn,hl'⟩:=I.loc;⟨m,hn,fun i x v e1 e2 e3=>hl' i x v e1 (w i v e2) e3⟩,I.cell,I.free,I.freeC,I.pin,I.hok,hl.trans I.len⟩
theorem Inv.pins_of{pins':List (Addr×Obj)}(I:Inv X pins Z H s)(h:∀p∈pins',s.heap.get? p.1=some p.2/\H p.1=none/\p.1≠X.env.locals/\p.1∉X.fs/\∀v,p.2.data≠.cell v):Inv X pins' Z H s:=
 ⟨I.ok,I.os,I.bare,I.base,I.loc,I.cell,I.free,I.freeC,fun p hp=>(List.mem_append.mp hp).elim (fun z=>I.pin p (List.mem_append_left _ z)) (h p),I.hok,I.len⟩
theorem UY{N:List Str}(hN:N.Nodup){i j:Nat}{x:Str}(a:N[i]?=some x)(b:N[j]?=some x):i=j:=by
 obtain⟨h1,e1⟩:=List.getElem?_eq_some_iff.mp a
 obtain⟨h2,e2⟩:=List.getElem?_eq_some_iff.mp b
 exact(List.getElem_inj hN).mp (e1.trans e2.symm)
theorem PX{M:Model}{A:Around}{E:Value->Shared->Prop}{i:Nat}{x:Str}{v:V}{u:Value}{Q:Unit->Shared->Prop}(I:Inv X pins Z H s)(hN:X.N.Nodup)(hi:X.N[i]?=some x)(hx:Jr X.env.scope x)(r:RelV v u)
  (h:∀s',Inv X pins (Z.set i (some v)) H s'->(∃a,Heap.SameBut a s.heap s'.heap/\(a=X.env.locals\/X.env.cells.lookup x=some a))->Q () s') (hf:X.fn x=true\/X.env.scope.names.lookup x=some .local:=by first | exact .inl rfl | exact .inr rfl | assumption):wpAny M A (storeName X.env x u) Q E s:=by
 obtain⟨m,hn,hl⟩:=id I.loc
 have hcls:(X.env.scope.kind==.class || (X.env.scope.kind==.module&&X.env.locals != X.env.globals))=false:=by rw[I.ok.kind];rfl
 have hiZ:i<Z.length:=by rw[I.len];exact(List.getElem?_eq_some_iff.mp hi).1
 have cne:=I.cne
 have tracked:∀{a:Addr}{h':Heap},(∃o,s.heap.get? a=some o/\H a=none)->Heap.SameBut a s.heap h'->HOk X.prog X.w H h':=fun{a h'} ha hs b ob e=>by
  obtain⟨_,_,hfree⟩:=ha
  refine(I.hok b ob e).stay (fun c w' hc q=>(hs.2 c ?_).trans q) (fun _ q=>q) fun _ _ q=>q
  rintro rfl
  rcases hc with rfl | hc
  ·rw[hfree] at e;cases e
  ·rw[hfree] at hc;cases hc
 rcases hx with hk | hk
 ·refine wpAny_storeName_local hk hn (fun h' hn' hs=>?_) hcls
  obtain⟨oL,_,_,hoL,_⟩:=id hn
  refine h _ ⟨I.ok,I.os,I.bare,⟨fun b o e n hb hx=>?_,fun b o e n hb hx=>?_,I.base.free,fun b o e hx=>?_,I.base.tups,I.base.frzs,I.base.tbls⟩,⟨_,hn',fun j y v' e1 e2 e3=>?_⟩,fun y c e=>?_,I.free,I.freeC,fun p hp=>?_,tracked ⟨oL,hoL,I.free⟩ hs,by simpa using I.len⟩ ⟨_,hs,.inl rfl⟩
  ·exact(hs.2 b (Nat.ne_of_lt (Nat.lt_of_lt_of_le (Heap.lt_size e) I.ok.above))).trans (I.base.keep b o e n hb hx)
  ·obtain⟨sl,e1⟩:=I.base.slot b o e n hb hx
   exact⟨sl,(hs.2 b (Nat.ne_of_lt (Nat.lt_of_lt_of_le (Heap.lt_size e) I.ok.above))).trans e1⟩
  ·obtain⟨o',e1⟩:=I.base.there b o e hx
   exact⟨o',(hs.2 b (Nat.ne_of_lt (Nat.lt_of_lt_of_le (Heap.lt_size e) I.ok.above))).trans e1⟩
  ·by_cases hj:j=i
   ·subst hj
    rw[hi] at e1;cases e1;rw[List.getElem?_set_self hiZ] at e2;cases e2
    exact⟨u,r,.inl ⟨hk,by simp⟩⟩
   ·rw[List.getElem?_set_ne (Ne.symm hj)] at e2
    obtain⟨u',r',q⟩:=hl j y v' e1 e2 e3
    refine⟨u',r',?_⟩
    rcases q with⟨k,e⟩ | ⟨k,c,e,z⟩
    ·refine .inl ⟨k,?_⟩
     have:y≠x:=fun e=>hj (UY hN e1 (e▸hi))
     simp[this,e]
    ·exact .inr ⟨k,c,e,z.sameBut hs (cne y c e)⟩
  ·obtain⟨w',z⟩:=I.cell y c e
   exact⟨w',z.sameBut hs (cne y c e)⟩
  ·obtain⟨e,n,ne,nf,d⟩:=I.pin p hp
   exact⟨(hs.2 p.1 ne).trans e,n,ne,nf,d⟩
 ·have hfn:X.fn x=true:=by
   rcases hf with z | z
   ·exact z
   ·rw[z] at hk;cases hk
  obtain⟨c,hc⟩:=I.ok.has x (.inl hk)
  obtain⟨w',z⟩:=I.cell x c hc
  refine wpAny_storeName_cell I.ok.kind hk hc z (fun h' hc' hs=>?_)
  obtain⟨oc,hoc,hocd⟩:=id z
  refine h { s with heap:=h' } ⟨I.ok,I.os,I.bare,⟨fun b o e n hb hx=>?_,fun b o e n hb hx=>?_,I.base.free,fun b o e hx=>?_,I.base.tups,I.base.frzs,I.base.tbls⟩,⟨m,hn.sameBut hs (Ne.symm (cne x c hc)),fun j y v' e1 e2 e3=>?_⟩,fun y c' e=>?_,I.free,I.freeC,fun p hp=>?_,tracked ⟨oc,hoc,I.freeC x c hc⟩ hs,by simpa using I.len⟩ ⟨c,hs,.inr hc⟩
  ·exact(hs.2 b (Nat.ne_of_lt (Nat.lt_of_lt_of_le (Heap.lt_size e) (I.ok.cab x c hfn hc)))).trans (I.base.keep b o e n hb hx)
  ·obtain⟨sl,e1⟩:=I.base.slot b o e n hb hx
   exact⟨sl,(hs.2 b (Nat.ne_of_lt (Nat.lt_of_lt_of_le (Heap.lt_size e) (I.ok.cab x c hfn hc)))).trans e1⟩
  ·obtain⟨o',e1⟩:=I.base.there b o e hx
   exact⟨o',(hs.2 b (Nat.ne_of_lt (Nat.lt_of_lt_of_le (Heap.lt_size e) (I.ok.cab x c hfn hc)))).trans e1⟩
  ·by_cases hj:j=i
   ·subst hj
    rw[hi] at e1;cases e1;rw[List.getElem?_set_self hiZ] at e2;cases e2
    exact⟨u,r,.inr ⟨.inl hk,c,hc,hc'⟩⟩
   ·rw[List.getElem?_set_ne (Ne.symm hj)] at e2
    obtain⟨u',r',q⟩:=hl j y v' e1 e2 e3
    refine⟨u',r',?_⟩
    rcases q with q | ⟨k,c',e,z'⟩
    ·exact .inl q
    ·refine .inr ⟨k,c',e,z'.sameBut hs ?_⟩
     rintro rfl
     exact hj (UY hN e1 (I.ok.inj _ _ _ e hc▸hi))
  ·by_cases hcc:c'=c
   ·subst hcc;exact⟨_,hc'⟩
   ·obtain⟨w2,z2⟩:=I.cell y c' e
    exact⟨w2,z2.sameBut hs hcc⟩
  ·obtain⟨e,n,ne,nf,d⟩:=I.pin p hp
   refine⟨(hs.2 p.1 ?_).trans e,n,ne,nf,d⟩
   intro q;rw[q,hoc] at e
   have q':oc=p.2:=Option.some.inj e
   exact d w' (by rw[<-q'];exact hocd)
theorem WB{M:Model}{A:Around}{E:Value->Shared->Prop}{i:Nat}{x:Str}{v:V}{u:Value}{Q:Unit->Shared->Prop}(I:Inv X pins Z H s)(hN:X.N.Nodup)(hi:X.N[i]?=some x)(hx:Jr X.env.scope x)(r:RelV v u)
  (h:∀s',Inv X pins (Z.set i (some v)) H s'->Q () s') (hf:X.fn x=true\/X.env.scope.names.lookup x=some .local:=by first | exact .inl rfl | exact .inr rfl | assumption):wpAny M A (storeName X.env x u) Q E s:=
 PX I hN hi hx r (fun s' I' _=>h s' I') hf
theorem Inv.call'{s':Shared}{ch:List Addr}(I:Inv X pins Z H s)(ho:s'.os=s.os)(u:Un (Qa X.stack) ch H H' s.heap s'.heap)(hok:HOk X.prog X.w H' s'.heap)(hg:AllBare s'.gens)
  (hch:∀b∈ch,(b∈X.ex\/X.s₀.heap.objs.size<=b)/\b≠X.env.locals/\(∀x c,X.env.cells.lookup x=some c->c≠b)/\∀p∈X.pn++pins,p.1≠b):Inv X pins Z H' s':=by
 obtain⟨h',g',d',t',o'⟩:=s'
 have e:o'=s.os:=ho
 subst e
 exact I.call (g':=g') (t':=t') (d':=d') u hok hg hch
end
abbrev XK:=Value->Option Addr->Hp->Prop
abbrev St:=List (Option V)
abbrev VK:=V->Hp->Prop
abbrev TE:=St->Hp->VK->Prop
abbrev TT:=St->Hp->(Bool->Hp->Prop)->Prop
abbrev TA:=St->Hp->(List V->Hp->Prop)->Prop
structure Wy where
 nx:St->Hp->Prop
 rt:VK
 bk:St->Hp->Prop:=fun _ _=>False
 ct:St->Hp->Prop:=fun _ _=>False
abbrev TS:=Wy->St->Hp->Prop
def EP(X:Cx)(pins:List (Addr×Obj))(Z:St)(Q:VK)(u:Value)(s':Shared):Prop:=∃v H',Inv X pins Z H' s'/\RelV v u/\Q v H'
def TP(X:Cx)(pins:List (Addr×Obj))(Z:St)(Q:Bool->Hp->Prop)(b:Bool)(s':Shared):Prop:=∃H',Inv X pins Z H' s'/\Q b H'
def AP(X:Cx)(pins:List (Addr×Obj))(Z:St)(Q:List V->Hp->Prop)(us:List Value)(s':Shared):Prop:=∃vs H',Inv X pins Z H' s'/\Vals vs us/\Q vs H'
def SP(X:Cx)(pins:List (Addr×Obj))(D:Wy)(f:Flow)(s':Shared):Prop:=
 match f with
 | .next=>∃Z' H',Inv X pins Z' H' s'/\D.nx Z' H'
 | .brk=>∃Z' H',Inv X pins Z' H' s'/\D.bk Z' H'
 | .cont=>∃Z' H',Inv X pins Z' H' s'/\D.ct Z' H'
 | .ret u=>∃v Z' H',Inv X pins Z' H' s'/\RelV v u/\D.rt v H'
def PE(X:Cx)(e:Expr)(t:TE):Prop:=
 ∀(pins:List (Addr×Obj))(s:Shared)(Z:St)(H:Hp)(Q:VK),Inv X pins Z H s->t Z H Q->wpAny (model X.prog X.w) X.A (eval e X.env) (EP X pins Z Q) X.xe s
def PT(X:Cx)(e:Expr)(t:TT):Prop:=
 ∀(pins:List (Addr×Obj))(s:Shared)(Z:St)(H:Hp)(Q:Bool->Hp->Prop),Inv X pins Z H s->t Z H Q->wpAny (model X.prog X.w) X.A (isTrue e X.env (eval e X.env)) (TP X pins Z Q) X.xe s
def PW(X:Cx)(e:Expr)(t:TT):Prop:=
 ∀(whole:Sem Value)(pins:List (Addr×Obj))(s:Shared)(Z:St)(H:Hp)(Q:Bool->Hp->Prop),Inv X pins Z H s->t Z H Q->wpAny (model X.prog X.w) X.A (isTrue e X.env whole) (TP X pins Z Q) X.xe s
theorem PW.pt{X:Cx}{e:Expr}{t:TT}(h:PW X e t):PT X e t:=h _
def PA(X:Cx)(es:List Expr)(t:TA):Prop:=
 ∀(pos:Pos)(pins:List (Addr×Obj))(s:Shared)(Z:St)(H:Hp)(Q:List V->Hp->Prop),Inv X pins Z H s->t Z H Q->wpAny (model X.prog X.w) X.A (spliced (backTo pos (starEach es X.env))) (AP X pins Z Q) X.xe s
def PS(X:Cx)(st:Stmt)(t:TS):Prop:=
 ∀(pins:List (Addr×Obj))(s:Shared)(Z:St)(H:Hp)(D:Wy),Inv X pins Z H s->t D Z H->wpAny (model X.prog X.w) X.A (exec st X.env) (SP X pins D) X.xe s
def PSs(X:Cx)(st:List Stmt)(t:TS):Prop:=
 ∀(pins:List (Addr×Obj))(s:Shared)(Z:St)(H:Hp)(D:Wy),Inv X pins Z H s->t D Z H->wpAny (model X.prog X.w) X.A (execs st X.env) (SP X pins D) X.xe s
theorem Z5{α:Type}{t:Sem α}{Q Q':α->Shared->Prop}{M:Model}{A:Around}{E:Value->Shared->Prop}{s:Shared}(h:wpAny M A t Q E s)(hQ:∀a s,Q a s->Q' a s):wpAny M A t Q' E s:=wpAny_mono h hQ fun _ _ x=>x
section
variable {X:Cx}
theorem bin{a b:Expr}{ta tb:TE}(ha:PE X a ta)(hb:PE X b tb){pins:List (Addr×Obj)}{s:Shared}{Z:St}{H:Hp}{R:V->V->Hp->Prop}(I:Inv X pins Z H s)(h:ta Z H fun x H1=>tb Z H1 fun y H2=>R x y H2)
  {α:Type} {Q:α->Shared->Prop} {f:Value->Value->Sem α}
  (hf:∀v u s2 x y H2,Inv X pins Z H2 s2->RelV x v->RelV y u->R x y H2->wpAny (model X.prog X.w) X.A (f v u) Q X.xe s2) :
  wpAny (model X.prog X.w) X.A (eval a X.env) (fun v s₁=>wpAny (model X.prog X.w) X.A (eval b X.env) (fun u s₂=>wpAny (model X.prog X.w) X.A (f v u) Q X.xe s₂) X.xe s₁) X.xe s:=by
 refine Z5 (ha pins s Z H _ I h) fun v s1 ⟨x,H1,I1,r1,q1⟩=>?_
 refine Z5 (hb pins s1 Z H1 _ I1 q1) fun u s2 ⟨y,H2,I2,r2,q2⟩=>?_
 exact hf v u s2 x y H2 I2 r1 r2 q2
def Vr(i:Nat):TE:=fun Z H Q=>∃v,Z[i]?=some (some v)/\Q v H
def tC(v:V):TE:=fun _ H Q=>Q v H
theorem LZ{i:Nat}{x:Str}{pos:Pos}(hN:X.N[i]?=some x)(hv:IM X.env.scope x)(hd:(x==("__debug__" : Str))=false:=by decide)(hcd:(x==("__classdict__" : Str))=false:=by decide):PE X (.Name x pos) (Vr i):=by
 intro pins s Z H Q I h
 obtain⟨v,e,h⟩:=h
 obtain⟨m,hn,hl⟩:=I.loc
 obtain⟨u,r,l⟩:=hl i x v hN e hv
 have fin:EP X pins Z Q u s:=⟨v,H,I,r,h⟩
 rcases l with⟨hk,hm⟩ | ⟨hk,c,hc,hcell⟩
 ·exact wpAny_Name (wpAny_loadName_local I.ok.kind hk hn hm fin) hd
 ·rcases hk with hk | hk
  ·exact wpAny_Name (wpAny_loadName_cell I.ok.kind hk hc hcell fin) hd
  ·exact wpAny_Name (wpAny_loadName_free I.ok.kind hk hc hcell fin hcd) hd
theorem L4{i j pos}:PE X (.Constant (.int i) j pos) (tC (.int i)):=fun _ _ _ H _ I h=>wpAny_Constant_int ⟨.int i,H,I.tok _,⟨_,rfl⟩,h⟩
theorem JA{b j pos}:PE X (.Constant (.bool b) j pos) (tC (.bl b)):=fun _ _ _ H _ I h=>Constant_bool ⟨.bl b,H,I,rfl,h⟩
theorem O1{j pos}:PE X (.Constant .none j pos) (tC .non):=fun _ _ _ H _ I h=>Constant_none ⟨.non,H,I,rfl,h⟩
theorem L5{x j pos}:PE X (.Constant (.str x) j pos) (tC (.str x)):=fun _ _ _ H _ I h=>Calls.Constant_str ⟨.str x,H,I.tok _,⟨_,rfl⟩,h⟩
def Gl(X:Cx)(x:Str):Prop:=X.env.kindOf x=some .globalImplicit
theorem Vs{E:Value->Shared->Prop}{pins:List (Addr×Obj)}{s:Shared}{Z:St}{H:Hp}{x:Str}{u:Value}{pos:Pos}{Q:Value->Shared->Prop}(I:Inv X pins Z H s)(hg:Gl X x)(hm:X.mg x=some u)(h:Q u s)
  (hd:(x==("__debug__" : Str))=false:=by decide):wpAny (model X.prog X.w) X.A (eval (.Name x pos) X.env) Q E s:=
 Calls.Name_function_global I.ok.kind hg (Calls.loadGlobal_global (by rw[I.ok.glob];exact I.mod.glob.keeps I.bk) hm h) hd
theorem Wj{E:Value->Shared->Prop}{pins:List (Addr×Obj)}{s:Shared}{Z:St}{H:Hp}{x:Str}{u:Value}{pos:Pos}{Q:Value->Shared->Prop}(I:Inv X pins Z H s)(hg:Gl X x)(hm:X.mg x=none)(hv:bootBuiltins x=some u)(h:Q u s)
  (hn:x≠"__name__":=by decide) (hd:(x==("__debug__" : Str))=false:=by decide):wpAny (model X.prog X.w) X.A (eval (.Name x pos) X.env) Q E s:=by
 obtain⟨mb,h1,h2⟩:=I.mod.blt
 exact Calls.Name_function_global I.ok.kind hg (Calls.loadGlobal_builtin (by rw[I.ok.glob];exact I.mod.glob.keeps I.bk) hm (by rw[I.ok.blt];exact h1.keeps I.bk) ((h2 x hn).trans hv) h) hd
theorem Mp{x:Str}{v:V}{u:Value}{pos:Pos}(hg:Gl X x)(hm:X.mg x=none)(hv:bootBuiltins x=some u)(r:RelV v u)(hn:x≠"__name__":=by decide)(hd:(x==("__debug__" : Str))=false:=by decide):PE X (.Name x pos) (tC v):=
 fun _ _ _ H _ I h=>Wj I hg hm hv ⟨v,H,I,r,h⟩ hn hd
variable {a b:Expr} {ta tb:TE} {pos:Pos}
def PC(X:Cx)(op:CmpOp)(a b:Expr)(t:TE):Prop:=
 ∀(pins:List (Addr×Obj))(s:Shared)(Z:St)(H:Hp)(Q:VK),Inv X pins Z H s->t Z H Q->
  wpAny (model X.prog X.w) X.A (eval a X.env) (fun v s₁=>wpAny (model X.prog X.w) X.A (eval b X.env) (fun u s₂=>wpAny (model X.prog X.w) X.A (compareOp op v u) (EP X pins Z Q) X.xe s₂) X.xe s₁) X.xe s
theorem Rf(b:Expr){op:CmpOp}(h:op≠.In)(h2:op≠.NotIn):behindInMarks op b=false:=by
 have e1:(op==CmpOp.In)=false:=by cases op<;>first | rfl | exact absurd rfl h
 have e2:(op==CmpOp.NotIn)=false:=by cases op<;>first | rfl | exact absurd rfl h2
 cases b<;>simp[behindInMarks,e1,e2]
def LA(ta:TE):TE:=fun Z H Q=>ta Z H fun x H1=>Q (.bl (!decide (x = .non))) H1
theorem RelV.none_iff{x:V}{v:Value}(r:RelV x v):(v==Value.none)=decide (x = .non):=by
 cases x with
 | non=>cases r;rfl
 | bl _=>cases r;rfl
 | int _=>obtain⟨t,rfl⟩:=r;rfl
 | str _=>obtain⟨t,rfl⟩:=r;rfl
 | byt _=>obtain⟨t,rfl⟩:=r;rfl
 | flt _=>obtain⟨t,rfl⟩:=r;rfl
 | ref _=>cases r;rfl
 | ty _=>cases r;rfl
theorem Q5{j pos'}(ha:PE X a ta):PC X .IsNot a (.Constant .none j pos') (LA ta):=by
 intro pins s Z H Q I h
 refine Z5 (ha pins s Z H _ I h) fun v s1 ⟨x,H1,I1,r1,q1⟩=>?_
 exact Constant_none (isnot_none_gen ⟨.bl _,H1,I1,by rw[r1.none_iff];rfl,q1⟩)
def tB(t:TE):TT:=fun Z H Q=>t Z H fun x H1=>∃c,x = .bl c/\Q c H1
theorem L6{op:CmpOp}{t:TE}(h:PC X op a b t)(h1:behindInMarks op b=false:=by first | exact Rf _ (by decide) (by decide) | rfl):PE X (.Compare a [op] [b] pos) t:=fun pins s Z H Q I hw=>wpAny_Compare1 (h pins s Z H Q I hw) h1
theorem O2{op:CmpOp}{t:TE}(h:PC X op a b t)(h1:behindInMarks op b=false:=by first | exact Rf _ (by decide) (by decide) | rfl):PT X (.Compare a [op] [b] pos) (tB t):=by
 intro pins s Z H Q I hw
 refine wpAny_isTrue_Compare1 (Z5 (h pins s Z H _ I hw) fun v s1 h1=>Z5 h1 fun u s2 h2=>Z5 h2 fun c s3 ⟨x,H1,I1,r1,q1⟩=>?_) h1
 obtain⟨d,rfl,q⟩:=q1
 cases r1
 exact wpAny_truthy_bool ⟨H1,I1,q⟩
theorem L7{e:Expr}{t:TE}(h:PE X e t)(he:∀whole,isTrue e X.env whole=(do let v <-whole;standAt e.pos;holding [v] (truthy v)):=by intro _;rfl):PT X e (tB t):=by
 intro pins s Z H Q I hw
 refine isTrue_plain (Z5 (h pins s Z H _ I hw) fun v s1 ⟨x,H1,I1,r1,q1⟩=>?_) (he _)
 obtain⟨d,rfl,q⟩:=q1
 cases r1
 exact wpAny_truthy_bool ⟨H1,I1,q⟩
variable {tA tB':TT} {Zk:List Expr}
def JB(t u:TT):TT:=fun Z H Q=>t Z H fun c H1=>if c=true then u Z H1 Q else Q false H1
def Hr(t u:TT):TT:=fun Z H Q=>t Z H fun c H1=>if c=true then Q true H1 else u Z H1 Q
def IP(t:TT):TT:=fun Z H Q=>t Z H fun c H1=>Q (!c) H1
theorem Mq(ha:PT X a tA):PW X (.BoolOp .And [a] pos) tA:=by
 intro wh pins s Z H Q I h
 refine isTrue_and (Z5 (ha pins s Z H Q I h) fun c s1 e=>?_)
 cases c with
 | true=>exact isTrue_and_nil e
 | false=>exact e
theorem L8(ha:PT X a tA):PW X (.BoolOp .Or [a] pos) tA:=by
 intro wh pins s Z H Q I h
 refine isTrue_or (Z5 (ha pins s Z H Q I h) fun c s1 e=>?_)
 cases c with
 | false=>exact isTrue_or_nil e
 | true=>exact e
theorem L9(ha:PT X a tA)(hb:PW X (.BoolOp .And (b::Zk) pos) tB'):PW X (.BoolOp .And (a::b::Zk) pos) (JB tA tB'):=by
 intro wh pins s Z H Q I h
 refine isTrue_and (Z5 (ha pins s Z H _ I h) fun c s1 ⟨H1,I1,q1⟩=>?_)
 cases c with
 | true=>exact hb wh pins s1 Z H1 Q I1 q1
 | false=>exact⟨H1,I1,q1⟩
theorem JC(ha:PT X a tA)(hb:PW X (.BoolOp .Or (b::Zk) pos) tB'):PW X (.BoolOp .Or (a::b::Zk) pos) (Hr tA tB'):=by
 intro wh pins s Z H Q I h
 refine isTrue_or (Z5 (ha pins s Z H _ I h) fun c s1 ⟨H1,I1,q1⟩=>?_)
 cases c with
 | true=>exact⟨H1,I1,q1⟩
 | false=>exact hb wh pins s1 Z H1 Q I1 q1
theorem Ka(ha:PT X a tA):PT X (.UnaryOp .Not a pos) (IP tA):=by
 intro pins s Z H Q I h
 exact isTrue_not (ha pins s Z H (fun c H1=>Q (!c) H1) I h)
def JD(ta tb:TE):TE:=fun Z H Q=>ta Z H fun x H1=>∃c,x = .bl c/\if c=true then tb Z H1 Q else Q (.bl false) H1
def JE(ta:TE):TE:=fun Z H Q=>ta Z H fun x H1=>∃c,x = .bl c/\Q (.bl (!c)) H1
theorem Kb{op}{t:TE}(h:PE X a t):PE X (.BoolOp op [a] pos) t:=fun pins s Z H Q I hw=>BoolOp_one (h pins s Z H Q I hw)
theorem Kc(ha:PE X a ta)(hb:PE X (.BoolOp .And (b::Zk) pos) tb):PE X (.BoolOp .And (a::b::Zk) pos) (JD ta tb):=by
 intro pins s Z H Q I h
 refine BoolOp_and (Z5 (ha pins s Z H _ I h) fun v s1 ⟨x,H1,I1,r1,q1⟩=>?_)
 obtain⟨c,rfl,q1⟩:=q1
 cases r1
 refine wpAny_truthy_bool ?_
 cases c with
 | true=>exact hb pins s1 Z H1 Q I1 q1
 | false=>exact⟨.bl false,H1,I1,rfl,q1⟩
theorem Kd(ha:PE X a ta):PE X (.UnaryOp .Not a pos) (JE ta):=by
 intro pins s Z H Q I h
 refine UnaryOp_ (Z5 (ha pins s Z H _ I h) fun v s1 ⟨x,H1,I1,r1,q1⟩=>?_)
 obtain⟨c,rfl,q1⟩:=q1
 cases r1
 exact not_of (wpAny_truthy_bool ⟨.bl (!c),H1,I1,rfl,q1⟩)
end
def SqL(K:PySem.W.Frag)(H:Hp)(a:Addr)(xs:List V):Prop:=
 Rd H a (.lst xs)\/
  ∃(o:Obj) (its:Array Value) (n:Nat),K.lookup a=some o/\o.cls = .type "list"/\o.dict=none/\o.data = .seq its n/\its.size<=sizeLine/\Vals xs its.toList
def SqT(K:PySem.W.Frag)(H:Hp)(a:Addr)(xs:List V):Prop:=
 Rd H a (.tup xs)\/
  ∃(o:Obj) (its:Array Value) (n:Nat),K.lookup a=some o/\o.cls = .type "tuple"/\o.data = .seq its n/\its.size<=sizeLine/\Vals xs its.toList
def IQ:Value->Option V
 | .none=>some .non
 | .bool b=>some (.bl b)
 | .int i _=>some (.int i)
 | .str x _=>some (.str x)
 | .bytes b _=>some (.byt b)
 | .float b _=>some (.flt b)
 | .ref a=>some (.ref a)
 | .type n=>some (.ty n)
 | _=>none
theorem RelV.abs{x:V}{u:Value}(r:RelV x u):IQ u=some x:=by
 cases x with
 | non=>cases r;rfl
 | bl _=>cases r;rfl
 | int _=>obtain⟨t,rfl⟩:=r;rfl
 | str _=>obtain⟨t,rfl⟩:=r;rfl
 | byt _=>obtain⟨t,rfl⟩:=r;rfl
 | flt _=>obtain⟨t,rfl⟩:=r;rfl
 | ref _=>cases r;rfl
 | ty _=>cases r;rfl
theorem RelV.inj{x y:V}{u:Value}(r:RelV x u)(q:RelV y u):x=y:=Option.some.inj (r.abs.symm.trans q.abs)
theorem Vals.inj:∀{xs ys:List V}{us:List Value},Vals xs us->Vals ys us->xs=ys
 | _,_,_,.nil,.nil=>rfl
 | _,_,_,.cons r t,.cons r' t'=>by rw[r.inj r',Vals.inj t t']
section
variable {X:Cx} {pins:List (Addr×Obj)} {Z:St} {H:Hp} {s:Shared} {a:Addr} {xs ys:List V}
theorem SqL.of{K:PySem.W.Frag}(h:H a=some (.lst xs)):SqL K H a xs:=.inl (.inl h)
theorem SqT.of{K:PySem.W.Frag}(h:H a=some (.tup xs)):SqT K H a xs:=.inl (.inl h)
theorem Inv.list(I:Inv X pins Z H s)(h:SqL X.K H a xs):∃its:List Value,Vals xs its/\PlainL s.heap a its.toArray/\xs.length<=sizeLine:=by
 rcases h with h | ⟨o,its,n,hk,hc,hd,hs,hz,r⟩
 ·obtain⟨z,its,n,r,e⟩:=h.ok I.hok
  exact⟨its,r,⟨_,n,e,rfl,rfl,rfl⟩,z⟩
 ·refine⟨its.toList,r,⟨o,n,I.kIn a o hk,hc,hd,by simpa using hs⟩,?_⟩
  have e:=r.length;simp only[Array.length_toList] at e;omega
theorem Inv.tuple(I:Inv X pins Z H s)(h:SqT X.K H a xs):∃its:List Value,Vals xs its/\IsTup s.heap a its.toArray/\xs.length<=sizeLine:=by
 rcases h with h | ⟨o,its,n,hk,hc,hs,hz,r⟩
 ·obtain⟨z,its,r,p⟩:=h.ok I.hok
  exact⟨its,r,p,z⟩
 ·refine⟨its.toList,r,⟨o,I.kIn a o hk,hc,n,by simpa using hs⟩,?_⟩
  have e:=r.length;simp only[Array.length_toList] at e;omega
theorem Inv.list_inj(I:Inv X pins Z H s)(h:SqL X.K H a xs)(h':SqL X.K H a ys):xs=ys:=by
 obtain⟨its,r,⟨o,n,e,_,_,d⟩,_⟩:=I.list h
 obtain⟨its',r',⟨o',n',e',_,_,d'⟩,_⟩:=I.list h'
 rw[e] at e';cases e'
 rw[d] at d'
 injection d' with d1 _
 have:its=its':=by simpa using congrArg Array.toList d1
 subst this
 exact r.inj r'
theorem Inv.tuple_inj(I:Inv X pins Z H s)(h:SqT X.K H a xs)(h':SqT X.K H a ys):xs=ys:=by
 obtain⟨its,r,⟨o,e,_,n,d⟩,_⟩:=I.tuple h
 obtain⟨its',r',⟨o',e',_,n',d'⟩,_⟩:=I.tuple h'
 rw[e] at e';cases e'
 rw[d] at d'
 injection d' with d1 _
 have:its=its':=by simpa using congrArg Array.toList d1
 subst this
 exact r.inj r'
end
abbrev Cx.wish(X:Cx)(E:Value->Shared->Prop):Cx:={ X with xe:=E }
abbrev Cx.nox(X:Cx):Cx:=X.wish fun _ _=>False
theorem Cx.Ok.wish{X:Cx}(ok:X.Ok)(E:Value->Shared->Prop):(X.wish E).Ok:=
 ⟨ok.mod,ok.kind,ok.glob,ok.blt,ok.above,ok.inj,ok.has,ok.cab,ok.hd,ok.frames,ok.stk,ok.exf,ok.bs,ok.bsz,ok.noex,ok.exfs,ok.funs,ok.frf⟩
theorem Cx.Ok.unwish{X:Cx}{E:Value->Shared->Prop}(ok:(X.wish E).Ok):X.Ok:=
 ⟨ok.mod,ok.kind,ok.glob,ok.blt,ok.above,ok.inj,ok.has,ok.cab,ok.hd,ok.frames,ok.stk,ok.exf,ok.bs,ok.bsz,ok.noex,ok.exfs,ok.funs,ok.frf⟩
section
variable {X:Cx} {pins:List (Addr×Obj)} {Z:St} {H:Hp} {s:Shared} {E:Value->Shared->Prop}
theorem Inv.wish(I:Inv X pins Z H s)(E:Value->Shared->Prop):Inv (X.wish E) pins Z H s:=⟨I.ok.wish E,I.os,I.bare,I.base,I.loc,I.cell,I.free,I.freeC,I.pin,I.hok,I.len⟩
theorem Inv.unwish(I:Inv (X.wish E) pins Z H s):Inv X pins Z H s:=⟨I.ok.unwish,I.os,I.bare,I.base,I.loc,I.cell,I.free,I.freeC,I.pin,I.hok,I.len⟩
theorem SP.unwish{D:Wy}{f:Flow}{s':Shared}(h:SP (X.wish E) pins D f s'):SP X pins D f s':=by
 cases f with
 | next=>obtain⟨Z',H',I,q⟩:=h;exact⟨Z',H',I.unwish,q⟩
 | brk=>obtain⟨Z',H',I,q⟩:=h;exact⟨Z',H',I.unwish,q⟩
 | cont=>obtain⟨Z',H',I,q⟩:=h;exact⟨Z',H',I.unwish,q⟩
 | ret u=>obtain⟨v,Z',H',I,r,q⟩:=h;exact⟨v,Z',H',I.unwish,r,q⟩
theorem PSs.nox{st:List Stmt}{t:TS}(h:PSs X.nox st t):PSs X st t:=fun pins s Z H D I hw=>
 wpAny_mono (h pins s Z H D (I.wish _) hw) (fun _ _ q=>q.unwish) fun _ _ z=>False.elim z
end
section
variable {X:Cx} {st:Stmt} {Zk:List Stmt} {t u:TS} {e:Expr} {te:TE} {pos:Pos}
def LB:TS:=fun D Z H=>D.nx Z H
def IR(t u:TS):TS:=fun D Z H=>t { D with nx:=u D } Z H
theorem Mr:PSs X [] LB:=fun _ _ Z H _ I h=>wpAny_execs_nil ⟨Z,H,I,h⟩
theorem Rg(h1:PS X st t)(h2:PSs X Zk u):PSs X (st::Zk) (IR t u):=by
 intro pins s Z H D I h
 refine wpAny_execs_cons (Z5 (h1 pins s Z H { D with nx:=u D } I h) fun f s1 q=>?_)
 cases f with
 | next=>
  obtain⟨Z',H',I',q⟩:=q
  exact h2 pins s1 Z' H' D I' q
 | ret v=>exact q
 | brk=>exact q
 | cont=>exact q
theorem Q6(h1:PS X st t):PSs X [st] t:=by
 intro pins s Z H D I h
 refine wpAny_execs_cons (Z5 (h1 pins s Z H D I h) fun f s1 q=>?_)
 cases f with
 | next=>exact wpAny_execs_nil q
 | ret v=>exact q
 | brk=>exact q
 | cont=>exact q
theorem Inv.quiet{pins:List (Addr×Obj)}{Z:St}{H:Hp}{s:Shared}(I:Inv X pins Z H s):interactive X.env=false:=by simp[interactive,I.ok.kind]
def Q7(te:TE):TS:=fun D Z H=>te Z H fun _ H1=>D.nx Z H1
theorem Wk(he:PE X e te)(hs:swapsWith e none pos.line X.env=pure false:=by rfl):PS X (.Expr e pos) (Q7 te):=by
 intro pins s Z H D I h
 exact wpAny_Expr_any (Z5 (he pins s Z H _ I h) fun v s1 ⟨x,H1,I1,r1,q1⟩=>⟨Z,H1,I1,q1⟩) I.quiet hs
def IS(te:TE):TS:=fun D Z H=>te Z H D.rt
theorem Qe(he:PE X e te):PS X (.Return (some e) pos) (IS te):=by
 intro pins s Z H D I h
 exact wpAny_Return_some (Z5 (he pins s Z H _ I h) fun v s1 ⟨x,H1,I1,r1,q1⟩=>⟨x,Z,H1,I1,r1,q1⟩)
def IT(c:TT)(t u:TS):TS:=fun D Z H=>c Z H fun b H1=>if b=true then t D Z H1 else u D Z H1
theorem LC{c:Expr}{a b:List Stmt}{tc:TT}(hc:PT X c tc)(ha:PSs X a t)(hb:PSs X b u):PS X (.If c a b pos) (IT tc t u):=by
 intro pins s Z H D I h
 refine wpAny_If (Z5 (hc pins s Z H _ I h) fun d s1 ⟨H1,I1,q1⟩=>?_)
 cases d with
 | true=>exact ha pins s1 Z H1 D I1 q1
 | false=>exact hb pins s1 Z H1 D I1 q1
end
abbrev TG:=V->St->Hp->(St->Hp->Prop)->Prop
abbrev LD:=List V->St->Hp->(St->Hp->Prop)->Prop
def PG(X:Cx)(target:Expr)(t:TG):Prop:=
 ∀(pins:List (Addr×Obj))(s:Shared)(Z:St)(H:Hp)(v:V)(u:Value)(Q:St->Hp->Prop),Inv X pins Z H s->RelV v u->t v Z H Q->
  wpAny (model X.prog X.w) X.A (assign target X.env u) (fun _ s'=>∃Z' H',Inv X pins Z' H' s'/\Q Z' H') X.xe s
def Iz(X:Cx)(ts:List Expr)(t:LD):Prop:=
 ∀(pins:List (Addr×Obj))(s:Shared)(Z:St)(H:Hp)(vs:List V)(us:List Value)(Q:St->Hp->Prop),Inv X pins Z H s->Vals vs us->t vs Z H Q->
  wpAny (model X.prog X.w) X.A (assignInOrder ((assignEach ts X.env).map (·.2)) us) (fun _ s'=>∃Z' H',Inv X pins Z' H' s'/\Q Z' H') X.xe s
abbrev Ke:=V->V->V->Hp->(Hp->Prop)->Prop
def JF(X:Cx)(t:Ke):Prop:=
 ∀(pins:List (Addr×Obj))(s:Shared)(Z:St)(H:Hp)(o i v:V)(ov iv u:Value)(Q:Hp->Prop),Inv X pins Z H s->RelV o ov->RelV i iv->RelV v u->t o i v H Q->
  wpAny (model X.prog X.w) X.A (setItem ov iv u) (fun _ s'=>∃H',Inv X pins Z H' s'/\Q H') X.xe s
section
variable {X:Cx} {pos:Pos}
def Uw(i:Nat):TG:=fun v Z H Q=>Q (Z.set i (some v)) H
theorem Zv{i:Nat}{x:Str}(hN:X.N.Nodup)(hi:X.N[i]?=some x)(hx:Jr X.env.scope x)(hf:X.fn x=true\/X.env.scope.names.lookup x=some .local:=by first | exact .inl rfl | exact .inr rfl | assumption):PG X (.Name x pos) (Uw i):=by
 intro pins s Z H v u Q I r h
 exact wpAny_assign_Name (WB I hN hi hx r (fun s' I'=>⟨_,H,I',h⟩) hf)
def JG:LD:=fun vs Z H Q=>vs=[]/\Q Z H
def LE(t:TG)(u:LD):LD:=fun vs Z H Q=>∃v r,vs=v::r/\t v Z H fun Z' H'=>u r Z' H' Q
theorem UI:Iz X [] JG:=by
 intro pins s Z H vs us Q I r h
 obtain⟨e,h⟩:=h
 subst e;cases r
 exact assignInOrder_nil ⟨Z,H,I,h⟩
theorem Y7{e:Expr}{es:List Expr}{t:TG}{u:LD}(h1:PG X e t)(h2:Iz X es u)
  (hs:(assignEach (e::es) X.env).map (·.2)=assign e X.env::(assignEach es X.env).map (·.2):=by rfl):Iz X (e::es) (LE t u):=by
 intro pins s Z H vs us Q I r h
 obtain⟨v,vr,e1,h⟩:=h
 subst e1
 cases r with
 | cons r rr=>
  rw[hs]
  refine assignInOrder_cons (Z5 (h1 pins s Z H _ _ _ I r h) fun _ s1 ⟨Z1,H1,I1,q1⟩=>?_)
  exact h2 pins s1 Z1 H1 _ _ Q I1 rr q1
def JH(K:PySem.W.Frag)(n:Nat)(t:LD):TG:=fun v Z H Q=>∃a xs,v = .ref a/\SqT K H a xs/\xs.length=n/\t xs Z H Q
theorem Sv{es:List Expr}{k:Nat}{t:LD}{n:Nat}(hc:X.calm=true)(h:Iz X es t)
  (hn:(assignEach es X.env).length=n:=by rfl) (hst:(assignEach es X.env).findIdx? (·.1)=none:=by rfl):PG X (.Tuple es k pos) (JH X.K n t):=by
 intro pins s Z H v u Q I r hw
 obtain⟨a,xs,e1,hq,hl,hw⟩:=hw
 subst e1;cases r
 obtain⟨its,rv,ht,hz⟩:=I.tuple hq
 refine assign_Tuple_tuple (I.ok.hd hc) ht (by simp[hn,<-hl,rv.length]) hst fun h' hx=>?_
 have I1:Inv X pins Z H { s with heap:=h' }:=I.kept (t':=s.toks) fun b o e=>hx b o (Nat.ne_of_lt (Heap.lt_size e)) e
 exact h pins _ Z H xs _ Q I1 (by simpa using rv) hw
def JI(to ti:TE)(t:Ke):TG:=fun v Z H Q=>to Z H fun o H1=>ti Z H1 fun i H2=>t o i v H2 fun H3=>Q Z H3
theorem O3{o i:Expr}{to ti:TE}{t:Ke}(ho:PE X o to)(hi:PE X i ti)(hs:JF X t)
  (ha:∀v,assign (.Subscript o i pos) X.env v=(do
   let ov <-holding [v] (eval o X.env)
   let iv <-holding [v,ov] (eval i X.env)
   standAt pos
   holding [v,ov,iv] (setItem ov iv v)
   release [v,ov,iv] []):=by intro _;rfl):PG X (.Subscript o i pos) (JI to ti t):=by
 intro pins s Z H v u Q I r h;rw[ha]
 refine wpAny_bind (wpAny_holding (Z5 (ho pins s Z H _ I h) fun ov s1 ⟨x,H1,I1,r1,q1⟩=>?_))
 refine wpAny_bind (wpAny_holding (Z5 (hi pins s1 Z H1 _ I1 q1) fun iv s2 ⟨y,H2,I2,r2,q2⟩=>?_))
 refine wpAny_bind (wpAny_standAt (wpAny_bind (wpAny_holding (Z5 (hs pins s2 Z H2 x y v ov iv u _ I2 r1 r2 r q2) fun _ s3 ⟨H3,I3,q3⟩=>?_))))
 exact wpAny_release ⟨Z,H3,I3,q3⟩
def PY(te:TE)(g:TG):TS:=fun D Z H=>te Z H fun x H1=>g x Z H1 D.nx
theorem O4{tg e:Expr}{te:TE}{g:TG}(he:PE X e te)(hg:PG X tg g)(hs:swapsWithSole [tg] e pos.line X.env=pure false:=by rfl)(hw:swappedStores [tg] e X.env=pure none:=by rfl)
  (h1:(assignEach [tg] X.env).map (·.2)=[assign tg X.env]:=by rfl):PS X (.Assign [tg] e pos) (PY te g):=by
 intro pins s Z H D I h
 refine wpAny_Assign_stores (Z5 (he pins s Z H _ I h) fun v s1 ⟨x,H1,I1,r1,q1⟩=>?_) hs hw
 rw[h1]
 exact Z5 (hg pins s1 Z H1 x v _ I1 r1 q1) fun _ s2 q=>q
theorem O5{i:Nat}{x:Str}{e:Expr}{te:TE}{pos':Pos}(hN:X.N.Nodup)(hi:X.N[i]?=some x)(hx:Jr X.env.scope x)(he:PE X e te)(hs:swapsWith e (some (.Name x pos')) pos.line X.env=pure false:=by rfl)(hf:X.fn x=true\/X.env.scope.names.lookup x=some .local:=by first | exact .inl rfl | exact .inr rfl | assumption) :
  PS X (.Assign [.Name x pos'] e pos) (PY te (Uw i)):=by
 intro pins s Z H D I h
 refine wpAny_Assign_Name (Z5 (he pins s Z H _ I h) fun v s1 ⟨y,H1,I1,r1,q1⟩=>?_) hs
 exact WB I1 hN hi hx r1 (fun s2 I2=>⟨_,H1,I2,q1⟩) hf
end
structure It where
 go:Nat->Hp->Prop
 yld:Nat->Hp->V->Hp->Prop
 stop:Nat->Hp->Prop
def UC(X:Cx)(pins:List (Addr×Obj))(H:Hp)(b:Addr):Prop:=
 H b=none/\b≠X.env.locals/\b∉X.fs/\(b∈X.ex\/X.s₀.heap.objs.size<=b)/\(∀x c,X.env.cells.lookup x=some c->c≠b)/\∀p∈X.pn++pins,p.1≠b
theorem Inv.fpOk{X:Cx}{pins:List (Addr×Obj)}{Z:St}{H H':Hp}{s:Shared}{b:Addr}(I:Inv X pins Z H s)(hb:s.heap.objs.size<=b)(hn:H' b=none):UC X pins H' b:=by
 refine⟨hn,Nat.ne_of_gt (Nat.lt_of_lt_of_le I.lt hb),I.nofs hb,.inr (Nat.le_trans I.sz hb),fun x c e z=>?_,fun p hp z=>?_⟩
 ·obtain⟨v,q⟩:=I.cell x c e
  exact absurd (Nat.lt_of_lt_of_le q.lt (by rw[z];exact hb)) (Nat.lt_irrefl _)
 ·exact absurd (Nat.lt_of_lt_of_le (Heap.lt_size (I.pin p hp).1) (by rw[z];exact hb)) (Nat.lt_irrefl _)
structure Qf(P:Program)(w:World)(K:PySem.W.Frag)(tg:Expr)(J:It)(fp:List Addr)(it:Addr)(tn:Nat->Heap->Prop):Prop where
 mem:it∈fp
 obj:∀i h,tn i h->∀b∈fp,∃o,h.get? b=some o/\∀v,o.data≠.cell v
 keep:∀i h h',tn i h->(∀b∈fp,∀o,h.get? b=some o->h'.get? b=some o)->tn i h'
 item:∀(X:Cx),X.prog=P->X.w=w->X.K=K->X.calm=true->∀(i:Nat)(pins:List (Addr×Obj))(s:Shared)(Z:St)(H:Hp)(E:Value->Shared->Prop),Inv X pins Z H s->(∀b∈fp,UC X pins H b)->tn i s.heap->J.go i H->
  wpAny (model P w) X.A (pyNext (.ref it)) (fun r s1=>∃u,r=some u/\
   wpAny (model P w) X.A (letOwnedTupleGo tg (.ref it) u) (fun _ s2=>∃x H',Inv X pins Z H' s2/\RelV x u/\J.yld i H x H'/\tn (i+1) s2.heap/\∀b∈fp,H' b=none) E s1) E s
 done:∀(X:Cx),X.prog=P->X.w=w->X.K=K->X.calm=true->∀(i:Nat)(pins:List (Addr×Obj))(s:Shared)(Z:St)(H:Hp)(E:Value->Shared->Prop),Inv X pins Z H s->(∀b∈fp,UC X pins H b)->tn i s.heap->J.stop i H->
  wpAny (model P w) X.A (pyNext (.ref it)) (fun r s1=>r=none/\Inv X pins Z H s1) E s
 self:∀(A:Around)(i:Nat)(s:Shared)(Q:Value->Shared->Prop)(E:Value->Shared->Prop),tn i s.heap->Q (.ref it) s->wpAny (model P w) A (pyIter (.ref it)) Q E s
abbrev TI:=St->Hp->(It->Hp->Prop)->Prop
def IU(X:Cx)(pins:List (Addr×Obj))(Z:St)(tg:Expr)(R:It->Hp->Prop)(itv:Value)(s2:Shared):Prop:=
 ∃(it:Addr) (fp:List Addr) (tn:Nat->Heap->Prop) (J:It) (H':Hp),itv = .ref it/\Inv X pins Z H' s2/\Qf X.prog X.w X.K tg J fp it tn/\tn 0 s2.heap/\(∀b∈fp,UC X pins H' b)/\R J H'
def PI(X:Cx)(tg iter:Expr)(wi:TI):Prop:=
 ∀(pins:List (Addr×Obj))(s:Shared)(Z:St)(H:Hp)(R:It->Hp->Prop),Inv X pins Z H s->wi Z H R->
  wpAny (model X.prog X.w) X.A (eval iter X.env) (fun v s1=>wpAny (model X.prog X.w) X.A (pyIter v) (IU X pins Z tg R) X.xe s1) X.xe s
theorem Q8{M:Model}{A:Around}{E:Value->Shared->Prop}{s:Shared}{tg:Expr}{it:Addr}{u:Value}{o:Obj}{n:String}{vs:Array Value}{Q:Unit->Shared->Prop}(ho:s.heap.get? it=some o)(hc:o.cls = .type n)(hd:o.data = .fields vs)
    (hn:["enumerate","zip","dict_itemiterator","dict_reverseitemiterator","odict_iterator","itertools.zip_longest","itertools.pairwise"].contains n=false) (hQ:Q () s):wpAny M A (letOwnedTupleGo tg (.ref it) u) Q E s:=by
  unfold letOwnedTupleGo
  cases tg<;>first
    | exact wpAny_pure hQ
    | (cases u<;>first
        | exact wpAny_pure hQ
        | (refine wpAny_bind (wpAny_load ho ?_)
           rw[hc,hd]
           show wpAny M A (if(["enumerate","zip","dict_itemiterator","dict_reverseitemiterator","odict_iterator","itertools.zip_longest","itertools.pairwise"].contains n&&vs[0]?==some (rawInt _))=true then _ else _) Q E s
           rw[if_neg (by intro h;rw[hn,Bool.false_and] at h;cases h)]
           exact wpAny_pure hQ))
def IV(K:PySem.W.Frag)(a:Addr):It:=
 ⟨fun i H=>∃xs x,SqL K H a xs/\xs[i]?=some x,fun i H x H'=>H'=H/\∀xs,SqL K H a xs->xs[i]?=some x,fun i H=>∃xs,SqL K H a xs/\xs.length<=i⟩
def Hs(K:PySem.W.Frag)(a:Addr):It:=
 ⟨fun i H=>∃xs x,SqT K H a xs/\xs[i]?=some x,fun i H x H'=>H'=H/\∀xs,SqT K H a xs->xs[i]?=some x,fun i H=>∃xs,SqT K H a xs/\xs.length<=i⟩
def JJ(lo:Int)(n:Nat):It:=⟨fun i _=>i<n,fun i H x H'=>H'=H/\x = .int (lo+i),fun i _=>n<=i⟩
theorem PZ{P:Program}{w:World}{K:PySem.W.Frag}{tg:Expr}(a it:Addr):Qf P w K tg (IV K a) [it] it (fun i h=>h.IsListIter it a i) where
 mem:=by simp
 obj:=fun i h st b hb=>by
  have e:b=it:=by simpa using hb
  subst e
  obtain⟨o,e,c,d⟩:=st
  exact⟨o,e,fun v z=>by rw[d] at z;cases z⟩
 keep:=fun i h h' st k=>st.at fun o e=>k it (by simp) o e
 item:=by
  intro X hP hw hK hc i pins s Z H E I hf st hg
  subst hP hw hK
  obtain⟨xs,x,hq,hx⟩:=hg
  obtain⟨its,rv,p,hz⟩:=I.list hq
  obtain⟨u,hu,ru⟩:=rv.get hx
  obtain⟨f0,f1,f2,f3,f4,f5⟩:=hf it (by simp)
  refine wpAny_pyNext_list_item st p.isList (x:=u) (by simpa using hu) fun h' st' sb=>?_
  have I1:Inv X pins Z H { s with heap:=h' }:=I.turned (t':=s.toks) (fun b o hb e=>(sb.2 b hb).trans e) f0 f1 f3 f4 f5
  obtain⟨o,e,c,d⟩:=id st'
  exact⟨u,rfl,Q8 (s:={ s with heap:=h' }) e c d (by decide) ⟨x,H,I1,ru,⟨rfl,fun ys hy=>by rw[I.list_inj hy hq];exact hx⟩,st',fun b hb=>(hf b hb).1⟩⟩
 done:=by
  intro X hP hw hK hc i pins s Z H E I hf st hg
  subst hP hw hK
  obtain⟨xs,hq,hx⟩:=hg
  obtain⟨its,rv,p,hz⟩:=I.list hq
  obtain⟨f0,f1,f2,f3,f4,f5⟩:=hf it (by simp)
  have hl:=rv.length
  exact wpAny_pyNext_list_end (I.ok.hd hc) st p.isList (by simp;omega) fun h' eb=>⟨rfl,I.turned (t':=s.toks) (fun b o hb e=>eb b o hb e) f0 f1 f3 f4 f5⟩
 self:=fun _ _ _ _ _ st h=>wpAny_pyIter_listiter st h
theorem Qg{P:Program}{w:World}{K:PySem.W.Frag}{tg:Expr}(a it:Addr):Qf P w K tg (Hs K a) [it] it (fun i h=>h.IsTupleIter it a i) where
 mem:=by simp
 obj:=fun i h st b hb=>by
  have e:b=it:=by simpa using hb
  subst e
  obtain⟨o,e,c,d⟩:=st
  exact⟨o,e,fun v z=>by rw[d] at z;cases z⟩
 keep:=fun i h h' st k=>st.at fun o e=>k it (by simp) o e
 item:=by
  intro X hP hw hK hc i pins s Z H E I hf st hg
  subst hP hw hK
  obtain⟨xs,x,hq,hx⟩:=hg
  obtain⟨its,rv,p,hz⟩:=I.tuple hq
  obtain⟨u,hu,ru⟩:=rv.get hx
  obtain⟨f0,f1,f2,f3,f4,f5⟩:=hf it (by simp)
  refine wpAny_pyNext_tuple_item st (show s.heap.IsTuple a its.toArray from p) (x:=u) (by simpa using hu) fun h' st' sb=>?_
  have I1:Inv X pins Z H { s with heap:=h' }:=I.turned (t':=s.toks) (fun b o hb e=>(sb.2 b hb).trans e) f0 f1 f3 f4 f5
  obtain⟨o,e,c,d⟩:=id st'
  exact⟨u,rfl,Q8 (s:={ s with heap:=h' }) e c d (by decide) ⟨x,H,I1,ru,⟨rfl,fun ys hy=>by rw[I.tuple_inj hy hq];exact hx⟩,st',fun b hb=>(hf b hb).1⟩⟩
 done:=by
  intro X hP hw hK hc i pins s Z H E I hf st hg
  subst hP hw hK
  obtain⟨xs,hq,hx⟩:=hg
  obtain⟨its,rv,p,hz⟩:=I.tuple hq
  obtain⟨f0,f1,f2,f3,f4,f5⟩:=hf it (by simp)
  have hl:=rv.length
  exact wpAny_pyNext_tuple_end (I.ok.hd hc) st (show s.heap.IsTuple a its.toArray from p) (by simp;omega) fun h' eb=>⟨rfl,I.turned (t':=s.toks) (fun b o hb e=>eb b o hb e) f0 f1 f3 f4 f5⟩
 self:=fun _ _ _ _ _ st h=>wpAny_pyIter_tupleiter st h
theorem Qh{P:Program}{w:World}{K:PySem.W.Frag}{tg:Expr}(it:Addr)(lo:Int)(n:Nat):Qf P w K tg (JJ lo n) [it] it (fun i h=>IsRangeIter h it (lo+(i:Nat)*1) ((n:Int)-(i:Nat)) 1) where
 mem:=by simp
 obj:=fun i h st b hb=>by
  have e:b=it:=by simpa using hb
  subst e
  exact⟨_,st,fun v z=>by
   have z':Data.fields _=Data.cell v:=z
   cases z'⟩
 keep:=fun i h h' st k=>k it (by simp) _ st
 item:=by
  intro X hP hw hK hc i pins s Z H E I hf st hg
  subst hP hw hK
  obtain⟨f0,f1,f2,f3,f4,f5⟩:=hf it (by simp)
  have W:=Walks.range (prog:=X.prog) (w:=X.w) (I.ok.hd hc) it lo 1 n
  refine W.item i s _ _ hg st fun v h' tk hv st' kk=>?_
  obtain⟨t,rfl⟩:=hv
  have I1:Inv X pins Z H { s with heap:=h',toks:=tk }:=I.turned (fun b o hb e=>kk b o (by simpa using hb) e) f0 f1 f3 f4 f5
  refine⟨_,rfl,Q8 (s:={ s with heap:=h',toks:=tk }) (n:="range_iterator") st' rfl rfl (by decide) ⟨.int (lo+i),H,I1,⟨t,?_⟩,⟨rfl,rfl⟩,st',fun b hb=>(hf b hb).1⟩⟩
  rw[Int.mul_one]
 done:=by
  intro X hP hw hK hc i pins s Z H E I hf st hg
  subst hP hw hK
  obtain⟨f0,f1,f2,f3,f4,f5⟩:=hf it (by simp)
  exact wpAny_pyNext_range_end (I.ok.hd hc) st (by have:n<=i:=hg;omega) fun h' eb=>⟨rfl,I.turned (t':=s.toks) (fun b o hb e=>eb b o hb e) f0 f1 f3 f4 f5⟩
 self:=fun _ _ _ _ _ st h=>wpAny_pyIter_rangeiter st h
section
variable {X:Cx} {tg:Expr}
def JK(K:PySem.W.Frag)(tl:TE):TI:=fun Z H R=>tl Z H fun x H1=>∃a,x = .ref a/\(∃xs,SqL K H1 a xs)/\R (IV K a) H1
def IW(K:PySem.W.Frag)(tl:TE):TI:=fun Z H R=>tl Z H fun x H1=>∃a,x = .ref a/\(∃xs,SqT K H1 a xs)/\R (Hs K a) H1
theorem Ms{l:Expr}{tl:TE}(hl:PE X l tl):PI X tg l (JK X.K tl):=by
 intro pins s Z H R I h
 refine Z5 (hl pins s Z H _ I h) fun v s1 ⟨x,H1,I1,r1,q1⟩=>?_
 obtain⟨a,e,⟨xs,hq⟩,q⟩:=q1
 subst e;cases r1
 obtain⟨its,rv,p,hz⟩:=I1.list hq
 refine wpAny_pyIter_list p.isList ?_
 refine⟨s1.heap.objs.size,[s1.heap.objs.size],_,_,H1,rfl,I1.kept (t':=s1.toks) fun b o e=>Heap.get?_push_of_some _ e,PZ a _,⟨_,Heap.get?_push_size _ rfl,rfl,rfl⟩,fun b hb=>?_,q⟩
 have e:b=s1.heap.objs.size:=by simpa using hb
 subst e
 exact I1.fpOk (Nat.le_refl _) (I1.hok.fresh (Nat.le_refl _))
theorem Kf{l:Expr}{tl:TE}(hl:PE X l tl):PI X tg l (IW X.K tl):=by
 intro pins s Z H R I h
 refine Z5 (hl pins s Z H _ I h) fun v s1 ⟨x,H1,I1,r1,q1⟩=>?_
 obtain⟨a,e,⟨xs,hq⟩,q⟩:=q1
 subst e;cases r1
 obtain⟨its,rv,p,hz⟩:=I1.tuple hq
 refine wpAny_pyIter_tuple (show s1.heap.IsTuple a its.toArray from p) ?_
 refine⟨s1.heap.objs.size,[s1.heap.objs.size],_,_,H1,rfl,I1.kept (t':=s1.toks) fun b o e=>Heap.get?_push_of_some _ e,Qg a _,⟨_,Heap.get?_push_size _ rfl,rfl,rfl⟩,fun b hb=>?_,q⟩
 have e:b=s1.heap.objs.size:=by simpa using hb
 subst e
 exact I1.fpOk (Nat.le_refl _) (I1.hok.fresh (Nat.le_refl _))
theorem Rh{pins:List (Addr×Obj)}{Z:St}{H:Hp}{s:Shared}{R:It->Hp->Prop}{E:Value->Shared->Prop}{lo hi:Int}{t u v:Tok}{tk:Nat}(I:Inv X pins Z H s)(h1 : -(2^62)<=lo)(h2:lo<2^62)(h3 : -(2^62)<=hi)(h4:hi<2^62)
  (q:R (JJ lo (hi-lo).toNat) H):wpAny (model X.prog X.w) X.A (pyIter (.ref s.heap.objs.size)) (IU X pins Z tg R) E { s with heap:=s.heap.push { cls:=.type "range",data:=.fields #[.int lo t,.int hi u,.int 1 v] },toks:=tk }:=by
 refine wpAny_pyIter_range (IsRange.new ..) (small_one h1 h2 h3 h4) ?_
 have I1:Inv X pins Z H { s with heap:=s.heap.push { cls:=.type "range",data:=.fields #[.int lo t,.int hi u,.int 1 v] },toks:=tk }:=I.kept fun b o e=>Heap.get?_push_of_some _ e
 refine⟨(s.heap.push { cls:=.type "range",data:=.fields #[.int lo t,.int hi u,.int 1 v] }).objs.size,[(s.heap.push { cls:=.type "range",data:=.fields #[.int lo t,.int hi u,.int 1 v] }).objs.size],_,_,H,rfl,
  I1.kept (t':=tk) fun b o e=>Heap.get?_push_of_some _ e,Qh _ lo (hi-lo).toNat,?_,fun b hb=>?_,q⟩
 ·have e1:lo+((0:Nat):Int)*1=lo:=by simp
  have e2:(((hi-lo).toNat:Nat):Int)-((0:Nat):Int)=Builtin.Range.rangeSize lo hi 1:=by rw[rangeSize_one];split<;>omega
  show IsRangeIter _ _ (lo+((0:Nat):Int)*1) ((((hi-lo).toNat:Nat):Int)-((0:Nat):Int)) 1
  rw[e1,e2]
  exact Heap.get?_push_size _ rfl
 ·have e:b=(s.heap.push { cls:=.type "range",data:=.fields #[.int lo t,.int hi u,.int 1 v] }).objs.size:=by simpa using hb
  subst e
  exact I1.fpOk (Nat.le_refl _) (I1.hok.fresh (Nat.le_refl _))
def JL(ta:TA):TI:=fun Z H R=>ta Z H fun vs H1=>∃j:Int,vs=[.int j]/\-(2^62)<=j/\j<2^62/\R (JJ 0 j.toNat) H1
def JM(ta:TA):TI:=fun Z H R=>ta Z H fun vs H1=>∃i j:Int,vs=[.int i,.int j]/\(-(2^62)<=i/\i<2^62/\-(2^62)<=j/\j<2^62)/\R (JJ i (j-i).toNat) H1
theorem P0{a:Expr}{ta:TA}{p pos:Pos}(hg:Gl X "range")(hm:X.mg "range" = none)(ha:PA X [a] ta)(hs:starEach [a] X.env=[(false,eval a X.env)]:=by rfl):PI X tg (.Call (.Name "range" p) [a] [] pos) (JL ta):=by
 intro pins s Z H R I h
 refine Call_ (Wj I hg hm boot_range (PyProof.Rows.callWith_type1 (Z5 (ha pos pins s Z H _ I h) fun us s1 ⟨vs,H1,I1,r1,q1⟩=>?_) hs rfl))
 obtain⟨j,e,q1,q2,q⟩:=q1
 subst e
 cases r1 with
 | cons r rr=>
  cases rr
  obtain⟨t,rfl⟩:=r
  exact call_range_1 (Rh I1 (by omega) (by omega) q1 q2 (by simpa using q))
theorem P1{a b:Expr}{ta:TA}{p pos:Pos}(hg:Gl X "range")(hm:X.mg "range" = none)(ha:PA X [a,b] ta)(hs:starEach [a,b] X.env=[(false,eval a X.env),(false,eval b X.env)]:=by rfl)(hs2:starEach [b] X.env=[(false,eval b X.env)]:=by rfl) :
  PI X tg (.Call (.Name "range" p) [a,b] [] pos) (JM ta):=by
 intro pins s Z H R I h
 refine Call_ (Wj I hg hm boot_range (PyProof.Rows.callWith_type1 (Z5 (ha pos pins s Z H _ I h) fun us s1 ⟨vs,H1,I1,r1,q1⟩=>?_) (by rw[hs,hs2]) (by rw[hs2];rfl)))
 obtain⟨i,j,e,⟨q1,q2,q3,q4⟩,q⟩:=q1
 subst e
 cases r1 with
 | cons r rr=>
  cases rr with
  | cons r' rr=>
   cases rr
   obtain⟨t,rfl⟩:=r
   obtain⟨t',rfl⟩:=r'
   exact call_range_2 (Rh I1 q1 q2 q3 q4 q)
def Mu(wi:TI)(g:TG)(tb:TS):TS:=fun D Z H=>wi Z H fun J H1=>∃W:Nat->Nat->St->Hp->Prop,(∃m,W 0 m Z H1)/\∀i m Z H,W i m Z H->
 (J.stop i H/\D.nx Z H)\/(J.go i H/\∃N:St->Hp->Prop,(∀Z' H',N Z' H'->∃m',m'<m/\W (i+1) m' Z' H')/\∀x H',J.yld i H x H'->g x Z H' fun Z2 H2=>tb { D with nx:=N,ct:=N,bk:=D.nx } Z2 H2)
def Ue(fp:List Addr)(h:Heap):List (Addr×Obj):=fp.filterMap fun b=>(h.get? b).map fun o=>(b,o)
theorem Wl{fp:List Addr}{h:Heap}{b:Addr}{o:Obj}(hb:b∈fp)(e:h.get? b=some o):(b,o)∈Ue fp h:=List.mem_filterMap.mpr ⟨b,hb,by rw[e];rfl⟩
theorem P2{fp:List Addr}{h:Heap}{p:Addr×Obj}(hp:p∈Ue fp h):p.1∈fp/\h.get? p.1=some p.2:=by
 obtain⟨b,hb,e⟩:=List.mem_filterMap.mp hp
 cases q:h.get? b with
 | none=>rw[q] at e;cases e
 | some o=>
  rw[q] at e
  have e':(b,o)=p:=Option.some.inj e
  subst e'
  exact⟨hb,q⟩
theorem Inv.pinned{pins:List (Addr×Obj)}{Z:St}{H:Hp}{s:Shared}{fp:List Addr}(I:Inv X pins Z H s)(hf:∀b∈fp,UC X pins H b)(ho:∀b∈fp,∃o,s.heap.get? b=some o/\∀v,o.data≠.cell v):Inv X (pins++Ue fp s.heap) Z H s:=
 I.pins_of fun p hp=>(List.mem_append.mp hp).elim (fun z=>I.pin p (List.mem_append_right _ z)) fun z=>by
  obtain⟨hb,e⟩:=P2 z
  obtain⟨f0,f1,f2,_⟩:=hf p.1 hb
  obtain⟨o,e',d⟩:=ho p.1 hb
  rw[e] at e';cases e'
  exact⟨e,f0,f1,f2,d⟩
theorem Inv.unpinned{pins pl:List (Addr×Obj)}{Z:St}{H:Hp}{s:Shared}(I:Inv X (pins++pl) Z H s):Inv X pins Z H s:=I.pins_of fun p hp=>I.pin p (List.mem_append_right _ (List.mem_append_left _ hp))
theorem Sw{iter:Expr}{body:List Stmt}{wi:TI}{g:TG}{tb:TS}{pos:Pos}(hp:PassesOwn (model X.prog X.w) X.A X.env X.xe)(hc:X.calm=true)(hi:PI X tg iter wi)(hg:PG X tg g)(hb:PSs X body tb)
  (hs:∀x,foldedSetIterable iter X.env x=pure x:=by intro _;rfl):PS X (.For tg iter body [] pos) (Mu wi g tb):=by
 intro pins s Z H D I h
 refine wpAny_For (Z5 (hi pins s Z H _ I h) fun v s1 h1=>Z5 h1 fun itv s2 h2=>?_) hs
 obtain⟨it,fp,tn,J,H2,e,I2,T,st2,f2,W,⟨m0,w0⟩,turn⟩:=h2
 subst e
 -- what stays true of the iterator's objects through the loop
 have stat:∀{H':Hp},(∀b∈fp,H' b=none)->∀b∈fp,UC X pins H' b:=fun hn b hb=>⟨hn b hb,(f2 b hb).2⟩
 refine codeAny_forLoop_any (fun n s'=>∃i Z' H',Inv X pins Z' H' s'/\tn i s'.heap/\(∀b∈fp,H' b=none)/\W i n Z' H') ?_ m0 ⟨0,Z,H2,I2,st2,fun b hb=>(f2 b hb).1,w0⟩
 rintro n s3 ⟨i,Z3,H3,I3,st3,fr3,w3⟩
 rcases turn i n Z3 H3 w3 with⟨stop,qn⟩ | ⟨go,N,hN,step⟩
 ·refine wpAny_passesOwn hp (Z5 (T.done X rfl rfl rfl hc i pins s3 Z3 H3 X.xe I3 (stat fr3) st3 stop) fun r s4 ⟨hr,I4⟩=>?_)
  subst hr
  exact wpAny_execs_nil ⟨Z3,H3,I4,qn⟩
 ·refine wpAny_passesOwn hp (Z5 (T.item X rfl rfl rfl hc i pins s3 Z3 H3 X.xe I3 (stat fr3) st3 go) fun r s4 ⟨u,hr,h4⟩=>?_)
  subst hr
  refine wpAny_passesOwn hp (Z5 h4 fun _ s5 ⟨x,H5,I5,r5,y5,st5,fr5⟩=>?_)
  have I5':=I5.pinned (stat fr5) (T.obj _ _ st5)
  refine wpAny_passesOwn hp (Z5 (hg _ s5 Z3 H5 x u _ I5' r5 (step x H5 y5)) fun _ s6 ⟨Z6,H6,I6,q6⟩=>?_)
  refine wpAny_passesOwn hp (Z5 (hb _ s6 Z6 H6 _ I6 q6) fun f s7 q7=>?_)
  have again:∀{Z7:St}{H7:Hp},Inv X (pins++Ue fp s5.heap) Z7 H7 s7->N Z7 H7->∃m,m<n/\∃i Z' H',Inv X pins Z' H' s7/\tn i s7.heap/\(∀b∈fp,H' b=none)/\W i m Z' H':=fun{Z7 H7} I7 n7=>by
   obtain⟨m',hm,w7⟩:=hN Z7 H7 n7
   refine⟨m',hm,i+1,Z7,H7,I7.unpinned,T.keep _ _ _ st5 fun b hb o e=>(I7.pin (b,o) (List.mem_append_right _ (List.mem_append_right _ (Wl hb e)))).1,fun b hb=>?_,w7⟩
   obtain⟨o,e,d⟩:=T.obj _ _ st5 b hb
   exact(I7.pin (b,o) (List.mem_append_right _ (List.mem_append_right _ (Wl hb e)))).2.1
  cases f with
  | next=>obtain⟨Z7,H7,I7,n7⟩:=q7;exact again I7 n7
  | cont=>obtain⟨Z7,H7,I7,n7⟩:=q7;exact again I7 n7
  | brk=>obtain⟨Z7,H7,I7,q7⟩:=q7;exact⟨Z7,H7,I7.unpinned,q7⟩
  | ret v=>obtain⟨x7,Z7,H7,I7,r7,q7⟩:=q7;exact⟨x7,Z7,H7,I7.unpinned,r7,q7⟩
end
abbrev R2:=V->V->Hp->VK->Prop
def Uf(X:Cx)(f:Value->Value->Sem Value)(r:R2):Prop:=
 ∀(pins:List (Addr×Obj))(s:Shared)(Z:St)(H:Hp)(x y:V)(v u:Value)(Q:VK),Inv X pins Z H s->RelV x v->RelV y u->r x y H Q->
  wpAny (model X.prog X.w) X.A (f v u) (EP X pins Z Q) X.xe s
def IX(X:Cx)(f:Value->Sem Value)(r:V->Hp->VK->Prop):Prop:=
 ∀(pins:List (Addr×Obj))(s:Shared)(Z:St)(H:Hp)(x:V)(v:Value)(Q:VK),Inv X pins Z H s->RelV x v->r x H Q->
  wpAny (model X.prog X.w) X.A (f v) (EP X pins Z Q) X.xe s
def Y8(X:Cx)(f:Value)(r:List V->Hp->VK->Prop):Prop:=
 ∀(pins:List (Addr×Obj))(s:Shared)(Z:St)(H:Hp)(xs:List V)(us:List Value)(Q:VK),Inv X pins Z H s->Vals xs us->r xs H Q->
  wpAny (model X.prog X.w) X.A (call f us) (EP X pins Z Q) X.xe s
def IY(X:Cx)(r:V->Hp->(Bool->Hp->Prop)->Prop):Prop:=
 ∀(pins:List (Addr×Obj))(s:Shared)(Z:St)(H:Hp)(x:V)(v:Value)(Q:Bool->Hp->Prop),Inv X pins Z H s->RelV x v->r x H Q->
  wpAny (model X.prog X.w) X.A (truthy v) (TP X pins Z Q) X.xe s
def Kg(r:R2)(ta tb:TE):TE:=fun Z H Q=>ta Z H fun x H1=>tb Z H1 fun y H2=>r x y H2 Q
def Hw(r:V->Hp->VK->Prop)(ta:TE):TE:=fun Z H Q=>ta Z H fun x H1=>r x H1 Q
def rI(C:Int->Int->Prop)(g:Int->Int->V):R2:=fun x y H Q=>∃i j,x = .int i/\y = .int j/\C i j/\Q (g i j) H
def Mv(g:Int->Int->V):R2:=fun x y H Q=>∃i j,x = .int i/\y = .int j/\Q (g i j) H
def rU(g:Int->V):V->Hp->VK->Prop:=fun x H Q=>∃i,x = .int i/\Q (g i) H
section
variable {X:Cx} {a b c:Expr} {ta tb tc:TE} {pos:Pos}
theorem Kh(ha:PE X a ta)(hb:PE X b tb){pins:List (Addr×Obj)}{s:Shared}{Z:St}{H:Hp}{R:V->V->Hp->Prop}(I:Inv X pins Z H s)
  (h:ta Z H fun x H1=>tb Z H1 fun y H2=>R x y H2) {Q:Value->Shared->Prop} {f:Value->Value->Sem Value}
  (hf:∀v u s2 x y H2,Inv X pins Z H2 s2->RelV x v->RelV y u->R x y H2->wpAny (model X.prog X.w) X.A (f v u) Q X.xe s2) :
  wpAny (model X.prog X.w) X.A (eval a X.env) (fun v s₁=>wpAny (model X.prog X.w) X.A (eval b X.env) (fun u s₂=>wpAny (model X.prog X.w) X.A (f v u) Q X.xe s₂) X.xe s₁) X.xe s:=by
 refine Z5 (ha pins s Z H _ I h) fun v s1 ⟨x,H1,I1,r1,q1⟩=>?_
 refine Z5 (hb pins s1 Z H1 _ I1 q1) fun u s2 ⟨y,H2,I2,r2,q2⟩=>?_
 exact hf v u s2 x y H2 I2 r1 r2 q2
theorem Q9{op:Operator}{r:R2}(ho:Uf X (binaryOp op) r)(ha:PE X a ta)(hb:PE X b tb):PE X (.BinOp a op b pos) (Kg r ta tb):=by
 intro pins s Z H Q I h
 exact wpAny_BinOp (Kh ha hb I h fun v u s2 x y H2 I2 rx ry q=>ho pins s2 Z H2 x y v u Q I2 rx ry q)
theorem JN{op:UnaryOp}{r:V->Hp->VK->Prop}(ho:IX X (unaryOp op) r)(ha:PE X a ta):PE X (.UnaryOp op a pos) (Hw r ta):=by
 intro pins s Z H Q I h
 exact UnaryOp_ (Z5 (ha pins s Z H _ I h) fun v s1 ⟨x,H1,I1,r1,q1⟩=>ho pins s1 Z H1 x v Q I1 r1 q1)
theorem IZ{f:Value->Value->Sem Value}{C:Int->Int->Prop}{g:Int->Int->Int}
  (rule:∀(i j:Int)(t u:Tok)(s:Shared)(Q:Value->Shared->Prop)(E:Value->Shared->Prop),C i j->Q (.int (g i j) s.toks) { s with toks:=s.toks+1 }->wpAny (model X.prog X.w) X.A (f (.int i t) (.int j u)) Q E s) :
  Uf X f (rI C fun i j=>.int (g i j)):=by
 intro pins s Z H x y v u Q I rx ry h
 obtain⟨i,j,rfl,rfl,hc,q⟩:=h
 obtain⟨t,rfl⟩:=rx
 obtain⟨t',rfl⟩:=ry
 exact rule i j t t' s _ _ hc ⟨.int (g i j),H,I.tok _,⟨_,rfl⟩,q⟩
theorem JO{f:Value->Value->Sem Value}{g:Int->Int->Int}
  (rule:∀(i j:Int)(t u:Tok)(s:Shared)(Q:Value->Shared->Prop)(E:Value->Shared->Prop),Q (.int (g i j) s.toks) { s with toks:=s.toks+1 }->wpAny (model X.prog X.w) X.A (f (.int i t) (.int j u)) Q E s) :
  Uf X f (Mv fun i j=>.int (g i j)):=by
 intro pins s Z H x y v u Q I rx ry h
 obtain⟨i,j,rfl,rfl,q⟩:=h
 obtain⟨t,rfl⟩:=rx
 obtain⟨t',rfl⟩:=ry
 exact rule i j t t' s _ _ ⟨.int (g i j),H,I.tok _,⟨_,rfl⟩,q⟩
theorem Ki{f:Value->Value->Sem Value}{g:Int->Int->Bool}
  (rule:∀(i j:Int)(t u:Tok)(s:Shared)(Q:Value->Shared->Prop)(E:Value->Shared->Prop),Q (.bool (g i j)) s->wpAny (model X.prog X.w) X.A (f (.int i t) (.int j u)) Q E s) :
  Uf X f (Mv fun i j=>.bl (g i j)):=by
 intro pins s Z H x y v u Q I rx ry h
 obtain⟨i,j,rfl,rfl,q⟩:=h
 obtain⟨t,rfl⟩:=rx
 obtain⟨t',rfl⟩:=ry
 exact rule i j t t' s _ _ ⟨.bl (g i j),H,I,rfl,q⟩
def UZ(i j:Int):Prop:=0<j/\j<1073741824
def LF(i j:Int):Prop:=j≠0/\j.natAbs<1073741824
def JP(i j:Int):Prop:=0<=j/\j<=1000000/\i.natAbs<2^64
def CMul(i j:Int):Prop:=(-(2^64)<i/\i<2^64)\/(-(2^64)<j/\j<2^64)
theorem CMul.ok{i j:Int}(h:CMul i j):IntMulOk i j:=by
 rcases h with⟨h1,h2⟩ | ⟨h1,h2⟩
 ·exact .of_left (intBits_le_64 h1 h2)
 ·exact .of_right (intBits_le_64 h1 h2)
theorem Kj:Uf X (binaryOp .Add) (Mv fun i j=>.int (i+j)):=JO fun _ _ _ _ _ _ _ q=>add_int q
theorem Kk:Uf X (binaryOp .Sub) (Mv fun i j=>.int (i-j)):=JO fun _ _ _ _ _ _ _ q=>sub_int q
theorem Kl:Uf X (binaryOp .Mult) (rI CMul fun i j=>.int (i*j)):=IZ fun _ _ _ _ _ _ _ hc q=>mul_int q hc.ok
theorem Mw:Uf X (binaryOp .FloorDiv) (rI UZ fun i j=>.int (i/j)):=IZ fun i j _ _ _ _ _ hc q=>by
 have h1:(0:Int)<j:=hc.1
 have h2:j<1073741824:=hc.2
 exact floordiv_int (by omega) (by rw[Int.fdiv_eq_ediv_of_nonneg i (by omega)];exact q) (.inl (PyProof.noPylong_small (by omega)))
theorem Km:Uf X (binaryOp .Mod) (rI (fun _ j=>0<j) fun i j=>.int (i%j)):=IZ fun i j _ _ _ _ _ hc q=>by
 have h1:(0:Int)<j:=hc
 exact mod_int' (by omega) (by rw[Int.fmod_eq_emod_of_nonneg i (by omega)];exact q)
theorem Hy{f:Value->Sem Value}{g:Int->Int}
  (rule:∀(i:Int)(t:Tok)(s:Shared)(Q:Value->Shared->Prop)(E:Value->Shared->Prop),Q (.int (g i) s.toks) { s with toks:=s.toks+1 }->wpAny (model X.prog X.w) X.A (f (.int i t)) Q E s) :
  IX X f (rU fun i=>.int (g i)):=by
 intro pins s Z H x v Q I rx h
 obtain⟨i,rfl,q⟩:=h
 obtain⟨t,rfl⟩:=rx
 exact rule i t s _ _ ⟨.int (g i),H,I.tok _,⟨_,rfl⟩,q⟩
theorem Kn:IX X (unaryOp .USub) (rU fun i=>.int (-i)):=Hy fun _ _ _ _ _ q=>neg_int q
end
section
variable {X:Cx} {a b c:Expr} {ta tb tc:TE} {pos:Pos}
theorem JQ:Uf X (compareOp .Lt) (Mv fun i j=>.bl (decide (i<j))):=Ki fun _ _ _ _ _ _ _ q=>lt_int q
theorem JR:Uf X (compareOp .LtE) (Mv fun i j=>.bl (decide (i<=j))):=Ki fun _ _ _ _ _ _ _ q=>le_int q
theorem JS:Uf X (compareOp .Gt) (Mv fun i j=>.bl (decide (j<i))):=Ki fun _ _ _ _ _ _ _ q=>gt_int q
theorem Sx(b:Expr){op:CmpOp}(h:op≠.In:=by decide)(h2:op≠.NotIn:=by decide):behindInMarks op b=false:=by
 have e1:(op==CmpOp.In)=false:=by cases op<;>first | rfl | exact absurd rfl h
 have e2:(op==CmpOp.NotIn)=false:=by cases op<;>first | rfl | exact absurd rfl h2
 cases b<;>simp[behindInMarks,e1,e2]
theorem Mx{op:CmpOp}{r:R2}(ho:Uf X (compareOp op) r)(ha:PE X a ta)(hb:PE X b tb)(hm:behindInMarks op b=false):PE X (.Compare a [op] [b] pos) (Kg r ta tb):=by
 intro pins s Z H Q I h
 exact wpAny_Compare1 (Kh ha hb I h fun v u s2 x y H2 I2 rx ry q=>ho pins s2 Z H2 x y v u Q I2 rx ry q) hm
def Ri(t:TE):TT:=fun Z H Q=>t Z H fun x H'=>∃k,x = .bl k/\Q k H'
theorem My{op:CmpOp}{r:R2}(ho:Uf X (compareOp op) r)(ha:PE X a ta)(hb:PE X b tb)(hm:behindInMarks op b=false):PT X (.Compare a [op] [b] pos) (Ri (Kg r ta tb)):=by
 intro pins s Z H Q I h
 refine wpAny_isTrue_Compare1 (Z5 (ha pins s Z H _ I h) fun v s1 ⟨x,H1,I1,r1,q1⟩=>Z5 (hb pins s1 Z H1 _ I1 q1) fun u s2 ⟨y,H2,I2,r2,q2⟩=>
  Z5 (ho pins s2 Z H2 x y v u _ I2 r1 r2 q2) fun c s3 ⟨z,H3,I3,r3,k,e,q3⟩=>?_) hm
 subst e;cases r3
 exact wpAny_truthy_bool ⟨H3,I3,q3⟩
def O6(r r':R2)(ta tb tc:TE):TE:=fun Z H Q=>ta Z H fun x H1=>tb Z H1 fun y H2=>r x y H2 fun z H3=>∃k,z = .bl k/\
 (if k=true then tc Z H3 fun w' H4=>r' y w' H4 Q else Q (.bl false) H3)
theorem O7{op op':CmpOp}{r r':R2}(ho:Uf X (compareOp op) r)(ho':Uf X (compareOp op') r')(ha:PE X a ta)(hb:PE X b tb)(hc:PE X c tc)
  (hm:lastMarks [op,op'] [b,c]=false:=by with_unfolding_all rfl):PT X (.Compare a [op,op'] [b,c] pos) (Ri (O6 r r' ta tb tc)):=by
 intro pins s Z H Q I h
 refine isTrue_chain (Z5 (ha pins s Z H _ I h) fun v s1 ⟨x,H1,I1,r1,q1⟩=>test_link (Z5 (hb pins s1 Z H1 _ I1 q1) fun u s2 ⟨y,H2,I2,r2,q2⟩=>
  Z5 (ho pins s2 Z H2 x y v u _ I2 r1 r2 q2) fun d s3 ⟨z,H3,I3,r3,k,e,q3⟩=>?_)) hm
 subst e;cases r3
 refine wpAny_truthy_bool ?_
 cases k with
 | false=>
  obtain⟨k',e',q'⟩:=q3
  cases e'
  exact ite_ff ⟨H3,I3,q'⟩
 | true=>
  refine ite_tt (test_last (Z5 (hc pins s3 Z H3 _ I3 q3) fun w' s4 ⟨z',H4,I4,r4,q4⟩=>Z5 (ho' pins s4 Z H4 y z' u w' _ I4 r2 r4 q4) fun d' s5 ⟨z2,H5,I5,r5,k2,e2,q5⟩=>?_))
  subst e2;cases r5
  exact wpAny_truthy_bool ⟨H5,I5,q5⟩
def Ha(K:PySem.W.Frag)(x:V)(H:Hp)(k:Bool):Prop:=
 match x with
 | .non=>k=false
 | .bl b=>k=b
 | .int i=>k=(i != 0)
 | .str y=>y.length<=sizeLine/\k=((y.length:Int) != 0)
 | .byt y=>y.size<=sizeLine/\k=((y.size:Int) != 0)
 | .ref p=>(∃xs,SqL K H p xs/\k = !xs.isEmpty)\/(∃xs,SqT K H p xs/\k = !xs.isEmpty)\/∃kvs,H p=some (.dK kvs)/\k = !kvs.isEmpty
 | _=>False
theorem Qi{κ:Type}{kvs:List (κ×V)}{vs:List (κ×Value)}(r:KV kvs vs):(!vs.isEmpty) = !kvs.isEmpty:=by
 cases r<;>rfl
theorem U0{xs:List V}{its:List Value}(r:Vals xs its):(!its.toArray.isEmpty) = !xs.isEmpty:=by
 cases r<;>simp
theorem Ug:(sizeLine:Nat)<2^63:=by rw[sizeLine_eq];decide
theorem tru_ok:IY X (fun x H Q=>∃k,Ha X.K x H k/\Q k H):=by
 intro pins s Z H x v Q I rx h
 obtain⟨k,e,q⟩:=h
 have hl:=Ug
 have hs:sizeLine=16777216:=sizeLine_eq
 cases x with
 | non=>
  cases rx
  have e':k=false:=e
  subst e'
  exact truthy_none ⟨H,I,q⟩
 | bl b=>
  cases rx
  have e':k=b:=e
  subst e'
  exact wpAny_truthy_bool ⟨H,I,q⟩
 | int i=>
  obtain⟨t,rfl⟩:=rx
  have e':k=(i != 0):=e
  subst e'
  exact PySem.P.truthy_int ⟨H,I,q⟩
 | str y=>
  obtain⟨t,rfl⟩:=rx
  obtain⟨hy,e'⟩:y.length<=sizeLine/\k=((y.length:Int) != 0):=e
  subst e'
  exact PySem.P.truthy_str (by omega) ⟨H,I.tok _,q⟩
 | byt y=>
  obtain⟨t,rfl⟩:=rx
  obtain⟨hy,e'⟩:y.size<=sizeLine/\k=((y.size:Int) != 0):=e
  subst e'
  exact PySem.W.truthy_bytes (by omega) ⟨H,I.tok _,q⟩
 | ref p=>
  cases rx
  have e':(∃xs,SqL X.K H p xs/\k = !xs.isEmpty)\/(∃xs,SqT X.K H p xs/\k = !xs.isEmpty)\/∃kvs,H p=some (.dK kvs)/\k = !kvs.isEmpty:=e
  rcases e' with⟨xs,hx,e'⟩ | ⟨xs,hx,e'⟩ | ⟨kvs,hx,e'⟩
  ·subst e'
   obtain⟨its,r,pl,hz⟩:=I.list hx
   have hlen:=r.length
   exact wpAny_truthy_list pl.isList (by simp only[List.size_toArray];omega) ⟨H,I.tok _,by rw[U0 r];exact q⟩
  ·subst e'
   obtain⟨its,r,pl,hz⟩:=I.tuple hx
   have hlen:=r.length
   exact truthy_tuple pl (by simp only[List.size_toArray];omega) ⟨H,I.tok _,by rw[U0 r];exact q⟩
  ·subst e'
   obtain⟨hz,hS,vs,r,m⟩:kvs.length<=sizeLine/\(p==sysModules)=false/\∃vs,KV kvs vs/\s.heap.DictOf (Z7 X.prog X.w) p vs:=I.hok p _ hx
   have hlen:kvs.length=vs.length:=Paired.length r
   exact wpAny_truthy_dict hS m (by omega) ⟨H,I.tok _,by rw[Qi r];exact q⟩
 | _=>exact(show False from e).elim
theorem WC{x:V}{us:List Value}(r:Vals [x] us):∃u,us=[u]/\RelV x u:=by
 cases r with
 | cons r1 r2=>cases r2;exact⟨_,rfl,r1⟩
theorem Pa{x y:V}{us:List Value}(r:Vals [x,y] us):∃u w',us=[u,w']/\RelV x u/\RelV y w':=by
 cases r with
 | cons r1 r2=>
  cases r2 with
  | cons r3 r4=>cases r4;exact⟨_,_,rfl,r1,r3⟩
theorem P3(hc:X.calm=true):Y8 X (.builtin "max") (fun xs H Q=>∃i j,xs=[.int i,.int j]/\Q (.int (if j>i then j else i)) H):=by
 intro pins s Z H xs us Q I r h
 obtain⟨i,j,rfl,q⟩:=h
 obtain⟨u,w',rfl,⟨t,rfl⟩,⟨t',rfl⟩⟩:=Pa r
 refine max_two_ints (I.ok.hd hc) fun h' tk k=>⟨_,H,I.kept k,?_,q⟩
 by_cases hj:j>i
 ·rw[if_pos hj,if_pos hj];exact⟨_,rfl⟩
 ·rw[if_neg hj,if_neg hj];exact⟨_,rfl⟩
theorem Uh(hc:X.calm=true):Y8 X (.builtin "min") (fun xs H Q=>∃i j,xs=[.int i,.int j]/\Q (.int (if j<i then j else i)) H):=by
 intro pins s Z H xs us Q I r h
 obtain⟨i,j,rfl,q⟩:=h
 obtain⟨u,w',rfl,⟨t,rfl⟩,⟨t',rfl⟩⟩:=Pa r
 refine min_two_ints (I.ok.hd hc) fun h' tk k=>⟨_,H,I.kept k,?_,q⟩
 by_cases hj:j<i
 ·rw[if_pos hj,if_pos hj];exact⟨_,rfl⟩
 ·rw[if_neg hj,if_neg hj];exact⟨_,rfl⟩
theorem P4:Y8 X (.type "int") (fun xs H Q=>(∃i,xs=[.int i]/\Q (.int i) H)\/∃k,xs=[.bl k]/\Q (.int (if k then 1 else 0)) H):=by
 intro pins s Z H xs us Q I r h
 rcases h with⟨i,rfl,q⟩ | ⟨k,rfl,q⟩
 ·obtain⟨u,rfl,t,rfl⟩:=WC r
  exact call_int_int ⟨.int i,H,I,⟨_,rfl⟩,q⟩
 ·obtain⟨u,rfl,r1⟩:=WC r
  cases r1
  exact call_int_bool ⟨.int (if k then 1 else 0),H,I.tok _,⟨_,rfl⟩,q⟩
def JT(K:PySem.W.Frag)(x:V)(H:Hp)(n:Nat):Prop:=
 match x with
 | .str y=>y.length<=sizeLine/\n=y.length
 | .byt y=>y.size<=sizeLine/\n=y.size
 | .ref p=>(∃xs,SqL K H p xs/\n=xs.length)\/∃xs,SqT K H p xs/\n=xs.length
 | _=>False
theorem YG:Y8 X (.builtin "len") (fun xs H Q=>∃x n,xs=[x]/\JT X.K x H n/\Q (.int n) H):=by
 intro pins s Z H xs us Q I r h
 obtain⟨x,n,rfl,e,q⟩:=h
 obtain⟨u,rfl,rx⟩:=WC r
 have hl:=Ug
 have hs:sizeLine=16777216:=sizeLine_eq
 cases x with
 | str y=>
  obtain⟨t,rfl⟩:=rx
  obtain⟨hy,e'⟩:y.length<=sizeLine/\n=y.length:=e
  subst e'
  exact len_str (by omega) ⟨.int _,H,I.tok _,⟨_,rfl⟩,q⟩
 | byt y=>
  obtain⟨t,rfl⟩:=rx
  obtain⟨hy,e'⟩:y.size<=sizeLine/\n=y.size:=e
  subst e'
  exact PySem.W.len_bytes (by omega) ⟨.int _,H,I.tok _,⟨_,rfl⟩,q⟩
 | ref p=>
  cases rx
  have e':(∃xs,SqL X.K H p xs/\n=xs.length)\/∃xs,SqT X.K H p xs/\n=xs.length:=e
  rcases e' with⟨xs,hx,e'⟩ | ⟨xs,hx,e'⟩
  ·subst e'
   obtain⟨its,r',pl,hz⟩:=I.list hx
   have hlen:=r'.length
   exact Calls.call_len_list pl.isList (by simp only[List.size_toArray];omega) ⟨.int xs.length,H,I.tok _,⟨_,by simp only[List.size_toArray];rw[hlen]⟩,q⟩
  ·subst e'
   obtain⟨its,r',pl,hz⟩:=I.tuple hx
   have hlen:=r'.length
   exact len_tuple pl (by simp only[List.size_toArray];omega) ⟨.int xs.length,H,I.tok _,⟨_,by simp only[List.size_toArray];rw[hlen]⟩,q⟩
 | _=>exact(show False from e).elim
end
structure ObjM(h:Heap)(x dx C:Addr)(mA:Str->Option Value):Prop where
 obj:h.get? x=some (PySem.W.instObj C dx)
 ns:h.Ns1 dx mA
 ne:dx≠x
theorem P5{h:Heap}{dx:Addr}{mA:Str->Option Value}(n:h.Ns1 dx mA):∃od,h.get? dx=some od/\∀name,PySem.W.lookIn name od=some (mA name):=by
 obtain⟨o,es,ep,ho,hd,hk,_,hm⟩:=n
 refine⟨o,ho,fun name=>?_⟩
 have e:=hm name;unfold nsFind findBy at e;rw[<-Array.find?_toList] at e;unfold PySem.W.lookIn;rw[hd]
 dsimp only
 split
 ·rename_i y q
  rw[q] at e
  exact congrArg some e
 ·rename_i q
  rw[q] at e
  have a:es.toList.any (·.refKey)=false:=by
   rw[List.any_eq_false];intro y hy
   obtain⟨z,t,hkey⟩:=hk y (Array.mem_toList_iff.mp hy)
   simp[DictEntry.refKey,hkey]
  have a':¬es.toList.any (·.refKey)=true:=by rw[a];exact Bool.false_ne_true
  rw[if_neg a']
  exact congrArg some e
theorem ObjM.look{h:Heap}{x dx C:Addr}{mA:Str->Option Value}(I:ObjM h x dx C mA):∃od,PySem.W.InstAt h x (PySem.W.instObj C dx) C (some od)/\∀name,PySem.W.lookIn name od=some (mA name):=
 let⟨od,ho,hl⟩:=P5 I.ns
 ⟨od,⟨I.obj,rfl,rfl,ho⟩,hl⟩
theorem RelO.some_of{v:V}{o:Option Value}(r:RelO (some v) o):∃u,o=some u/\RelV v u:=by
 cases o with
 | none=>exact(show False from r).elim
 | some u=>exact⟨u,rfl,r⟩
section
variable {P:Program} {w:World} {H H':Hp} {h h':Heap} {a C dx:Addr} {fs fs':List (Str×V)}
theorem Mz(hok:HOk P w H h)(e:H a=some (.ins C dx fs)):∃mA,ObjM h a dx C mA/\(∀f,RelO (fs.lookup f) (mA f))/\PySem.Within mA (fs.map (·.1))/\fs.length<=1000/\H dx=some (.own a):=by
 obtain⟨d,z,ne,ob,mA,n,r,q⟩:=(show ObjOk P w H h a (.ins C dx fs) from hok a _ e)
 exact⟨mA,⟨ob,n,ne⟩,r,q,z,d⟩
end
structure Cls(K:PySem.W.Frag)(C:Addr):Prop where
 pg:PySem.W.plainGet K C Str.empty=true
 hd:PySem.W.hasDictIn K C=true
 po:PySem.W.plainOver K C=true
 sa:PySem.W.findIn K (.ref C) "__setattr__" = some (some (.builtin "object.__setattr__"))
theorem Cls.get{K:PySem.W.Frag}{C:Addr}(c:Cls K C)(f:Str):PySem.W.plainGet K C f=true:=c.pg
section
variable {X:Cx} {pins:List (Addr×Obj)} {Z:St} {H:Hp} {s:Shared} {A:Around} {E:Value->Shared->Prop} {Q:Value->Shared->Prop} {c:Value} {b:Bool}
inductive TyOf(K:PySem.W.Frag)(H:Hp):V->Value->Prop where
 | non:TyOf K H .non (.type "NoneType")
 | bl (x:Bool):TyOf K H (.bl x) (.type "bool")
 | int (i:Int):TyOf K H (.int i) (.type "int")
 | str (x:Str):TyOf K H (.str x) (.type "str")
 | flt (x:UInt64):TyOf K H (.flt x) (.type "float")
 | lst {a:Addr} {xs:List V} (e:H a=some (.lst xs)):TyOf K H (.ref a) (.type "list")
 | frz {a:Addr} {o:Obj} {xs:List V} (e:H a=some (.frz o (.lst xs))):TyOf K H (.ref a) (.type "list")
 | tup {a:Addr} {xs:List V} (e:H a=some (.tup xs)):TyOf K H (.ref a) (.type "tuple")
 | dK {a:Addr} {kvs:List (Z4×V)} (e:H a=some (.dK kvs)):TyOf K H (.ref a) (.type "dict")
 | dT {a:Addr} {kvs:List (List Z4×V)} (e:H a=some (.dT kvs)):TyOf K H (.ref a) (.type "dict")
 | ins {a C dx:Addr} {fs:List (Str×V)} (e:H a=some (.ins C dx fs)) (cl:Cls K C) (ha:PySem.W.findIn K (.ref C) "__class__" = some (some (.builtin "object.__class__")))
   (hn:PySem.W.specialIn K (.builtin "object.__class__") "__get__" = some (some (.builtin "getset_descriptor.__get__"))) (htk:PySem.W.takesIn K (.builtin "object.__class__")=some true)
   (hm:PySem.W.mroIn K C (.type "object")=some true):TyOf K H (.ref a) (.ref C)
theorem P6{x:V}{u t:Value}(I:Inv X pins Z H s)(rx:RelV x u)(ty:TyOf X.K H x t)(e:PySem.W.kitOne X.K t c=some b)(h:∀tk,Q (.bool b) { s with toks:=tk }) :
  wpAny (model X.prog X.w) A (call (.builtin "isinstance") [u,c]) Q E s:=by
 cases ty with
 | non=>cases (show u=Value.none from rx);exact PySem.W.kia_one PySem.W.kitx_none I.kIn True.intro e (fun z=>nomatch z) h
 | bl y=>cases (show u=Value.bool y from rx);exact PySem.W.kia_one PySem.W.kitx_bool I.kIn True.intro e (fun z=>nomatch z) h
 | int i=>obtain⟨t,q⟩:=(show ∃t,u=Value.int i t from rx);cases q;exact PySem.W.kia_one PySem.W.kitx_int I.kIn True.intro e (fun z=>nomatch z) h
 | str y=>obtain⟨t,q⟩:=(show ∃t,u=Value.str y t from rx);cases q;exact PySem.W.kia_one PySem.W.kitx_str I.kIn True.intro e (fun z=>nomatch z) h
 | flt y=>obtain⟨t,q⟩:=(show ∃t,u=Value.float y t from rx);cases q;exact PySem.W.kia_one PySem.W.kitx_float I.kIn True.intro e (fun z=>nomatch z) h
 | @lst a xs ea=>
  cases (show u=Value.ref a from rx)
  obtain⟨_,_,n,_,h1⟩:=(show ObjOk X.prog X.w H s.heap a (.lst xs) from I.hok a _ ea)
  exact PySem.W.kia_one PySem.W.kitx_list I.kIn ⟨_,h1,rfl⟩ e (fun z=>nomatch z) h
 | @frz a ob xs ea=>
  cases (show u=Value.ref a from rx)
  obtain⟨_,_,_,n,_,h1⟩:=(show ObjOk X.prog X.w H s.heap a (.frz ob (.lst xs)) from I.hok a _ ea)
  exact PySem.W.kia_one PySem.W.kitx_list I.kIn ⟨_,h1,rfl⟩ e (fun z=>nomatch z) h
 | @tup a xs ea=>
  cases (show u=Value.ref a from rx)
  obtain⟨_,_,_,p⟩:=(show ObjOk X.prog X.w H s.heap a (.tup xs) from I.hok a _ ea)
  obtain⟨o,h1,h2,_⟩:=p
  exact PySem.W.kia_one PySem.W.kitx_tuple I.kIn ⟨o,h1,h2⟩ e (fun z=>nomatch z) h
 | @dK a kvs ea=>
  cases (show u=Value.ref a from rx)
  obtain⟨_,_,vs,_,p⟩:=(show ObjOk X.prog X.w H s.heap a (.dK kvs) from I.hok a _ ea)
  obtain⟨o,es,ep,h1,h2,_⟩:=p
  exact PySem.W.kia_one PySem.W.kitx_dict I.kIn ⟨o,h1,h2.1⟩ e (fun z=>nomatch z) h
 | @dT a kvs ea=>
  cases (show u=Value.ref a from rx)
  obtain⟨_,_,xs,_,o,es,ep,h1,h2,_⟩:=(show ObjOk X.prog X.w H s.heap a (.dT kvs) from I.hok a _ ea)
  exact PySem.W.kia_one PySem.W.kitx_dict I.kIn ⟨o,h1,h2.1⟩ e (fun z=>nomatch z) h
 | @ins a C dx fs ea cl ha hn htk hm=>
  cases (show u=Value.ref a from rx)
  obtain⟨mA,O,_⟩:=Mz I.hok ea
  obtain⟨od,J,_⟩:=O.look
  exact PySem.W.kia_one (PySem.W.kitx_own (cl.get _) cl.hd ha hn htk hm) I.kIn J e (fun z=>nomatch z) h
end
structure Room(k:Nat)(A:Around):Prop where
 hd:A.handled=none
 dp:A.depth+3*k+5<recursionLimit
 un:A.units+16*k+200<cLine
 gd:A.guards=some []
theorem Room.mono{j k:Nat}{A:Around}(r:Room k A)(h:j<=k):Room j A:=⟨r.hd,by have:=r.dp;omega,by have:=r.un;omega,r.gd⟩
theorem Room.deeper{k:Nat}{A:Around}(r:Room (k+1) A)(env:Env):Room k (A.deeper env):=
 ⟨r.hd,by have:=r.dp;show A.depth+1+3*k+5<_;omega,by have:=r.un;show A.units+3+16*k+200<_;omega,r.gd⟩
theorem Room.depth{k:Nat}{A:Around}(r:Room k A):A.depth<recursionLimit:=by have:=r.dp;omega
theorem Room.units{k:Nat}{A:Around}(r:Room k A):A.units+64<cLine:=by have:=r.un;omega
def P7:TA:=fun _ H Q=>Q [] H
def Ux(ta:TE)(tr:TA):TA:=fun Z H Q=>ta Z H fun x H1=>tr Z H1 fun xs H2=>Q (x::xs) H2
section
variable {X:Cx} {e:Expr} {es:List Expr} {te:TE} {t:TA} {pos:Pos}
theorem Xe:PA X [] P7:=fun _ _ _ _ H Q I h=>Calls.spliced_nil ⟨[],H,I,.nil,h⟩
theorem ZX(ha:PE X e te)(hr:PA X es t)(hs:starEach (e::es) X.env=(false,eval e X.env)::starEach es X.env:=by rfl):PA X (e::es) (Ux te t):=by
 intro pos pins s Z H Q I h;rw[hs]
 show wpAny _ _ (spliced ((false,eval e X.env)::backTo pos (starEach es X.env))) _ _ s
 refine Calls.spliced_cons (Z5 (ha pins s Z H _ I h) fun u s1 ⟨x,H1,I1,r1,q1⟩=>?_)
 exact Z5 (hr pos pins s1 Z H1 _ I1 q1) fun us s2 ⟨xs,H2,I2,r2,q2⟩=>⟨x::xs,H2,I2,.cons r1 r2,q2⟩
def Hb(t:TA):TE:=fun Z H Q=>t Z H fun xs H1=>xs.length<=sizeLine/\∀p,H1 p=none->Q (.ref p) (upd H1 p (.tup xs))
def JU(t:TA):TE:=fun Z H Q=>t Z H fun xs H1=>xs.length<=sizeLine/\∀p,H1 p=none->Q (.ref p) (upd H1 p (.lst xs))
theorem Ko{x1}(h:PA X es t):PE X (.Tuple es x1 pos) (Hb t):=by
 intro pins s Z H Q I hq
 refine wpAny_Tuple_spliced (Z5 (h pos pins s Z H _ I hq) fun us s1 ⟨xs,H1,I1,r,z,q⟩=>⟨by rw[<-r.length];exact z,?_⟩)
 have hf:H1 s1.heap.objs.size=none:=I1.hok.fresh (Nat.le_refl _)
 refine⟨.ref s1.heap.objs.size,upd H1 s1.heap.objs.size (.tup xs),I1.laid (t':=s1.toks) (fun b u e=>Heap.get?_push_of_some _ e) (Nat.le_refl _) ?_,rfl,q _ hf⟩
 exact⟨z,us,r,⟨_,Heap.get?_push_size _ rfl,rfl,_,rfl⟩⟩
theorem Qj(h:PA X es t):PE X (.List es pos) (JU t):=by
 intro pins s Z H Q I hq
 refine wpAny_List_spliced (Z5 (h pos pins s Z H _ I hq) fun us s1 ⟨xs,H1,I1,r,z,q⟩=>⟨by rw[<-r.length];exact z,?_⟩)
 have hf:H1 s1.heap.objs.size=none:=I1.hok.fresh (Nat.le_refl _)
 refine⟨.ref s1.heap.objs.size,upd H1 s1.heap.objs.size (.lst xs),I1.laid (t':=s1.toks) (fun b u e=>Heap.get?_push_of_some _ e) (Nat.le_refl _) ?_,rfl,q _ hf⟩
 exact⟨z,us,0,r,Heap.get?_push_size _ rfl⟩
end
abbrev Sp:=List V->Hp->VK->XK->Prop
abbrev O8:=List Env->Hp->Shared->XK->Value->Shared->Prop
structure MA(P:Program)(w:World)(K:PySem.W.Frag)(mg:Str->Option Value)(base:Heap)(A:Around)(outer:List Env)(s:Shared)(H:Hp):Prop where
 frames:A.frames=some outer
 mod:Mod K mg base
 bs:∀b o,base.get? b=some o->s.heap.get? b=some o/\H b=none
 bsz:base.objs.size<=s.heap.objs.size
 funs:s.heap.FunFrames base outer
 frf:∀b∈Qa outer,H b=none
 hok:HOk P w H s.heap
 bare:AllBare s.gens
def CE(outer:List Env)(P:Program)(w:World)(H:Hp)(s:Shared)(Q:VK)(u:Value)(s':Shared):Prop:=
 ∃v H',s'.os=s.os/\AllBare s'.gens/\Un (Qa outer) [] H H' s.heap s'.heap/\HOk P w H' s'.heap/\RelV v u/\Q v H'
def CR(CX:O8)(outer:List Env)(P:Program)(w:World)(H:Hp)(s:Shared)(Q:VK)(E:XK)(r:Result)(s':Shared):Prop:=
 match r with
 | .ok (.ret u)=>CE outer P w H s Q u s'
 | .ok _=>False
 | .error e=>CX outer H s E e s'
structure Vt(P:Program)(w:World)(K:PySem.W.Frag)(mg:Str->Option Value)(base:Heap)(CX:O8)(k:Nat)(f:Addr)(fd:FuncData)(ps:List Str)(sp:Sp):Prop where
 len:∀vs H Q E,sp vs H Q E->vs.length=ps.length
 run:∀(A:Around)(outer:List Env)(s:Shared)(H:Hp)(args:Args)(us:List Value)(vs:List V)(Q:VK)(E:XK),Room k A->MA P w K mg base A outer s H->BindsTo s fd args (ps.zip us)->Vals vs us->sp vs H Q E->
  codeAny (model P w) A (.call (.ref f) args) (CR CX outer P w H s Q E) s
section
variable {X:Cx} {pins:List (Addr×Obj)} {Z:St} {H:Hp} {s s':Shared}
theorem Inv.env0(I:Inv X pins Z H s):MA X.prog X.w X.K X.mg X.base X.A X.stack s H:=
 ⟨I.ok.frames,I.ok.mod,I.bs,Nat.le_trans I.ok.bsz I.sz,I.stack,I.stkFree,I.hok,I.bare⟩
theorem Inv.after{Q:VK}{u:Value}(I:Inv X pins Z H s)(h:CE X.stack X.prog X.w H s Q u s'):EP X pins Z Q u s':=by
 obtain⟨v,H',os,bare,un,hok,r,q⟩:=h
 obtain⟨hh,g,d,t,os'⟩:=s'
 obtain rfl:os'=s.os:=os
 exact⟨v,H',I.call (h':=hh) (g':=g) (d':=d) (t':=t) (ch:=[]) un hok bare (fun b z=>absurd z (by simp)),r,q⟩
end
def LG(sp:Sp)(dvs:List V)(E:XK)(t:TA):TE:=fun Z H Q=>t Z H fun vs H1=>sp (vs++dvs) H1 Q E
def Binds(K:PySem.W.Frag)(fd:FuncData)(ps:List Str)(ds:List Value):Prop:=
 ∀(s:Shared)(us:List Value),K.In s.heap->(us++ds).length=ps.length->BindsTo s fd ⟨us,[]⟩ (ps.zip (us++ds))
theorem Binds.all{K:PySem.W.Frag}{fd:FuncData}{ps:List Str}(h:∀us:List Value,us.length=ps.length->bindArgs fd ⟨us,[]⟩=pure (ps.zip us)):Binds K fd ps []:=fun s us _ hl=>by
 rw[List.append_nil] at hl ⊢
 exact .of_eq (h us hl)
def Qk(CX:O8)(X:Cx)(E:XK):Prop:=∀(pins:List (Addr×Obj))(Z:St)(H:Hp)(s:Shared)(e:Value)(s':Shared),Inv X pins Z H s->CX X.stack H s E e s'->X.xe e s'
section
variable {X:Cx} {CX:O8} {k:Nat} {f C:Addr} {fd:FuncData} {ps:List Str} {sp:Sp} {dvs:List V} {ds:List Value} {E:XK} {x m:Str} {p pos apos:Pos} {e o:Expr} {es:List Expr} {ta:TE} {t:TA}
theorem Kp{pins:List (Addr×Obj)}{Z:St}{H:Hp}{s:Shared}{Q:VK}{us:List Value}{vs:List V}(F:Vt X.prog X.w X.K X.mg X.base CX k f fd ps sp)(hr:Room k X.A)(hb:Binds X.K fd ps ds)(hd:Vals dvs ds)(hx:Qk CX X E)
  (I:Inv X pins Z H s) (r:Vals vs us) (h:sp (vs++dvs) H Q E):wpAny (model X.prog X.w) X.A (call (.ref f) us) (EP X pins Z Q) X.xe s:=by
 have r2:Vals (vs++dvs) (us++ds):=r.append hd
 have hl:(us++ds).length=ps.length:=by rw[<-r2.length];exact F.len _ _ _ _ h
 refine wpAny_call (codeAny_mono (F.run X.A X.stack s H ⟨us,[]⟩ (us++ds) (vs++dvs) Q E hr I.env0 (hb s us I.kIn hl) r2 h) fun r s' hq=>?_)
 cases r with
 | error e=>exact hx pins Z H s e s' I hq
 | ok fl=>
  cases fl with
  | ret u=>exact I.after hq
  | next=>exact False.elim hq
  | brk=>exact False.elim hq
  | cont=>exact False.elim hq
theorem MB(F:Vt X.prog X.w X.K X.mg X.base CX k f fd ps sp)(hr:Room k X.A)(hg:Gl X x)(hm:X.mg x=some (.ref f))(hk:PySem.W.keepIn X.K (.ref f)=true)(hb:Binds X.K fd ps ds)(hd:Vals dvs ds)(hx:Qk CX X E)
  (ha:PA X (e::es) t) (hdb:(x==("__debug__" : Str))=false:=by decide) (he:starEach (e::es) X.env=(false,eval e X.env)::starEach es X.env:=by rfl) (hpl:(backTo pos (starEach es X.env)).any (·.1)=false:=by rfl) :
  PE X (.Call (.Name x p) (e::es) [] pos) (LG sp dvs E t):=by
 intro pins s Z H Q I h
 refine wpAny_Call_Name_kw (Vs I hg hm ?_ hdb)
 refine PySem.W.callWith_K (h₀:=X.base) I.ok.mod.kin hk (Z5 (ha pos pins s Z H _ I h) fun us s1 ⟨vs,H1,I1,r,q⟩=>⟨I1.kIn,?_⟩) he hpl
 exact Kp F hr hb hd hx I1 r q
end
structure ZE(N P:List Str)(sc:Scope):Prop where
 kind:sc.kind = .function
 co:sc.isCoroutine=false
 gen:sc.isGenerator=false
 nd:N.Nodup
 pre:N.take P.length=P
 par:∀x∈P,sc.names.lookup x=some .local\/sc.names.lookup x=some .cell
 nofree:∀y∈sc.names,y.2≠.free
theorem TY{kindOf:Str->Option NameKind}{x:Str}:∀{binds:List (Str×Value)}{m:Str->Option Value},(∀v,(x,v)∉binds)->bindL kindOf binds m x=m x
 | [],_,_=>rfl
 | (n,v)::r,m,h=>by
  unfold bindL;rw[TY fun w hw=>h w (List.mem_cons_of_mem _ hw)]
  split
  ·have:x≠n:=by rintro rfl;exact h v List.mem_cons_self
   simp[this]
  ·rfl
theorem TZ{kindOf:Str->Option NameKind}{x:Str}:∀{binds:List (Str×Value)}{m:Str->Option Value},(∀v,(x,v)∉binds)->bindC kindOf binds m x=m x
 | [],_,_=>rfl
 | (n,v)::r,m,h=>by
  unfold bindC;rw[TZ fun w hw=>h w (List.mem_cons_of_mem _ hw)]
  split
  ·rfl
  ·have:x≠n:=by rintro rfl;exact h v List.mem_cons_self
   simp[this]
theorem T0{kindOf:Str->Option NameKind}{x:Str}{v:Value}:∀{P:List Str}{vs:List Value}{i:Nat}{m:Str->Option Value},P.Nodup->P[i]?=some x->vs[i]?=some v->kindOf x=some .local->
  bindL kindOf (P.zip vs) m x=some v
 | [],_,_,_,_,h,_,_=>by simp at h
 | _::_,[],_,_,_,_,h,_=>by simp at h
 | p::P,w::vs,0,m,nd,h1,h2,hk=>by
  simp at h1 h2;subst h1;subst h2
  show bindL kindOf ((p,w)::P.zip vs) m p=_
  unfold bindL;rw[TY fun v hv=>(List.nodup_cons.mp nd).1 (List.of_mem_zip hv).1,if_pos hk]
  simp
 | p::P,w::vs,i+1,m,nd,h1,h2,hk=>by
  show bindL kindOf ((p,w)::P.zip vs) m x=_
  unfold bindL
  exact T0 (i:=i) (List.nodup_cons.mp nd).2 (by simpa using h1) (by simpa using h2) hk
theorem T1{kindOf:Str->Option NameKind}{x:Str}{v:Value}:∀{P:List Str}{vs:List Value}{i:Nat}{m:Str->Option Value},P.Nodup->P[i]?=some x->vs[i]?=some v->kindOf x≠some .local->
  bindC kindOf (P.zip vs) m x=some v
 | [],_,_,_,_,h,_,_=>by simp at h
 | _::_,[],_,_,_,_,h,_=>by simp at h
 | p::P,w::vs,0,m,nd,h1,h2,hk=>by
  simp at h1 h2;subst h1;subst h2
  show bindC kindOf ((p,w)::P.zip vs) m p=_
  unfold bindC;rw[TZ fun v hv=>(List.nodup_cons.mp nd).1 (List.of_mem_zip hv).1,if_neg hk]
  simp
 | p::P,w::vs,i+1,m,nd,h1,h2,hk=>by
  show bindC kindOf ((p,w)::P.zip vs) m x=_
  unfold bindC
  exact T1 (i:=i) (List.nodup_cons.mp nd).2 (by simpa using h1) (by simpa using h2) hk
def start(N:List Str)(vs:List V):St:=vs.map some++List.replicate (N.length-vs.length) none
def U1(CX:O8)(P:Program)(w:World)(K:PySem.W.Frag)(mg:Str->Option Value)(base:Heap)(N:List Str)(qual:Str)(scope:Scope)(f:Addr)(cd:Value)(A:Around)(outer:List Env)(s:Shared)(H:Hp)(E:XK):Cx where
 prog:=P
 w:=w
 K:=K
 mg:=mg
 base:=base
 A:=A.deeper (envOfC qual scope s.heap.objs.size f cd)
 N:=N
 s₀:=s
 H₀:=H
 env:=envOfC qual scope s.heap.objs.size f cd
 outer:=outer
 stack:=envOfC qual scope s.heap.objs.size f cd::outer
 ex:=[]
 calm:=true
 fn:=fun _=>true
 pn:=[]
 xe:=fun e s'=>wpAny (model P w) (A.deeper (envOfC qual scope s.heap.objs.size f cd)) (leaving (envOfC qual scope s.heap.objs.size f cd) e) (fun _ s''=>CX outer H s E e s'') (fun e' s''=>CX outer H s E e' s'') s'
theorem Rj{sc:Scope}{n:Nat}{x:Str}(h:sc.names.lookup x=some .cell):∃c,(cellsFrom n sc.names []).lookup x=some c:=by
 have q:=PySem.W.cellsFrom_some sc.names n [] (.inl h)
 exact Option.isSome_iff_exists.mp q
theorem P8{CX:O8}{P:Program}{w:World}{K:PySem.W.Frag}{mg:Str->Option Value}{base:Heap}{N ps:List Str}{qual:Str}{scope:Scope}{f:Addr}{cd:Value}{A:Around}{outer:List Env}{s s1:Shared}{H:Hp}{E:XK}{us:List Value}{vs:List V}
  (S:ZE N ps scope) (hd:A.handled=none) (e0:MA P w K mg base A outer s H) (hl:vs.length=ps.length) (r:Vals vs us)
  (x:InCallC s s.heap.objs.size (bindL (envOfC qual scope s.heap.objs.size f cd).kindOf (ps.zip us) fun _=>none) (cellsFrom (s.heap.objs.size+1) scope.names []) (bindC (envOfC qual scope s.heap.objs.size f cd).kindOf (ps.zip us) fun _=>none) s1) :
  Inv (U1 CX P w K mg base N qual scope f cd A outer s H E) [] (start N vs) H s1:=by
 have hpl:ps.length<=N.length:=by have:=congrArg List.length S.pre;rw[List.length_take] at this;omega
 obtain⟨h1,tk,rfl,hk⟩:=x.done
 have noA:∀b:Addr,b∉(U1 CX P w K mg base N qual scope f cd A outer s H E).ex:=fun b z=>absurd (show b∈([]:List Addr) from z) (by simp)
 refine⟨⟨e0.mod,S.kind,rfl,rfl,Nat.le_refl _,fun y z c h1 h2=>?_,fun y hy=>?_,fun y c _ h=>?_,fun _=>hd,Around.frames_deeper e0.frames,.inr ⟨rfl,rfl⟩,fun b z=>absurd z (noA b),e0.bs,e0.bsz,fun b _ _=>noA b,fun b z=>absurd z (noA b),e0.funs,e0.frf⟩,
  rfl,e0.bare,Un.kept hk,⟨_,x.toInCall.ns,fun i y v h1 h2 h3=>?_⟩,fun y c h=>⟨_,x.cell y c h⟩,e0.hok.fresh (Nat.le_refl _),fun y c h=>?_,fun p hp=>absurd (show p∈([]:List (Addr×Obj)) from hp) (by simp),e0.hok.kept hk,?_⟩
 ·exact name_of_addr x.apart (PySem.mem_of_lookup h1) (PySem.mem_of_lookup h2)
 ·have hy:scope.names.lookup y=some .cell\/scope.names.lookup y=some .free:=hy
  rcases hy with hy | hy
  ·exact Rj hy
  ·exact absurd rfl (S.nofree _ (PySem.mem_of_lookup hy))
 ·exact Nat.le_of_lt (x.above y c (PySem.mem_of_lookup h))
 ·have hi:i<vs.length:=by
   unfold start at h2
   by_cases hi:i<vs.length
   ·exact hi
   ·rw[List.getElem?_append_right (by simpa using hi)] at h2
    rw[List.getElem?_replicate] at h2
    split at h2<;>cases h2
  have ha:vs[i]?=some v:=by
   unfold start at h2;rw[List.getElem?_append_left (by simpa using hi),List.getElem?_map] at h2
   cases e:vs[i]? with
   | none=>rw[e] at h2;cases h2
   | some a=>rw[e] at h2;cases h2;rfl
  obtain⟨u,hu,rv⟩:=r.get ha
  have hp:ps[i]?=some y:=by
   rw[<-S.pre,List.getElem?_take_of_lt (by omega)];exact h1
  have ndP:ps.Nodup:=by rw[<-S.pre];exact S.nd.sublist (List.take_sublist _ _)
  refine⟨u,rv,?_⟩
  rcases S.par y (List.mem_of_getElem? hp) with k | k
  ·exact .inl ⟨k,T0 ndP hp hu k⟩
  ·obtain⟨c,e⟩:=Rj (n:=s.heap.objs.size+1) k
   refine .inr ⟨.inl k,c,e,?_⟩
   have q:=x.cell y c e
   rw[T1 ndP hp hu (by show scope.names.lookup y≠_;rw[k];decide)] at q
   exact q
 ·exact e0.hok.fresh (Nat.le_of_lt (x.above y c (PySem.mem_of_lookup h)))
 ·unfold start
  show _=N.length
  rw[List.length_append,List.length_map,List.length_replicate];omega
theorem LH{CX:O8}{P:Program}{w:World}{K:PySem.W.Frag}{mg:Str->Option Value}{base:Heap}{k:Nat}{f:Addr}{name qual:Str}{params:Arguments}{body:List Stmt}{scope:Scope}{dV kV doc pm cdv ct oc:Value}{an od:Option Addr}
  {osl:Array (Option Value)} {N ps:List Str} {sp:Sp} (lk:K.lookup f=some ⟨oc,od,.func (PySem.W.fnOf name qual params body scope dV kV doc pm an cdv ct),osl⟩) (hcd:PySem.W.codeIn K cdv qual=true) (S:ZE N ps scope)
  (len:∀vs H Q E,sp vs H Q E->vs.length=ps.length)
  (hbody:∀(A:Around)(outer:List Env)(s:Shared)(H:Hp)(vs:List V)(Q:VK)(E:XK),Room k (A.deeper (envOfC qual scope s.heap.objs.size f cdv))->sp vs H Q E->
   ∃t,PSs (U1 CX P w K mg base N qual scope f cdv A outer s H E) body t/\t { nx:=fun _ H'=>Q .non H',rt:=Q } (start N vs) H) :
  Vt P w K mg base CX (k+1) f (PySem.W.fnOf name qual params body scope dV kV doc pm an cdv ct) ps sp:=by
 refine⟨len,fun A outer s H args us vs Q E hr e0 hb r hsp=>?_⟩
 have hl:=len _ _ _ _ hsp
 have KX:K.In s.heap:=e0.mod.kin.keeps fun b o e=>(e0.bs b o e).1
 have lim:s.heap.NoLimit:=e0.mod.nolimit.keeps fun b o e=>(e0.bs b o e).1
 have hkind:∀y∈ps.zip us,scope.names.lookup y.1=some .local\/(scope.names.lookup y.1=some .cell/\((cellsFrom (s.heap.objs.size+1) scope.names []).lookup y.1).isSome=true):=fun⟨n,v⟩ hy=>by
  rcases S.par n (List.of_mem_zip hy).1 with q | q
  ·exact .inl q
  ·exact .inr ⟨q,PySem.W.cellsFrom_some _ _ _ (.inl q)⟩
 refine codeAny_call_function hr.depth (KX _ _ lk) rfl S.co S.gen rfl (PySem.W.codeRec_of KX hcd) (hb _ _ _ _ ?_)
 refine wpAny_newFunctionEnv_cells S.kind hkind fun env he s1 x=>?_
 subst he
 refine⟨lim.keeps x.toInCall.keep,codeAny_func ?_⟩
 obtain⟨t,ht,hq⟩:=hbody A outer s H vs Q E (hr.deeper _) hsp
 have I:Inv (U1 CX P w K mg base N qual scope f cdv A outer s H E) [] (start N vs) H s1:=P8 S hr.hd e0 hl r x
 refine wpAny_mono (ht [] s1 (start N vs) H _ I hq) (fun fl s' hs=>?_) fun e s' hs=>hs
 have fin:∀{Z':St}{H':Hp}{v:V}{u:Value},Inv (U1 CX P w K mg base N qual scope f cdv A outer s H E) [] Z' H' s'->RelV v u->Q v H'->CE outer P w H s Q u s':=
  fun{Z' H' v u} J rv q=>⟨v,H',J.os,J.bare,J.base,J.hok,rv,q⟩
 cases fl with
 | ret u=>
  obtain⟨v,Z',H',J,rv,q⟩:=hs
  exact fin J rv q
 | next=>
  obtain⟨Z',H',J,q⟩:=hs
  exact fin (v:=V.non) (u:=Value.none) J rfl q
 | brk=>
  obtain⟨_,_,_,q⟩:=hs
  exact False.elim q
 | cont=>
  obtain⟨_,_,_,q⟩:=hs
  exact False.elim q
section
variable {X:Cx} {x:Str} {p pos:Pos} {e:Expr} {es:List Expr} {t:TA} {id T:String} {r:List V->Hp->VK->Prop}
def IA(r:List V->Hp->VK->Prop)(t:TA):TE:=fun Z H Q=>t Z H fun vs H1=>r vs H1 Q
theorem U2(hc:Y8 X (.builtin id) r)(hg:Gl X x)(hm:X.mg x=none)(hv:bootBuiltins x=some (.builtin id))(ha:PA X (e::es) t)(hn:x≠"__name__":=by decide)(hdb:(x==("__debug__" : Str))=false:=by decide)
  (he:starEach (e::es) X.env=(false,eval e X.env)::starEach es X.env:=by rfl) (hpl:(backTo pos (starEach es X.env)).any (·.1)=false:=by rfl):PE X (.Call (.Name x p) (e::es) [] pos) (IA r t):=by
 intro pins s Z H Q I h
 refine wpAny_Call_Name_kw (Wj I hg hm hv ?_ hn hdb)
 exact PyProof.Rows.callWith_builtin1 (Z5 (ha pos pins s Z H _ I h) fun us s1 ⟨vs,H1,I1,r1,q1⟩=>hc pins s1 Z H1 vs us Q I1 r1 q1) he hpl
theorem T2(hc:Y8 X (.type T) r)(hg:Gl X x)(hm:X.mg x=none)(hv:bootBuiltins x=some (.type T))(ha:PA X (e::es) t)(hn:x≠"__name__":=by decide)(hdb:(x==("__debug__" : Str))=false:=by decide)
  (he:starEach (e::es) X.env=(false,eval e X.env)::starEach es X.env:=by rfl) (hpl:(backTo pos (starEach es X.env)).any (·.1)=false:=by rfl):PE X (.Call (.Name x p) (e::es) [] pos) (IA r t):=by
 intro pins s Z H Q I h
 refine wpAny_Call_Name_kw (Wj I hg hm hv ?_ hn hdb)
 exact PyProof.Rows.callWith_type1 (Z5 (ha pos pins s Z H _ I h) fun us s1 ⟨vs,H1,I1,r1,q1⟩=>hc pins s1 Z H1 vs us Q I1 r1 q1) he hpl
end
end L2
namespace HT
open PySem PyProof.Rows
section
variable {prog:Program} {w:World} {A:Around} {E:Value->Shared->Prop} {s:Shared}
def sIx(n d:Nat):Option Int->Nat
 | none=>d
 | some v=>if v<0 then(v+(n:Int)).toNat else min v.toNat n
theorem sIx_none(n d:Nat):sIx n d none=d:=rfl
theorem sIx_nat(n d k:Nat):sIx n d (some (k:Int))=min k n:=by
 show(if(k:Int)<0 then((k:Int)+(n:Int)).toNat else min (k:Int).toNat n)=min k n
 rw[if_neg (by omega),Int.toNat_natCast]
end
end HT
namespace L2
open PySem PySem.Spec PyProof.Rows
abbrev TO:=St->Hp->(Option Int->Hp->Prop)->Prop
def PO(X:Cx)(e:Option Expr)(t:TO):Prop:=
 ∀(pins:List (Addr×Obj))(s:Shared)(Z:St)(H:Hp)(Q:Option Int->Hp->Prop),Inv X pins Z H s->t Z H Q->
  wpAny (model X.prog X.w) X.A (evalPart e X.env) (fun u s'=>∃o H',Inv X pins Z H' s'/\IsPart u o/\Q o H') X.xe s
def MC:TO:=fun _ H Q=>Q none H
def JV(t:TE):TO:=fun Z H Q=>t Z H fun x H1=>∃i,x = .int i/\Q (some i) H1
theorem Ql{ns:List Int}:∀{us:List Value},Vals (ns.map V.int) us->IntsAre us ns:=by
 induction ns with
 | nil=>intro us r;rw[List.map_nil] at r;cases r;exact .nil
 | cons n ns ih=>
  intro us r;rw[List.map_cons] at r
  cases r with
  | cons r1 r2=>
   obtain⟨t,e⟩:=r1
   subst e
   exact .cons n t (ih r2)
section
variable {X:Cx} {e:Expr} {te:TE} {lo hi:Option Expr} {tl th:TO} {pos p2:Pos}
theorem MD:PO X none MC:=by
 intro pins s Z H Q I h;rw[evalPart_none]
 exact wpAny_pure ⟨none,H,I,.none,h⟩
theorem Pb(h:PE X e te):PO X (some e) (JV te):=by
 intro pins s Z H Q I hw;rw[evalPart_some]
 refine Z5 (h pins s Z H _ I hw) fun u s1 ⟨x,H1,I1,r1,q1⟩=>?_
 obtain⟨i,rfl,q⟩:=q1
 obtain⟨t,rfl⟩:=r1
 exact⟨some i,H1,I1,.int i t,q⟩
def Ht(X:Cx)(r:V->Option Int->Option Int->Hp->VK->Prop):Prop:=
 ∀(pins:List (Addr×Obj))(s:Shared)(Z:St)(H:Hp)(x:V)(v vl vu:Value)(lo hi:Option Int)(sl:Addr)(Q:VK),Inv X pins Z H s->RelV x v->s.heap.IsSliceOf sl vl vu .none->IsPart vl lo->IsPart vu hi->r x lo hi H Q->
  ∃T id,typeLookup (.type T) "__getitem__" = pure (some (.builtin id))/\s.TypeIs v T/\wpAny (model X.prog X.w) X.A (getItem v (.ref sl)) (EP X pins Z Q) X.xe s
def Hz(r:V->Option Int->Option Int->Hp->VK->Prop)(te:TE)(tl th:TO):TE:=fun Z H Q=>te Z H fun x H1=>tl Z H1 fun l H2=>th Z H2 fun u H3=>r x l u H3 Q
theorem Rk{r:V->Option Int->Option Int->Hp->VK->Prop}(hr:Ht X r)(he:PE X e te)(hl:PO X lo tl)(hu:PO X hi th):PE X (.Subscript e (.Slice lo hi none p2) pos) (Hz r te tl th):=by
 intro pins s Z H Q I h
 refine Subscript_ (Z5 (he pins s Z H _ I h) fun v s1 ⟨x,H1,I1,r1,q1⟩=>?_)
 refine wpAny_Slice (Z5 (hl pins s1 Z H1 _ I1 q1) fun vl s2 ⟨l,H2,I2,pl,q2⟩=>Z5 (hu pins s2 Z H2 _ I2 q2) fun vu s3 ⟨u,H3,I3,pu,q3⟩=>?_)
 rw[evalPart_none]
 refine wpAny_pure ?_
 have I4:Inv X pins Z H3 { s3 with heap:=s3.heap.push { cls:=.type "slice",data:=.fields #[vl,vu,.none] } }:=I3.kept (t':=s3.toks) fun b ob q=>Heap.get?_push_of_some _ q
 obtain⟨T,id,hT,ht,hg⟩:=hr pins { s3 with heap:=s3.heap.push { cls:=.type "slice",data:=.fields #[vl,vu,.none] } } Z H3 x v vl vu l u s3.heap.objs.size Q I4 r1 (Heap.IsSliceOf.new ..) pl pu q3
 show wpAny (model X.prog X.w) X.A (subscriptTail e (.Slice lo hi none p2) v (.ref s3.heap.objs.size)) (EP X pins Z Q) X.xe { s3 with heap:=s3.heap.push { cls:=.type "slice",data:=.fields #[vl,vu,.none] } }
 exact tail_any (ops:=[.ref s3.heap.objs.size,v]) ht hT hg (by with_unfolding_all rfl)
def P9(xs:List V)(lo hi:Option Int):List V:=(xs.drop (HT.sIx xs.length 0 lo)).take (HT.sIx xs.length xs.length hi-HT.sIx xs.length 0 lo)
theorem Rl(xs:List V)(lo hi:Option Int):(P9 xs lo hi).length<=xs.length:=by
 unfold P9;rw[List.length_take,List.length_drop];omega
end
def Qb(n:Nat)(i:Int):Option Nat:=if 0<=i then(if i<n then some i.toNat else none) else if -(n:Int)<=i then some (i+n).toNat else none
def WT{α:Type}(xs:List α)(i:Int):Option α:=(Qb xs.length i).bind fun j=>xs[j]?
theorem Pc{n:Nat}{i:Int}{j:Nat}(h:Qb n i=some j):seqIndex? i n=some j/\j<n/\-(n:Int)<=i/\i<n:=by
 unfold Qb at h
 by_cases h0:0<=i
 ·rw[if_pos h0] at h
  by_cases h1:i<n
  ·rw[if_pos h1] at h
   have e:i.toNat=j:=Option.some.inj h
   exact⟨by rw[seqIndex_of h0 h1,e],by omega,by omega,h1⟩
  ·rw[if_neg h1] at h;cases h
 ·rw[if_neg h0] at h
  by_cases h1 : -(n:Int)<=i
  ·rw[if_pos h1] at h
   have e:(i+n).toNat=j:=Option.some.inj h
   exact⟨by rw[seqIndex_neg (by omega) h1,e],by omega,h1,by omega⟩
  ·rw[if_neg h1] at h;cases h
theorem Sy{α:Type}{xs:List α}{i:Int}{v:α}(h:WT xs i=some v):∃j,seqIndex? i xs.length=some j/\xs[j]?=some v/\j<xs.length/\-(xs.length:Int)<=i/\i<xs.length:=by
 unfold WT at h
 cases e:Qb xs.length i with
 | none=>rw[e] at h;cases h
 | some j=>
  rw[e] at h
  obtain⟨h1,h2,h3,h4⟩:=Pc e
  exact⟨j,h1,h,h2,h3,h4⟩
theorem UJ{α:Type}{xs:List α}{j:Nat}{v:α}(h:xs[j]?=some v):WT xs (j:Int)=some v:=by
 have hj:j<xs.length:=(List.getElem?_eq_some_iff.mp h).1
 have e:Qb xs.length (j:Int)=some j:=by
  unfold Qb
  rw[if_pos (by omega),if_pos (by omega)];simp
 unfold WT;rw[e];exact h
def Sz(b:Expr):Prop:=∀o i,subscripted b false o i=operate [o,i] (getItem o i)
def IxR(X:Cx)(r:R2):Prop:=
 ∀(value slice:Expr)(pins:List (Addr×Obj))(s:Shared)(Z:St)(H:Hp)(x y:V)(v u:Value)(Q:VK),Inv X pins Z H s->RelV x v->RelV y u->r x y H Q->
  subscripted slice false v u=operate [v,u] (getItem v u)->wpAny (model X.prog X.w) X.A (subscriptTail value slice v u) (EP X pins Z Q) X.xe s
def IB(X:Cx)(id:String)(r:V->List V->Hp->VK->Prop):Prop:=
 ∀(pins:List (Addr×Obj))(s:Shared)(Z:St)(H:Hp)(x:V)(xs:List V)(v:Value)(us:List Value)(Q:VK),Inv X pins Z H s->RelV x v->Vals xs us->r x xs H Q->
  wpAny (model X.prog X.w) X.A (call (.builtin id) (v::us)) (EP X pins Z Q) X.xe s
section
variable {X:Cx} {a b:Expr} {ta tb:TE} {pos:Pos}
theorem IxR.or{r r':R2}(h:IxR X r)(h':IxR X r'):IxR X (fun x y H Q=>r x y H Q\/r' x y H Q):=by
 intro value slice pins s Z H x y v u Q I rx ry q hs
 rcases q with q | q
 ·exact h value slice pins s Z H x y v u Q I rx ry q hs
 ·exact h' value slice pins s Z H x y v u Q I rx ry q hs
theorem Pd{r:R2}(hr:IxR X r)(ha:PE X a ta)(hb:PE X b tb)(hs:Sz b):PE X (.Subscript a b pos) (Kg r ta tb):=by
 intro pins s Z H Q I h
 exact Subscript_ (Kh ha hb I h fun v u s2 x y H2 I2 rx ry q=>hr a b pins s2 Z H2 x y v u Q I2 rx ry q (hs _ _))
def ME(K:PySem.W.Frag):R2:=fun x y H Q=>∃p xs i v,x = .ref p/\y = .int i/\SqL K H p xs/\WT xs i=some v/\Q v H
def JW(K:PySem.W.Frag):R2:=fun x y H Q=>∃p xs i v,x = .ref p/\y = .int i/\SqT K H p xs/\WT xs i=some v/\Q v H
def JX:R2:=fun x y H Q=>∃z i c,x = .str z/\y = .int i/\z.length<=sizeLine/\WT z.cps.toList i=some c/\Q (.str ⟨#[c]⟩) H
theorem ix_list:IxR X (ME X.K):=by
 intro value slice pins s Z H x y v u Q I rx ry h hs
 obtain⟨p,xs,i,z,rfl,rfl,hq,he,q⟩:=h
 cases rx
 obtain⟨t,rfl⟩:=ry
 obtain⟨its,r,pl,hz⟩:=I.list hq
 obtain⟨j,h1,h2,h3,h4,h5⟩:=Sy he
 obtain⟨w,ew,Uv⟩:=r.get h2
 have hl:=r.length;have hn:=Ug
 have fin:EP X pins Z Q w s:=⟨z,H,I,Uv,q⟩
 by_cases h0:0<=i
 ·have hj:i.toNat=j:=by
   rw[seqIndex_of h0 h5] at h1
   exact Option.some.inj h1
  exact item_listR pl.isList h0 (by omega) (by rw[hj];simpa using ew) fin hs
 ·have hj:(i+(its.toArray.size:Int)).toNat=j:=by
   rw[seqIndex_neg (by omega) h4] at h1;rw[List.size_toArray,<-hl]
   exact Option.some.inj h1
  exact subscriptTail_builtinR (x:=w) pl.isList.typeIs slot_list_getitem.lookup
   (wpAny_getItem_list_neg (Q:=fun r s'=>r=w/\EP X pins Z Q r s') pl.isList (by omega) (by rw[List.size_toArray]<;>omega) (by omega) (by rw[hj];simpa using ew) ⟨rfl,fin⟩) hs
theorem ix_tup:IxR X (JW X.K):=by
 intro value slice pins s Z H x y v u Q I rx ry h hs
 obtain⟨p,xs,i,z,rfl,rfl,hq,he,q⟩:=h
 cases rx
 obtain⟨t,rfl⟩:=ry
 obtain⟨its,r,pl,hz⟩:=I.tuple hq
 obtain⟨j,h1,h2,h3,h4,h5⟩:=Sy he
 obtain⟨w,ew,Uv⟩:=r.get h2
 have hl:=r.length;have hn:=Ug
 have fin:EP X pins Z Q w s:=⟨z,H,I,Uv,q⟩
 exact subscriptTail_builtinR (x:=w) pl.typeIs slot_tuple_getitem.lookup
  (getItem_tuple (j:=j) (Q:=fun r s'=>r=w/\EP X pins Z Q r s') pl (by omega) (by omega) (by rw[List.size_toArray,<-hl];exact h1) (by simpa using ew) ⟨rfl,fin⟩) hs
theorem Kq:IxR X JX:=by
 intro value slice pins s Z H x y v u Q I rx ry h hs
 obtain⟨z,i,c,rfl,rfl,hz,he,q⟩:=h
 obtain⟨t,rfl⟩:=rx
 obtain⟨t',rfl⟩:=ry
 obtain⟨j,h1,h2,h3,h4,h5⟩:=Sy he
 have hl:z.cps.toList.length=z.length:=by simp[Str.length]
 rw[hl] at h1 h4 h5
 have hn:=Ug
 exact tail_any (typeIs_str s z t) slot_str_getitem.lookup (getItem_str (c:=c) (by
  have e1:decide (i < -(2^63:Int))=false:=decide_eq_false (by omega)
  have e2:decide (i ≥ 2^63)=false:=decide_eq_false (by omega)
  rw[e1,e2,Bool.or_false]) (by rw[h1];simpa using h2) ⟨.str ⟨#[c]⟩,H,I.tok _,⟨_,rfl⟩,q⟩) hs
def Hu(K:PySem.W.Frag):R2:=fun x y H Q=>ME K x y H Q\/JW K x y H Q\/JX x y H Q
theorem Kr:IxR X (Hu X.K):=ix_list.or (ix_tup.or Kq)
theorem Qm(its:List Value)(n j:Nat)(u:Value):Obj.mapSeq (·.setIfInBounds j u) { cls:=.type "list",data:=.seq its.toArray n }={ cls:=.type "list",data:=.seq (its.set j u).toArray n }:=by
 simp[Obj.mapSeq]
theorem Inv.lst{pins:List (Addr×Obj)}{Z:St}{H:Hp}{s:Shared}{p:Addr}{xs:List V}(I:Inv X pins Z H s)(h:H p=some (.lst xs)) :
  ∃(its:List Value) (n:Nat),Vals xs its/\s.heap.get? p=some { cls:=.type "list",data:=.seq its.toArray n }/\xs.length<=sizeLine:=by
 obtain⟨z,its,n,r,e⟩:=I.hok p _ h
 exact⟨its,n,r,e,z⟩
theorem Inv.lstUpd{pins:List (Addr×Obj)}{Z:St}{H:Hp}{s:Shared}{p:Addr}{xs ys:List V}{its its':List Value}{n n':Nat}{f:Obj->Obj}(I:Inv X pins Z H s)(h:H p=some (.lst xs))
  (ho:s.heap.get? p=some { cls:=.type "list",data:=.seq its.toArray n }) (hf:f { cls:=.type "list",data:=.seq its.toArray n }={ cls:=.type "list",data:=.seq its'.toArray n' }) (r:Vals ys its') (hz:ys.length<=sizeLine) (t:Nat) :
  Inv X pins Z (upd H p (.lst ys)) { s with heap:=s.heap.update p f,toks:=t }:=by
 have e:(s.heap.update p f).get? p=some { cls:=.type "list",data:=.seq its'.toArray n' }:=by
  rw[Heap.get?_update_self f ho (by rw[hf]<;>rfl),hf]
 refine I.write (x:=p) (e:=p) (by rw[h];trivial) (.inl rfl) (fun b u hb q=>(Heap.get?_update_other _ _ (Ne.symm hb)).trans q) ⟨_,e⟩ ?_
 exact⟨hz,its',n',r,e⟩
def LI:V->V->V->Hp->(Hp->Prop)->Prop:=fun o i v H Q=>∃p xs k j,o = .ref p/\i = .int k/\H p=some (.lst xs)/\Qb xs.length k=some j/\Q (upd H p (.lst (xs.set j v)))
theorem Rn:JF X LI:=by
 intro pins s Z H o i v ov iv u Q I ro ri rv h
 obtain⟨p,xs,k,j,rfl,rfl,hp,hj,q⟩:=h
 cases ro
 obtain⟨t,rfl⟩:=ri
 obtain⟨its,n,r,ho,hz⟩:=I.lst hp
 obtain⟨h1,h2,h3,h4⟩:=Pc hj
 have hl:=r.length;have hn:=Ug
 have I':Inv X pins Z (upd H p (.lst (xs.set j v))) { s with heap:=s.heap.update p (Obj.mapSeq (·.setIfInBounds j u)) }:=
  I.lstUpd hp ho (Qm its n j u) (r.set rv j) (by rw[List.length_set];exact hz) s.toks
 by_cases h0:0<=k
 ·have hk:k.toNat=j:=by
   rw[seqIndex_of h0 h4] at h1
   exact Option.some.inj h1
  exact PySem.W.ki_setAt ho h0 (by omega) (by rw[List.size_toArray,<-hl];exact h4) (by rw[hk];exact⟨_,I',q⟩)
 ·have hk:(k+(its.toArray.size:Int)).toNat=j:=by
   rw[seqIndex_neg (by omega) h3] at h1;rw[List.size_toArray,<-hl]
   exact Option.some.inj h1
  exact PySem.W.ki_setBack ho (by omega) (by rw[List.size_toArray,<-hl];exact h3) (by omega) (by rw[hk];exact⟨_,I',q⟩)
theorem SA(lo hi:Option Int)(n:Nat):(sliceBounds lo hi none n).1=((HT.sIx n 0 lo:Nat):Int)/\(sliceBounds lo hi none n).2.1=((HT.sIx n n hi:Nat):Int)/\(sliceBounds lo hi none n).2.2=1:=by
 refine⟨?_,?_,rfl⟩
 ·cases lo with
  | none=>simp[sliceBounds,HT.sIx]
  | some i=>
   simp only[sliceBounds,HT.sIx,Option.getD_none,show(1:Int)>0 by decide,if_true]
   by_cases h:i<0
   ·simp only[h,if_true]<;>omega
   ·simp only[h,if_false]<;>omega
 ·cases hi with
  | none=>simp[sliceBounds,HT.sIx]
  | some i=>
   simp only[sliceBounds,HT.sIx,Option.getD_none,show(1:Int)>0 by decide,if_true]
   by_cases h:i<0
   ·simp only[h,if_true]<;>omega
   ·simp only[h,if_false]<;>omega
theorem TD(its:List Value)(lo hi:Option Int):slicePick its.toArray lo hi none=((its.drop (HT.sIx its.length 0 lo)).take (HT.sIx its.length its.length hi-HT.sIx its.length 0 lo)).toArray:=by
 obtain⟨h1,h2,h3⟩:=SA lo hi its.toArray.size
 unfold slicePick;rw[h1,h2,h3]
 simp only[sliceRange_one,pick_run,List.size_toArray]<;>rfl
def Hd(K:PySem.W.Frag):V->Option Int->Option Int->Hp->VK->Prop:=fun x lo hi H Q=>∃a xs,x = .ref a/\SqL K H a xs/\∀p,H p=none->Q (.ref p) (upd H p (.lst (P9 xs lo hi)))
theorem Pe:Ht X (Hd X.K):=by
 intro pins s Z H x v vl vu lo hi sl Q I rx hs pl pu h
 obtain⟨a,xs,rfl,hx,q⟩:=h
 cases rx
 obtain⟨its,r,ht,hz⟩:=I.list hx
 have hlen:=r.length
 refine⟨"list",_,slot_list_getitem.lookup,ht.isList.typeIs,?_⟩
 refine wpAny_getItem_list_slice ht.isList hs pl pu .none (by simp) ?_ (by rw[List.size_toArray]<;>omega)
 rw[TD,<-hlen]
 refine⟨.ref s.heap.objs.size,_,I.laid (t':=s.toks) (o:=.lst (P9 xs lo hi)) (fun b ob q=>Heap.get?_push_of_some _ q) (Nat.le_refl _) ?_,rfl,q _ (I.hok.fresh (Nat.le_refl _))⟩
 exact⟨Nat.le_trans (Rl xs lo hi) hz,_,0,(r.drop (HT.sIx xs.length 0 lo)).take (HT.sIx xs.length xs.length hi-HT.sIx xs.length 0 lo),Heap.get?_push_size _ rfl⟩
theorem Vu:Y8 X (.type "list") (fun xs H Q=>∃p ys,xs=[.ref p]/\(SqL X.K H p ys\/SqT X.K H p ys)/\∀l,H l=none->Q (.ref l) (upd H l (.lst ys))):=by
 intro pins s Z H xs us Q I r h
 obtain⟨p,ys,rfl,hq,q⟩:=h
 obtain⟨u,rfl,rx⟩:=WC r
 cases rx
 have fin:∀(its:List Value),Vals ys its->ys.length<=sizeLine->∀(h':Heap)(c':Nat),(∀b o',s.heap.get? b=some o'->h'.get? b=some o')->
   h'.get? s.heap.objs.size=some { cls:=.type "list",dict:=none,data:=.seq its.toArray c',slots:=#[] }->EP X pins Z Q (.ref s.heap.objs.size) { s with heap:=h' }:=fun its r' hz h' c' kp e=>
  ⟨.ref s.heap.objs.size,_,I.laid (t':=s.toks) kp (Nat.le_refl _) (show ObjOk X.prog X.w _ h' _ (.lst ys) from⟨hz,its,c',r',e⟩),rfl,q _ (I.hok.fresh (Nat.le_refl _))⟩
 rcases hq with hq | hq
 ·obtain⟨its,r',pl,hz⟩:=I.list hq
  have hlen:=r'.length
  obtain⟨o,ho,hc,n,hd⟩:=pl.isList
  exact call_list_seq p (.inl rfl) ho hc hd (fun h' c' kp e=>fin its r' hz h' c' kp e) (by simp only[List.size_toArray]<;>omega)
 ·obtain⟨its,r',pl,hz⟩:=I.tuple hq
  have hlen:=r'.length
  obtain⟨o,ho,hc,n,hd⟩:=pl
  exact call_list_seq p (.inr rfl) ho hc hd (fun h' c' kp e=>fin its r' hz h' c' kp e) (by simp only[List.size_toArray]<;>omega)
theorem Y3:Y8 X (.type "tuple") (fun xs H Q=>∃p ys,xs=[.ref p]/\((SqL X.K H p ys/\∀l,H l=none->Q (.ref l) (upd H l (.tup ys)))\/(SqT X.K H p ys/\Q (.ref p) H))):=by
 intro pins s Z H xs us Q I r h
 obtain⟨p,ys,rfl,h⟩:=h
 obtain⟨u,rfl,rx⟩:=WC r
 cases rx
 rcases h with⟨hq,q⟩ | ⟨hq,q⟩
 ·obtain⟨its,r',pl,hz⟩:=I.list hq
  have hlen:=r'.length
  refine call_tuple_list pl.isList (fun h' kp=>?_) (by simp only[List.size_toArray]<;>omega)
  have I1:Inv X pins Z H { s with heap:=h' }:=I.kept (t':=s.toks) kp
  have I2:Inv X pins Z (upd H h'.objs.size (.tup ys)) { s with heap:=h'.push { cls:=.type "tuple",data:=.seq its.toArray } }:=
   I1.laid (t':=s.toks) (fun b o e=>Heap.get?_push_of_some _ e) (Nat.le_refl _) (show ObjOk X.prog X.w _ _ _ (.tup ys) from⟨hz,its,r',IsTup.new _ _⟩)
  exact⟨.ref h'.objs.size,_,I2,rfl,q _ (I1.hok.fresh (Nat.le_refl _))⟩
 ·obtain⟨its,r',pl,hz⟩:=I.tuple hq
  exact call_tuple_same pl ⟨.ref p,H,I,rfl,q⟩
def IC(K:PySem.W.Frag)(T:String)(x:V)(H:Hp):Prop:=match x with
 | .str _=>T = "str"
 | .int _=>T = "int"
 | .ref p=>(T = "list"/\∃xs,SqL K H p xs)\/(T = "tuple"/\∃o,K.lookup p=some o/\o.cls = .type "tuple"/\o.dict=none)\/
   (T = "dict"/\((∃kvs,H p=some (.dK kvs))\/∃kvs,H p=some (.dT kvs)))\/(T = "set"/\∃S n,H p=some (.set S n))
 | _=>False
theorem Ks{pins:List (Addr×Obj)}{Z:St}{H:Hp}{s:Shared}{T:String}{x:V}{v:Value}(I:Inv X pins Z H s)(r:RelV x v)(ty:IC X.K T x H) :
  s.TypeIs v T/\∀a,v = .ref a->∃ob,s.heap.get? a=some ob/\ob.dict=none:=by
 cases x with
 | str z=>
  obtain⟨t,rfl⟩:=r
  cases (show T = "str" from ty)
  exact⟨typeIs_str s z t,fun _ e=>nomatch e⟩
 | int i=>
  obtain⟨t,rfl⟩:=r
  cases (show T = "int" from ty)
  exact⟨typeIs_int s i t,fun _ e=>nomatch e⟩
 | ref p=>
  cases r
  rcases ty with⟨rfl,xs,hq⟩ | ⟨rfl,o,hk,hc,hd⟩ | ⟨rfl,hk⟩ | ⟨rfl,S,n,hk⟩
  ·obtain⟨its,_,pl,_⟩:=I.list hq
   refine⟨pl.isList.typeIs,fun a e=>?_⟩
   cases e
   obtain⟨o,n,e,c,hd,_⟩:=pl
   exact⟨o,e,hd⟩
  ·refine⟨⟨o,I.kIn p o hk,hc⟩,fun a e=>?_⟩
   cases e
   exact⟨o,I.kIn _ o hk,hd⟩
  ·have z:∃o,s.heap.get? p=some o/\o.ExactDict:=by
    rcases hk with⟨kvs,hk⟩ | ⟨kvs,hk⟩
    ·obtain⟨_,_,_,_,o,_,_,e,ex,_⟩:=I.hok p _ hk
     exact⟨o,e,ex⟩
    ·obtain⟨_,_,_,_,o,_,_,e,ex,_⟩:=I.hok p _ hk
     exact⟨o,e,ex⟩
   obtain⟨o,e,ex⟩:=z
   refine⟨⟨o,e,ex.1⟩,fun a e2=>?_⟩
   cases e2
   exact⟨o,e,ex.2.1⟩
  ·obtain⟨o,_,_,_,e,ex,_⟩:=I.hok p _ hk
   refine⟨⟨o,e,ex.1⟩,fun a e2=>?_⟩
   cases e2
   exact⟨o,e,ex.2.1⟩
 | _=>exact False.elim ty
def ID(K:PySem.W.Frag)(T:String)(r:V->List V->Hp->VK->Prop)(to:TE)(t:TA):TE:=fun Z H Q=>to Z H fun x H1=>IC K T x H1/\t Z H1 fun xs H2=>r x xs H2 Q
variable {o e:Expr} {es:List Expr} {to:TE} {t:TA} {name:Str} {apos cpos:Pos} {T id:String} {r:V->List V->Hp->VK->Prop}
theorem Vd(pa:PlainAttrs T)(slot:Slot T name id)(hty:typeOf (.builtin id)=pure (.type "method_descriptor"))(hm:IB X id r)(ho:PE X o to)(ha:PA X (e::es) t)
  (hbase:attributeBase o name X.env (eval o X.env)=eval o X.env:=by rfl)
  (hfew:((backTo cpos (starEach (e::es) X.env)).all (fun x=>!x.1)&&(backToKw cpos (keywordEach [] X.env)).all (fun x=>x.1.isSome)
   &&decide ((e::es).length+([]:List Keyword).length+(if([]:List Keyword).isEmpty then 0 else 1)<30))=true:=by rfl)
  (hline:(apos.endLine==cpos.line)=true:=by rfl) (hs:starEach (e::es) X.env=(false,eval e X.env)::starEach es X.env:=by rfl) (hplain:(backTo cpos (starEach es X.env)).any (·.1)=false:=by rfl) :
  PE X (.Call (.Attribute o name apos) (e::es) [] cpos) (ID X.K T r to t):=by
 intro pins s Z H Q I h
 refine wpAny_Call_method_late hbase hfew hline rfl (Z5 (ho pins s Z H _ I h) fun v s1 ⟨x,H1,I1,r1,ty,q1⟩=>?_)
 obtain⟨h1,h2⟩:=Ks I1 r1 ty
 refine⟨T,id,pa,slot,hty,h1,h2,?_⟩
 have hA:=ha cpos pins s1 Z H1 _ I1 q1
 rw[hs] at hA ⊢
 refine Calls.callWith_builtin (by show(false || (backTo cpos (starEach es X.env)).any (·.1))=false;rw[hplain]<;>rfl) (Calls.evalArgs_plain ?_)
 exact Z5 hA fun us s2 ⟨vs,H2,I2,r2,q2⟩=>hm pins s2 Z H2 x vs v us Q I2 r1 r2 q2
end
def He(X:Cx)(id:String)(r:V->List V->Hp->VK->Prop):Prop:=
 ∀(pins:List (Addr×Obj))(s:Shared)(Z:St)(H:Hp)(x:V)(xs:List V)(v:Value)(us:List Value)(Q:VK),Inv X pins Z H s->RelV x v->Vals xs us->r x xs H Q->
  wpAny (model X.prog X.w) X.A (call (.builtin id) (v::us)) (EP X pins Z Q) X.xe s
theorem Vals.one:∀{x:V}{us:List Value},Vals [x] us->∃u,us=[u]/\RelV x u
 | _,_,.cons r .nil=>⟨_,rfl,r⟩
theorem Vals.two:∀{x y:V}{us:List Value},Vals [x,y] us->∃u v,us=[u,v]/\RelV x u/\RelV y v
 | _,_,_,.cons r (.cons q .nil)=>⟨_,_,rfl,r,q⟩
theorem Vals.dropLast{xs:List V}{us:List Value}(h:Vals xs us):Vals xs.dropLast us.dropLast:=by
 induction h with
 | nil=>exact .nil
 | cons r t ih=>
  cases t with
  | nil=>exact .nil
  | cons q t'=>exact .cons r ih
theorem Vals.reverse{xs:List V}{us:List Value}(h:Vals xs us):Vals xs.reverse us.reverse:=by
 induction h with
 | nil=>exact .nil
 | cons r t ih=>rw[List.reverse_cons,List.reverse_cons];exact Vals.append ih (.cons r .nil)
theorem Vals.rep{xs:List V}{us:List Value}(h:Vals xs us):∀k:Nat,Vals (List.replicate k xs).flatten (List.replicate k us).flatten
 | 0=>.nil
 | k+1=>by
  rw[List.replicate_succ,List.replicate_succ,List.flatten_cons,List.flatten_cons]
  exact Vals.append h (Vals.rep h k)
theorem T3(its:List Value):∀(k:Nat)(acc:List Value),
  List.foldl (fun x1 x2=>x1++x2) acc.toArray (List.replicate k its.toArray)=(acc++(List.replicate k its).flatten).toArray
 | 0,acc=>by simp
 | k+1,acc=>by
  have e:acc.toArray++its.toArray=(acc++its).toArray:=by simp
  have e2:(acc++its)++(List.replicate k its).flatten=acc++(List.replicate (k+1) its).flatten:=by
   rw[List.replicate_succ,List.flatten_cons,List.append_assoc]
  rw[<-e2,<-T3 its k (acc++its),<-e,List.replicate_succ,List.foldl_cons]
section
variable {X:Cx} {pins:List (Addr×Obj)} {Z:St} {H:Hp} {s:Shared} {l b:Addr} {xs ys zs:List V}
theorem Inv.lset{its its':List Value}{n:Nat}{f:Array Value->Array Value}{t':Nat}(I:Inv X pins Z H s)(hH:H l=some (.lst xs))
  (e:s.heap.get? l=some { cls:=.type "list",data:=.seq its.toArray n }) (hf:f its.toArray=its'.toArray) (hv:Vals ys its') (hz:ys.length<=sizeLine) :
  Inv X pins Z (upd H l (.lst ys)) { s with heap:=s.heap.update l (Obj.mapSeq f),toks:=t' }:=by
 have q:=PySem.IsL.update e f;rw[hf] at q
 refine I.write (x:=l) (e:=l) (by rw[hH];exact trivial) (.inl rfl) (fun b' u hb hu=>(Heap.get?_update_other s.heap (Obj.mapSeq f) (Ne.symm hb)).trans hu) ⟨_,q⟩ ?_
 exact⟨hz,its',_,hv,q⟩
theorem Inv.lnew{its:List Value}{t':Nat}(I:Inv X pins Z H s)(hv:Vals ys its)(hz:ys.length<=sizeLine) :
  Inv X pins Z (upd H s.heap.objs.size (.lst ys)) { s with heap:=s.heap.push { cls:=.type "list",data:=.seq its.toArray },toks:=t' }:=
 I.laid (fun _ _ q=>Heap.get?_push_of_some _ q) (Nat.le_refl _) ⟨hz,its,0,hv,Heap.get?_push_size _ rfl⟩
theorem Inv.fresh(I:Inv X pins Z H s):H s.heap.objs.size=none:=I.hok.fresh (Nat.le_refl _)
theorem Inv.lstM(I:Inv X pins Z H s)(hH:H l=some (.lst xs)):xs.length<=sizeLine/\∃(its:List Value) (n:Nat),Vals xs its/\xs.length=its.length/\s.heap.get? l=some { cls:=.type "list",data:=.seq its.toArray n }:=by
 obtain⟨z,its,n,r,e⟩:=I.hok l _ hH
 exact⟨z,its,n,r,r.length,e⟩
theorem Ro{n:Nat}(h:n<=sizeLine):Builtin.List.listTooLong n=false:=by
 unfold Builtin.List.listTooLong
 exact decide_eq_false (by omega)
end
section
variable {X:Cx}
def Pf:V->List V->Hp->VK->Prop:=fun x vs H Q=>∃l xs y,x = .ref l/\vs=[y]/\H l=some (.lst xs)/\xs.length<sizeLine/\Q .non (upd H l (.lst (xs++[y])))
theorem WU:He X "list.append" Pf:=by
 intro pins s Z H x vs v us Q I rx rv h
 obtain⟨l,xs,y,rfl,rfl,hH,hz,q⟩:=h
 cases rx
 obtain⟨u,rfl,ru⟩:=rv.one
 obtain⟨z,its,n,r,hl,e⟩:=I.lstM hH
 refine call_meets F.slot_list_append ⟨_,e,rfl⟩ F.entry_list_append (F.args_list_append_2 _ _) (PySem.list_append l its.toArray n u (by rw[List.size_toArray];omega)) ⟨e,?_⟩
 refine⟨.non,_,I.lset (its':=its++[u]) hH e (by simp) (r.append (.cons ru .nil)) ?_,rfl,q⟩
 rw[List.length_append,List.length_singleton];omega
def Pg:V->List V->Hp->VK->Prop:=fun x vs H Q=>∃l b xs zs,x = .ref l/\vs=[.ref b]/\H l=some (.lst xs)/\H b=some (.lst zs)/\xs.length+zs.length<=sizeLine/\Q .non (upd H l (.lst (xs++zs)))
theorem Oa:He X "list.extend" Pg:=by
 intro pins s Z H x vs v us Q I rx rv h
 obtain⟨l,b,xs,zs,rfl,rfl,hH,hB,hz,q⟩:=h
 cases rx
 obtain⟨u,rfl,ru⟩:=rv.one
 cases ru
 obtain⟨z,its,n,r,hl,e⟩:=I.lstM hH
 obtain⟨z2,its2,n2,r2,hl2,e2⟩:=I.lstM hB
 have hsz:its.toArray.size+its2.toArray.size<=sizeLine:=by rw[List.size_toArray,List.size_toArray];omega
 have hlong:¬(!its.toArray.isEmpty&&Builtin.List.listTooLong (its.toArray.size+its2.toArray.size))=true:=by
  rw[Ro hsz,Bool.and_false];exact Bool.false_ne_true
 refine call_meets F.slot_list_extend ⟨_,e,rfl⟩ F.entry_list_extend (F.args_list_extend_2 _ _)
  (AutoSeq1.list_extend_list_list_0 l its.toArray n b its2.toArray n2 hlong (by rw[List.size_toArray];omega) (by omega)) ⟨e,e2,?_⟩
 refine⟨.non,_,I.lset (its':=its++its2) hH e (by simp) (r.append r2) ?_,rfl,q⟩
 rw[List.length_append];omega
def Hf:R2:=fun x y H Q=>∃l b xs zs,x = .ref l/\y = .ref b/\H l=some (.lst xs)/\H b=some (.lst zs)/\xs.length+zs.length<=sizeLine/\∀p,H p=none->Q (.ref p) (upd H p (.lst (xs++zs)))
theorem O9:Uf X (binaryOp .Add) Hf:=by
 intro pins s Z H x y v u Q I rx ry h
 obtain⟨l,b,xs,zs,rfl,rfl,hH,hB,hz,q⟩:=h
 cases rx;cases ry
 obtain⟨z,its,n,r,hl,e⟩:=I.lstM hH
 obtain⟨z2,its2,n2,r2,hl2,e2⟩:=I.lstM hB
 refine PySem.P.add_list e e2 ?_ (by rw[List.size_toArray,List.size_toArray];omega)
 have ea:its.toArray++its2.toArray=(its++its2).toArray:=by simp
 rw[ea]
 exact⟨.ref _,_,I.lnew (t':=s.toks) (r.append r2) (by rw[List.length_append];omega),rfl,q _ I.fresh⟩
def Hg:R2:=fun x y H Q=>∃l k xs,x = .ref l/\y = .int k/\H l=some (.lst xs)/\-(2^63)<=k/\k<2^63/\xs.length*k.toNat<=sizeLine/\
 ∀p,H p=none->Q (.ref p) (upd H p (.lst (List.replicate k.toNat xs).flatten))
theorem MF{α:Type}(xs:List α)(k:Nat):(List.replicate k xs).flatten.length=k*xs.length:=by
 induction k with
 | zero=>simp
 | succ k ih=>rw[List.replicate_succ,List.flatten_cons,List.length_append,ih,Nat.succ_mul,Nat.add_comm]
theorem Kt:Uf X (binaryOp .Mult) Hg:=by
 intro pins s Z H x y v u Q I rx ry h
 obtain⟨l,k,xs,rfl,rfl,hH,h1,h2,hz,q⟩:=h
 cases rx
 obtain⟨t,rfl⟩:=ry
 obtain⟨z,its,n,r,hl,e⟩:=I.lstM hH
 have hlen:its.toArray.size*k.toNat<=sizeLine:=by rw[List.size_toArray,<-hl];exact hz
 have hcap:¬its.toArray.size*k.toNat>(2^63-1)/8:=by
  have:(sizeLine:Nat)<=(2^63-1)/8:=by decide
  omega
 have hfit:¬(!Builtin.List.listFitsIndex k)=true:=by
  rw[fitsIndex_both h1 h2];exact Bool.false_ne_true
 have hlong:¬Builtin.List.listTooLong (its.toArray.size*k.toNat)=true:=by
  rw[Ro hlen];exact Bool.false_ne_true
 have hnew:List.foldl (fun x1 x2=>x1++x2) #[] (List.replicate (if its.toArray.isEmpty=true then 0 else k.toNat) its.toArray)=(List.replicate k.toNat its).flatten.toArray:=by
  have f0:∀m:Nat,List.foldl (fun x1 x2=>x1++x2) #[] (List.replicate m its.toArray)=(List.replicate m its).flatten.toArray:=fun m=>by
   have:=T3 its m []
   rw[List.nil_append] at this;exact this
  rw[f0]
  cases its with
  | nil=>simp
  | cons a r'=>rw[if_neg (by simp)]
 refine wpAny_binaryOp_repeat_ref (T:="list") (U:="int") (by decide) ⟨_,e,rfl⟩ (fun s'=>typeIs_int s' k t) noFill_list_mul F.fills_int_mul F.slot_int_rmul repeat_list F.slot_int_index.lookup
  (call_meets F.slot_int_rmul (typeIs_int s k t) F.entry_int_rmul (F.args_int_rmul_2 _ _) (int___rmul___int_list k t l its.toArray n)
   ⟨e,rfl,⟨_,e,rfl⟩,call_meets F.slot_list_mul ⟨_,e,rfl⟩ F.entry_list_mul (F.args_list_mul_2 _ _) (AutoListH.list___mul___list_int_3 l its.toArray n k t hfit hcap hlong) ⟨e,?_⟩⟩)
 rw[hnew]
 exact⟨.ref _,_,I.lnew (t':=s.toks) (r.rep k.toNat) (by rw[MF,Nat.mul_comm];exact hz),rfl,q _ I.fresh⟩
end
end L2
namespace Att
open PySem PySem.W PySem.Calls PyProof.Rows
theorem UD{P:Params}{h:Heap}:∀(ns:List Int)(vs:List Value),WellAll P h vs (ns.map WData.int)->IntsAre vs ns:=by
 intro ns
 induction ns with
 | nil=>
  intro vs w;rw[List.map_nil] at w;cases w;exact .nil
 | cons n ns ih=>
  intro vs w;rw[List.map_cons] at w
  cases w with
  | cons a b=>
   cases a
   exact .cons _ _ (ih _ b)
theorem Ob{l:OpenLaw}{n:Nat}(hn:l.most=some n){P:Params}{h:Heap}{args:List WData}{vals:List Value}
  (hpre:l.row.toRowW.claim.pre args=true) (hwl:WellAll P h vals args) :
  ∃a vs ns,vals=[Value.ref a]/\args=[WData.list (ns.map WData.int)]/\h.get? a=some { cls:=.type "list",data:=.seq vs.toArray }/\IntsAre vs ns/\ns.length<=n:=by
 have hsh:WShape.hasAll [] args [.list .int]=true:=(pre_splitW hpre).1
 have hc:l.pre.holds [] { args:=args }=true:=(pre_splitW hpre).2
 obtain⟨d,r,rfl,h1,h2⟩:=hasAllW_cons hsh
 obtain rfl:=hasAllW_nil h2
 obtain⟨xs,rfl,h3⟩:=hasW_list h1
 obtain⟨ns,rfl⟩:=items_int h3
 have hlen:ns.length<=n:=by
  unfold OpenLaw.pre at hc
  have h4:(WTm.not (.lt (.lit (.int (n:Int))) (.len (.arg 0)))).holds [] { args:=[.list (ns.map .int)] }=true:=by
   have h4:=(holds_andW hc).1
   rw[hn] at h4;exact h4
  have h5:=condW_of h4 (w_not (w_lt w_lit (w_len_list (w_arg rfl))))
  rw[List.length_map] at h5
  refine Nat.le_of_not_lt fun q=>?_
  have q':(n:Int)<((ns.length:Nat):Int):=by omega
  first
   | (rw[decide_eq_true q'] at h5;exact absurd h5 (by decide))
   | (simp at h5;omega)
 cases hwl with
 | cons w1 w2=>
  cases w2
  cases w1 with
  | list ho hall=>exact⟨_,_,ns,rfl,rfl,ho,UD ns _ hall,hlen⟩
theorem Oc(l:OpenLaw)(args:List WData):l.row.toRowW.claim.post args (.bool true) args=true:=
 postW_of (r:=l.row.toRowW) (X:=(true==true))
  (show WShape.has [] (.bool true) .bool=true by first | rfl | decide | simp[WShape.has,WShape.arms,WShape.armsAll])
  (show(WTm.eq .res (.lit (.bool true))).value [] { args:=args,res:=some (.bool true),after:=args }=some (.bool (true==true)) from w_eq_bool (w_res rfl) w_lit) rfl
theorem attach_call{l:OpenLaw}{n:Nat}{q:Program}{loose:List Str}{XP:(Str->Option Value)->Heap->Prop}{YP:World->Heap->Prop}{d:DefRec}
  (hn:l.most=some n) (hdf:d.params.defaults=[])
  (call:∀(w:World)(s₀ s₁:Shared)(mg mb:Str->Option Value)(fa:Addr)(o:Obj)(pm cd doc:Value)(a:Addr)(vs:List Value)(ns:List Int),
   Ground q loose [] XP w s₀ mg mb s₁.heap->YP w s₁.heap->
   s₁.heap.get? fa=some o->o.data = .func (docDef d.name d.params d.body d.scope pm cd doc)->s₁.heap.CodeRec cd d.name->mg d.name=some (.ref fa)->
   s₁.heap.get? a=some { cls:=.type "list",data:=.seq vs.toArray }->IntsAre vs ns->ns.length<=n->s₁.gens = #[]->
   codeAny (model l.prog w) callerA (.call (.ref fa) ⟨[.ref a],[]⟩) (fun r s'=>r = .ok (.ret (.bool true))/\OldK s₁.heap s'.heap/\s'.os=s₁.os/\AllBare s'.gens) s₁) :
  WalkO q loose XP YP l.row.toRowW d [] (fun f vs=>PySem.call f vs):=by
 intro w s₀ s₁ mg mb G Y fa o pm cd doc dV kV ho hd hcd hD hmg hg args vals as hpre hlay hrd hwl hlo
 obtain rfl:dV = .none:=Dflts.none hD hdf
 obtain rfl:kV = .none:=Dflts.noKw hD
 obtain⟨a,vs,ns,rfl,rfl,hobj,hints,hlen⟩:=Ob hn hpre hwl
 refine enter_call (codeAny_mono (call w s₀ s₁ mg mb fa o pm cd doc a vs ns G Y ho (fd_plain hd) hcd hmg hobj hints hlen hg) fun r s' hq=>?_)
 obtain⟨rfl,h2,h3,h4⟩:=hq
 exact⟨.inl ⟨.bool true,.bool true,[],rfl,fun _=>rfl,.bool true,Oc l _,fun _=>⟨List.Pairwise.nil,fun _ hm=>(nomatch hm)⟩⟩,h2,h3,h4⟩
end Att
namespace L2
open PySem PySem.Spec PyProof.Rows
section
variable {κ:Type} [DecidableEq κ]
def WD(kvs:List (κ×V))(k:κ):Option V:=(kvs.find? fun kv=>decide (kv.1=k)).map (·.2)
def Wa(kvs:List (κ×V))(k:κ)(v:V):List (κ×V):=
 if(kvs.any fun kv=>decide (kv.1=k))=true then kvs.map (fun kv=>if kv.1=k then(kv.1,v) else kv) else kvs++[(k,v)]
theorem Vv{p:κ×V}{r:List (κ×V)}{k:κ}(e:p.1=k):WD (p::r) k=some p.2:=by simp[WD,List.find?_cons,e]
theorem Vw{p:κ×V}{r:List (κ×V)}{k:κ}(e:¬p.1=k):WD (p::r) k=WD r k:=by simp[WD,List.find?_cons,e]
theorem U3(k:κ):∀kvs:List (κ×V),(kvs.any fun kv=>decide (kv.1=k))=(WD kvs k).isSome
 | []=>rfl
 | p::r=>by
  rw[List.any_cons]
  by_cases e:p.1=k
  ·simp only[Vv e,decide_eq_true e,Bool.true_or,Option.isSome_some]
  ·rw[Vw e,decide_eq_false e,Bool.false_or];exact U3 k r
theorem Uy(kvs:List (κ×V))(k:κ)(v:V):(Wa kvs k v).length<=kvs.length+1:=by
 unfold Wa
 split
 ·rw[List.length_map];omega
 ·rw[List.length_append,List.length_cons,List.length_nil];omega
theorem Na{kvs:List (κ×V)}{k:κ}(v:V)(h:WD kvs k=none):Wa kvs k v=kvs++[(k,v)]:=by
 unfold Wa;rw[U3,h]
 exact if_neg (by decide)
theorem RelO.isSome_eq{o:Option V}{u:Option Value}(r:RelO o u):o.isSome=u.isSome:=by
 cases o with
 | none=>cases u with
  | none=>rfl
  | some _=>exact(show False from r).elim
 | some _=>cases u with
  | none=>exact(show False from r).elim
  | some _=>rfl
theorem KV.val{kvs:List (κ×V)}{vs:List (κ×Value)}(r:KV kvs vs)(k:κ):RelO (WD kvs k) (valueAt vs k):=by
 unfold KV at r
 induction r with
 | nil=>exact True.intro
 | @cons p q ps qs h t ih=>
  obtain⟨h1,h2⟩:=h
  by_cases e:p.1=k
  ·have e':q.1=k:=h1.symm.trans e
   have b:valueAt (q::qs) k=some q.2:=by simp[valueAt,List.find?_cons,e']
   rw[Vv e,b];exact h2
  ·have e':¬q.1=k:=fun z=>e (h1.trans z)
   have b:valueAt (q::qs) k=valueAt qs k:=by simp[valueAt,List.find?_cons,e']
   rw[Vw e,b];exact ih
theorem KV.any{kvs:List (κ×V)}{vs:List (κ×Value)}(r:KV kvs vs)(k:κ):(kvs.any fun kv=>decide (kv.1=k))=vs.any fun kv=>decide (kv.1=k):=by
 unfold KV at r
 induction r with
 | nil=>rfl
 | cons h t ih=>rw[List.any_cons,List.any_cons,ih,h.1]
theorem KV.repl{kvs:List (κ×V)}{vs:List (κ×Value)}(r:KV kvs vs)(k:κ){y:V}{u:Value}(ry:RelV y u) :
  KV (kvs.map fun kv=>if kv.1=k then(kv.1,y) else kv) (vs.map fun kv=>if kv.1=k then(kv.1,u) else kv):=by
 unfold KV at r ⊢
 induction r with
 | nil=>exact .nil
 | @cons p q ps qs h t ih=>
  rw[List.map_cons,List.map_cons]
  refine .cons ?_ ih
  obtain⟨h1,h2⟩:=h
  by_cases e:p.1=k
  ·rw[if_pos e,if_pos (h1.symm.trans e)];exact⟨h1,ry⟩
  ·rw[if_neg e,if_neg (fun z=>e (h1.trans z))];exact⟨h1,h2⟩
theorem KV.put{kvs:List (κ×V)}{vs:List (κ×Value)}(r:KV kvs vs)(k:κ){y:V}{u:Value}(ry:RelV y u):KV (Wa kvs k y) (stored vs k u):=by
 unfold Wa stored;rw[r.any k]
 by_cases e:(vs.any fun kv=>decide (kv.1=k))=true
 ·rw[if_pos e,if_pos e];exact r.repl k ry
 ·rw[if_neg e,if_neg e];exact Paired.snoc r ⟨rfl,ry⟩
theorem KV.length{kvs:List (κ×V)}{vs:List (κ×Value)}(r:KV kvs vs):kvs.length=vs.length:=Paired.length r
end
theorem Ph{P:Program}{w:World}{k:Z4}{u:Value}(r:RelV (kV k) u):(Z7 P w).is k u=true:=by
 cases k with
 | inl i=>obtain⟨t,e⟩:=(show ∃t,u=Value.int i t from r);subst e;exact Rc P w i t
 | inr x=>obtain⟨t,e⟩:=(show ∃t,u=Value.str x t from r);subst e;exact Re P w x t
theorem T4{P:Program}{w:World}:∀{ks:List Z4}{us:List Value},Vals (ks.map kV) us->ItemsAre (Z7 P w) ks us
 | [],_,r=>by rw[List.map_nil] at r;cases r;exact .nil
 | k::ks,_,r=>by
  rw[List.map_cons] at r
  cases r with
  | cons h t=>exact .cons (Ph h) (T4 t)
abbrev KT(H:Hp):List (List Z4×V)->List (List Z4×Addr×Value)->Prop:=Paired fun p q=>p.1=q.1/\H q.2.1=some (.tup (p.1.map kV))/\RelV p.2 q.2.2
theorem KT.val{H:Hp}{kvs:List (List Z4×V)}{xs:List (List Z4×Addr×Value)}(r:KT H kvs xs)(k:List Z4):RelO (WD kvs k) ((atKey xs k).map (·.2)):=by
 induction r with
 | nil=>exact True.intro
 | @cons p q ps qs h t ih=>
  obtain⟨h1,_,h2⟩:=h
  by_cases e:p.1=k
  ·have e':q.1=k:=h1.symm.trans e
   have b:atKey (q::qs) k=some q.2:=by simp[atKey,List.find?_cons,e']
   rw[Vv e,b];exact h2
  ·have e':¬q.1=k:=fun z=>e (h1.trans z)
   have b:atKey (q::qs) k=atKey qs k:=by simp[atKey,List.find?_cons,e']
   rw[Vw e,b];exact ih
theorem KT.repl{H:Hp}{kvs:List (List Z4×V)}{xs:List (List Z4×Addr×Value)}(r:KT H kvs xs)(k:List Z4){y:V}{u:Value}(ry:RelV y u) :
  KT H (kvs.map fun kv=>if kv.1=k then(kv.1,y) else kv) (xs.map (putAt k u)):=by
 induction r with
 | nil=>exact .nil
 | @cons p q ps qs h t ih=>
  rw[List.map_cons,List.map_cons]
  refine .cons ?_ ih
  obtain⟨h1,h2,h3⟩:=h
  unfold putAt
  by_cases e:p.1=k
  ·rw[if_pos e,if_pos (h1.symm.trans e)];exact⟨h1,h2,ry⟩
  ·rw[if_neg e,if_neg (fun z=>e (h1.trans z))];exact⟨h1,h2,h3⟩
theorem KT.put{H:Hp}{kvs:List (List Z4×V)}{xs:List (List Z4×Addr×Value)}(r:KT H kvs xs)(k:List Z4){b:Addr}{y:V}{u:Value}(hb:H b=some (.tup (k.map kV)))(ry:RelV y u) :
  KT H (Wa kvs k y) (storedH xs k b u):=by
 have e:(kvs.any fun kv=>decide (kv.1=k))=(atKey xs k).isSome:=by
  rw[U3,(r.val k).isSome_eq,Option.isSome_map]
 unfold Wa storedH;rw[e]
 by_cases q:(atKey xs k).isSome=true
 ·rw[if_pos q,if_pos q];exact r.repl k ry
 ·rw[if_neg q,if_neg q];exact Paired.snoc r ⟨rfl,hb,ry⟩
theorem KT.keeps{H H':Hp}{kvs:List (List Z4×V)}{xs:List (List Z4×Addr×Value)}(r:KT H kvs xs)(ht:∀b ys,H b=some (.tup ys)->H' b=some (.tup ys)):KT H' kvs xs:=
 Paired.mapP r fun _ _ z=>⟨z.1,ht _ _ z.2.1,z.2.2⟩
section
variable {P:Program} {w:World} {H:Hp} {h:Heap} {a:Addr}
theorem LJ{u:HO}(ok:HOk P w H h)(e:Rd H a u):ObjOk P w H h a u:=e.ok ok
theorem Pi{kvs:List (Z4×V)}(ok:HOk P w H h)(e:Rd H a (.dK kvs)):kvs.length<=sizeLine/\(a==sysModules)=false/\∃vs,KV kvs vs/\h.DictOf (Z7 P w) a vs:=
 show ObjOk P w H h a (.dK kvs) from LJ ok e
theorem JY{kvs:List (Z4×V)}(ok:HOk P w H h)(e:H a=some (.dK kvs)):kvs.length<=sizeLine/\(a==sysModules)=false/\∃vs,KV kvs vs/\h.DictOf (Z7 P w) a vs:=Pi ok (.inl e)
theorem SB{ks:List Z4}(ok:HOk P w H h)(e:H a=some (.tup (ks.map kV))):(tupleKind (Z7 P w)).is h ks a:=by
 obtain⟨_,its,r,o,h1,h2,n,h3⟩:=(show ObjOk P w H h a (.tup (ks.map kV)) from ok a _ e)
 exact⟨o,its.toArray,n,h1,h2,h3,by simpa using T4 r⟩
theorem Pj{kvs:List (List Z4×V)}(ok:HOk P w H h)(e:Rd H a (.dT kvs)):kvs.length<=sizeLine/\(a==sysModules)=false/\
  ∃xs,KT H kvs xs/\h.DictOfH (tupleKind (Z7 P w)) a xs:=by
 obtain⟨z,y,xs,r,o,es,ep,h1,h2,h3,h4,h5⟩:=(show ObjOk P w H h a (.dT kvs) from LJ ok e)
 refine⟨z,y,xs,r,o,es,ep,h1,h2,h3,h4,fun x hx=>?_,h5⟩
 have all:∀{l:List (List Z4×V)}{m:List (List Z4×Addr×Value)},KT H l m->∀x∈m,(tupleKind (Z7 P w)).is h x.1 x.2.1:=by
  intro l m q
  induction q with
  | nil=>intro x hx;exact nomatch hx
  | @cons p q ps qs hq t ih=>
   intro x hx
   rcases List.mem_cons.mp hx with e | hx
   ·subst e
    exact SB ok (by rw[<-hq.1];exact hq.2.1)
   ·exact ih x hx
 exact all r x hx
theorem JZ{kvs:List (List Z4×V)}(ok:HOk P w H h)(e:H a=some (.dT kvs)):kvs.length<=sizeLine/\(a==sysModules)=false/\
  ∃xs,KT H kvs xs/\h.DictOfH (tupleKind (Z7 P w)) a xs:=Pj ok (.inl e)
end
def Od(H:Hp)(a:Addr)(y:V)(r:Option V):Prop:=
 (∃kvs k,Rd H a (.dK kvs)/\y=kV k/\r=WD kvs k)\/∃kvs k b,Rd H a (.dT kvs)/\y = .ref b/\H b=some (.tup (k.map kV))/\r=WD kvs k
def J0(H:Hp)(a:Addr)(y v:V)(H':Hp):Prop:=
 (∃kvs k,H a=some (.dK kvs)/\y=kV k/\kvs.length<sizeLine/\H'=upd H a (.dK (Wa kvs k v)))\/
 ∃kvs k b,H a=some (.dT kvs)/\y = .ref b/\H b=some (.tup (k.map kV))/\kvs.length<sizeLine/\H'=upd H a (.dT (Wa kvs k v))
section
variable {X:Cx} {pins:List (Addr×Obj)} {Z:St} {H:Hp} {s:Shared} {a:Addr} {y v:V} {u r:Value} {o:Option V} {A:Around} {E:Value->Shared->Prop}
theorem Inv.big(I:Inv X pins Z H s):sysModules<s.heap.objs.size:=by
 have h:mainGlobals<s.heap.objs.size:=(I.mod.glob.keeps I.bk).lt
 exact Nat.lt_trans (by decide) h
theorem Oe{Q:Value->Shared->Prop}(hu:A.units+1<cLine)(I:Inv X pins Z H s)(g:Od H a y (some v))(ry:RelV y u)(h:∀w' s',Inv X pins Z H s'->RelV v w'->Q w' s') :
  wpAny (model X.prog X.w) A (getItem (.ref a) u) Q E s:=by
 rcases g with⟨kvs,k,e,ey,l⟩ | ⟨kvs,k,b,e,ey,eb,l⟩
 ·subst ey
  obtain⟨z,hd,vs,rel,dd⟩:=Pi I.hok e
  obtain⟨w',hw,Uv⟩:=RelO.some_of (v:=v) (o:=valueAt vs k) (by rw[l];exact rel.val k)
  exact wpAny_getItem_of (Ph ry) dd.mapOf hw (h w' _ (I.tok _) Uv)
 ·subst ey
  cases (show u=Value.ref b from ry)
  obtain⟨z,hd,xs,rel,dd⟩:=Pj I.hok e
  obtain⟨w',hw,Uv⟩:=RelO.some_of (v:=v) (o:=(atKey xs k).map (·.2)) (by rw[l];exact rel.val k)
  obtain⟨p,hp,hp2⟩:=Option.map_eq_some_iff.mp hw
  refine wpAny_getItem_heap (tupleKind_room_in1 hu) (SB I.hok eb) dd hp ?_
  rw[hp2]
  exact h w' _ (I.tok _) Uv
theorem MG{Q:Value->Shared->Prop}(hu:A.units+1<cLine)(I:Inv X pins Z H s)(g:Od H a y o)(ry:RelV y u)(h:∀s',Inv X pins Z H s'->Q (.bool (!o.isSome)) s') :
  wpAny (model X.prog X.w) A (compareOp .NotIn u (.ref a)) Q E s:=by
 rcases g with⟨kvs,k,e,ey,l⟩ | ⟨kvs,k,b,e,ey,eb,l⟩
 ·subst ey
  obtain⟨z,hd,vs,rel,dd⟩:=Pi I.hok e
  refine wpAny_notIn_of (Ph ry) hd dd.mapOf ?_
  rw[<-(rel.val k).isSome_eq,<-l]
  exact h _ (I.tok _)
 ·subst ey
  cases (show u=Value.ref b from ry)
  obtain⟨z,hd,xs,rel,dd⟩:=Pj I.hok e
  refine wpAny_notIn_heap (tupleKind_room_in1 hu) (SB I.hok eb) hd dd ?_
  have q:=(rel.val k).isSome_eq
  rw[Option.isSome_map] at q;rw[<-q,<-l]
  exact h _ (I.tok _)
theorem Pk{h':Heap}{t':Nat}{ob:HO}(I:Inv X pins Z H s)(mu:X9 (H a))(hs:Heap.SameBut a s.heap h')(he:∃q,h'.get? a=some q)(new:ObjOk X.prog X.w (upd H a ob) h' a ob) :
  Inv X pins Z (upd H a ob) { s with heap:=h',toks:=t' }:=
 I.write (x:=a) (e:=a) mu (.inl rfl) (fun b q hb z=>(hs.2 b hb).trans z) he new
theorem Ku{P:Program}{w:World}{H':Hp}{h':Heap}{kvs:List (Z4×V)}{vs:List (Z4×Value)}(z:kvs.length<=sizeLine)(hd:(a==sysModules)=false)(rel:KV kvs vs)(dd:h'.DictOf (Z7 P w) a vs) :
  ObjOk P w H' h' a (.dK kvs):=⟨z,hd,vs,rel,dd⟩
theorem Of{H':Hp}{Q:Unit->Shared->Prop}(hu:A.units+1<cLine)(I:Inv X pins Z H s)(g:J0 H a y v H')(ry:RelV y u)(rv:RelV v r)(h:∀s',Inv X pins Z H' s'->Q () s') :
  wpAny (model X.prog X.w) A (setItem (.ref a) u r) Q E s:=by
 rcases g with⟨kvs,k,e,ey,l,eH⟩ | ⟨kvs,k,b,e,ey,eb,l,eH⟩
 ·subst ey eH
  obtain⟨z,hd,vs,rel,dd⟩:=JY I.hok e
  have hz:vs.length<=sizeLine:=by rw[<-rel.length];exact z
  have hl:(Wa kvs k v).length<=sizeLine:=by have:=Uy kvs k v;omega
  refine wpAny_setItem_pairs (hsz:=hz) (Ph ry) dd fun h' dd' hs=>h _ ?_
  have he:∃q,h'.get? a=some q:=let⟨q,_,_,hq,_⟩:=dd';⟨q,hq⟩
  exact Pk I (by rw[e];exact True.intro) hs he (Ku hl hd (rel.put k rv) dd')
 ·subst ey eH
  cases (show u=Value.ref b from ry)
  obtain⟨z,hd,xs,rel,dd⟩:=JZ I.hok e
  have hz:xs.length<=sizeLine:=by rw[<-Paired.length rel];exact z
  have hl:(Wa kvs k v).length<=sizeLine:=by have:=Uy kvs k v;omega
  refine wpAny_setItem_heap (hsz:=hz) (tupleKind_room_in1 hu) (SB I.hok eb) dd fun h' dd' hs=>h _ ?_
  obtain⟨q,es,ep,hq,h2,h3,h4,_,h5⟩:=dd'
  refine Pk I (by rw[e];exact True.intro) hs ⟨q,hq⟩ ⟨hl,hd,_,(rel.put k eb rv).keeps fun c ys ec=>?_,q,es,ep,hq,h2,h3,h4,h5⟩
  rw[upd_ne (Jz ec e (fun z=>nomatch z))];exact ec
end
def Kv(i:Expr):Prop:=∀ov iv,subscripted i false ov iv=operate [ov,iv] (getItem ov iv)
theorem MH{prog:Program}{w:World}{A:Around}{E:Value->Shared->Prop}{s:Shared}{env:Env}{value slice:Expr}{pos:Pos}{T id:String}{Q:Value->Shared->Prop}
  (hl:typeLookup (.type T) "__getitem__" = pure (some (.builtin id))) (hs:Kv slice)
  (h:wpAny (model prog w) A (eval value env) (fun o s₁=>wpAny (model prog w) A (eval slice env) (fun i s₂=>s₂.TypeIs o T/\wpAny (model prog w) A (getItem o i) Q E s₂) E s₁) E s) :
  wpAny (model prog w) A (eval (.Subscript value slice pos) env) Q E s:=by
 refine Subscript_ (wpAny_mono h (fun o s₁ h₁=>wpAny_mono h₁ (fun i s₂ h₂=>?_) fun _ _ x=>x) fun _ _ x=>x)
 obtain⟨hT,h₂⟩:=h₂
 unfold subscriptTail
 refine wpAny_bind ?_
 rw[getitemInPython_of_ne hT.not_modules]
 refine wpAny_bind (wpAny_specialOf hT hl ?_)
 have fin:wpAny (model prog w) A (subscripted slice false o i) (fun r s₃=>wpAny (model prog w) A (letTemporaryGo value o r >>= fun _=>pure r) Q E s₃) E s₂:=by
  rw[hs o i]
  exact wpAny_operating (wpAny_mono h₂ (fun r s₃ h₃=>wpAny_bind (wpAny_letTemporaryGo (wpAny_pure h₃))) fun _ _ x=>x)
 first
  | exact wpAny_pure (wpAny_bind fin)
  | exact wpAny_bind (wpAny_pure (wpAny_bind fin))
  | exact wpAny_bind fin
theorem Rp{X:Cx}{pins:List (Addr×Obj)}{Z:St}{H:Hp}{s:Shared}{a:Addr}{y:V}{o:Option V}(I:Inv X pins Z H s)(g:Od H a y o):s.TypeIs (.ref a) "dict":=by
 rcases g with⟨kvs,k,e,_,_⟩ | ⟨kvs,k,b,e,_,_,_⟩
 ·obtain⟨_,_,vs,_,dd⟩:=Pi I.hok e
  exact dd.typeIs
 ·obtain⟨_,_,xs,_,dd⟩:=Pj I.hok e
  exact dd.typeIs
def LK(td ty:TE):TE:=fun Z H Q=>td Z H fun x H1=>ty Z H1 fun y H2=>∃a v,x = .ref a/\Od H2 a y (some v)/\Q v H2
def Pl(ty td:TE):TE:=fun Z H Q=>ty Z H fun y H1=>td Z H1 fun x H2=>∃a o,x = .ref a/\Od H2 a y o/\Q (.bl (!o.isSome)) H2
def sDPut(td ty tv:TE):TS:=fun D Z H=>tv Z H fun v H1=>td Z H1 fun x H2=>ty Z H2 fun y H3=>∃a H4,x = .ref a/\J0 H3 a y v H4/\D.nx Z H4
section
variable {X:Cx} {o i e value:Expr} {pos pos' tpos:Pos} {td ty tv:TE}
theorem MI(hu:X.A.units+1<cLine)(ho:PE X o td)(hi:PE X i ty)(hs:Kv i):PE X (.Subscript o i pos) (LK td ty):=by
 intro pins s Z H Q I h
 refine MH PySem.F.slot_dict_getitem.lookup hs (Z5 (ho pins s Z H _ I h) fun u s1 ⟨x,H1,I1,rx,q1⟩=>Z5 (hi pins s1 Z H1 _ I1 q1) fun iv s2 ⟨y,H2,I2,ry,a,v,ex,g,q2⟩=>?_)
 subst ex
 obtain rfl:u=Value.ref a:=rx
 exact⟨Rp I2 g,Oe hu I2 g ry fun w' s3 I3 Uv=>⟨v,H2,I3,Uv,q2⟩⟩
theorem Og(hu:X.A.units+1<cLine)(hi:PE X i ty)(ho:PE X o td):PC X .NotIn i o (Pl ty td):=by
 intro pins s Z H Q I h
 refine Z5 (hi pins s Z H _ I h) fun iv s1 ⟨y,H1,I1,ry,q1⟩=>Z5 (ho pins s1 Z H1 _ I1 q1) fun u s2 ⟨x,H2,I2,rx,a,ov,ex,g,q2⟩=>?_
 subst ex
 obtain rfl:u=Value.ref a:=rx
 exact MG hu I2 g ry fun s3 I3=>⟨.bl (!ov.isSome),H2,I3,rfl,q2⟩
theorem UK(hu:X.A.units+1<cLine)(ho:PE X o td)(hi:PE X i ty)(hv:PE X value tv)(hs:swapsWith value (some (.Subscript o i pos')) pos.line X.env=pure false) :
  PS X (.Assign [.Subscript o i pos'] value pos) (sDPut td ty tv):=by
 intro pins s Z H D I h
 refine wpAny_Assign_Subscript (Z5 (hv pins s Z H _ I h) fun r s1 ⟨v,H1,I1,rv,q1⟩=>Z5 (ho pins s1 Z H1 _ I1 q1) fun u s2 ⟨x,H2,I2,rx,q2⟩=>Z5 (hi pins s2 Z H2 _ I2 q2) fun iv s3 ⟨y,H3,I3,ry,a,H4,ex,g,q3⟩=>?_) hs
 subst ex
 obtain rfl:u=Value.ref a:=rx
 exact Of hu I3 g ry rv fun s4 I4=>⟨Z,H4,I4,q3⟩
end
theorem Nb{P:Program}{w:World}{H:Hp}(h:Heap)(hb:sysModules<h.objs.size):ObjOk P w H (h.push { cls:=.type "dict",data:=.dict #[] }) h.objs.size (.dT []):=
 ⟨Nat.zero_le _,beq_eq_false_iff_ne.mpr (Ne.symm (Nat.ne_of_lt hb)),[],.nil,_,#[],0,Heap.get?_push_size _ rfl,⟨rfl,rfl,rfl⟩,rfl,rfl,List.nodup_nil⟩
def Kw:TE:=fun _ H Q=>∀p,H p=none->Q (.ref p) (upd H p (.dT []))
section
variable {X:Cx} {pos:Pos}
theorem Nc:PE X (.Dict [] [] pos) Kw:=fun pins s Z H Q I h=>
 wpAny_Dict_empty ⟨.ref s.heap.objs.size,_,I.laid (a:=s.heap.objs.size) (o:=.dT []) (t':=s.toks) (fun _ _ q=>Heap.get?_push_of_some _ q) (Nat.le_refl _) (Nb s.heap I.big),rfl,h _ (I.hok.fresh (Nat.le_refl _))⟩
end
theorem T5:∀{vs:List Value}{ns:List Int},IntsAre vs ns->Vals (ns.map V.int) vs
 | _,_,.nil=>.nil
 | _,_,.cons n t h=>.cons ⟨t,rfl⟩ (T5 h)
def MJ(H:Hp):Prop:=∀b,H b=none\/∃o xs,H b=some (.frz o (.lst xs))
theorem Nd{P:Program}{w:World}{K:PySem.W.Frag}{mg mb:Str->Option Value}{CX:O8}{k:Nat}{fa a:Addr}{fd:FuncData}{x:Str}{sp:Sp}{s₁:Shared}{vs:List Value}{ns:List Int}
  (KX:K.In s₁.heap) (hns:s₁.heap.Ns mainGlobals mg) (hb:s₁.heap.Ns builtinsNs mb) (hbb:∀x:Str,x≠"__name__"->mb x=bootBuiltins x) (hlim:s₁.heap.NoLimit) (hg:s₁.gens = #[])
  (ha:s₁.heap.get? a=some { cls:=.type "list",data:=.seq vs.toArray }) (hi:IntsAre vs ns) (hl:ns.length<=sizeLine) (hr:Room k callerA)
  (F:∀base:Heap,K.In base->base.Ns mainGlobals mg->Vt P w K mg base CX k fa fd [x] sp) (hbind:∀(s:Shared)(u:Value),BindsTo s fd ⟨[u],[]⟩ [(x,u)])
  (hsp:∀H:Hp,MJ H->SqL K H a (ns.map V.int)->sp [.ref a] H (fun v _=>v = .bl true) fun _ _ _=>False)
  (hCX:∀H e s',CX [] H s₁ (fun _ _ _=>False) e s'->False) :
  codeAny (model P w) callerA (.call (.ref fa) ⟨[.ref a],[]⟩) (fun r s'=>r = .ok (.ret (.bool true))/\OldK s₁.heap s'.heap/\s'.os=s₁.os/\AllBare s'.gens) s₁:=by
 have rv:=T5 hi;have lenV:=hi.length
 -- from an abstract heap in which nothing but the script may be tracked
 have core:∀H:Hp,MJ H->SqL K H a (ns.map V.int)->HOk P w H s₁.heap->(∀b,H b≠none->b=a)->(H a≠none->K.lookup a=none)->
   codeAny (model P w) callerA (.call (.ref fa) ⟨[.ref a],[]⟩) (fun r s'=>r = .ok (.ret (.bool true))/\OldK s₁.heap s'.heap/\s'.os=s₁.os/\AllBare s'.gens) s₁:=by
  intro H hO hS hok hA hK
  have base_of:∀{b:Addr}{o:Obj},s₁.heap.get? b=some o->H b=none->(Su s₁.heap H).get? b=some o:=fun e n=>O0 e n
  have noA:∀{b:Addr}{o:Obj}{es:Array DictEntry}{ep:Nat},s₁.heap.get? b=some o->o.data = .dict es ep->H b=none:=fun{b o es ep} e d=>by
   cases q:H b with
   | none=>rfl
   | some u=>
    have e':b=a:=hA b (by rw[q];simp)
    subst e'
    rw[ha] at e;cases e
    have d':Data.seq vs.toArray _=Data.dict es ep:=d
    cases d'
  have nsK:∀{b:Addr}{m:Str->Option Value},s₁.heap.Ns b m->(Su s₁.heap H).Ns b m:=fun{b m} ⟨o,es,ep,e,d,r⟩=>⟨o,es,ep,base_of e (noA e d),d,r⟩
  have hKb:K.In (Su s₁.heap H):=fun b o e=>base_of (KX b o e) (by
   cases q:H b with
   | none=>rfl
   | some u=>
    have e':b=a:=hA b (by rw[q];simp)
    subst e'
    rw[hK (by rw[q];simp)] at e;cases e)
  have hM:Mod K mg (Su s₁.heap H):=⟨hKb,nsK hns,⟨mb,nsK hb,hbb⟩,let⟨mc,h1,h2⟩:=hlim;⟨mc,nsK h1,h2⟩⟩
  have e0:MA P w K mg (Su s₁.heap H) callerA [] s₁ H:=⟨rfl,hM,fun b o e=>Mn e,Nat.le_of_eq (PU _ _),trivial,fun b hb=>absurd (show b∈([]:List Addr) from hb) (by simp),hok,.of_eq hg⟩
  refine codeAny_mono ((F _ hKb (nsK hns)).run callerA [] s₁ H ⟨[.ref a],[]⟩ [.ref a] [.ref a] _ _ hr e0 (hbind s₁ (.ref a)) (.cons rfl .nil) (hsp H hO hS)) fun r s' h=>?_
  cases r with
  | error e=>exact(hCX H e s' h).elim
  | ok fl=>
   cases fl with
   | next=>exact False.elim h
   | brk=>exact False.elim h
   | cont=>exact False.elim h
   | ret u=>
    obtain⟨v,H',os,bare,un,hok',r',q⟩:=h
    have q':v = .bl true:=q
    subst q'
    obtain rfl:u=Value.bool true:=r'
    refine⟨rfl,OldK.of_keep fun b o e=>?_,os,bare⟩
    cases q:H b with
    | none=>exact un.keep b o e q (by intro z;exact absurd (show b∈([]:List Addr) from z) (by simp)) (by simp)
    | some u=>
     rcases hO b with z | ⟨ob,xs,z⟩
     ·rw[q] at z;cases z
     ·have z2:=un.frzs b ob _ z
      obtain⟨e1,_⟩:=hok b _ z
      obtain⟨e2,_⟩:=hok' b _ z2
      rw[e] at e1;cases e1;exact e2
 cases hk:K.lookup a with
 | some o=>
  -- the script is one of the module's own objects
  have e:=KX a o hk;rw[ha] at e;cases e
  refine core (fun _=>none) (fun _=>.inl rfl) (.inr ⟨_,vs.toArray,_,hk,rfl,rfl,rfl,by rw[List.size_toArray,lenV];exact hl,by simpa using rv⟩) (fun b u z=>by have z':(none:Option HO)=some u:=z;cases z') (fun b z=>absurd rfl z) fun z=>absurd rfl z
 | none=>
  refine core (fun b=>if b=a then some (.frz { cls:=.type "list",data:=.seq vs.toArray } (.lst (ns.map V.int))) else none) (fun b=>?_) (.inl (.inr ⟨{ cls:=.type "list",data:=.seq vs.toArray },if_pos rfl⟩)) (fun b u z=>?_) (fun b z=>?_) fun _=>hk
  ·by_cases hb:b=a
   ·exact .inr ⟨_,_,if_pos hb⟩
   ·exact .inl (if_neg hb)
  ·by_cases hb:b=a
   ·have z':=(if_pos hb).symm.trans z
    cases z'
    subst hb
    exact⟨ha,by rw[List.length_map];exact hl,vs,_,rv,ha⟩
   ·have z':=(if_neg hb).symm.trans z
    cases z'
  ·by_cases hb:b=a
   ·exact hb
   ·exact absurd (if_neg hb) z
theorem walk_of{l:PySem.W.OpenLaw}{n k:Nat}{q:Program}{loose:List Str}{XP:(Str->Option Value)->Heap->Prop}{YP:World->Heap->Prop}{d:DefRec}{K:Params->PySem.W.Frag}{CX:World->O8}{sp:World->Sp}{x:Str}
  (hn:l.most=some n) (hn2:n<=sizeLine) (hdf:d.params.defaults=[]) (hr:Room k callerA)
  (hY:∀(w:World)(h:Heap),YP w h->(K w.params).In h)
  (F:∀(w:World)(mg:Str->Option Value)(fa:Addr)(h:Heap),(K w.params).In h->h.Ns mainGlobals mg->mg d.name=some (.ref fa)->
   ∃fd:FuncData,(∀(s:Shared)(u:Value),BindsTo s fd ⟨[u],[]⟩ [(x,u)])/\
    ∀base:Heap,(K w.params).In base->base.Ns mainGlobals mg->Vt l.prog w (K w.params) mg base (CX w) k fa fd [x] (sp w))
  (hsp:∀(w:World)(H:Hp)(a:Addr)(ns:List Int),ns.length<=n->MJ H->SqL (K w.params) H a (ns.map V.int)->sp w [.ref a] H (fun v _=>v = .bl true) fun _ _ _=>False)
  (hCX:∀(w:World)(H:Hp)(s:Shared)(e:Value)(s':Shared),CX w [] H s (fun _ _ _=>False) e s'->False) :
  PySem.W.WalkO q loose XP YP l.row.toRowW d [] (fun f vs=>PySem.call f vs):=by
 refine Att.attach_call hn hdf fun w s₀ s₁ mg mb fa o pm cd doc a vs ns G Y ho hd hcd hmg hobj hints hlen hg=>?_
 have KX:=hY w _ Y
 obtain⟨fd,hb,hF⟩:=F w mg fa _ KX G.T.g hmg
 exact Nd KX G.T.g G.T.b G.T.builtins G.T.nolimit hg hobj hints (Nat.le_trans hlen hn2) hr hF hb (fun H hO hS=>hsp w H a ns hlen hO hS) fun H e s'=>hCX w H s₁ e s'
def Zz(s:Stmt):Arguments:=match s with
 | .FunctionDef _ a _ _ _ _ _ _ _ _=>a
 | _=>{ posonlyargs:=[],args:=[],vararg:=none,kwonlyargs:=[],kw_defaults:=[],kwarg:=none,defaults:=[] }
def Zs(s:Stmt):List Stmt:=match s with
 | .FunctionDef _ _ b _ _ _ _ _ _ _=>b
 | _=>[]
def Zh(s:Stmt):Scope:=match s with
 | .FunctionDef _ _ _ _ _ _ sc _ _ _=>sc
 | _=>{ kind:=.function,names:=[],isGenerator:=false,isCoroutine:=false }
abbrev Pm:O8:=fun _ _ _ _ _ _=>False
abbrev E0:XK:=fun _ _ _=>False
theorem J1{X:Cx}:Qk Pm X E0:=fun _ _ _ _ _ _ _ h=>h.elim
structure Fun(K:PySem.W.Frag)(x qual:Str)(st:Stmt)(f:Addr)(fd:FuncData):Prop where
 ex:∃(oc:Value) (od:Option Addr) (kV doc pm:Value) (an:Option Addr) (cdv ct:Value) (osl:Array (Option Value)),
  fd=PySem.W.fnOf x qual (Zz st) (Zs st) (Zh st) .none kV doc pm an cdv ct/\K.lookup f=some ⟨oc,od,.func fd,osl⟩/\PySem.W.codeIn K cdv qual=true
 kp:PySem.W.keepIn K (.ref f)=true
section
variable {P:Program} {w:World} {K:PySem.W.Frag} {mg:Str->Option Value} {base:Heap}
theorem Fun.ok{x qual:Str}{st:Stmt}{f:Addr}{fd:FuncData}{N ps:List Str}{k:Nat}{sp:Sp}(F:Fun K x qual st f fd)(S:ZE N ps (Zh st))(len:∀vs H Q E,sp vs H Q E->vs.length=ps.length)
  (hbody:∀(cdv:Value)(A:Around)(outer:List Env)(s:Shared)(H:Hp)(vs:List V)(Q:VK)(E:XK),Room k (A.deeper (envOfC qual (Zh st) s.heap.objs.size f cdv))->sp vs H Q E->
   ∃t,PSs (U1 Pm P w K mg base N qual (Zh st) f cdv A outer s H E).nox (Zs st) t/\t { nx:=fun _ H'=>Q .non H',rt:=Q } (start N vs) H):Vt P w K mg base Pm (k+1) f fd ps sp:=by
 obtain⟨oc,od,kV,doc,pm,an,cdv,ct,osl,rfl,lk,hcd⟩:=F.ex
 refine LH lk hcd S len fun A outer s H vs Q E hr hsp=>?_
 obtain⟨t,h,q⟩:=hbody cdv A outer s H vs Q E hr hsp
 exact⟨t,h.nox,q⟩
theorem Fun.binds{x qual:Str}{st:Stmt}{f:Addr}{fd:FuncData}{ps:List Str}(F:Fun K x qual st f fd)
  (h:∀(kV doc pm:Value)(an:Option Addr)(cdv ct:Value)(us:List Value),us.length=ps.length->bindArgs (PySem.W.fnOf x qual (Zz st) (Zs st) (Zh st) .none kV doc pm an cdv ct) ⟨us,[]⟩=pure (ps.zip us)):Binds K fd ps []:=by
 obtain⟨oc,od,kV,doc,pm,an,cdv,ct,osl,rfl,lk,hcd⟩:=F.ex
 exact .all (h kV doc pm an cdv ct)
theorem Kx{x qual:Str}{st:Stmt}{f:Addr}{oc:Value}{od an:Option Addr}{osl:Array (Option Value)}{kV doc pm cdv ct:Value}(l:K.lookup f=some ⟨oc,od,.func (PySem.W.fnOf x qual (Zz st) (Zs st) (Zh st) .none kV doc pm an cdv ct),osl⟩)
  (c:PySem.W.codeIn K cdv qual=true) (k:PySem.W.keepIn K (.ref f)=true):Fun K x qual st f (PySem.W.fnOf x qual (Zz st) (Zs st) (Zh st) .none kV doc pm an cdv ct):=⟨⟨oc,od,kV,doc,pm,an,cdv,ct,osl,rfl,l,c⟩,k⟩
end
theorem Uz{A:Around}{k:Nat}(hr:Room k A):A.units+1<cLine:=Nat.lt_of_le_of_lt (Nat.add_le_add_left (by decide:1<=64) _) hr.units
section
variable {X:Cx}
theorem pv(i:Nat){x:Str}{pos:Pos}(hN:X.N[i]?=some x:=by rfl)(hv:IM X.env.scope x:=by first | exact Or.inl rfl | exact Or.inr (Or.inl rfl) | exact Or.inr (Or.inr rfl))(hd:(x==("__debug__" : Str))=false:=by decide)
  (hcd:(x==("__classdict__" : Str))=false:=by decide):PE X (.Name x pos) (Vr i):=LZ hN hv hd hcd
end
theorem J2{A B:Prop}(h:B):if false=true then A else B:=by
 rw[if_neg Bool.false_ne_true];exact h
theorem J3{A B:Prop}(h:A):if true=true then A else B:=by
 rw[if_pos rfl];exact h
def Same(H H':Hp):Prop:=∀b o,H b=some o->H' b=some o
theorem Same.refl(H:Hp):Same H H:=fun _ _ h=>h
theorem Same.trans{H H1 H2:Hp}(a:Same H H1)(b:Same H1 H2):Same H H2:=fun c o h=>b c o (a c o h)
theorem Same.free{H H':Hp}(e:Same H H'){l:Addr}(h:H' l=Option.none):H l=Option.none:=by
 cases q:H l with
 | none=>rfl
 | some o=>
  rw[e l o q] at h;cases h
section
variable {κ:Type} [DecidableEq κ]
theorem SC:∀{l:List κ}{k:κ},l.Nodup->¬k∈l->(l++[k]).Nodup
 | [],k,_,_=>by simp
 | a::r,k,h,hk=>by
  obtain⟨h1,h2⟩:=List.nodup_cons.mp h
  show(a::(r++[k])).Nodup
  refine List.nodup_cons.mpr ⟨fun m=>?_,SC h2 fun m=>hk (List.mem_cons.mpr (Or.inr m))⟩
  rcases List.mem_append.mp m with q | q
  ·exact h1 q
  ·exact hk (List.mem_cons.mpr (Or.inl (List.mem_singleton.mp q).symm))
end
end L2
set_option maxHeartbeats 4000000
namespace L2
open PySem PySem.Spec PyProof.Rows
def Yq(cells:List (Str×Addr)):List (Str×NameKind)->List (Str×Addr)->List (Str×Addr)
 | [],acc=>acc
 | (n,k)::r,acc=>Yq cells r (if(k==NameKind.free)=true then(n,(cells.lookup n).getD 0)::acc else acc)
theorem Ve{env:Env}:∀(names:List (Str×NameKind))(acc:List (Str×Addr)),(∀y∈names,y.2 = .free->(env.cells.lookup y.1).isSome=true)->
  (forIn (m:=Sem) names acc fun(x:Str×NameKind) (cs:List (Str×Addr))=>
   match x with
   | (name,kind)=>if(kind==NameKind.free)=true then do
     let c <-cellOf env name
     pure (ForInStep.yield ((name,c)::cs))
    else pure (ForInStep.yield cs))=pure (Yq env.cells names acc)
 | [],acc,_=>rfl
 | (n,k)::r,acc,h=>by
  rw[List.forIn_cons]
  have ih:=fun acc'=>Ve r acc' fun y hy=>h y (List.mem_cons_of_mem _ hy)
  cases hk:(k==NameKind.free) with
  | true=>
   have hs:=h (n,k) List.mem_cons_self (by simpa using hk)
   obtain⟨c,hc⟩:=Option.isSome_iff_exists.mp hs
   have hc:env.cells.lookup n=some c:=hc
   have e1:cellOf env n=pure c:=by unfold cellOf;rw[hc]
   dsimp only
   rw[hk,if_pos rfl,e1]
   refine Eq.trans (ih ((n,c)::acc)) ?_
   show _=pure (Yq env.cells r (if(k==NameKind.free)=true then(n,(env.cells.lookup n).getD 0)::acc else acc))
   rw[if_pos hk,hc];rfl
  | false=>
   dsimp only
   rw[hk,if_neg Bool.false_ne_true]
   refine Eq.trans (ih acc) ?_
   show _=pure (Yq env.cells r (if(k==NameKind.free)=true then(n,(env.cells.lookup n).getD 0)::acc else acc))
   rw[if_neg (by rw[hk];exact Bool.false_ne_true)]
theorem Vf{scope:Scope}{env:Env}(h:∀y∈scope.names,y.2 = .free->(env.cells.lookup y.1).isSome=true):closureFor scope env=pure (Yq env.cells scope.names []):=by
 have e:=Ve (env:=env) scope.names [] h
 unfold closureFor
 dsimp only
 rw[e];rfl
theorem Ui{cells:List (Str×Addr)}{x:Str}{c:Addr}:∀(names:List (Str×NameKind))(acc:List (Str×Addr)),(∀y∈names,y.2 = .free->(cells.lookup y.1).isSome=true)->(acc.lookup x=some c->cells.lookup x=some c)->
  (Yq cells names acc).lookup x=some c->cells.lookup x=some c
 | [],_,_,h,e=>h e
 | (n,k)::r,acc,hf,h,e=>by
  refine Ui r _ (fun y hy=>hf y (List.mem_cons_of_mem _ hy)) ?_ e
  intro q
  by_cases hk:(k==NameKind.free)=true
  ·rw[if_pos hk,List.lookup_cons] at q
   cases hx:x==n with
   | true=>
    rw[hx] at q
    have exn:x=n:=by simpa using hx
    obtain⟨d,hd⟩:=Option.isSome_iff_exists.mp (hf (n,k) List.mem_cons_self (by simpa using hk))
    have hd:cells.lookup n=some d:=hd
    rw[hd] at q
    rw[exn,hd];exact q
   | false=>rw[hx] at q;exact h q
  ·rw[if_neg hk] at q;exact h q
theorem U4{cells:List (Str×Addr)}{x:Str}:∀(names:List (Str×NameKind))(acc:List (Str×Addr)),(acc.lookup x).isSome=true->((Yq cells names acc).lookup x).isSome=true
 | [],_,h=>h
 | (n,k)::r,acc,h=>by
  refine U4 r _ ?_
  split
  ·rw[List.lookup_cons];split<;>simp_all
  ·exact h
theorem Uj{cells:List (Str×Addr)}{x:Str}:∀(names:List (Str×NameKind))(acc:List (Str×Addr)),(x,NameKind.free)∈names->((Yq cells names acc).lookup x).isSome=true
 | (n,k)::r,acc,h=>by
  rcases List.mem_cons.mp h with e | h
  ·cases e
   refine U4 r _ ?_
   rw[if_pos (by decide),List.lookup_cons]
   simp
  ·exact Uj r _ h
structure CompScope(N:List Str)(around scope:Scope)(own fr:List Str)(ix:List Nat):Prop where
 kind:scope.kind = .function
 nocell:∀y∈scope.names,y.2≠.cell
 names:∀y∈scope.names,y.2 = .local->scope.names.lookup y.1=some .local
 frees:∀y∈scope.names,y.2 = .free->(around.names.lookup y.1=some .cell\/around.names.lookup y.1=some .free)
 slots:fr.map some=ix.map (fun i=>N[i]?)
 outs:∀x∈fr,(x,NameKind.free)∈scope.names
 apart:∀x∈fr,scope.names.lookup x≠some .local
def Zx(X:Cx)(N':List Str)(scope:Scope)(cl:List (Str×Addr))(C:Addr)(s:Shared)(H:Hp)(ex:List Addr):Cx:=
 { X with N:=N',s₀:=s,H₀:=H,env:=compEnvC scope cl C X.env,outer:=X.stack,ex:=ex,fn:=fun _=>false,pn:=[],xe:=fun _ _=>False }
def ZS(n:Nat)(ix:List Nat)(Z:St):St:=List.replicate n none++ix.map (fun i=>(Z[i]?).join)
theorem Xm{env:Env}{x:Str}:∀{names:List (Str×NameKind)}{k:NameKind},names.lookup x=some k->
  (names.map fun(n,k)=>if(k==NameKind.free&&env.scope.kind==.function&&env.kindOf n==some .cell) then(n,NameKind.cell) else(n,k)).lookup x =
   some (if(k==NameKind.free&&env.scope.kind==.function&&env.kindOf x==some .cell)=true then NameKind.cell else k)
 | [],_,h=>by simp at h
 | (n,k')::r,k,h=>by
  show List.lookup x ((if(k'==NameKind.free&&env.scope.kind==.function&&env.kindOf n==some .cell)=true then(n,NameKind.cell) else(n,k'))::_)=_
  cases hx:x==n with
  | true=>
   simp only[List.lookup_cons,hx] at h;cases h
   have e:x=n:=by simpa using hx
   subst e
   split
   ·simp[List.lookup_cons]
   ·simp[List.lookup_cons]
  | false=>
   simp only[List.lookup_cons,hx] at h
   split
   ·simp only[List.lookup_cons,hx];exact Xm h
   ·simp only[List.lookup_cons,hx];exact Xm h
theorem Wm{env:Env}{x:Str}:∀{names:List (Str×NameKind)}{k':NameKind},
  (names.map fun(n,k)=>if(k==NameKind.free&&env.scope.kind==.function&&env.kindOf n==some .cell) then(n,NameKind.cell) else(n,k)).lookup x=some k'->∃k,names.lookup x=some k
 | [],_,h=>by simp at h
 | (n,k0)::r,k',h=>by
  have h:List.lookup x ((if(k0==NameKind.free&&env.scope.kind==.function&&env.kindOf n==some .cell)=true then(n,NameKind.cell) else(n,k0))::_)=some k':=h
  cases hx:x==n with
  | true=>exact⟨k0,by simp[List.lookup_cons,hx]⟩
  | false=>
   have:∃k,r.lookup x=some k:=by
    apply Wm (env:=env) (k':=k')
    split at h<;>simpa [List.lookup_cons,hx] using h
   obtain⟨k,e⟩:=this
   exact⟨k,by simp[List.lookup_cons,hx,e]⟩
section
variable {X:Cx} {pins:List (Addr×Obj)} {Z:St} {H:Hp} {s:Shared} {own fr:List Str} {ix:List Nat} {scope:Scope}
theorem CompScope.clos(S:CompScope X.N X.env.scope scope own fr ix)(I:Inv X pins Z H s):∀y∈scope.names,y.2 = .free->(X.env.cells.lookup y.1).isSome=true:=fun y hy hf=>by
 obtain⟨c,e⟩:=I.ok.has y.1 (S.frees y hy hf)
 rw[e];rfl
end
theorem SD{prog:Program}{w:World}{A:Around}{R:Result->Shared->Prop}{s:Shared}{elt target iter:Expr}{ifs:List Expr}{scope:Scope}{pos:Pos}{it acc:Value}{env:Env}(I:Nat->Shared->Prop)
  (turn:∀n s,I n s->wpAny (model prog w) A (pyNext it) (fun r s₁=>match r with
   | none=>R (.ok .next) s₁
   | some v=>wpAny (model prog w) A (letOwnedTupleGo target it v) (fun _ s₁'=>wpAny (model prog w) A (assign target env v) (fun _ s₂=>
     wpAny (model prog w) A (forIn ifs true fun c r=>if r=true then do let ok <-isTrue c env (eval c env);pure (ForInStep.yield ok) else pure (ForInStep.yield r)) (fun ok s₃=>
      if ok=true then wpAny (model prog w) A (eval elt env) (fun x s₄=>
       wpAny (model prog w) A (call (.builtin "list.append") [acc,x]) (fun _ s₅=>∃m,m<n/\I m s₅) (notedBy (model prog w) A env fun e s'=>R (.error e) s') s₄) (notedBy (model prog w) A env fun e s'=>R (.error e) s') s₃
      else ∃m,m<n/\I m s₃) (notedBy (model prog w) A env fun e s'=>R (.error e) s') s₂) (notedBy (model prog w) A env fun e s'=>R (.error e) s') s₁') (notedBy (model prog w) A env fun e s'=>R (.error e) s') s₁) (notedBy (model prog w) A env fun e s'=>R (.error e) s') s)
  (n:Nat) (h:I n s) :
  codeAny (model prog w) A (.compLoop (.ListComp elt [⟨target,iter,ifs,0⟩] scope pos) 0 it acc env) R s:=by
 refine codeAny_loop rfl I (fun n s hI=>?_) n h
 show wpAny _ A ((compTurn (.ListComp elt [⟨target,iter,ifs,0⟩] scope pos) 0 it acc env).onRaise (fun x=>do noteFrame x env;theTreesLotGoes x)) _ _ s
 refine wpAny_noted ?_
 rw[compTurn_list]
 refine wpAny_bind (wpAny_standAt (wpAny_bind (wpAny_mono (turn n s hI) (fun r s₁ h₁=>?_) fun _ _ h'=>h')))
 cases r with
 | none=>exact wpAny_pure h₁
 | some v=>
  refine wpAny_bind (wpAny_mono h₁ (fun _ s₁' h₁'=>?_) fun _ _ h'=>h')
  refine wpAny_bind (wpAny_mono h₁' (fun _ s₂ h₂=>wpAny_bind (wpAny_mono h₂ (fun ok s₃ h₃=>?_) fun _ _ h'=>h')) fun _ _ h'=>h')
  cases ok with
  | false=>exact wpAny_pure ⟨rfl,h₃⟩
  | true=>
   exact wpAny_bind (wpAny_bind (wpAny_mono h₃ (fun x s₄ h₄=>wpAny_bind (wpAny_mono h₄ (fun _ s₅ h₅=>wpAny_pure (wpAny_pure ⟨rfl,h₅⟩)) fun _ _ h'=>h')) fun _ _ h'=>h'))
def Mk(X:Cx)(ifs:List Expr)(t:TT):Prop:=
 ∀(pins:List (Addr×Obj))(s:Shared)(Z:St)(H:Hp)(Q:Bool->Hp->Prop),Inv X pins Z H s->t Z H Q->
  wpAny (model X.prog X.w) X.A (forIn ifs true fun c r=>if r=true then do let ok <-isTrue c X.env (eval c X.env);pure (ForInStep.yield ok) else pure (ForInStep.yield r)) (TP X pins Z Q) X.xe s
def J4:TT:=fun _ H Q=>Q true H
theorem MK{X:Cx}:Mk X [] J4:=fun _ _ _ H _ I h=>wpAny_tests_nil ⟨H,I,h⟩
def J5(n:Nat)(ix:List Nat)(g:TG)(tt:TT)(te:TE)(Z:St)(Q:VK)(J:It)(H1:Hp):Prop:=
 ∃W:Nat->Nat->List V->Hp->Prop,(∃m,W 0 m [] H1)/\∀i m ys H,W i m ys H->ys.length<=sizeLine/\
  ((J.stop i H/\∀p,H p=none->Q (.ref p) (upd H p (.lst ys)))\/
   (J.go i H/\∃N:List V->Hp->Prop,(∀ys' H',N ys' H'->∃m',m'<m/\W (i+1) m' ys' H')/\
    ∀x H',J.yld i H x H'->g x (ZS n ix Z) H' fun Z2 H2=>Z2.drop n=(ZS n ix Z).drop n/\tt Z2 H2 fun b H3=>if b=true then te Z2 H3 fun y H4=>N (ys++[y]) H4 else N ys H3))
def T6(n:Nat)(ix:List Nat)(wi:TI)(g:TG)(tt:TT)(te:TE):TE:=fun Z H Q=>wi Z H fun J H1=>J5 n ix g tt te Z Q J H1
theorem Oh{n:Nat}{ix:List Nat}{Z Z2:St}(hd:Z2.drop n=(ZS n ix Z).drop n):∀(i:Nat) v,(ZS n ix Z)[i]?=some (some v)->Z2[i]?=some (some v):=fun i v e=>by
 by_cases hi:i<n
 ·unfold ZS at e
  rw[List.getElem?_append_left (by simpa using hi),List.getElem?_replicate] at e
  rw[if_pos hi] at e;cases e
 ·have q:=congrArg (fun l=>l[i-n]?) hd
  simp only[List.getElem?_drop] at q;rw[show n+(i-n)=i by omega] at q
  rw[q];exact e
section
variable {X:Cx} {tg elt iter:Expr} {ifs:List Expr} {scope:Scope} {pos:Pos} {own fr:List Str} {ix:List Nat} {wi:TI} {g:TG} {tt:TT} {te:TE}
theorem Nf{pins:List (Addr×Obj)}{Z:St}{H2:Hp}{s2:Shared}{fp:List Addr}{h₁:Heap}{tk:Nat}{C:Addr}(S:CompScope X.N X.env.scope scope own fr ix)(I2:Inv X pins Z H2 s2)(f2:∀b∈fp,UC X pins H2 b)(hfp:∀b∈fp,b<s2.heap.objs.size)
  (hC:s2.heap.objs.size<=C) (hns:h₁.Ns C fun _=>none) (old:∀b o,s2.heap.get? b=some o->h₁.get? b=some o) :
  Inv (Zx X (own++fr) scope (Yq X.env.cells scope.names []) C s2 H2 fp) [] (ZS own.length ix Z) H2 { s2 with heap:=h₁,toks:=tk }:=by
 have cs:=S.clos I2
 have sub:∀x c,(Yq X.env.cells scope.names []).lookup x=some c->X.env.cells.lookup x=some c:=fun x c e=>Ui scope.names [] cs (fun h=>by simp at h) e
 have stk:=I2.stkSub
 have okk:(Zx X (own++fr) scope (Yq X.env.cells scope.names []) C s2 H2 fp).Ok:=by
  refine⟨I2.ok.mod,S.kind,I2.ok.glob,I2.ok.blt,hC,fun x y c h1 h2=>I2.ok.inj x y c (sub x c h1) (sub y c h2),fun x hx=>?_,fun x c h _=>?_,I2.ok.hd,I2.ok.frames,.inl rfl,fun b hb=>⟨?_,fun x c e=>?_⟩,I2.bs,?_,fun b o e hb=>?_,fun b hb z=>?_,I2.stack,I2.stkFree⟩
  ·-- the cells of the block's free names
   have hx:(relabel scope X.env).names.lookup x=some .cell\/(relabel scope X.env).names.lookup x=some .free:=hx
   have key:(x,NameKind.free)∈scope.names:=by
    have:∃k',(relabel scope X.env).names.lookup x=some k'/\(k' = .cell\/k' = .free):=by
     rcases hx with h | h
     ·exact⟨_,h,.inl rfl⟩
     ·exact⟨_,h,.inr rfl⟩
    obtain⟨k',e,hk'⟩:=this
    obtain⟨k,e0⟩:=Wm e
    have e1:=Xm (env:=X.env) e0
    have e:(scope.names.map fun(n,k)=>if(k==NameKind.free&&X.env.scope.kind==.function&&X.env.kindOf n==some .cell) then(n,NameKind.cell) else(n,k)).lookup x=some k':=e
    rw[e1] at e;have m:=PySem.mem_of_lookup e0
    cases k with
    | free=>exact m
    | cell=>exact absurd rfl (S.nocell _ m)
    | _=>simp at e;subst e;rcases hk' with z | z<;>cases z
   exact Option.isSome_iff_exists.mp (Uj _ _ key)
  ·cases h
  ·-- fp differs from the frame
   exact Nat.ne_of_lt (Nat.lt_of_lt_of_le (hfp b hb) hC)
  ·exact(f2 b hb).2.2.2.2.1 x c (sub x c e)
  ·exact Nat.le_trans I2.ok.bsz I2.sz
  ·rcases(f2 b hb).2.2.2.1 with z | z
   ·exact I2.ok.noex b o e z
   ·exact absurd (Nat.lt_of_lt_of_le (Heap.lt_size (I2.ok.bs b o e).1) z) (Nat.lt_irrefl _)
  ·rcases List.mem_cons.mp (stk b z) with e | e
   ·exact(f2 b hb).2.1 e
   ·exact(f2 b hb).2.2.1 e
 have sl:fr.length=ix.length:=by simpa using congrArg List.length S.slots
 refine⟨okk,rfl,I2.bare,Un.kept old,⟨_,hns,fun i x v h1 h2 h3=>?_⟩,fun x c e=>?_,I2.hok.fresh hC,fun x c e=>I2.freeC x c (sub x c e),fun p hp=>absurd (show p∈([]:List (Addr×Obj)) from hp) (by simp),I2.hok.kept old,?_⟩
 ·-- a name of the def around
  have h1:(own++fr)[i]?=some x:=h1
  have hi:¬i<own.length:=fun hi=>by
   unfold ZS at h2;rw[List.getElem?_append_left (by simpa using hi),List.getElem?_replicate,if_pos hi] at h2;cases h2
  rw[List.getElem?_append_right (by omega)] at h1;unfold ZS at h2;rw[List.getElem?_append_right (by simpa using hi),List.length_replicate,List.getElem?_map] at h2
  cases ej:ix[i-own.length]? with
  | none=>rw[ej] at h2;cases h2
  | some j=>
   rw[ej] at h2
   have h2:(Z[j]?).join=some v:=by simpa using h2
   have h2:Z[j]?=some (some v):=by
    cases q:Z[j]? with
    | none=>rw[q] at h2;cases h2
    | some z=>rw[q] at h2;exact congrArg some h2
   have hN:X.N[j]?=some x:=by
    have q:=congrArg (fun l=>l[i-own.length]?) S.slots
    simp only[List.getElem?_map,h1,ej,Option.map_some] at q
    exact(Option.some.inj q).symm
   have hm:=S.outs x (List.mem_of_getElem? h1)
   have hk:=S.frees _ hm rfl
   have hk:X.env.scope.names.lookup x=some .cell\/X.env.scope.names.lookup x=some .free:=hk
   obtain⟨m,hn,hl⟩:=I2.loc
   obtain⟨u,r,l⟩:=hl j x v hN h2 (by rcases hk with k | k;exact .inr (.inl k);exact .inr (.inr k))
   refine⟨u,r,?_⟩
   rcases l with⟨k,_⟩ | ⟨_,c,hc,hcell⟩
   ·have k:X.env.scope.names.lookup x=some .local:=k
    rcases hk with q | q<;>rw[k] at q<;>cases q
   ·obtain⟨c',hc'⟩:=Option.isSome_iff_exists.mp (Uj (cells:=X.env.cells) _ [] hm)
    have ec:=sub x c' hc'
    rw[hc] at ec;cases ec
    refine .inr ⟨?_,c,hc',?_⟩
    ·have h3:(relabel scope X.env).names.lookup x=some .local\/(relabel scope X.env).names.lookup x=some .cell\/(relabel scope X.env).names.lookup x=some .free:=h3
     rcases h3 with h3 | h3
     ·obtain⟨k0,e0⟩:=Wm h3
      have e1:=Xm (env:=X.env) e0
      have h3:(scope.names.map fun(n,k)=>if(k==NameKind.free&&X.env.scope.kind==.function&&X.env.kindOf n==some .cell) then(n,NameKind.cell) else(n,k)).lookup x=some .local:=h3
      rw[e1] at h3
      have k0l:k0 = .local:=by
       cases k0<;>simp at h3 ⊢
       split at h3<;>cases h3
      subst k0l
      exact absurd e0 (S.apart x (List.mem_of_getElem? h1))
     ·exact h3
    ·obtain⟨o,ho,hd⟩:=hcell
     exact⟨o,old _ _ ho,hd⟩
 ·obtain⟨v,o,ho,hd⟩:=I2.cell x c (sub x c e)
  exact⟨v,o,old _ _ ho,hd⟩
 ·show(ZS own.length ix Z).length=(own++fr).length
  unfold ZS;rw[List.length_append,List.length_replicate,List.length_map,List.length_append,sl]
theorem U5{pins:List (Addr×Obj)}{Z:St}{H2:Hp}{s2:Shared}{fp:List Addr}{it:Addr}{tn:Nat->Heap->Prop}{J:It}{Fin:List V->Hp->Prop}{RR:Value->Addr->Result->Shared->Prop}{E:Value->Shared->Prop}
  (hcalm:X.calm=true) (S:CompScope X.N X.env.scope scope own fr ix)
  (hg:∀cl C s H ex,PG (Zx X (own++fr) scope cl C s H ex) tg g) (ht:∀cl C s H ex,Mk (Zx X (own++fr) scope cl C s H ex) ifs tt) (he:∀cl C s H ex,PE (Zx X (own++fr) scope cl C s H ex) elt te)
  (I2:Inv X pins Z H2 s2) (T:Qf X.prog X.w X.K tg J fp it tn) (st2:tn 0 s2.heap) (f2:∀b∈fp,UC X pins H2 b)
  {W:Nat->Nat->List V->Hp->Prop} {m0:Nat} (w0:W 0 m0 [] H2)
  (turn:∀i m ys H,W i m ys H->ys.length<=sizeLine/\
   ((J.stop i H/\Fin ys H)\/
    (J.go i H/\∃N:List V->Hp->Prop,(∀ys' H',N ys' H'->∃m',m'<m/\W (i+1) m' ys' H')/\
     ∀x H',J.yld i H x H'->g x (ZS own.length ix Z) H' fun Z2 H2=>Z2.drop own.length=(ZS own.length ix Z).drop own.length/\tt Z2 H2 fun b H3=>if b=true then te Z2 H3 fun y H4=>N (ys++[y]) H4 else N ys H3)))
  (hRR:∀(D C:Addr)(oC:Obj)(m:Str->Option Value)(s':Shared)(H':Hp)(ys:List V),Inv X (pins++[(C,oC)]) Z (upd H' D (.lst ys)) s'->s'.heap.get? C=some oC->s'.heap.Ns C m->UC X pins (upd H' D (.lst ys)) C->H' D=none->Fin ys H'->RR (.ref D) C (.ok .next) s') :
  wpAny (model X.prog X.w) X.A (newList []) (fun acc s₃=>wpAny (model X.prog X.w) X.A (newFunctionEnv scope X.env.globals (Yq X.env.cells scope.names []) [] X.env.qual none .none (some X.env)) (fun cenv s₄=>
   codeAny (model X.prog X.w) X.A (.compStart (.ListComp elt [⟨tg,iter,ifs,0⟩] scope pos) 0 (.ref it) acc { cenv with scope:=relabel scope X.env }) (RR acc cenv.locals) s₄) E s₃) E s2:=by
 have hfp:∀b∈fp,b<s2.heap.objs.size:=fun b hb=>by
  obtain⟨o,e,_⟩:=T.obj 0 s2.heap st2 b hb
  exact Heap.lt_size e
 refine wpAny_newObj_type (wpAny_newFunctionEnv S.nocell (by intro y hy;simp at hy) (fun h₁ hns₁ hsb₁=>?_) S.kind)
 dsimp only at hns₁ hsb₁ ⊢
 generalize hH2:s2.heap.push { cls:=.type "list",dict:=none,data:=.seq ([]:List Value).toArray }=G2 at hns₁ hsb₁ ⊢
 have hC:G2.objs.size=s2.heap.objs.size+1:=by rw[<-hH2,Heap.size_push]
 generalize hCC:G2.objs.size=C at hns₁ hsb₁ hC ⊢
 generalize hDD:s2.heap.objs.size=D at hC ⊢
 have hDC:D≠C:=by omega
 have below:∀b,b<s2.heap.objs.size->b≠C/\b≠D:=fun b hb=>by
  rw[hDD] at hb
  exact⟨Nat.ne_of_lt (by omega),Nat.ne_of_lt hb⟩
 have old:∀b o,s2.heap.get? b=some o->h₁.get? b=some o:=fun b o e=>hsb₁.extBut b o (below b (Heap.lt_size e)).1 (Heap.get?_push_of_some _ (hH2▸Heap.get?_push_of_some _ e))
 have hacc:h₁.get? D=some { cls:=.type "list",data:=.seq ([]:List Value).toArray 0 }:=by
  have e0:G2.get? D=some { cls:=.type "list",data:=.seq ([]:List Value).toArray 0 }:=by
   rw[<-hH2,<-hDD]
   exact Heap.get?_push_size _ rfl
  exact hsb₁.extBut _ _ hDC (Heap.get?_push_of_some _ e0)
 have hns₁':h₁.Ns C fun _=>none:=by simpa using hns₁
 have I0:=fun tk=>Nf (tk:=tk) S I2 f2 hfp (C:=C) (by omega) hns₁' old
 -- what stays true of the iterator's objects in the block
 have loop:∀s₃:Shared,s₃={ s2 with heap:=h₁,toks:=s2.toks+([]:List (Str×Value)).length }->
   codeAny (model X.prog X.w) X.A (.compLoop (.ListComp elt [⟨tg,iter,ifs,0⟩] scope pos) 0 (.ref it) (.ref D) (compEnvC scope (Yq X.env.cells scope.names []) C X.env)) (RR (.ref D) C) s₃:=by
  rintro s₃ rfl
  generalize hY:Zx X (own++fr) scope (Yq X.env.cells scope.names []) C s2 H2 fp=Y at I0
  have stat:∀{H':Hp}{pn:List (Addr×Obj)},(∀b∈fp,H' b=none)->(∀p∈pn,∀b∈fp,p.1≠b)->∀b∈fp,UC Y pn H' b:=fun{H' pn} hn hp b hb=>by
   subst hY
   refine⟨hn b hb,(below b (hfp b hb)).1,fun z=>?_,.inl hb,fun x c e=>?_,fun p hp'=>hp p hp' b hb⟩
   ·exact(I0 0).ok.exfs b hb z
   ·exact((I0 0).ok.exf b hb).2 x c e
  have dfp:∀b∈fp,D≠b:=fun b hb=>Ne.symm (below b (hfp b hb)).2
  have hcellD:∀x c,Y.env.cells.lookup x=some c->c≠D:=fun x c e z=>by
   subst hY
   have e:(Yq X.env.cells scope.names []).lookup x=some c:=e
   have e':=Ui scope.names [] (S.clos I2) (fun h=>by simp at h) e
   obtain⟨v,q⟩:=I2.cell x c e'
   exact(below c q.lt).2 z
  have hfsD:D∉Y.fs:=fun z=>by
   subst hY
   obtain⟨_,o,ho,_⟩:=(I0 0).ok.funs.mem z
   have:=Heap.lt_size ho
   have:D<s2.heap.objs.size:=this
   omega
  have eL:Y.env.locals=C:=by subst hY;rfl
  have eS:Y.s₀=s2:=by subst hY;rfl
  have eP:Y.pn=[]:=by subst hY;rfl
  refine SD (fun n s'=>∃i ys its nn H',Inv Y [] (ZS own.length ix Z) H' s'/\tn i s'.heap/\(∀b∈fp,H' b=none)/\s'.heap.get? D=some { cls:=.type "list",data:=.seq its nn }/\Vals ys its.toList/\H' D=none/\W i n ys H') ?_ m0
   ⟨0,[],#[],0,H2,I0 _,T.keep _ _ _ st2 fun b _ o e=>old b o e,fun b hb=>(f2 b hb).1,hacc,.nil,I2.hok.fresh (by omega),w0⟩
  rintro n s3 ⟨i,ys,its,nn,H3,I3,st3,fr3,oD,vD,nD,w3⟩
  obtain⟨hlen,cases3⟩:=turn i n ys H3 w3
  have hsize:its.size<=sizeLine:=by
   have:=vD.length
   simp only[Array.length_toList] at this;omega
  have pD:Inv Y [(D,{ cls:=.type "list",data:=.seq its nn })] (ZS own.length ix Z) H3 s3:=I3.pins_of fun p hp=>by
   rw[List.mem_singleton.mp hp]
   exact⟨oD,nD,by rw[eL];exact hDC,hfsD,fun v z=>by cases z⟩
  have YP:Y.prog=X.prog:=by subst hY;rfl
  have Yw:Y.w=X.w:=by subst hY;rfl
  have YK:Y.K=X.K:=by subst hY;rfl
  have YA:Y.A=X.A:=by subst hY;rfl
  have Yx:Y.xe=fun _ _=>False:=by subst hY;rfl
  have Ye:Y.env=compEnvC scope (Yq X.env.cells scope.names []) C X.env:=by subst hY;rfl
  have ne1:∀p∈[((D,{ cls:=.type "list",data:=.seq its nn }):Addr×Obj)],∀b∈fp,p.1≠b:=fun p hp b hb=>by rw[List.mem_singleton.mp hp];exact dfp b hb
  rcases cases3 with⟨stop,qn⟩ | ⟨go,N,hN,step⟩
  ·have d:=T.done Y YP Yw YK (by subst hY;exact hcalm) i _ s3 _ H3 (notedBy (model X.prog X.w) X.A (compEnvC scope (Yq X.env.cells scope.names []) C X.env) fun e s'=>RR (.ref D) C (.error e) s') pD (stat fr3 ne1) st3 stop
   rw[YA] at d
   refine Z5 d fun r s4 ⟨hr,I4⟩=>?_
   subst hr
   show RR (.ref D) C (.ok .next) s4
   obtain⟨oD4,nD4,_⟩:=I4.pin (D,_) (by rw[eP];exact List.mem_cons_self)
   obtain⟨m,hn,_⟩:=I4.loc
   rw[eL] at hn
   obtain⟨oC,es,ep,hoC,hdC,hrest⟩:=id hn
   have hfreeC:H3 C=none:=by have:=I4.free;rw[eL] at this;exact this
   have un:Un (Qa X.stack) fp H2 H3 s2.heap s4.heap:=by
    have:=I4.base
    subst hY;exact this
   have lt2:∀b o,s2.heap.get? b=some o->b≠D:=fun b o e=>(below b (Heap.lt_size e)).2
   have un':Un (Qa X.stack) fp H2 (upd H3 D (.lst ys)) s2.heap s4.heap:=by
    refine⟨un.keep,un.slot,fun b o e n hx=>?_,un.there,fun b xs e=>?_,fun b o u e=>?_,fun b ps e=>?_⟩
    ·rw[upd_ne (lt2 b o e)];exact un.free b o e n hx
    ·have q:=un.tups b xs e
     rw[upd_ne (Zq q nD4)];exact q
    ·have q:=un.frzs b o u e
     rw[upd_ne (Zq q nD4)];exact q
    ·obtain⟨more,q⟩:=un.tbls b ps e
     exact⟨more,by rw[upd_ne (Zq q nD4)];exact q⟩
   have hok4:HOk X.prog X.w H3 s4.heap:=by
    have:=I4.hok
    rw[YP,Yw] at this;exact this
   have hok':HOk X.prog X.w (upd H3 D (.lst ys)) s4.heap:=fun b u q=>by
    by_cases hb:b=D
    ·subst hb
     rw[upd_same] at q;cases q
     exact⟨hlen,its.toList,nn,vD,by simpa using oD4⟩
    ·rw[upd_ne hb] at q
     exact(hok4 b u q).stay (fun c v _ z=>z) (fun c z=>by rw[upd_ne (Zq z nD4)];exact z) fun c xs z=>by rw[upd_ne (Zq z nD4)];exact z
   have os4:s4.os=s2.os:=by rw[I4.os,eS]
   have I5:Inv X pins Z (upd H3 D (.lst ys)) s4:=I2.call' os4 un' hok' I4.bare fun b hb=>⟨(f2 b hb).2.2.2.1,(f2 b hb).2.1,(f2 b hb).2.2.2.2.1,(f2 b hb).2.2.2.2.2⟩
   have CL:C≠X.env.locals:=fun z=>by
    exact(below _ I2.lt).1 z.symm
   have fpC:UC X pins (upd H3 D (.lst ys)) C:=I2.fpOk (by omega) (by rw[upd_ne (Ne.symm hDC)];exact hfreeC)
   refine hRR D C oC m s4 H3 ys (I5.pins_of fun p hp=>?_) hoC hn fpC nD4 qn
   rcases List.mem_append.mp hp with z | z
   ·exact I5.pin p (List.mem_append_right _ z)
   ·rw[List.mem_singleton.mp z]
    exact⟨hoC,fpC.1,fpC.2.1,fpC.2.2.1,fun v z=>by rw[hdC] at z;cases z⟩
  ·have d:=T.item Y YP Yw YK (by subst hY;exact hcalm) i _ s3 _ H3 (fun _ _=>False) pD (stat fr3 ne1) st3 go
   rw[YA] at d
   refine wpAny_mono d (fun r s4 ⟨u,hr,h4⟩=>?_) fun _ _ z=>z.elim
   subst hr
   refine wpAny_mono h4 (fun _ s5 ⟨x,H5,I5,r5,y5,st5,fr5⟩=>?_) fun _ _ z=>z.elim
   have I5':=I5.pinned (stat fr5 ne1) (T.obj _ _ st5)
   have hg':=hg (Yq X.env.cells scope.names []) C s2 H2 fp
   have ht':=ht (Yq X.env.cells scope.names []) C s2 H2 fp
   have he':=he (Yq X.env.cells scope.names []) C s2 H2 fp
   rw[hY] at hg' ht' he'
   have a6:=hg' _ s5 _ H5 x u _ I5' r5 (step x H5 y5)
   rw[YP,Yw,YA,Ye,Yx] at a6
   refine wpAny_mono a6 (fun _ s6 ⟨Z6,H6,I6,dr,q6⟩=>?_) fun _ _ z=>z.elim
   have a7:=ht' _ s6 Z6 H6 _ I6 q6;rw[YP,Yw,YA,Ye,Yx] at a7
   refine wpAny_mono a7 (fun ok s7 ⟨H7,I7,q7⟩=>?_) fun _ _ z=>z.elim
   have back:∀{H8:Hp}{s8:Shared},Inv Y ([((D,{ cls:=.type "list",data:=.seq its nn }):Addr×Obj)]++Ue fp s5.heap) Z6 H8 s8->
     s8.heap.get? D=some { cls:=.type "list",data:=.seq its nn }/\H8 D=none/\tn (i+1) s8.heap/\(∀b∈fp,H8 b=none):=fun{H8 s8} I8=>by
    obtain⟨e1,e2,_⟩:=I8.pin (D,{ cls:=.type "list",data:=.seq its nn }) (by rw[eP];exact List.mem_cons_self)
    refine⟨e1,e2,T.keep _ _ _ st5 fun b hb o e=>(I8.pin (b,o) (by rw[eP];exact List.mem_cons_of_mem _ (Wl hb e))).1,fun b hb=>?_⟩
    obtain⟨o,e,_⟩:=T.obj _ _ st5 b hb
    exact(I8.pin (b,o) (by rw[eP];exact List.mem_cons_of_mem _ (Wl hb e))).2.1
   have unp:∀{H8:Hp}{s8:Shared},Inv Y ([((D,{ cls:=.type "list",data:=.seq its nn }):Addr×Obj)]++Ue fp s5.heap) Z6 H8 s8->Inv Y [] (ZS own.length ix Z) H8 s8:=fun{H8 s8} I8=>
    (I8.pins_of (pins':=[]) fun p hp=>absurd hp (by simp)).weak (by
     have e1:=(I0 0).len
     have e2:=I8.len
     rw[e1,e2]) (Oh dr)
   cases ok with
   | false=>
    rw[if_neg Bool.false_ne_true] at q7
    show ∃m,m<n/\_
    obtain⟨e1,e2,e3,e4⟩:=back I7
    obtain⟨m',hm,w7⟩:=hN _ _ q7
    exact⟨m',hm,i+1,ys,its,nn,H7,unp I7,e3,e4,e1,vD,e2,w7⟩
   | true=>
    rw[if_pos rfl] at q7
    show wpAny _ _ _ _ _ _
    have a8:=he' _ s7 Z6 H7 _ I7 q7;rw[YP,Yw,YA,Ye,Yx] at a8
    refine wpAny_mono a8 (fun yv s8 ⟨y,H8,I8,ry,q8⟩=>?_) fun _ _ z=>z.elim
    obtain⟨e1,e2,e3,e4⟩:=back I8
    obtain⟨m',hm,w8⟩:=hN _ _ q8
    refine append_at e1 (fun h9 hs9 hD9=>?_) hsize
    have I9:Inv Y [] (ZS own.length ix Z) H8 { s8 with heap:=h9 }:=(unp I8).turned (t':=s8.toks) (it:=D) (fun b o hb e=>hs9.extBut b o hb e) e2 (by rw[eL];exact hDC) (.inr (by rw[eS];omega)) hcellD (fun p hp=>absurd (show p∈([]:List (Addr×Obj)) by rw[eP] at hp;exact hp) (by simp))
    refine⟨m',hm,i+1,ys++[y],its.push yv,nn+1,H8,I9,T.keep _ _ _ e3 fun b hb o e=>hs9.extBut b o (Ne.symm (dfp b hb)) e,e4,hD9,?_,e2,w8⟩
    rw[Array.toList_push]
    exact vD.append (.cons ry .nil)
 exact codeAny_compStart_list (loop _ rfl) (T.self X.A 0 _ _ _ (T.keep _ _ _ st2 fun b _ o e=>old b o e) (loop _ rfl))
theorem ML(hcalm:X.calm=true)(hi:PI X tg iter wi)(S:CompScope X.N X.env.scope scope own fr ix)
  (hg:∀cl C s H ex,PG (Zx X (own++fr) scope cl C s H ex) tg g) (ht:∀cl C s H ex,Mk (Zx X (own++fr) scope cl C s H ex) ifs tt) (he:∀cl C s H ex,PE (Zx X (own++fr) scope cl C s H ex) elt te)
  (hs:∀x,foldedSetIterable iter X.env x=pure x:=by intro _;rfl):PE X (.ListComp elt [⟨tg,iter,ifs,0⟩] scope pos) (T6 own.length ix wi g tt te):=by
 intro pins s Z H Q I h;rw[eval_ListComp]
 refine wpAny_comprehension_free (use:=none) (cl:=Yq X.env.cells scope.names []) rfl hs (Vf (S.clos I)) S.kind S.names (Z5 (hi pins s Z H _ I h) fun v s1 h1=>Z5 h1 fun itv s2 h2=>?_)
 obtain⟨it,fp,tn,J,H2,e,I2,T,st2,f2,W,⟨m0,w0⟩,turn⟩:=h2
 subst e
 refine U5 (Fin:=fun ys H=>∀p,H p=none->Q (.ref p) (upd H p (.lst ys))) (RR:=fun acc C=>compPost (model X.prog X.w) X.A X.xe none (EP X pins Z Q) acc C) hcalm S hg ht he I2 T st2 f2 w0 turn ?_
 intro D C oC m s' H' ys I5 hoC hn fpC nD fin
 refine⟨m,hn,fun h' hs'=>⟨.ref D,upd H' D (.lst ys),?_,rfl,fin D nD⟩⟩
 exact(I5.unpinned (pl:=[(C,oC)])).turned (t':=s'.toks) (it:=C) (fun b o hb e=>hs'.extBut b o hb e) fpC.1 fpC.2.1 fpC.2.2.2.1 fpC.2.2.2.2.1 fpC.2.2.2.2.2
theorem MM{i:Nat}{y:Str}{py spos:Pos}(hN:X.N.Nodup)(hy:X.N[i]?=some y)(hloc:X.env.scope.names.lookup y=some .local)(hcalm:X.calm=true)(hi:PI X tg iter wi)(S:CompScope X.N X.env.scope scope own fr ix)
  (hg:∀cl C s H ex,PG (Zx X (own++fr) scope cl C s H ex) tg g) (ht:∀cl C s H ex,Mk (Zx X (own++fr) scope cl C s H ex) ifs tt) (he:∀cl C s H ex,PE (Zx X (own++fr) scope cl C s H ex) elt te)
  (hsw:swapsWith (.ListComp elt [⟨tg,iter,ifs,0⟩] scope pos) (some (.Name y py)) spos.line X.env=pure true:=by rfl)
  (hs:∀x,foldedSetIterable iter X.env x=pure x:=by intro _;rfl):PS X (.Assign [.Name y py] (.ListComp elt [⟨tg,iter,ifs,0⟩] scope pos) spos) (PY (T6 own.length ix wi g tt te) (Uw i)):=by
 intro pins s Z H D0 I h;rw[exec_Assign_Name_used _ _ _ _ hsw]
 refine wpAny_bind (wpAny_standAt (wpAny_bind ?_))
 show wpAny _ X.A (do let _ <-comprehension (.ListComp elt [⟨tg,iter,ifs,0⟩] scope pos) scope X.env _ (newList []) false (eval iter X.env) (some (assign (.Name y py) X.env))) _ _ s
 refine wpAny_bind (wpAny_mono (wpAny_comprehension_free (cl:=Yq X.env.cells scope.names []) (use:=some (assign (.Name y py) X.env)) (Q:=fun _ s'=>SP X pins D0 .next s') (E:=X.xe) rfl hs (Vf (S.clos I)) S.kind S.names
  (Z5 (hi pins s Z H _ I h) fun v s1 h1=>Z5 h1 fun itv s2 h2=>?_)) (fun _ s' hq=>wpAny_pure (wpAny_pure hq)) fun _ _ e=>e)
 obtain⟨it,fp,tn,J,H2,e,I2,T,st2,f2,W,⟨m0,w0⟩,turn⟩:=h2
 subst e
 refine U5 (Fin:=fun ys H=>∀p,H p=none->Uw i (.ref p) Z (upd H p (.lst ys)) D0.nx) (RR:=fun acc C=>compPost (model X.prog X.w) X.A X.xe (some (assign (.Name y py) X.env)) (fun _ s'=>SP X pins D0 .next s') acc C) hcalm S hg ht he I2 T st2 f2 w0 turn ?_
 intro D C oC m s' H' ys I5 hoC hn fpC nD fin
 show wpAny _ X.A (assign (.Name y py) X.env (.ref D)) _ _ _
 refine wpAny_assign_Name (WB I5 hN hy (.inl hloc) (v:=.ref D) rfl (fun s6 I6=>?_) (.inr hloc))
 obtain⟨e6,_⟩:=I6.pin (C,oC) (List.mem_append_right _ (List.mem_append_right _ List.mem_cons_self))
 obtain⟨o',es,ep,ho',r'⟩:=hn
 rw[hoC] at ho';cases ho'
 refine⟨m,⟨oC,es,ep,e6,r'⟩,fun h' hs'=>⟨_,upd H' D (.lst ys),?_,fin D nD⟩⟩
 exact(I6.unpinned (pl:=[(C,oC)])).turned (t':=s6.toks) (it:=C) (fun b o hb e=>hs'.extBut b o hb e) fpC.1 fpC.2.1 fpC.2.2.2.1 fpC.2.2.2.2.1 fpC.2.2.2.2.2
end
open AutoSeq1 (wpAny_loadPart')
section
variable {prog:Program} {w:World} {A:Around} {E:Value->Shared->Prop} {s:Shared}
theorem Vx{it l:Addr}{i:Nat}{items}{x:Value}{Q:Value->Shared->Prop}(hit:s.heap.IsTupleIter it l i)
  (hl:s.heap.IsTuple l items) (hx:items[i]?=some x)
  (hQ:∀h',h'.IsTupleIter it l (i+1)->Heap.SameBut it s.heap h'->Q x { s with heap:=h' }) :
  wpAny (model prog w) A (Builtin.SmallTypes.nextOf (.ref it)) Q E s:=by
 obtain⟨o,ho,hc,hd⟩:=id hit
 obtain⟨ol,hol,_,nl,hdl⟩:=hl
 unfold Builtin.SmallTypes.nextOf
 refine wpAny_bind (wpAny_callSpecial?_slot (name:=Str.ofString "__next__") hit.typeIs F.slot_tuple_iterator_next
  (wpAny_call_entry F.slot_tuple_iterator_next hit.typeIs F.entry_tuple_iterator_next ?_ (F.args_tuple_iterator_next_1 _)))
 show wpAny _ _ (field (.ref it) 0 >>= _) _ _ s
 refine wpAny_bind (wpAny_field ho hd (x:=.ref l) rfl ?_)
 show wpAny _ _ (if(Value.ref l==Value.none)=true then _ else _) _ _ s
 rw[if_neg (show ¬((Value.ref l==Value.none)=true) from Bool.false_ne_true)]
 show wpAny _ _ (field (.ref it) 1 >>= _) _ _ s
 refine wpAny_bind (wpAny_field ho hd (x:=.int i 0) rfl ?_)
 show wpAny _ _ (seqItems? (.ref l) >>= _) _ _ s
 refine wpAny_bind (wpAny_seqItems hol hdl ?_)
 simp only[Int.toNat_natCast,hx]
 refine wpAny_bind (wpAny_setField ho hd (by simp) (wpAny_pure ⟨x,rfl,wpAny_pure (hQ _ ?_ (Heap.SameBut.update ..))⟩))
 exact⟨_,Heap.get?_update_self _ ho (Obj.isFreed_of_fields (Obj.data_mapFields hd _)),(Obj.cls_mapFields ..).trans hc,by
  rw[Obj.data_mapFields hd];simp[rawInt]⟩
theorem Uk{it l:Addr}{i:Nat}{items}{Q:Value->Shared->Prop}(hh:A.handled=none)
  (hit:s.heap.IsTupleIter it l i) (hl:s.heap.IsTuple l items) (hx:items[i]?=none)
  (hE:∀h' e,Heap.ExtBut it s.heap h'->(∃o,h'.get? e=some o/\o.cls = .type "StopIteration")->E (.ref e) { s with heap:=h' }) :
  wpAny (model prog w) A (Builtin.SmallTypes.nextOf (.ref it)) Q E s:=by
 obtain⟨o,ho,hc,hd⟩:=id hit
 obtain⟨ol,hol,_,nl,hdl⟩:=hl
 unfold Builtin.SmallTypes.nextOf
 refine wpAny_bind (wpAny_callSpecial?_slot (name:=Str.ofString "__next__") hit.typeIs F.slot_tuple_iterator_next
  (wpAny_call_entry F.slot_tuple_iterator_next hit.typeIs F.entry_tuple_iterator_next ?_ (F.args_tuple_iterator_next_1 _)))
 show wpAny _ _ (field (.ref it) 0 >>= _) _ _ s
 refine wpAny_bind (wpAny_field ho hd (x:=.ref l) rfl ?_)
 show wpAny _ _ (if(Value.ref l==Value.none)=true then _ else _) _ _ s
 rw[if_neg (show ¬((Value.ref l==Value.none)=true) from Bool.false_ne_true)]
 show wpAny _ _ (field (.ref it) 1 >>= _) _ _ s
 refine wpAny_bind (wpAny_field ho hd (x:=.int i 0) rfl ?_)
 show wpAny _ _ (seqItems? (.ref l) >>= _) _ _ s
 refine wpAny_bind (wpAny_seqItems hol hdl ?_)
 simp only[Int.toNat_natCast,hx]
 refine wpAny_bind (wpAny_rule (wpAny_bind (wpAny_setField ho hd (by simp) ?_)))
 show wpAny _ _ (newExc (.type "StopIteration") [] >>= _) _ _ _
 refine wpAny_bind ?_
 simp only[newExc,newTuple]
 refine wpAny_bind (wpAny_newObj_type ?_ (by size_fits))
 refine wpAny_bind (m:=firstArgMember _ _) (wpAny_of_eq (a:=Value.none) (by first | rfl | (simp only[firstArgMember];rfl)) ?_)
 refine wpAny_newObj_type ?_ (by size_fits)
 simp only[raiseNew]
 refine wpAny_bind (wpAny_handled ?_)
 first | rw[show A.in1.handled=none from hh] | rw[hh]
 refine wpAny_bind (wpAny_pure (wpAny_throw ?_))
 exact hE _ _ (((Heap.SameBut.update ..).extBut.push _).push _) ⟨_,Heap.get?_push_size _ rfl,rfl⟩
end
def SeqB(b:Bool)(h:Heap)(a:Addr)(its:Array Value):Prop:=if b=true then h.IsList a its else h.IsTuple a its
def IterB(b:Bool)(h:Heap)(it a:Addr)(i:Nat):Prop:=if b=true then h.IsListIter it a i else h.IsTupleIter it a i
def Oi(b:Bool)(K:PySem.W.Frag)(H:Hp)(a:Addr)(xs:List V):Prop:=if b=true then SqL K H a xs else SqT K H a xs
def U6(b:Bool)(a:Addr):Obj:={ cls:=.type (if b=true then "list_iterator" else "tuple_iterator"),data:=.fields #[.ref a,.int 0 0] }
theorem SeqB.at{b:Bool}{h h':Heap}{a:Addr}{its:Array Value}(x:SeqB b h a its)(k:∀o,h.get? a=some o->h'.get? a=some o):SeqB b h' a its:=by
 cases b with
 | true=>obtain⟨o,e,r⟩:=(show h.IsList a its from x);exact⟨o,k o e,r⟩
 | false=>obtain⟨o,e,r⟩:=(show h.IsTuple a its from x);exact⟨o,k o e,r⟩
theorem SeqB.has{b:Bool}{h:Heap}{a:Addr}{its:Array Value}(x:SeqB b h a its):∃o,h.get? a=some o:=by
 cases b with
 | true=>obtain⟨o,e,r⟩:=(show h.IsList a its from x);exact⟨o,e⟩
 | false=>obtain⟨o,e,r⟩:=(show h.IsTuple a its from x);exact⟨o,e⟩
theorem IterB.at{b:Bool}{h h':Heap}{it a:Addr}{i:Nat}(x:IterB b h it a i)(k:∀o,h.get? it=some o->h'.get? it=some o):IterB b h' it a i:=by
 cases b with
 | true=>obtain⟨o,e,r⟩:=(show h.IsListIter it a i from x);exact⟨o,k o e,r⟩
 | false=>obtain⟨o,e,r⟩:=(show h.IsTupleIter it a i from x);exact⟨o,k o e,r⟩
theorem IterB.has{b:Bool}{h:Heap}{it a:Addr}{i:Nat}(x:IterB b h it a i):∃o,h.get? it=some o/\∀v,o.data≠.cell v:=by
 cases b with
 | true=>obtain⟨o,e,_,d⟩:=(show h.IsListIter it a i from x);exact⟨o,e,fun v z=>by rw[d] at z;cases z⟩
 | false=>obtain⟨o,e,_,d⟩:=(show h.IsTupleIter it a i from x);exact⟨o,e,fun v z=>by rw[d] at z;cases z⟩
theorem IterB.new{b:Bool}{h:Heap}{it a:Addr}(e:h.get? it=some (U6 b a)):IterB b h it a 0:=by
 cases b with
 | true=>exact⟨_,e,rfl,rfl⟩
 | false=>exact⟨_,e,rfl,rfl⟩
section
variable {X:Cx} {pins:List (Addr×Obj)} {Z:St} {H:Hp} {s:Shared} {a:Addr} {xs ys:List V} {b:Bool}
theorem Inv.seqB(I:Inv X pins Z H s)(h:Oi b X.K H a xs):∃its:List Value,Vals xs its/\SeqB b s.heap a its.toArray/\xs.length<=sizeLine:=by
 cases b with
 | true=>
  obtain⟨its,r,p,z⟩:=I.list (show SqL X.K H a xs from h)
  exact⟨its,r,p.isList,z⟩
 | false=>
  obtain⟨its,r,p,z⟩:=I.tuple (show SqT X.K H a xs from h)
  exact⟨its,r,p,z⟩
theorem Inv.seqB_inj(I:Inv X pins Z H s)(h:Oi b X.K H a xs)(h':Oi b X.K H a ys):xs=ys:=by
 cases b with
 | true=>exact I.list_inj (show SqL X.K H a xs from h) (show SqL X.K H a ys from h')
 | false=>exact I.tuple_inj (show SqT X.K H a xs from h) (show SqT X.K H a ys from h')
end
theorem Draws.seq{prog:Program}{w:World}{A:Around}(b:Bool)(hh:A.handled=none)(it l:Addr)(hne:l≠it)(items:Array Value) :
  Draws prog w A it [it,l] items.size (fun i v=>items[i]?=some v) (fun i h=>IterB b h it l i/\SeqB b h l items) where
 live:=fun _ _ st=>let⟨o,ho,_⟩:=st.1.has;⟨o,ho⟩
 frame:=fun _ _ _ st hk=>⟨st.1.at fun o e=>hk it (by simp) o e,st.2.at fun o e=>hk l (by simp) o e⟩
 item:=fun i s Q E hi st hQ=>by
  cases b with
  | true=>
   refine wpAny_nextOf_list_item (show s.heap.IsListIter it l i from st.1) (show s.heap.IsList l items from st.2) (x:=items[i]) (by simp[hi]) fun h' hit' hs'=>?_
   exact hQ _ h' s.toks (by simp[hi]) ⟨hit',st.2.at fun o e=>hs'.extBut l o hne e⟩ hs'
  | false=>
   refine Vx (show s.heap.IsTupleIter it l i from st.1) (show s.heap.IsTuple l items from st.2) (x:=items[i]) (by simp[hi]) fun h' hit' hs'=>?_
   exact hQ _ h' s.toks (by simp[hi]) ⟨hit',st.2.at fun o e=>hs'.extBut l o hne e⟩ hs'
 done:=fun s Q E st hE=>by
  cases b with
  | true=>exact wpAny_nextOf_list_end hh (show s.heap.IsListIter it l _ from st.1) (show s.heap.IsList l items from st.2) (by simp) hE
  | false=>exact Uk hh (show s.heap.IsTupleIter it l _ from st.1) (show s.heap.IsTuple l items from st.2) (by simp) hE
theorem Y9{prog:Program}{w:World}{A:Around}{E:Value->Shared->Prop}{s:Shared}{b:Bool}{a:Addr}{its:Array Value}{Q:Value->Shared->Prop}(h:SeqB b s.heap a its)
  (hQ:Q (.ref s.heap.objs.size) { s with heap:=s.heap.push (U6 b a) }):wpAny (model prog w) A (pyIter (.ref a)) Q E s:=by
 cases b with
 | true=>exact wpAny_pyIter_list (show s.heap.IsList a its from h) hQ
 | false=>exact wpAny_pyIter_tuple (show s.heap.IsTuple a its from h) hQ
set_option maxHeartbeats 4000000 in
theorem U7(b:Bool)(l:Addr)(items:Array Value) :
  Meets (Builtin.«enumerate.__new__» ⟨[.type "enumerate",.ref l],[]⟩) (fun _ R s=>SeqB b s.heap l items/\
   R (.ok (.ret (.ref (s.heap.push (U6 b l)).objs.size)))
    { s with heap:=(s.heap.push (U6 b l)).push { cls:=.type "enumerate",data:=.fields #[.none,.bool false,.ref s.heap.objs.size,rawInt 0,.none,.none] } }):=
 .of_wp fun prog w A R s h=>by
  obtain⟨hp,g,d,tk,os⟩:=s;obtain⟨hl,h⟩:=h
  have hsub:=sub_enumerate
  obtain⟨o,ho⟩:=hl.has
  have hL:SeqB b (Shared.heap ⟨hp,g,d,tk,os⟩) l items:=hl
  wp_walk using wpAny_loadPart' ho
  refine wpAny_stack_any fun st=>wpAny_pure ?_
  split
  ·rename_i c _ _ _ _ _
   cases (c==Value.type "enumerate")
   ·wp_walk using wpAny_loadPart' ho,Y9 hL
    exact⟨_,rfl,h⟩
   ·wp_walk using wpAny_loadPart' ho,Y9 hL
    exact⟨_,rfl,h⟩
  ·wp_walk using wpAny_loadPart' ho,Y9 hL
   exact⟨_,rfl,h⟩
section
variable {prog:Program} {w:World} {A:Around} {E:Value->Shared->Prop} {s:Shared}
theorem TF{b:Bool}{l:Addr}{items:Array Value}{Q:Value->Shared->Prop}(hL:SeqB b s.heap l items)
  (h:∀h',IsEnum h' (s.heap.objs.size+1) s.heap.objs.size 0 .none->IterB b h' s.heap.objs.size l 0->h'.objs.size=s.heap.objs.size+2->
   (∀b o,s.heap.get? b=some o->h'.get? b=some o)->Q (.ref (s.heap.objs.size+1)) { s with heap:=h' }) :
  wpAny (model prog w) A (call (.type "enumerate") [.ref l]) Q E s:=by
 refine callType_new F.called_enumerate (by decide) (F.typeCall_enumerate_1 _) (F.newCall_enumerate_1 _) (fun obj=>F.args_object_init_2 obj _) F.entry_enumerate_new
  (U7 b l items) ⟨hL,?_⟩
 have hz:(s.heap.push (U6 b l)).objs.size=s.heap.objs.size+1:=Heap.size_push ..
 show _/\_
 rw[hz]
 have he:IsEnum ((s.heap.push (U6 b l)).push
   { cls:=.type "enumerate",data:=.fields #[.none,.bool false,.ref s.heap.objs.size,rawInt 0,.none,.none] }) (s.heap.objs.size+1) s.heap.objs.size 0 .none:=by
  have:=Heap.get?_push_size (s.heap.push (U6 b l))
   (o:={ cls:=.type "enumerate",data:=.fields #[.none,.bool false,.ref s.heap.objs.size,rawInt 0,.none,.none] }) rfl
  rw[hz] at this;exact this
 refine⟨⟨_,he,rfl⟩,h _ he (IterB.new (Heap.get?_push_of_some _ (Heap.get?_push_size _ rfl))) (by rw[Heap.size_push,hz]) fun b o x=>Heap.get?_push_of_some _ (Heap.get?_push_of_some _ x)⟩
end
def Hv(b:Bool)(K:PySem.W.Frag)(a:Addr):It:=
  ⟨fun i H=>∃xs x,Oi b K H a xs/\xs[i]?=some x,
   fun i H v H'=>∃p x,H p=none/\v = .ref p/\H'=upd H p (.tup [.int i,x])/\∀xs,Oi b K H a xs->xs[i]?=some x,
   fun i H=>∃xs,Oi b K H a xs/\xs.length=i⟩
theorem Oj{P:Program}{w:World}{K:PySem.W.Frag}{elts:List Expr}{k:Nat}{pos:Pos}(b:Bool)(a e it:Addr)(hei:e≠it) :
  Qf P w K (.Tuple elts k pos) (Hv b K a) [e,it] e (fun i h=>(∃old,IsEnum h e it i old)/\IterB b h it a i) where
 mem:=by simp
 obj:=fun i h st c hc=>by
  rcases List.mem_cons.mp hc with rfl | hc
  ·obtain⟨⟨old,q⟩,_⟩:=st
   exact⟨_,q,fun v z=>by cases z⟩
  ·rw[List.mem_singleton.mp hc]
   exact st.2.has
 keep:=fun i h h' st kk=>⟨let⟨old,q⟩:=st.1;⟨old,kk e (by simp) _ q⟩,st.2.at fun o q=>kk it (by simp) o q⟩
 item:=by
  intro X hP hw hK hc i pins s Z H E I hf st hg
  subst hP hw hK
  obtain⟨xs,x,hq,hx⟩:=hg
  obtain⟨its,rv,p,hz⟩:=I.seqB hq
  obtain⟨u,hu,ru⟩:=rv.get hx
  obtain⟨⟨old,he⟩,hit⟩:=st
  have fe:=hf e (by simp)
  have fi:=hf it (by simp)
  obtain⟨oa,hoa⟩:=p.has
  have tra:H a=none->a<X.s₀.heap.objs.size\/True:=fun _=>.inr trivial
  -- the sequence is neither record
  have ne_of_fp:∀c,UC X pins H c->(∃oc,s.heap.get? c=some oc/\∃n vs,oc.cls = .type n/\oc.data = .fields vs)->a≠c:=fun c _ ⟨oc,hoc,n,vs,hn,hv⟩ z=>by
   subst z
   rw[hoa] at hoc;cases hoc
   cases b with
   | true=>obtain⟨o,e1,_,m,d⟩:=(show s.heap.IsList a its.toArray from p);rw[hoa] at e1;cases e1;rw[hv] at d;cases d
   | false=>obtain⟨o,e1,_,m,d⟩:=(show s.heap.IsTuple a its.toArray from p);rw[hoa] at e1;cases e1;rw[hv] at d;cases d
  have ae:a≠e:=ne_of_fp e fe ⟨_,he,_,_,rfl,rfl⟩
  have ai:a≠it:=ne_of_fp it fi (by
   cases b with
   | true=>obtain⟨o,e1,c1,d1⟩:=(show s.heap.IsListIter it a i from hit);exact⟨o,e1,_,_,c1,d1⟩
   | false=>obtain⟨o,e1,c1,d1⟩:=(show s.heap.IsTupleIter it a i from hit);exact⟨o,e1,_,_,c1,d1⟩)
  have D:=Draws.seq (prog:=X.prog) (w:=X.w) (A:=X.A.in1) b (I.ok.hd hc) it a ai its.toArray
  have hlt:i<its.toArray.size:=by
   have:=(List.getElem?_eq_some_iff.mp hu).1
   simpa using this
  refine wpAny_pyNext_enum_itemD D he ⟨hit,p⟩ hlt hei (by simp[hei,Ne.symm ae]) fun y h' tk hPy ho hs' hT hsz hk=>?_
  have ey:y=u:=by
   have q1:its.toArray[i]?=some y:=hPy
   have q2:its.toArray[i]?=some u:=by simpa using hu
   rw[q1] at q2;exact Option.some.inj q2
  subst ey
  refine⟨_,rfl,wpAny_letOwnedTupleGo_enum ho fun h2 he2 hs2=>?_⟩
  have hs2:Heap.SameBut e h' h2:=hs2
  have Tne:s.heap.objs.size≠e:=Nat.ne_of_gt (Heap.lt_size he)
  have hTn:H s.heap.objs.size=none:=I.hok.fresh (Nat.le_refl _)
  have kk:∀c o,c∉[e,it]->s.heap.get? c=some o->h2.get? c=some o:=fun c o hc' q=>hs2.extBut c o (fun z=>hc' (by simp[z])) (hk c o (fun z=>hc' (by simp[z])) (fun z=>hc' (by simp[z])) q)
  have hT2:h2.get? s.heap.objs.size=some { cls:=.type "tuple",data:=.seq #[.int i tk,y] }:=hs2.extBut _ _ Tne hT
  have hcs:∀c∈[e,it],(c∈X.ex\/X.s₀.heap.objs.size<=c)/\c≠X.env.locals/\(∀x d,X.env.cells.lookup x=some d->d≠c)/\∀p∈X.pn++pins,p.1≠c:=fun c hc'=>by
   have f:=hf c hc'
   exact⟨f.2.2.2.1,f.2.1,f.2.2.2.2.1,f.2.2.2.2.2⟩
  have nfp:∀c u',H c=some u'->c∉[e,it]:=fun c u' q hc'=>by rw[(hf c hc').1] at q;cases q
  have hok0:HOk X.prog X.w H h2:=fun c u' q=>(I.hok c u' q).stay (fun d v hd q'=>kk d v (by
    rcases hd with z | z
    ·rw[z];exact nfp c u' q
    ·exact nfp d _ z) q') (fun _ z=>z) fun _ _ z=>z
  have new:ObjOk X.prog X.w (upd H s.heap.objs.size (.tup [.int i,x])) h2 s.heap.objs.size (.tup [.int i,x]):=
   ⟨by show 2<=sizeLine;decide,[.int i tk,y],.cons ⟨tk,rfl⟩ (.cons ru .nil),⟨_,hT2,rfl,_,rfl⟩⟩
  have hok1:HOk X.prog X.w (upd H s.heap.objs.size (.tup [.int i,x])) h2:=fun c u' q=>by
   by_cases hb:c=s.heap.objs.size
   ·subst hb;rw[upd_same] at q;cases q;exact new
   ·rw[upd_ne hb] at q
    exact(hok0 c u' q).stay (fun d v _ q'=>q') (fun d z=>by rw[upd_ne (Zq z hTn)];exact z) fun d zs z=>by rw[upd_ne (Zq z hTn)];exact z
  have un:Un (Qa X.stack) [e,it] H (upd H s.heap.objs.size (.tup [.int i,x])) s.heap h2:=by
   refine⟨fun c o q _ _ hx'=>kk c o hx' q,fun c o q _ _ hx'=>⟨o.slots,kk c o hx' q⟩,fun c o q n _=>?_,fun c o q hx'=>⟨o,kk c o hx' q⟩,fun c zs q=>?_,fun c o zs q=>?_,fun c ps q=>⟨#[],?_⟩⟩
   ·rw[upd_ne (Nat.ne_of_lt (Heap.lt_size q))];exact n
   ·rw[upd_ne (Zq q hTn)];exact q
   ·rw[upd_ne (Zq q hTn)];exact q
   ·rw[upd_ne (Zq q hTn),q];simp
  have I2:Inv X pins Z (upd H s.heap.objs.size (.tup [.int i,x])) { s with heap:=h2,toks:=tk+1 }:=I.call (g':=s.gens) (d':=s.drawn) un hok1 I.bare hcs
  refine⟨.ref s.heap.objs.size,upd H s.heap.objs.size (.tup [.int i,x]),I2,rfl,⟨_,x,hTn,rfl,rfl,fun zs hzs=>by rw[I.seqB_inj hzs hq];exact hx⟩,⟨⟨y,by simpa using he2⟩,?_⟩,fun c hc'=>?_⟩
  ·exact hs'.1.at fun o q=>hs2.extBut it o (Ne.symm hei) q
  ·rw[upd_ne (Nat.ne_of_lt (by
    rcases List.mem_cons.mp hc' with rfl | hc'
    ·exact Heap.lt_size he
    ·rw[List.mem_singleton.mp hc'];obtain⟨o,q,_⟩:=hit.has;exact Heap.lt_size q))]
   exact(hf c hc').1
 done:=by
  intro X hP hw hK hc i pins s Z H E I hf st hg
  subst hP hw hK
  obtain⟨xs,hq,hx⟩:=hg
  obtain⟨its,rv,p,hz⟩:=I.seqB hq
  obtain⟨⟨old,he⟩,hit⟩:=st
  have fi:=hf it (by simp)
  obtain⟨oa,hoa⟩:=p.has
  have ai:a≠it:=fun z=>by
   subst z
   cases b with
   | true=>
    obtain⟨o,e1,_,m,d⟩:=(show s.heap.IsList a its.toArray from p)
    obtain⟨o',e2,_,d2⟩:=(show s.heap.IsListIter a a i from hit)
    rw[e1] at e2;cases e2;rw[d] at d2;cases d2
   | false=>
    obtain⟨o,e1,_,m,d⟩:=(show s.heap.IsTuple a its.toArray from p)
    obtain⟨o',e2,_,d2⟩:=(show s.heap.IsTupleIter a a i from hit)
    rw[e1] at e2;cases e2;rw[d] at d2;cases d2
  have D:=Draws.seq (prog:=X.prog) (w:=X.w) (A:=X.A.in1) b (I.ok.hd hc) it a ai its.toArray
  have hl:=rv.length
  have hi:i=its.toArray.size:=by simp;omega
  refine wpAny_pyNext_enum_endD D he (by rw[<-hi];exact⟨hit,p⟩) fun h' hx'=>⟨rfl,?_⟩
  obtain⟨f0,f1,f2,f3,f4,f5⟩:=fi
  exact I.turned (t':=s.toks) (fun c o hb q=>hx' c o hb q) f0 f1 f3 f4 f5
 self:=fun A i s Q E st hQ=>by
  obtain⟨⟨old,he⟩,_⟩:=st
  exact wpAny_pyIter_enum he hQ
end L2
namespace L2
open PySem PySem.Spec PyProof.Rows
section
variable {X:Cx}
def J6(b:Bool)(K:PySem.W.Frag)(ta:TA):TI:=fun Z H R=>ta Z H fun vs H1=>∃a,vs=[.ref a]/\(∃xs,Oi b K H1 a xs)/\R (Hv b K a) H1
theorem MN{elts:List Expr}{k:Nat}{tpos:Pos}(b:Bool){a:Expr}{ta:TA}{p pos:Pos}(hg:Gl X "enumerate")(hm:X.mg "enumerate" = none)(ha:PA X [a] ta)(hs:starEach [a] X.env=[(false,eval a X.env)]:=by rfl) :
  PI X (.Tuple elts k tpos) (.Call (.Name "enumerate" p) [a] [] pos) (J6 b X.K ta):=by
 intro pins s Z H R I h
 refine Call_ (Wj I hg hm (by decide +kernel:bootBuiltins "enumerate" = some (.type "enumerate")) (PyProof.Rows.callWith_type1 (Z5 (ha pos pins s Z H _ I h) fun us s1 ⟨vs,H1,I1,r1,q1⟩=>?_) hs rfl))
 obtain⟨a,e,⟨xs,hq⟩,q⟩:=q1
 subst e
 cases r1 with
 | cons r rr=>
  cases rr;cases r
  obtain⟨its,rv,hseq,hz⟩:=I1.seqB hq
  refine TF hseq fun h' he hit hsz hk=>?_
  refine wpAny_pyIter_enum he ?_
  have I2:Inv X pins Z H1 { s1 with heap:=h' }:=I1.kept (t':=s1.toks) hk
  have ne:s1.heap.objs.size+1≠s1.heap.objs.size:=Nat.ne_of_gt (Nat.lt_succ_self _)
  refine⟨s1.heap.objs.size+1,[s1.heap.objs.size+1,s1.heap.objs.size],_,_,H1,rfl,I2,Oj b a (s1.heap.objs.size+1) s1.heap.objs.size ne,⟨⟨.none,he⟩,hit⟩,fun c hc=>?_,q⟩
  rcases List.mem_cons.mp hc with rfl | hc
  ·exact I1.fpOk (Nat.le_succ _) (I1.hok.fresh (Nat.le_succ _))
  ·rw[List.mem_singleton.mp hc]
   exact I1.fpOk (Nat.le_refl _) (I1.hok.fresh (Nat.le_refl _))
end
section
variable {prog:Program} {w:World} {A:Around} {E:Value->Shared->Prop} {s:Shared}
theorem SE{d:Addr}{o:Obj}{es:Array DictEntry}{ep:Nat}{Q:Value->Shared->Prop}(hd:(d==sysModules)=false)(ho:s.heap.get? d=some o)(hc:o.ExactDict)(hdat:o.data = .dict es ep)
  (hQ:Q (.ref s.heap.objs.size) { s with heap:=s.heap.push { cls:=.type "dict_keyiterator",data:=.fields #[.ref d,.int 0 0,.int es.size 0,.int ep 0] } }) :
  wpAny (model prog w) A (pyIter (.ref d)) Q E s:=by
 have hT:s.TypeIs (.ref d) "dict":=⟨o,ho,hc.1⟩
 refine wpAny_pyIter_slot hT F.slot_dict_iter (wpAny_call_entry F.slot_dict_iter hT F.entry_dict_iter ?_ (F.args_dict_iter_1 _))
 unfold Builtin.«dict.__iter__»
 refine wpAny_bind ?_
 unfold Builtin.Dict.dictSlotNone
 refine wpAny_bind (wpAny_notOrdered_dict hT ?_)
 show wpAny _ _ (pure (Value.ref d)) _ _ s
 refine wpAny_pure ?_
 show wpAny _ _ (Builtin.Dict.showsAll d >>= _) _ _ s
 unfold Builtin.Dict.showsAll
 rw[if_neg (by rw[hd];exact Bool.false_ne_true)]
 refine wpAny_bind (wpAny_pure ?_)
 refine wpAny_bind (wpAny_dictEntries ho hdat ?_)
 refine wpAny_bind (wpAny_dictEpoch ho hdat ?_)
 refine wpAny_bind (wpAny_newObj_type (wpAny_pure ⟨_,rfl,"dict_keyiterator",_,⟨_,Heap.get?_push_size _ rfl,rfl⟩,F.slot_dict_keyiterator_next.lookup,?_⟩))
 simpa [rawInt] using hQ
theorem Vy{it d:Addr}{i ep:Nat}{od:Obj}{es:Array DictEntry}{e:DictEntry}{Q:Option Value->Shared->Prop}(hit:s.heap.IsKeyIter it d i es.size ep)
  (hod:s.heap.get? d=some od) (hdd:od.data = .dict es ep) (hx:es[i]?=some e)
  (hQ:∀h',h'.IsKeyIter it d (i+1) es.size ep->Heap.SameBut it s.heap h'->Q (some e.key) { s with heap:=h' }) :
  wpAny (model prog w) A (pyNext (.ref it)) Q E s:=by
 obtain⟨o,ho,hc,hd⟩:=id hit
 unfold pyNext
 refine wpAny_bind (wpAny_attempt (wpAny_callSpecial?_slot (name:=Str.ofString "__next__") hit.typeIs F.slot_dict_keyiterator_next
  (wpAny_call_entry F.slot_dict_keyiterator_next hit.typeIs F.entry_dict_keyiterator_next ?_ (F.args_dict_keyiterator_next_1 _))))
 refine wpAny_bind (wpAny_pure ?_)
 refine wpAny_bind ?_
 refine wpAny_bind ?_
 first | refine wpAny_bind (wpAny_typeNameOfWhole_keyiter hit.typeIs (wpAny_pure ?_)) | refine wpAny_bind (wpAny_typeNameOf_keyiter hit.typeIs (wpAny_pure ?_))
 refine wpAny_bind (wpAny_fieldsOf ho hd ?_)
 have hown:Builtin.Dict_items.ownsTuple "dict_keyiterator" = false:=by decide
 simp only[hown,Bool.false_eq_true,if_false]
 show wpAny _ _ (if(Value.ref d==Value.none)=true then _ else _) _ _ s
 rw[if_neg (show ¬((Value.ref d==Value.none)=true) from Bool.false_ne_true)]
 refine wpAny_bind (wpAny_pure ?_)
 refine wpAny_bind (wpAny_dictEntries hod hdd ?_)
 rw[if_neg (by simp)]
 refine wpAny_bind (wpAny_pure ?_)
 refine wpAny_bind (wpAny_dictEpoch hod hdd ?_)
 rw[if_neg (by simp)]
 refine wpAny_pure ?_
 obtain⟨hlt',he⟩:=Array.getElem?_eq_some_iff.mp hx
 subst he;simp only[show ¬((i:Int)<0) from by omega,if_false,Int.toNat_natCast,Array.getElem?_eq_getElem hlt']
 refine wpAny_bind ?_
 first | refine wpAny_bind (wpAny_typeNameOfWhole_keyiter hit.typeIs (wpAny_pure ?_)) | refine wpAny_bind (wpAny_typeNameOf_keyiter hit.typeIs (wpAny_pure ?_))
 refine wpAny_bind (wpAny_isOneOf_keyiter hit.typeIs ?_)
 show wpAny _ _ (setField (.ref it) 1 (rawInt ((i:Int)+1)) >>= _) _ _ s
 refine wpAny_bind (wpAny_setField ho hd (by simp) ?_)
 have hit':(s.heap.update it (Obj.mapFields (·.setIfInBounds 1 (rawInt ((i:Int)+1))))).IsKeyIter it d (i+1) es.size ep:=
  ⟨_,Heap.get?_update_self _ ho (Obj.isFreed_of_fields (Obj.data_mapFields hd _)),(Obj.cls_mapFields ..).trans hc,by rw[Obj.data_mapFields hd];simp[rawInt]⟩
 refine wpAny_bind (wpAny_holding ?_)
 refine wpAny_bind (wpAny_isOneOf_keyiter (s:={ s with heap:=s.heap.update it (Obj.mapFields (·.setIfInBounds 1 (rawInt ((i:Int)+1)))) }) hit'.typeIs ?_)
 show wpAny _ _ (pure es[i].key) _ _ _
 exact wpAny_pure (wpAny_pure ⟨_,rfl,wpAny_pure (hQ _ hit' (Heap.SameBut.update ..))⟩)
theorem Ul{it d:Addr}{ep:Nat}{od:Obj}{es:Array DictEntry}{Q:Option Value->Shared->Prop}(hh:A.handled=none)(hit:s.heap.IsKeyIter it d es.size es.size ep)
  (hod:s.heap.get? d=some od) (hdd:od.data = .dict es ep)
  (hQ:∀h',Heap.ExtBut it s.heap h'->Q none { s with heap:=h' }):wpAny (model prog w) A (pyNext (.ref it)) Q E s:=by
 obtain⟨o,ho,hc,hd⟩:=id hit
 unfold pyNext
 refine wpAny_bind (wpAny_attempt (wpAny_callSpecial?_slot (name:=Str.ofString "__next__") hit.typeIs F.slot_dict_keyiterator_next
  (wpAny_call_entry F.slot_dict_keyiterator_next hit.typeIs F.entry_dict_keyiterator_next ?_ (F.args_dict_keyiterator_next_1 _))))
 refine wpAny_bind (wpAny_pure ?_)
 refine wpAny_bind ?_
 refine wpAny_bind ?_
 first | refine wpAny_bind (wpAny_typeNameOfWhole_keyiter hit.typeIs (wpAny_pure ?_)) | refine wpAny_bind (wpAny_typeNameOf_keyiter hit.typeIs (wpAny_pure ?_))
 refine wpAny_bind (wpAny_fieldsOf ho hd ?_)
 have hown:Builtin.Dict_items.ownsTuple "dict_keyiterator" = false:=by decide
 simp only[hown,Bool.false_eq_true,if_false]
 show wpAny _ _ (if(Value.ref d==Value.none)=true then _ else _) _ _ s
 rw[if_neg (show ¬((Value.ref d==Value.none)=true) from Bool.false_ne_true)]
 refine wpAny_bind (wpAny_pure ?_)
 refine wpAny_bind (wpAny_dictEntries hod hdd ?_)
 rw[if_neg (by simp)]
 refine wpAny_bind (wpAny_pure ?_)
 refine wpAny_bind (wpAny_dictEpoch hod hdd ?_)
 rw[if_neg (by simp)]
 refine wpAny_pure ?_
 simp only[show ¬((es.size:Int)<0) from by omega,if_false,Int.toNat_natCast,Array.getElem?_eq_none (Nat.le_refl es.size)]
 refine wpAny_bind ?_
 first | refine wpAny_bind (wpAny_typeNameOfWhole_keyiter hit.typeIs (wpAny_pure ?_)) | refine wpAny_bind (wpAny_typeNameOf_keyiter hit.typeIs (wpAny_pure ?_))
 show wpAny _ _ (setField (.ref it) 0 .none >>= _) _ _ s
 refine wpAny_bind (wpAny_setField ho hd (by simp) ?_)
 show wpAny _ _ (newExc (.type "StopIteration") [] >>= _) _ _ _
 refine wpAny_bind ?_
 simp only[newExc,newTuple]
 refine wpAny_bind (wpAny_newObj_type ?_ (by size_fits))
 refine wpAny_bind (m:=firstArgMember _ _) (wpAny_of_eq (a:=Value.none) (by first | rfl | (simp only[firstArgMember];rfl)) ?_)
 refine wpAny_newObj_type ?_ (by size_fits)
 simp only[raiseNew]
 refine wpAny_bind (wpAny_handled ?_)
 rw[show A.in1.handled=none from hh]
 refine wpAny_bind (wpAny_pure (wpAny_throw ?_))
 refine wpAny_bind (wpAny_isInstance (T:="StopIteration") (b:=true) ⟨_,Heap.get?_push_size _ rfl,rfl⟩ isSubtype_stop ?_)
 exact wpAny_pure (hQ _ (((Heap.SameBut.update ..).extBut.push _).push _))
end
def Ky(d:Addr)(o:Obj)(kvs:List (List Z4×V)):It:=
  ⟨fun i H=>H d=some (.frz o (.dT kvs))/\i<kvs.length,
   fun i H v H'=>H'=H/\∃b k y,kvs[i]?=some (k,y)/\v = .ref b/\H b=some (.tup (k.map kV)),
   fun i H=>H d=some (.frz o (.dT kvs))/\i=kvs.length⟩
theorem KT.get{H:Hp}:∀{kvs:List (List Z4×V)}{xs:List (List Z4×Addr×Value)}{i:Nat}{p:List Z4×V},KT H kvs xs->kvs[i]?=some p->∃q,xs[i]?=some q/\p.1=q.1/\H q.2.1=some (.tup (p.1.map kV))/\RelV p.2 q.2.2
 | _,_,_,_,.nil,e=>by simp at e
 | _,_,0,_,.cons r _,e=>by simp at e;subst e;exact⟨_,rfl,r⟩
 | _,_,i+1,p,.cons _ t,e=>by
  obtain⟨q,h1,h2⟩:=KT.get (i:=i) (p:=p) t (by simpa using e)
  exact⟨q,by simpa using h1,h2⟩
theorem Ol{P:Program}{w:World}{K:PySem.W.Frag}{tg:Expr}(d it:Addr)(o:Obj)(es:Array DictEntry)(ep:Nat)(kvs:List (List Z4×V))(ho:o.data = .dict es ep)(hlen:es.size=kvs.length) :
  Qf P w K tg (Ky d o kvs) [it] it (fun i h=>h.IsKeyIter it d i es.size ep) where
 mem:=by simp
 obj:=fun i h st b hb=>by
  rw[List.mem_singleton.mp hb]
  obtain⟨o,e,c,q⟩:=st
  exact⟨o,e,fun v z=>by rw[q] at z;cases z⟩
 keep:=fun i h h' st k=>by
  obtain⟨o,e,r⟩:=st
  exact⟨o,k it (by simp) o e,r⟩
 item:=by
  intro X hP hw hK hc i pins s Z H E I hf st hg
  subst hP hw hK
  obtain⟨hd,hi⟩:=hg
  obtain⟨e1,z,y,xs,r,o',es',ep',h1,h2,h3,h4,h5⟩:=(show ObjOk X.prog X.w H s.heap d (.frz o (.dT kvs)) from I.hok d _ hd)
  rw[e1] at h1;cases h1
  rw[ho] at h3;cases h3
  have hk:kvs[i]?=some kvs[i]:=List.getElem?_eq_getElem hi
  obtain⟨q,hq,eq,hb,rv⟩:=KT.get r hk
  have he:es[i]?=some (entryOfKey (tupleKind (Z7 X.prog X.w)) q):=by
   have:=congrArg (fun l=>l[i]?) h4
   simp only[List.getElem?_map,hq,Option.map_some] at this
   simpa using this
  obtain⟨f0,f1,f2,f3,f4,f5⟩:=hf it (by simp)
  refine Vy st e1 ho he fun h' st' sb=>?_
  have I1:Inv X pins Z H { s with heap:=h' }:=I.turned (t':=s.toks) (fun b o hb e=>(sb.2 b hb).trans e) f0 f1 f3 f4 f5
  obtain⟨o2,e2,c2,d2⟩:=id st'
  exact⟨_,rfl,Q8 (s:={ s with heap:=h' }) e2 c2 d2 (by decide) ⟨.ref q.2.1,H,I1,rfl,⟨rfl,q.2.1,_,_,hk,rfl,hb⟩,st',fun b hb=>(hf b hb).1⟩⟩
 done:=by
  intro X hP hw hK hc i pins s Z H E I hf st hg
  subst hP hw hK
  obtain⟨hd,hi⟩:=hg
  obtain⟨e1,_⟩:=(show ObjOk X.prog X.w H s.heap d (.frz o (.dT kvs)) from I.hok d _ hd)
  obtain⟨f0,f1,f2,f3,f4,f5⟩:=hf it (by simp)
  rw[hi,<-hlen] at st
  exact Ul (I.ok.hd hc) st e1 ho fun h' eb=>⟨rfl,I.turned (t':=s.toks) (fun b o hb e=>eb b o hb e) f0 f1 f3 f4 f5⟩
 self:=fun A i s Q E st hQ=>by
  refine wpAny_pyIter_slot st.typeIs F.slot_dict_keyiterator_iter (wpAny_call_entry F.slot_dict_keyiterator_iter st.typeIs F.entry_dict_keyiterator_iter ?_ (F.args_dict_keyiterator_iter_1 _))
  show wpAny _ _ (ret (.ref it)) _ _ s
  exact wpAny_pure ⟨_,rfl,"dict_keyiterator",_,st.typeIs,F.slot_dict_keyiterator_next.lookup,hQ⟩
section
variable {X:Cx} {tg:Expr}
theorem Inv.freeze{pins:List (Addr×Obj)}{Z:St}{H:Hp}{s:Shared}{d:Addr}{kvs:List (List Z4×V)}{o:Obj}(I:Inv X pins Z H s)(hd:H d=some (.dT kvs))(ho:s.heap.get? d=some o) :
  Inv X pins Z (upd H d (.frz o (.dT kvs))) s:=by
 have ne:∀b u,H b=some u->(∀k,u≠.dT k)->b≠d:=fun b u q n z=>by rw[z,hd] at q;exact n _ (Option.some.inj q).symm
 have nn:∀b,H b=none->b≠d:=fun b q z=>by rw[z,hd] at q;cases q
 have un:Un X.fs [] H (upd H d (.frz o (.dT kvs))) s.heap s.heap:=
  ⟨fun b o q _ _ _=>q,fun b o q _ _ _=>⟨o.slots,q⟩,fun b o q n _=>by rw[upd_ne (nn b n)];exact n,fun b o q _=>⟨o,q⟩,
   fun b xs q=>by rw[upd_ne (ne b _ q fun _ z=>nomatch z)];exact q,fun b o u q=>by rw[upd_ne (ne b _ q fun _ z=>nomatch z)];exact q,fun b ps q=>⟨#[],by rw[upd_ne (ne b _ q fun _ z=>nomatch z),q];simp⟩⟩
 have hok:HOk X.prog X.w (upd H d (.frz o (.dT kvs))) s.heap:=fun b u q=>by
  have hown:∀c y,H c=some (.own y)->upd H d (.frz o (.dT kvs)) c=some (.own y):=fun c y z=>by rw[upd_ne (ne c _ z fun _ z=>nomatch z)];exact z
  have htup:∀c xs,H c=some (.tup xs)->upd H d (.frz o (.dT kvs)) c=some (.tup xs):=fun c y z=>by rw[upd_ne (ne c _ z fun _ z=>nomatch z)];exact z
  by_cases hb:b=d
  ·subst hb
   rw[upd_same] at q;cases q
   exact⟨ho,(I.hok b _ hd).stay (fun _ _ _ z=>z) (fun c z=>hown c _ z) htup⟩
  ·rw[upd_ne hb] at q
   exact(I.hok b u q).stay (fun _ _ _ z=>z) (fun c z=>hown c _ z) htup
 have:=I.un (t':=s.toks) un hok
 exact this
def Pn(tl:TE):TI:=fun Z H R=>tl Z H fun x H1=>∃d kvs,x = .ref d/\((H1 d=some (.dT kvs)/\∀o,R (Ky d o kvs) (upd H1 d (.frz o (.dT kvs))))\/∃o,H1 d=some (.frz o (.dT kvs))/\R (Ky d o kvs) H1)
theorem SF{l:Expr}{tl:TE}(hl:PE X l tl):PI X tg l (Pn tl):=by
 intro pins s Z H R I h
 refine Z5 (hl pins s Z H _ I h) fun v s1 ⟨x,H1,I1,r1,q1⟩=>?_
 obtain⟨d,kvs,e,q⟩:=q1
 subst e;cases r1
 have core:∀(o:Obj)(H2:Hp),Inv X pins Z H2 s1->H2 d=some (.frz o (.dT kvs))->R (Ky d o kvs) H2->wpAny (model X.prog X.w) X.A (pyIter (.ref d)) (IU X pins Z tg R) X.xe s1:=fun o H2 I2 e2 q2=>by
  obtain⟨e1,z,y,xs,r,o',es,ep,h1,h2,h3,h4,h5⟩:=(show ObjOk X.prog X.w H2 s1.heap d (.frz o (.dT kvs)) from I2.hok d _ e2)
  rw[e1] at h1;cases h1
  have hsz:es.size=kvs.length:=by
   have a1:=congrArg List.length h4;have a2:=Paired.length r;simp only[Array.length_toList,List.length_map] at a1;omega
  refine SE y e1 h2 h3 ?_
  refine⟨s1.heap.objs.size,[s1.heap.objs.size],_,_,H2,rfl,I2.kept (t':=s1.toks) fun b o e=>Heap.get?_push_of_some _ e,Ol d _ o es ep kvs h3 hsz,⟨_,Heap.get?_push_size _ rfl,rfl,rfl⟩,fun b hb=>?_,q2⟩
  rw[List.mem_singleton.mp hb]
  exact I2.fpOk (Nat.le_refl _) (I2.hok.fresh (Nat.le_refl _))
 rcases q with⟨hd,q⟩ | ⟨o,hd,q⟩
 ·obtain⟨z,y,xs,r,o,es,ep,h1,h2,h3,h4,h5⟩:=(show ObjOk X.prog X.w H1 s1.heap d (.dT kvs) from I1.hok d _ hd)
  exact core o _ (I1.freeze hd h1) upd_same (q o)
 ·exact core o H1 I1 hd q
end
theorem Walks.seqB{prog:Program}{w:World}{A:Around}(b:Bool)(hh:A.handled=none)(I ax:Addr)(hne:ax≠I)(items:Array Value) :
  Walks prog w A I [I,ax] [I] items.size (fun i v=>items[i]?=some v) (fun i h=>IterB b h I ax i/\SeqB b h ax items):=by
 cases b with
 | true=>exact Walks.list hh I ax hne items
 | false=>exact Walks.tuple hh I ax hne items
section
variable {X:Cx}
theorem WV(hc:X.calm=true):Y8 X (.builtin "sum") (fun xs H Q=>∃(b:Bool) (p:Addr) (ns:List Int),xs=[.ref p]/\Oi b X.K H p (ns.map V.int)/\Q (.int ns.sum) H):=by
 intro pins s Z H xs us Q I r h
 obtain⟨b,p,ns,rfl,hq,q⟩:=h
 obtain⟨u,rfl,rx⟩:=WC r
 cases rx
 obtain⟨its,rv,hseq,hz⟩:=I.seqB hq
 have hp:p<s.heap.objs.size:=let⟨_,e⟩:=hseq.has;Heap.lt_size e
 refine call_sum_walkG (Y9 hseq ?_)
 refine⟨_,_,_,_,_,_,fun i=>ns.getD i 0,rfl,Walks.seqB (A:=X.A.in1) b (I.ok.hd hc) s.heap.objs.size p (Nat.ne_of_lt hp) its.toArray,⟨IterB.new (Heap.get?_push_size _ rfl),hseq.at fun o e=>Heap.get?_push_of_some _ e⟩,fun c hcm=>?_,fun i v hv=>?_,fun h' tk t' hk=>?_⟩
 ·show c<(s.heap.push _).objs.size
  rw[Heap.size_push]
  rcases List.mem_cons.mp hcm with rfl | hcm
  ·exact Nat.lt_succ_self _
  ·rw[List.mem_singleton.mp hcm];exact Nat.lt_succ_of_lt hp
 ·have hv:its.toArray[i]?=some v:=hv
  have hv:its[i]?=some v:=by simpa using hv
  have hl:=rv.length;rw[List.length_map] at hl
  have hi:i<ns.length:=by rw[hl];exact(List.getElem?_eq_some_iff.mp hv).1
  obtain⟨u,hu,ru⟩:=rv.get (i:=i) (x:=.int ns[i]) (by rw[List.getElem?_map,List.getElem?_eq_getElem hi];rfl)
  rw[hv] at hu;cases hu
  obtain⟨t,rfl⟩:=ru
  refine⟨t,?_⟩
  show Value.int ns[i] t=Value.int (ns.getD i 0) t
  rw[List.getD_eq_getElem?_getD,List.getElem?_eq_getElem hi];rfl
 ·have e:preSum (fun i=>ns.getD i 0) its.toArray.size=ns.sum:=by
   have hl:=rv.length;rw[List.length_map] at hl;rw[List.size_toArray,<-hl]
   have gen:∀k,k<=ns.length->preSum (fun i=>ns.getD i 0) k=(ns.take k).sum:=by
    intro k
    induction k with
    | zero=>intro _;simp[preSum]
    | succ k ih=>
     intro hk;rw[preSum,ih (by omega),List.take_add_one,List.getD_eq_getElem?_getD,List.getElem?_eq_getElem (by omega),List.sum_append]
     simp
   rw[gen _ (Nat.le_refl _),List.take_length]
  rw[e]
  refine⟨.int ns.sum,H,I.kept (fun c o hco=>hk c o ?_ (Heap.get?_push_of_some _ hco)),⟨_,rfl⟩,q⟩
  intro hm;rw[List.mem_singleton.mp hm] at hco
  exact absurd (Heap.lt_size hco) (Nat.lt_irrefl _)
theorem T7(hc:X.calm=true):Y8 X (.builtin "all") (fun xs H Q=>∃(b:Bool) (p:Addr) (bs:List Bool),xs=[.ref p]/\Oi b X.K H p (bs.map V.bl)/\Q (.bl (bs.all id)) H):=by
 intro pins s Z H xs us Q I r h
 obtain⟨b,p,bs,rfl,hq,q⟩:=h
 obtain⟨u,rfl,rx⟩:=WC r
 cases rx
 obtain⟨its,rv,hseq,hz⟩:=I.seqB hq
 have hp:p<s.heap.objs.size:=let⟨_,e⟩:=hseq.has;Heap.lt_size e
 have hl:=rv.length;rw[List.length_map] at hl
 refine call_all_walk (Y9 hseq ?_)
 refine⟨_,_,_,_,_,_,fun i=>bs.getD i true,rfl,Walks.seqB (A:=X.A.in1) b (I.ok.hd hc) s.heap.objs.size p (Nat.ne_of_lt hp) its.toArray,⟨IterB.new (Heap.get?_push_size _ rfl),hseq.at fun o e=>Heap.get?_push_of_some _ e⟩,fun i v s' Q' E' hv hQ=>?_,fun h' tk hk=>?_⟩
 ·have hv:its.toArray[i]?=some v:=hv
  have hv:its[i]?=some v:=by simpa using hv
  have hi:i<bs.length:=by rw[hl];exact(List.getElem?_eq_some_iff.mp hv).1
  obtain⟨u,hu,ru⟩:=rv.get (i:=i) (x:=.bl bs[i]) (by rw[List.getElem?_map,List.getElem?_eq_getElem hi];rfl)
  rw[hv] at hu;cases hu;cases ru
  refine wpAny_truthy_bool ?_
  have e:bs.getD i true=bs[i]:=by rw[List.getD_eq_getElem?_getD,List.getElem?_eq_getElem hi];rfl
  rw[<-e];exact hQ
 ·have e:(List.range its.toArray.size).all (fun i=>bs.getD i true)=bs.all id:=by
   rw[List.size_toArray,<-hl,Bool.eq_iff_iff,List.all_eq_true,List.all_eq_true];constructor
   ·intro h x hx
    obtain⟨i,hi,rfl⟩:=List.mem_iff_getElem.mp hx
    have:=h i (List.mem_range.mpr hi)
    rw[List.getD_eq_getElem?_getD,List.getElem?_eq_getElem hi] at this;exact this
   ·intro h i hi
    have hi:=List.mem_range.mp hi;rw[List.getD_eq_getElem?_getD,List.getElem?_eq_getElem hi]
    exact h _ (List.getElem_mem hi)
  rw[e]
  refine⟨.bl (bs.all id),H,I.kept (fun c o hco=>hk c o ?_ (Heap.get?_push_of_some _ hco)),rfl,q⟩
  intro hm;rw[List.mem_singleton.mp hm] at hco
  exact absurd (Heap.lt_size hco) (Nat.lt_irrefl _)
theorem WE:Y8 X (.builtin "isinstance") (fun xs H Q=>∃x T t b,xs=[x,.ty T]/\TyOf X.K H x t/\PySem.W.kitOne X.K t (.type T)=some b/\Q (.bl b) H):=by
 intro pins s Z H xs us Q I r h
 obtain⟨x,T,t,b,rfl,ht,hk,q⟩:=h
 obtain⟨u,v,rfl,ru,rv⟩:=Pa r
 cases rv
 exact P6 I ru ht hk fun tk=>⟨.bl b,H,I.tok tk,rfl,q⟩
theorem Rq{K:PySem.W.Frag}:PySem.W.kitOne K (.type "int") (.type "int")=some true:=rfl
theorem SG{K:PySem.W.Frag}:PySem.W.kitOne K (.type "int") (.type "bool")=some false:=by first | rfl | decide | (unfold PySem.W.kitOne;rw[if_neg (by decide)];first | rfl | decide | kernel_rfl)
theorem Rr{K:PySem.W.Frag}:PySem.W.kitOne K (.type "tuple") (.type "tuple")=some true:=rfl
theorem TH{K:PySem.W.Frag}:PySem.W.kitOne K (.type "list") (.type "list")=some true:=rfl
theorem Rs{K:PySem.W.Frag}:PySem.W.kitOne K (.type "str") (.type "str")=some true:=rfl
def Po:V->List V->Hp->VK->Prop:=fun x vs H Q=>∃l xs k y,x = .ref l/\vs=[.int k,y]/\H l=some (.lst xs)/\0<=k/\k<2^63/\xs.length<sizeLine/\Q .non (upd H l (.lst (xs.take k.toNat++y::xs.drop k.toNat)))
theorem T8:He X "list.insert" Po:=by
 intro pins s Z H x vs v us Q I rx rv h
 obtain⟨l,xs,k,y,rfl,rfl,hH,h0,h1,hz,q⟩:=h
 cases rx
 obtain⟨u1,u2,rfl,r1,r2⟩:=rv.two
 obtain⟨t,rfl⟩:=r1
 obtain⟨z,its,n,r,hl,e⟩:=I.lstM hH
 have hfit:¬(!Builtin.List.listFitsIndex k)=true:=by
  rw[fitsIndex_both (by omega) h1];exact Bool.false_ne_true
 refine call_meets F.slot_list_insert ⟨_,e,rfl⟩ F.entry_list_insert (F.args_list_insert_3 _ _ _) (AutoListH.list_insert_list_int_val_1 l its.toArray n k t u2 hfit (by rw[List.size_toArray];omega)) ⟨e,?_⟩
 refine⟨.non,_,I.lset (its':=its.take k.toNat++u2::its.drop k.toNat) hH e ?_ ((r.take k.toNat).append (.cons r2 (r.drop k.toNat))) ?_,rfl,q⟩
 ·show(have j:=if k<0 then(k+((its.toArray.size:Nat):Int)).toNat else min k.toNat its.toArray.size;(its.toArray.extract 0 j).push u2++its.toArray.extract j)=_
  rw[if_neg (by omega)]
  dsimp only
  by_cases hle:k.toNat<=its.length
  ·rw[Nat.min_eq_left (by rw[List.size_toArray];exact hle)]
   simp
   rw[List.take_of_length_le (by rw[List.length_drop];exact Nat.le_refl _)]
  ·rw[Nat.min_eq_right (by rw[List.size_toArray];omega)]
   rw[List.take_of_length_le (by omega),List.drop_eq_nil_of_le (by omega)]
   simp
 ·rw[List.length_append,List.length_cons,List.length_take,List.length_drop]
  omega
end
def TK(H H':Hp):Prop:=∀b xs,H b=some (.tup xs)->H' b=some (.tup xs)
theorem Same.tk{H H':Hp}(s:Same H H'):TK H H':=fun b xs h=>s b _ h
theorem Same.new{H:Hp}{p:Addr}(h:H p=none)(o:HO):Same H (upd H p o):=fun b u q=>by rw[upd_ne (Zq q h)];exact q
class Rep(α:Type) where
 is:Hp->V->α->Prop
 keep:∀{H H':Hp}{v:V}{a:α},TK H H'->is H v a->is H' v a
 inj:∀{H:Hp}{v:V}{a a':α},is H v a->is H v a'->a=a'
 dep:Nat
 eqA:∀{X:Cx}{pins:List (Addr×Obj)}{Z:St}{H:Hp}{s:Shared}{v v':V}{a a':α}{u u':Value}{A:Around},Inv X pins Z H s->A.units+dep<cLine->is H v a->is H v' a'->RelV v u->RelV v' u'->
  ∃b,SeqAt.EqAt A s u u' b/\(b=true↔a=a')
instance:Rep Int where
 is:=fun _ v i=>v = .int i
 keep:=fun _ h=>h
 inj:=fun{H v a a'} h h'=>by subst h;exact V.int.inj h'
 dep:=0
 eqA:=fun{X pins Z H s v v' a a' u u' A} _ _ h h' r r'=>by
  subst h;subst h'
  obtain⟨t,rfl⟩:=r
  obtain⟨t',rfl⟩:=r'
  exact⟨_,SeqAt.EqAt.int_int a t a' t',by simp⟩
instance:Rep Bool where
 is:=fun _ v i=>v = .bl i
 keep:=fun _ h=>h
 inj:=fun{H v a a'} h h'=>by subst h;exact V.bl.inj h'
 dep:=0
 eqA:=fun{X pins Z H s v v' a a' u u' A} _ _ h h' r r'=>by
  subst h;subst h'
  cases r
  cases r'
  exact⟨_,SeqAt.EqAt.bool_bool a a',by simp⟩
instance:Rep Str where
 is:=fun _ v i=>v = .str i
 keep:=fun _ h=>h
 inj:=fun{H v a a'} h h'=>by subst h;exact V.str.inj h'
 dep:=0
 eqA:=fun{X pins Z H s v v' a a' u u' A} _ _ h h' r r'=>by
  subst h;subst h'
  obtain⟨t,rfl⟩:=r
  obtain⟨t',rfl⟩:=r'
  exact⟨_,SeqAt.EqAt.str_str a t a' t',by simp⟩
abbrev Items{α:Type}[Rep α](H:Hp):List V->List α->Prop:=Paired (Rep.is H)
section
variable {α:Type} [Rep α]
theorem Items.keep{H H':Hp}(k:TK H H'){xs:List V}{l:List α}(h:Items H xs l):Items H' xs l:=Paired.mapP h fun _ _ z=>Rep.keep k z
theorem Items.len{H:Hp}{xs:List V}{l:List α}(h:Items H xs l):xs.length=l.length:=Paired.length h
end
theorem Items.inj{α:Type}[Rep α]{H:Hp}:∀{xs:List V}{l m:List α},Items H xs l->Items H xs m->l=m
 | _,_,_,.nil,.nil=>rfl
 | _,_,_,.cons r t,.cons r' t'=>by rw[Rep.inj r r',Items.inj t t']
theorem Items.eqs{α:Type}[Rep α]{X:Cx}{pins:List (Addr×Obj)}{Z:St}{H:Hp}{s:Shared}{A:Around}(I:Inv X pins Z H s)(hu:A.units+Rep.dep α<cLine) :
  ∀{xs ys:List V}{l m:List α}{us ws:List Value},Items H xs l->Items H ys m->Vals xs us->Vals ys ws->
  ∃e:Nat->Bool,(∀j (h1:j<us.length) (h2:j<ws.length),SeqAt.EqAt A s us[j] ws[j] (e j))/\((List.range (min us.length ws.length)).all e=true↔l.take (min us.length ws.length)=m.take (min us.length ws.length))
 | _,_,_,_,_,_,.nil,_,.nil,_=>⟨fun _=>true,fun j h1=>by simp at h1,by simp⟩
 | _,_,_,_,_,_,.cons _ _,.nil,.cons _ _,.nil=>⟨fun _=>true,fun j h1 h2=>by simp at h2,by simp⟩
 | _,_,_,_,_,_,.cons r t,.cons r' t',.cons q v,.cons q' v'=>by
  obtain⟨b,hb,hb'⟩:=Rep.eqA I hu r r' q q'
  obtain⟨e,he,he'⟩:=Items.eqs I hu t t' v v'
  refine⟨fun j=>match j with | 0=>b | k+1=>e k,fun j h1 h2=>?_,?_⟩
  ·cases j with
   | zero=>exact hb
   | succ k=>exact he k (by simpa using h1) (by simpa using h2)
  ·simp only[List.length_cons,Nat.succ_min_succ,List.range_succ_eq_map,List.all_cons,List.all_map,Bool.and_eq_true,List.take_succ_cons,List.cons.injEq]
   exact and_congr hb' he'
theorem Items.same{α:Type}[Rep α]{H:Hp}{xs ys:List V}{l m:List α}{us ws:List Value}(h:Items H xs l)(h':Items H ys m)(r:Vals xs us)(r':Vals ys ws) :
  (l.take (min us.length ws.length)=m.take (min us.length ws.length)/\us.length=ws.length)↔l=m:=by
 have e1:=h.len;have e2:=h'.len;have e3:=r.length;have e4:=r'.length;constructor
 ·rintro⟨a,b⟩
  rw[List.take_of_length_le (by omega),List.take_of_length_le (by omega)] at a;exact a
 ·intro a
  subst a
  exact⟨rfl,by omega⟩
abbrev HA(α:Type):Type:=List α
def J7{α:Type}[Rep α](H:Hp)(v:V)(l:List α):Prop:=∃p xs,v = .ref p/\H p=some (.tup xs)/\Items H xs l
instance {α:Type} [Rep α]:Rep (HA α) where
 is:=fun H v l=>J7 (α:=α) H v l
 keep:=fun{H H' v a} k h=>by
  obtain⟨p,xs,e,hp,it⟩:=h
  exact⟨p,xs,e,k p xs hp,it.keep k⟩
 inj:=fun{H v a a'} h h'=>by
  obtain⟨p,xs,e,hp,it⟩:=h
  obtain⟨p',xs',e',hp',it'⟩:=h'
  rw[e] at e';cases e'
  rw[hp] at hp';cases hp'
  exact Items.inj it it'
 dep:=Rep.dep α+2
 eqA:=fun{X pins Z H s v v' a a' u u' A} I hu h h' r r'=>by
  obtain⟨p,xs,rfl,hp,it⟩:=h
  obtain⟨p',xs',rfl,hp',it'⟩:=h'
  cases r
  cases r'
  obtain⟨us,rv,q,_⟩:=I.tuple (SqT.of hp)
  obtain⟨us',rv',q',_⟩:=I.tuple (SqT.of hp')
  by_cases e:p=p'
  ·subst e
   refine⟨true,SeqAt.EqAt.same _,?_⟩
   rw[hp] at hp';cases hp'
   have:a=a':=Items.inj it it'
   simp[this]
  ·obtain⟨f,hf,hf'⟩:=Items.eqs (A:=A.in1) I (by show A.units+1+Rep.dep α<cLine;omega) it it' rv rv'
   refine⟨_,SeqAt.EqAt.of_refs e (SeqAt.RcAt.tuples (e:=f) (show s.heap.IsTuple p us.toArray from q) (show s.heap.IsTuple p' us'.toArray from q') (by omega) (fun j h1 h2=>hf j (by simpa using h1) (by simpa using h2))),?_⟩
   simp only[List.size_toArray,Bool.and_eq_true,beq_iff_eq];rw[hf']
   exact Items.same it it' rv rv'
structure Def(K:PySem.W.Frag)(mg:Str->Option Value)(x:Str)(st:Stmt):Prop where
 ex:∃f fd,mg x=some (.ref f)/\Fun K x x st f fd
theorem Yr{K:PySem.W.Frag}{h:Heap}{mg:Str->Option Value}{x:Str}{st:Stmt}{f:Addr}{oc:Value}{od an:Option Addr}{osl:Array (Option Value)}{kV doc pm cdv ct:Value}(X:K.In h)(G:h.Ns mainGlobals mg)
  (a:PySem.W.nsIn K mainGlobals x=some (some (.ref f))) (l:K.lookup f=some ⟨oc,od,.func (PySem.W.fnOf x x (Zz st) (Zs st) (Zh st) .none kV doc pm an cdv ct),osl⟩)
  (c:PySem.W.codeIn K cdv x=true) (k:PySem.W.keepIn K (.ref f)=true):Def K mg x st:=⟨f,_,PySem.W.mg_of X G a,Kx (st:=st) l c k⟩
structure WA(P:Program)(w:World)(K:PySem.W.Frag)(mg:Str->Option Value)(base:Heap)(x:Str)(ps:List Str)(sp:Sp)(k:Nat):Prop where
 ex:∃f fd,mg x=some (.ref f)/\PySem.W.keepIn K (.ref f)=true/\Binds K fd ps []/\Vt P w K mg base Pm k f fd ps sp
section
variable {P:Program} {w:World} {K:PySem.W.Frag} {mg:Str->Option Value} {base:Heap}
theorem Def.cal{x:Str}{st:Stmt}{N ps:List Str}{k:Nat}{sp:Sp}(D:Def K mg x st)(S:ZE N ps (Zh st))
  (hb:∀(kV doc pm:Value)(an:Option Addr)(cdv ct:Value)(us:List Value),us.length=ps.length->bindArgs (PySem.W.fnOf x x (Zz st) (Zs st) (Zh st) .none kV doc pm an cdv ct) ⟨us,[]⟩=pure (ps.zip us))
  (len:∀vs H Q E,sp vs H Q E->vs.length=ps.length)
  (hbody:∀(f:Addr)(cdv:Value)(A:Around)(outer:List Env)(s:Shared)(H:Hp)(vs:List V)(Q:VK)(E:XK),Room k (A.deeper (envOfC x (Zh st) s.heap.objs.size f cdv))->sp vs H Q E->
   ∃t,PSs (U1 Pm P w K mg base N x (Zh st) f cdv A outer s H E).nox (Zs st) t/\t { nx:=fun _ H'=>Q .non H',rt:=Q } (start N vs) H):WA P w K mg base x ps sp (k+1):=by
 obtain⟨f,fd,hm,F⟩:=D.ex
 exact⟨f,fd,hm,F.kp,F.binds hb,F.ok S len fun cdv A outer s H vs Q E hr h=>hbody f cdv A outer s H vs Q E hr h⟩
end
section
variable {X:Cx} {x:Str} {ps:List Str} {sp:Sp} {k:Nat} {e:Expr} {es:List Expr} {t:TA} {p pos:Pos}
theorem Kz(C:WA X.prog X.w X.K X.mg X.base x ps sp k)(hr:Room k X.A)(hg:Gl X x)(ha:PA X (e::es) t)
  (hdb:(x==("__debug__" : Str))=false:=by decide) (he:starEach (e::es) X.env=(false,eval e X.env)::starEach es X.env:=by rfl) (hpl:(backTo pos (starEach es X.env)).any (·.1)=false:=by rfl) :
  PE X (.Call (.Name x p) (e::es) [] pos) (LG sp [] E0 t):=by
 obtain⟨f,fd,a,b,c,d⟩:=C.ex
 exact MB d hr hg a b c .nil J1 ha hdb he hpl
end
def Vi(N:List Str)(around scope:Scope)(own fr:List Str)(ix:List Nat):Bool:=
 (match scope.kind with | .function=>true | _=>false)&&scope.names.all (fun y=>y.2 != .cell)&&scope.names.all (fun y=>y.2 != .local || scope.names.lookup y.1==some .local)&&
 scope.names.all (fun y=>y.2 != .free || (around.names.lookup y.1==some .cell || around.names.lookup y.1==some .free))&&(fr.map some==ix.map (fun i=>N[i]?))&&
 fr.all (fun x=>scope.names.contains (x,NameKind.free))&&fr.all (fun x=>scope.names.lookup x != some .local)
theorem T9{N:List Str}{around scope:Scope}{own fr:List Str}{ix:List Nat}(h:Vi N around scope own fr ix=true):CompScope N around scope own fr ix:=by
 unfold Vi at h;simp only[Bool.and_eq_true] at h
 obtain⟨⟨⟨⟨⟨⟨h1,h2⟩,h3⟩,h4⟩,h5⟩,h6⟩,h7⟩:=h
 refine⟨?_,fun y hy=>?_,fun y hy e=>?_,fun y hy e=>?_,by simpa using h5,fun x hx=>?_,fun x hx=>?_⟩
 ·split at h1
  ·assumption
  ·cases h1
 ·simpa using List.all_eq_true.mp h2 y hy
 ·have:=List.all_eq_true.mp h3 y hy
  rw[e] at this
  simpa using this
 ·have:=List.all_eq_true.mp h4 y hy
  rw[e] at this
  simpa using this
 ·simpa using List.all_eq_true.mp h6 x hx
 ·simpa using List.all_eq_true.mp h7 x hx
section
variable {X:Cx} {tg elt iter:Expr} {ifs:List Expr} {scope:Scope} {pos:Pos} {wi:TI} {g:TG} {tt:TT} {te:TE}
theorem Rt(own fr:List Str)(ix:List Nat)(hcalm:X.calm=true)(hi:PI X tg iter wi)(S:Vi X.N X.env.scope scope own fr ix=true)
  (hg:∀cl C s H ex,PG (Zx X (own++fr) scope cl C s H ex) tg g) (ht:∀cl C s H ex,Mk (Zx X (own++fr) scope cl C s H ex) ifs tt) (he:∀cl C s H ex,PE (Zx X (own++fr) scope cl C s H ex) elt te)
  (hs:∀x,foldedSetIterable iter X.env x=pure x:=by intro _;rfl):PE X (.ListComp elt [⟨tg,iter,ifs,0⟩] scope pos) (T6 own.length ix wi g tt te):=
 ML hcalm hi (T9 S) hg ht he hs
theorem Ng(own fr:List Str)(ix:List Nat){i:Nat}{y:Str}{py spos:Pos}(hN:X.N.Nodup)(hy:X.N[i]?=some y)(hloc:X.env.scope.names.lookup y=some .local)(hcalm:X.calm=true)(hi:PI X tg iter wi)(S:Vi X.N X.env.scope scope own fr ix=true)
  (hg:∀cl C s H ex,PG (Zx X (own++fr) scope cl C s H ex) tg g) (ht:∀cl C s H ex,Mk (Zx X (own++fr) scope cl C s H ex) ifs tt) (he:∀cl C s H ex,PE (Zx X (own++fr) scope cl C s H ex) elt te)
  (hsw:swapsWith (.ListComp elt [⟨tg,iter,ifs,0⟩] scope pos) (some (.Name y py)) spos.line X.env=pure true:=by rfl)
  (hs:∀x,foldedSetIterable iter X.env x=pure x:=by intro _;rfl):PS X (.Assign [.Name y py] (.ListComp elt [⟨tg,iter,ifs,0⟩] scope pos) spos) (PY (T6 own.length ix wi g tt te) (Uw i)):=
 MM hN hy hloc hcalm hi (T9 S) hg ht he hsw hs
end
structure Rb(mg:Str->Option Value):Prop where
 «len» : mg "len" = none
 «sum» : mg "sum" = none
 «range» : mg "range" = none
 «enumerate» : mg "enumerate" = none
 «zip» : mg "zip" = none
 «tuple» : mg "tuple" = none
 «list» : mg "list" = none
 «all» : mg "all" = none
 «any» : mg "any" = none
 «isinstance» : mg "isinstance" = none
 «int» : mg "int" = none
 «bool» : mg "bool" = none
 «str» : mg "str" = none
 «min» : mg "min" = none
 «max» : mg "max" = none
 «sorted» : mg "sorted" = none
 «abs» : mg "abs" = none
 «ValueError» : mg "ValueError" = none
 «reversed» : mg "reversed" = none
abbrev KA(g:TG)(tb:TS)(D:Wy)(Z:St)(J:It)(H:Hp):Prop:=
 ∃W:Nat->Nat->St->Hp->Prop,(∃m,W 0 m Z H)/\∀i m Z H,W i m Z H->
   (J.stop i H/\D.nx Z H)\/(J.go i H/\∃N:St->Hp->Prop,(∀Z' H',N Z' H'->∃m',m'<m/\W (i+1) m' Z' H')/\∀x H',J.yld i H x H'->g x Z H' fun Z2 H2=>tb { D with nx:=N,ct:=N,bk:=D.nx } Z2 H2)
def Zy(l:List Int)(i:Nat):Int:=l.getD i 0
theorem Om(l:List Int):(List.range l.length).map (Zy l)=l:=by
 apply List.ext_getElem?
 intro i;rw[List.getElem?_map]
 by_cases h:i<l.length
 ·rw[List.getElem?_eq_getElem (by simpa using h),List.getElem?_eq_getElem h]
  simp[Zy,List.getD_eq_getElem?_getD,List.getElem?_eq_getElem h]
 ·rw[List.getElem?_eq_none (by simpa using h),List.getElem?_eq_none (by omega)];rfl
def Zu(w:List (List Int))(i:Nat):List Int:=w.getD i []
theorem U8{w:List (List Int)}{i:Nat}(h:i<w.length):w[i]?=some (Zu w i):=by
 unfold Zu
 rw[List.getD_eq_getElem?_getD,List.getElem?_eq_getElem h];rfl
def Xa(w:List (List Int))(i j:Nat):Int:=Zy (Zu w i) j
structure YH(w:List (List Int)):Prop where
 pos:1<=w.length
 few:w.length<=7
 sq:∀i,i<w.length->(Zu w i).length=w.length
 lo:∀i j,i<w.length->j<w.length->0<=Xa w i j
 hi:∀i j,i<w.length->j<w.length->Xa w i j<=9
 sym:∀i j,i<w.length->j<w.length->Xa w i j=Xa w j i
 dia:∀i,i<w.length->Xa w i i=0
def KB(K:PySem.W.Frag):List V->Hp->VK->Prop:=fun xs H Q=>∃p ys,xs=[.ref p]/\((SqL K H p ys/\∀l,H l=none->Q (.ref l) (upd H l (.tup ys)))\/(SqT K H p ys/\Q (.ref p) H))
def MO(K:PySem.W.Frag):List V->Hp->VK->Prop:=fun xs H Q=>∃p ys,xs=[.ref p]/\(SqL K H p ys\/SqT K H p ys)/\∀l,H l=none->Q (.ref l) (upd H l (.lst ys))
theorem Same.off{H Hc:Hp}{p:Addr}(s:Same H Hc)(n:Hc p=none):H p=none:=s.free n
abbrev YB:=Nat×Nat×Int
def On(e:YB):List Z4×V:=([.inl (e.1:Int),.inl (e.2.1:Int)],.int e.2.2)
def dE(ts:List YB):List (List Z4×V):=ts.map On
structure DictOk(n:Nat)(ts:List YB):Prop where
 ok:∀e∈ts,e.1<e.2.1/\e.2.1<n/\1<=e.2.2/\e.2.2<=9
 nd:(ts.map fun e=>(e.1,e.2.1)).Nodup
theorem SH{a b a' b':Nat}(h:([Sum.inl (a:Int),Sum.inl (b:Int)]:List Z4)=[Sum.inl (a':Int),Sum.inl (b':Int)]):a=a'/\b=b':=by
 have h1:=(List.cons.inj h).1
 have h2:=(List.cons.inj (List.cons.inj h).2).1
 have e1:=Sum.inl.inj h1;have e2:=Sum.inl.inj h2;omega
theorem DictOk.nil(n:Nat):DictOk n []:=⟨fun _ h=>by simp at h,by simp⟩
theorem MP{ts:List YB}{a b:Nat}:(∀t,(a,b,t)∉ts)->WD (dE ts) [.inl (a:Int),.inl (b:Int)]=none:=by
 intro h;unfold WD dE;rw[Option.map_eq_none_iff,List.find?_eq_none];intro x hx
 obtain⟨e,he,rfl⟩:=List.mem_map.mp hx
 intro q;have q:=of_decide_eq_true q
 obtain⟨h1,h2⟩:=SH q
 obtain⟨a',b',t⟩:=e
 simp only at h1 h2
 subst h1 h2
 exact h t he
theorem KC{n:Nat}{ts:List YB}{a b:Nat}{t:Int}(ok:DictOk n ts)(hab:a<b)(hb:b<n)(h1:1<=t)(h9:t<=9) :
  ∃ts',Wa (dE ts) [.inl (a:Int),.inl (b:Int)] (.int t)=dE ts'/\DictOk n ts'/\ts'.length<=ts.length+1:=by
 by_cases hm:∃t',(a,b,t')∈ts
 ·-- it is there: replaced
  obtain⟨t',hm⟩:=hm
  refine⟨ts.map fun e=>if(e.1,e.2.1)=(a,b) then(e.1,e.2.1,t) else e,?_,⟨?_,?_⟩,by simp⟩
  ·unfold Wa
   rw[if_pos ?_]
   ·unfold dE
    rw[List.map_map,List.map_map]
    apply List.map_congr_left
    intro e _
    show(if(On e).1=_ then((On e).1,V.int t) else On e)=On (if(e.1,e.2.1)=(a,b) then(e.1,e.2.1,t) else e)
    by_cases q:(e.1,e.2.1)=(a,b)
    ·rw[if_pos q,if_pos ?_]
     ·rfl
     ·have:=Prod.mk.inj q
      show([.inl (e.1:Int),.inl (e.2.1:Int)]:List Z4)=_
      rw[this.1,this.2]
    ·rw[if_neg q,if_neg ?_]
     intro z
     obtain⟨h1,h2⟩:=SH (show([.inl (e.1:Int),.inl (e.2.1:Int)]:List Z4)=_ from z)
     exact q (by rw[h1,h2])
   ·rw[List.any_eq_true]
    exact⟨On (a,b,t'),List.mem_map.mpr ⟨_,hm,rfl⟩,decide_eq_true rfl⟩
  ·intro e he
   obtain⟨e',he',rfl⟩:=List.mem_map.mp he
   have:=ok.ok e' he'
   by_cases q:(e'.1,e'.2.1)=(a,b)
   ·rw[if_pos q];exact⟨this.1,this.2.1,h1,h9⟩
   ·rw[if_neg q];exact this
  ·rw[List.map_map]
   have e:((fun e:YB=>(e.1,e.2.1)) ∘ fun e:YB=>if(e.1,e.2.1)=(a,b) then(e.1,e.2.1,t) else e)=fun e:YB=>(e.1,e.2.1):=by
    funext e
    show((if(e.1,e.2.1)=(a,b) then((e.1,e.2.1,t):YB) else e).1,(if(e.1,e.2.1)=(a,b) then((e.1,e.2.1,t):YB) else e).2.1)=_
    by_cases q:(e.1,e.2.1)=(a,b)
    ·rw[if_pos q]
    ·rw[if_neg q]
   rw[e];exact ok.nd
 ·have hn:∀t',(a,b,t')∉ts:=fun t' h=>hm ⟨t',h⟩
  refine⟨ts++[(a,b,t)],?_,⟨?_,?_⟩,by simp⟩
  ·rw[Na _ (MP hn)]
   unfold dE
   rw[List.map_append];rfl
  ·intro e he
   rcases List.mem_append.mp he with q | q
   ·exact ok.ok e q
   ·rw[List.mem_singleton.mp q];exact⟨hab,hb,h1,h9⟩
  ·rw[List.map_append]
   refine SC ok.nd ?_
   rw[List.mem_map]
   rintro⟨e,he,q⟩
   obtain⟨a',b',t'⟩:=e
   have:=Prod.mk.inj q
   simp only at this
   rw[this.1,this.2] at he
   exact hn t' he
def Xb(M:List (List Int))(a b:Nat)(t:Int):List (List Int):=M.set a ((Zu M a).set b t)
def ZY(M:List (List Int))(e:YB):List (List Int):=Xb (Xb M e.1 e.2.1 e.2.2) e.2.1 e.1 e.2.2
def MQ(n:Nat)(ts:List YB):List (List Int):=ts.foldl ZY (List.replicate n (List.replicate n 0))
structure MatOk(n:Nat)(M:List (List Int)):Prop where
 len:M.length=n
 row:∀i,i<n->(Zu M i).length=n
 lo:∀i j,i<n->j<n->0<=Xa M i j
 hi:∀i j,i<n->j<n->Xa M i j<=9
 sym:∀i j,i<n->j<n->Xa M i j=Xa M j i
 dia:∀i,i<n->Xa M i i=0
theorem Sa{M:List (List Int)}{a i:Nat}{r:List Int}(ha:a<M.length):Zu (M.set a r) i=if a=i then r else Zu M i:=by
 unfold Zu;rw[List.getD_eq_getElem?_getD,List.getD_eq_getElem?_getD,List.getElem?_set]
 by_cases h:a=i
 ·subst h;simp[ha]
 ·simp[h]
theorem Pp{l:List Int}{b j:Nat}{t:Int}(hb:b<l.length):Zy (l.set b t) j=if b=j then t else Zy l j:=by
 unfold Zy;rw[List.getD_eq_getElem?_getD,List.getD_eq_getElem?_getD,List.getElem?_set]
 by_cases h:b=j
 ·subst h;simp[hb]
 ·simp[h]
theorem Vz{n:Nat}{M:List (List Int)}{a b i j:Nat}{t:Int}(hl:M.length=n)(hr:∀i,i<n->(Zu M i).length=n)(ha:a<n)(hb:b<n):Xa (Xb M a b t) i j=if a=i/\b=j then t else Xa M i j:=by
 show Zy (Zu (M.set a ((Zu M a).set b t)) i) j=_
 rw[Sa (by omega)]
 by_cases h:a=i
 ·subst h
  rw[if_pos rfl,Pp (by rw[hr a ha];exact hb)]
  by_cases q:b=j
  ·rw[if_pos q,if_pos ⟨rfl,q⟩]
  ·rw[if_neg q,if_neg (fun z=>q z.2)];rfl
 ·rw[if_neg h,if_neg (fun z=>h z.1)];rfl
theorem Wn{n:Nat}{M:List (List Int)}{a b:Nat}{t:Int}(hl:M.length=n)(hr:∀i,i<n->(Zu M i).length=n)(ha:a<n):(Xb M a b t).length=n/\∀i,i<n->(Zu (Xb M a b t) i).length=n:=by
 refine⟨by unfold Xb;rw[List.length_set];exact hl,fun i hi=>?_⟩
 show(Zu (M.set a ((Zu M a).set b t)) i).length=n
 rw[Sa (by omega)]
 split
 ·rw[List.length_set];exact hr a ha
 ·exact hr i hi
theorem MatOk.step{n:Nat}{M:List (List Int)}{e:YB}(ok:MatOk n M)(h:e.1<e.2.1/\e.2.1<n/\1<=e.2.2/\e.2.2<=9):MatOk n (ZY M e):=by
 obtain⟨a,b,t⟩:=e
 obtain⟨hab,hb,h1,h9⟩:=h
 simp only at hab hb h1 h9
 have ha:a<n:=by omega
 obtain⟨l1,r1⟩:=Wn (t:=t) (b:=b) ok.len ok.row ha
 obtain⟨l2,r2⟩:=Wn (t:=t) (b:=a) l1 r1 hb
 have E:∀i j,Xa (Xb (Xb M a b t) b a t) i j=if b=i/\a=j then t else if a=i/\b=j then t else Xa M i j:=fun i j=>by
  rw[Vz l1 r1 hb ha,Vz ok.len ok.row ha hb]
 refine⟨l2,r2,fun i j hi hj=>?_,fun i j hi hj=>?_,fun i j hi hj=>?_,fun i hi=>?_⟩
 ·show 0<=Xa (Xb (Xb M a b t) b a t) i j
  rw[E];split
  ·omega
  ·split
   ·omega
   ·exact ok.lo i j hi hj
 ·show Xa (Xb (Xb M a b t) b a t) i j<=9
  rw[E];split
  ·omega
  ·split
   ·omega
   ·exact ok.hi i j hi hj
 ·show Xa (Xb (Xb M a b t) b a t) i j=Xa (Xb (Xb M a b t) b a t) j i
  rw[E,E];have s:=ok.sym i j hi hj
  by_cases q1:b=i/\a=j
  ·rw[if_pos q1]
   obtain⟨rfl,rfl⟩:=q1
   rw[if_neg (by omega),if_pos ⟨rfl,rfl⟩]
  ·rw[if_neg q1]
   by_cases q2:a=i/\b=j
   ·rw[if_pos q2]
    obtain⟨rfl,rfl⟩:=q2
    rw[if_pos ⟨rfl,rfl⟩]
   ·rw[if_neg q2,if_neg (fun z=>q2 ⟨z.2,z.1⟩),if_neg (fun z=>q1 ⟨z.2,z.1⟩),s]
 ·show Xa (Xb (Xb M a b t) b a t) i i=0
  rw[E,if_neg (by omega),if_neg (by omega)]
  exact ok.dia i hi
theorem MatOk.zero(n:Nat):MatOk n (List.replicate n (List.replicate n 0)):=by
 have r:∀i,i<n->Zu (List.replicate n (List.replicate n (0:Int))) i=List.replicate n 0:=fun i hi=>by
  unfold Zu
  rw[List.getD_eq_getElem?_getD,List.getElem?_replicate,if_pos hi];rfl
 have z:∀i j,i<n->j<n->Xa (List.replicate n (List.replicate n (0:Int))) i j=0:=fun i j hi hj=>by
  show Zy (Zu _ i) j=0
  rw[r i hi];unfold Zy
  rw[List.getD_eq_getElem?_getD,List.getElem?_replicate,if_pos hj];rfl
 exact⟨by simp,fun i hi=>by rw[r i hi];simp,fun i j hi hj=>by rw[z i j hi hj];omega,fun i j hi hj=>by rw[z i j hi hj];omega,fun i j hi hj=>by rw[z i j hi hj,z j i hj hi],fun i hi=>z i i hi hi⟩
theorem U9{n:Nat}{ts:List YB}(ok:DictOk n ts):MatOk n (MQ n ts):=by
 have gen:∀(l:List YB)(M:List (List Int)),(∀e∈l,e.1<e.2.1/\e.2.1<n/\1<=e.2.2/\e.2.2<=9)->MatOk n M->MatOk n (l.foldl ZY M):=by
  intro l
  induction l with
  | nil=>intro M _ h;exact h
  | cons e r ih=>
   intro M h hM;rw[List.foldl_cons]
   exact ih _ (fun e' he'=>h e' (List.mem_cons_of_mem _ he')) (hM.step (h e List.mem_cons_self))
 exact gen ts _ ok.ok (MatOk.zero n)
theorem MatOk.web{n:Nat}{M:List (List Int)}(h:MatOk n M)(h1:1<=n)(h7:n<=7):YH M:=by
 have e:=h.len;subst e
 exact⟨h1,h7,h.row,h.lo,h.hi,h.sym,h.dia⟩
theorem YI(f:Nat->Int)(n:Nat):((List.range (n+1)).map f).sum=((List.range n).map f).sum+f n:=by
 rw[List.range_succ,List.map_append,List.sum_append];simp
theorem Xw{f g:Nat->Int}{n:Nat}(h:∀i,i<n->f i=g i):((List.range n).map f).sum=((List.range n).map g).sum:=by
 congr 1
 apply List.map_congr_left
 intro i hi
 exact h i (List.mem_range.mp hi)
theorem Pq(f g:Nat->Int)(n:Nat):((List.range n).map fun i=>f i+g i).sum=((List.range n).map f).sum+((List.range n).map g).sum:=by
 induction n with
 | zero=>simp
 | succ n ih=>rw[YI,YI,YI,ih];omega
theorem MR(l:List Int):((List.range l.length).map (Zy l)).sum=l.sum:=by rw[Om]
theorem Nh(e:Nat->Nat->Int)(n:Nat)(hs:∀i j,i<n->j<n->e i j=e j i)(hd:∀i,i<n->e i i=0) :
  ((List.range n).map fun i=>((List.range n).map fun j=>e i j).sum).sum=2*((List.range n).map fun a=>((List.range (n-(a+1))).map fun j=>e a (a+1+j)).sum).sum:=by
 induction n with
 | zero=>simp
 | succ n ih=>
  have ih:=ih (fun i j hi hj=>hs i j (by omega) (by omega)) fun i hi=>hd i (by omega)
  rw[YI,YI,YI]
  have a1:((List.range n).map fun i=>((List.range (n+1)).map fun j=>e i j).sum).sum=((List.range n).map fun i=>((List.range n).map fun j=>e i j).sum).sum+((List.range n).map fun i=>e i n).sum:=by
   rw[<-Pq]
   apply Xw
   intro i _;rw[YI]
  have a2:((List.range n).map fun a=>((List.range (n+1-(a+1))).map fun j=>e a (a+1+j)).sum).sum=((List.range n).map fun a=>((List.range (n-(a+1))).map fun j=>e a (a+1+j)).sum).sum+((List.range n).map fun i=>e i n).sum:=by
   rw[<-Pq]
   apply Xw
   intro i hi;rw[show n+1-(i+1)=(n-(i+1))+1 by omega,YI,show i+1+(n-(i+1))=n by omega]
  have a3:((List.range n).map fun j=>e n j).sum=((List.range n).map fun i=>e i n).sum:=by
   apply Xw
   intro i hi
   exact hs n i (by omega) (by omega)
  rw[a1,a2,a3,hd n (by omega),show n+1-(n+1)=0 by omega]
  simp
  omega
theorem Ni{α:Type}(n:Nat)(x:α):(List.replicate n [x]).flatten=List.replicate n x:=by
 induction n with
 | zero=>rfl
 | succ n ih=>rw[List.replicate_succ,List.flatten_cons,ih];rfl
theorem Qn{α β:Type}(f:β->α->β)(s:β){l:List α}{i:Nat}{x:α}(h:l[i]?=some x):(l.take (i+1)).foldl f s=f ((l.take i).foldl f s) x:=by
 rw[List.take_add_one,h]
 show List.foldl f s (l.take i++[x])=_
 rw[List.foldl_append];rfl
structure NamesOk(i:Nat)(l:List Int):Prop where
 len:l.length=i
 nd:l.Nodup
 lo:∀x∈l,0<=x
 hi:∀x∈l,x<i
theorem NamesOk.nil:NamesOk 0 []:=⟨rfl,List.nodup_nil,fun _ h=>by simp at h,fun _ h=>by simp at h⟩
theorem NamesOk.ins{i:Nat}{l:List Int}(h:NamesOk i l)(k:Nat):NamesOk (i+1) (l.take k++(i:Int)::l.drop k):=by
 have hp:(l.take k++(i:Int)::l.drop k).Perm ((i:Int)::l):=by
  have:=List.perm_middle (a:=(i:Int)) (l₁:=l.take k) (l₂:=l.drop k)
  rw[List.take_append_drop] at this;exact this
 refine⟨by rw[hp.length_eq,List.length_cons,h.len],?_,fun x hx=>?_,fun x hx=>?_⟩
 ·rw[hp.nodup_iff,List.nodup_cons]
  exact⟨fun hm=>by have:=h.hi _ hm;omega,h.nd⟩
 ·rcases List.mem_cons.mp (hp.mem_iff.mp hx) with e | e
  ·omega
  ·exact h.lo x e
 ·rcases List.mem_cons.mp (hp.mem_iff.mp hx) with e | e
  ·omega
  ·have:=h.hi x e;omega
theorem NamesOk.at{i:Nat}{l:List Int}(h:NamesOk i l){x:Nat}(hx:x<i):0<=Zy l x/\Zy l x<i:=by
 have e:Zy l x=l[x]'(by rw[h.len];exact hx):=by
  unfold Zy
  rw[List.getD_eq_getElem?_getD,List.getElem?_eq_getElem (by rw[h.len];exact hx)];rfl
 rw[e]
 exact⟨h.lo _ (List.getElem_mem _),h.hi _ (List.getElem_mem _)⟩
theorem NamesOk.ne{i:Nat}{l:List Int}(h:NamesOk i l){x y:Nat}(hx:x<i)(hy:y<i)(n:x≠y):Zy l x≠Zy l y:=by
 have ex:Zy l x=l[x]'(by rw[h.len];exact hx):=by
  unfold Zy
  rw[List.getD_eq_getElem?_getD,List.getElem?_eq_getElem (by rw[h.len];exact hx)];rfl
 have ey:Zy l y=l[y]'(by rw[h.len];exact hy):=by
  unfold Zy
  rw[List.getD_eq_getElem?_getD,List.getElem?_eq_getElem (by rw[h.len];exact hy)];rfl
 rw[ex,ey];intro e
 exact n ((List.getElem_inj h.nd).mp e)
theorem lt_size{n:Nat}(h:n<=10000):n<sizeLine:=Nat.lt_of_le_of_lt h (by decide)
end L2
namespace VL
open PySem PySem.Spec PyProof.Rows L2
variable {K:PySem.W.Frag}
inductive PV where
 | non | bl (b:Bool) | int (i:Int) | str (x:Str) | ty (n:String) | exc (n:Str)
 | tup (l:List PV) | lst (l:List PV) | cst (l:List PV)
 | dK (ks:List Z4) (vs:List PV) | dT (ks:List (List Z4)) (vs:List PV)
instance:Inhabited PV:=⟨.non⟩
mutual
/-- nothing in it can be changed -/
def ZL:PV->Bool
 | .tup l=>Zp l
 | .cst l=>Zp l
 | .lst _=>false
 | .dK _ _=>false
 | .dT _ _=>false
 | .non=>true
 | .bl _=>true
 | .int _=>true
 | .str _=>true
 | .ty _=>true
 | .exc _=>true
def Zp:List PV->Bool
 | []=>true
 | x::r=>ZL x&&Zp r
end
theorem Xx:∀l:List PV,Zp l=l.all ZL
 | []=>rfl
 | x::r=>by rw[List.all_cons,<-Xx r];rfl
def KL(K:PySem.W.Frag)(a:Addr)(xs:List V):Prop:=
 ∃(o:Obj) (its:Array Value) (n:Nat),K.lookup a=some o/\o.cls = .type "list"/\o.dict=none/\o.data = .seq its n/\its.size<=sizeLine/\Vals xs its.toList
def CsK(K:PySem.W.Frag)(H:Hp)(p:Addr)(xs:List V):Prop:=(∃o,H p=some (.frz o (.lst xs)))\/KL K p xs
theorem CsK.sq{K:PySem.W.Frag}{H:Hp}{p:Addr}{xs:List V}(h:CsK K H p xs):SqL K H p xs:=by
 rcases h with h | h
 ·exact .inl (.inr h)
 ·exact .inr h
mutual
/-- v is the tree l in the heap H;fp: the addresses of its lists and dicts -/
def Is(K:PySem.W.Frag)(H:Hp):PV->V->List Addr->Prop
 | .non,v,fp=>v = .non/\fp=[]
 | .bl b,v,fp=>v = .bl b/\fp=[]
 | .int i,v,fp=>v = .int i/\fp=[]
 | .str x,v,fp=>v = .str x/\fp=[]
 | .ty n,v,fp=>v = .ty n/\fp=[]
 | .exc n,v,fp=>(∃e o x C,v = .ref e/\H e=some (.frz o (.own x))/\o.cls = .ref C/\PySem.W.nsIn K mainGlobals n=some (some (.ref C))/\o.dict=none/\∃vs,o.data = .fields vs)/\fp=[]
 | .tup l,v,fp=>∃p xs,v = .ref p/\H p=some (.tup xs)/\Iss K H l xs fp
 | .lst l,v,fp=>∃p xs fq,v = .ref p/\H p=some (.lst xs)/\Iss K H l xs fq/\fp=p::fq
 | .cst l,v,fp=>∃p xs,v = .ref p/\CsK K H p xs/\Iss K H l xs fp
 | .dK ks l,v,fp=>∃p kvs fq,v = .ref p/\Rd H p (.dK kvs)/\kvs.map (·.1)=ks/\Iss K H l (kvs.map (·.2)) fq/\fp=p::fq
 | .dT ks l,v,fp=>∃p kvs fq,v = .ref p/\Rd H p (.dT kvs)/\kvs.map (·.1)=ks/\Iss K H l (kvs.map (·.2)) fq/\fp=p::fq
def Iss(K:PySem.W.Frag)(H:Hp):List PV->List V->List Addr->Prop
 | [],xs,fp=>xs=[]/\fp=[]
 | l::ls,xs,fp=>∃x r f1 f2,xs=x::r/\Is K H l x f1/\Iss K H ls r f2/\fp=f1++f2
end
def RdK(H H':Hp)(p:Addr):Prop:=(∀xs,H p=some (.lst xs)->H' p=some (.lst xs))/\(∀kvs,Rd H p (.dK kvs)->Rd H' p (.dK kvs))/\∀kvs,Rd H p (.dT kvs)->Rd H' p (.dT kvs)
theorem RdK.of{H H':Hp}{p:Addr}(h:∀o,H p=some o->H' p=some o):RdK H H' p:=by
 have r:∀u,Rd H p u->Rd H' p u:=fun u q=>by
  rcases q with q | ⟨o,q⟩
  ·exact .inl (h _ q)
  ·exact .inr ⟨o,h _ q⟩
 exact⟨fun _=>h _,fun _=>r _,fun _=>r _⟩
structure TK2(H H':Hp):Prop where
 tup:TK H H'
 frz:∀b o xs,H b=some (.frz o (.lst xs))->H' b=some (.frz o (.lst xs))
 exc:∀b o x,H b=some (.frz o (.own x))->H' b=some (.frz o (.own x))
theorem Same.tk2{H H':Hp}(s:Same H H'):TK2 H H':=⟨s.tk,fun b o xs h=>s b _ h,fun b o x h=>s b _ h⟩
theorem CsK.tr{K:PySem.W.Frag}{H H':Hp}(t:TK2 H H'){p:Addr}{xs:List V}(h:CsK K H p xs):CsK K H' p xs:=by
 rcases h with⟨o,h⟩ | h
 ·exact .inl ⟨o,t.frz p o xs h⟩
 ·exact .inr h
mutual
theorem Is.tr{H H':Hp}(ht:TK2 H H'):∀(l:PV)(v:V)(fp:List Addr),(∀p∈fp,RdK H H' p)->Is K H l v fp->Is K H' l v fp
 | .non,_,_,_,h=>by simpa only[Is] using h
 | .bl _,_,_,_,h=>by simpa only[Is] using h
 | .int _,_,_,_,h=>by simpa only[Is] using h
 | .str _,_,_,_,h=>by simpa only[Is] using h
 | .ty _,_,_,_,h=>by simpa only[Is] using h
 | .exc _,_,_,_,h=>by
  simp only[Is] at h ⊢
  obtain⟨⟨e,o,x,C,a,b,c⟩,d⟩:=h
  exact⟨⟨e,o,x,C,a,ht.exc e o x b,c⟩,d⟩
 | .tup l,v,fp,hm,h=>by
  simp only[Is] at h ⊢
  obtain⟨p,xs,e,hp,hi⟩:=h
  exact⟨p,xs,e,ht.tup p xs hp,Iss.tr ht l xs fp hm hi⟩
 | .lst l,v,fp,hm,h=>by
  simp only[Is] at h ⊢
  obtain⟨p,xs,fq,e,hr,hi,rfl⟩:=h
  exact⟨p,xs,fq,e,(hm p List.mem_cons_self).1 _ hr,Iss.tr ht l xs fq (fun q hq=>hm q (List.mem_cons_of_mem _ hq)) hi,rfl⟩
 | .cst l,v,fp,hm,h=>by
  simp only[Is] at h ⊢
  obtain⟨p,xs,e,hr,hi⟩:=h
  exact⟨p,xs,e,hr.tr ht,Iss.tr ht l xs fp hm hi⟩
 | .dK ks l,v,fp,hm,h=>by
  simp only[Is] at h ⊢
  obtain⟨p,kvs,fq,e,hr,hk,hi,rfl⟩:=h
  exact⟨p,kvs,fq,e,(hm p List.mem_cons_self).2.1 _ hr,hk,Iss.tr ht l _ fq (fun q hq=>hm q (List.mem_cons_of_mem _ hq)) hi,rfl⟩
 | .dT ks l,v,fp,hm,h=>by
  simp only[Is] at h ⊢
  obtain⟨p,kvs,fq,e,hr,hk,hi,rfl⟩:=h
  exact⟨p,kvs,fq,e,(hm p List.mem_cons_self).2.2 _ hr,hk,Iss.tr ht l _ fq (fun q hq=>hm q (List.mem_cons_of_mem _ hq)) hi,rfl⟩
theorem Iss.tr{H H':Hp}(ht:TK2 H H'):∀(l:List PV)(xs:List V)(fp:List Addr),(∀p∈fp,RdK H H' p)->Iss K H l xs fp->Iss K H' l xs fp
 | [],_,_,_,h=>by simpa only[Iss] using h
 | l::ls,xs,fp,hm,h=>by
  simp only[Iss] at h ⊢
  obtain⟨x,r,f1,f2,e,h1,h2,rfl⟩:=h
  exact⟨x,r,f1,f2,e,Is.tr ht l x f1 (fun q hq=>hm q (List.mem_append_left _ hq)) h1,Iss.tr ht ls r f2 (fun q hq=>hm q (List.mem_append_right _ hq)) h2,rfl⟩
end
theorem Is.mono{H H':Hp}(s:Same H H'){l:PV}{v:V}{fp:List Addr}(h:Is K H l v fp):Is K H' l v fp:=Is.tr (Same.tk2 s) l v fp (fun p _=>RdK.of fun o q=>s p o q) h
theorem Iss.mono{H H':Hp}(s:Same H H'){l:List PV}{v:List V}{fp:List Addr}(h:Iss K H l v fp):Iss K H' l v fp:=Iss.tr (Same.tk2 s) l v fp (fun p _=>RdK.of fun o q=>s p o q) h
mutual
theorem Is.pure{H:Hp}:∀(l:PV)(v:V)(fp:List Addr),ZL l=true->Is K H l v fp->fp=[]
 | .non,_,_,_,h=>by simp only[Is] at h;exact h.2
 | .bl _,_,_,_,h=>by simp only[Is] at h;exact h.2
 | .int _,_,_,_,h=>by simp only[Is] at h;exact h.2
 | .str _,_,_,_,h=>by simp only[Is] at h;exact h.2
 | .ty _,_,_,_,h=>by simp only[Is] at h;exact h.2
 | .exc _,_,_,_,h=>by simp only[Is] at h;exact h.2
 | .tup l,v,fp,hp,h=>by
  simp only[Is] at h
  obtain⟨p,xs,e,_,hi⟩:=h
  exact Iss.pure l xs fp (by simpa only[ZL] using hp) hi
 | .lst l,v,fp,hp,h=>by simp[ZL] at hp
 | .cst l,v,fp,hp,h=>by
  simp only[Is] at h
  obtain⟨p,xs,e,_,hi⟩:=h
  exact Iss.pure l xs fp (by simpa only[ZL] using hp) hi
 | .dK ks l,v,fp,hp,h=>by simp[ZL] at hp
 | .dT ks l,v,fp,hp,h=>by simp[ZL] at hp
theorem Iss.pure{H:Hp}:∀(l:List PV)(xs:List V)(fp:List Addr),Zp l=true->Iss K H l xs fp->fp=[]
 | [],_,_,_,h=>by simp only[Iss] at h;exact h.2
 | l::ls,xs,fp,hp,h=>by
  simp only[Iss] at h;simp only[Zp,Bool.and_eq_true] at hp
  obtain⟨x,r,f1,f2,e,h1,h2,rfl⟩:=h
  rw[Is.pure l x f1 hp.1 h1,Iss.pure ls r f2 hp.2 h2];rfl
end
section
variable {H H':Hp}
theorem Iss.len:∀{l:List PV}{xs:List V}{fp:List Addr},Iss K H l xs fp->xs.length=l.length
 | [],xs,fp,h=>by simp only[Iss] at h;rw[h.1];rfl
 | l::ls,xs,fp,h=>by
  simp only[Iss] at h
  obtain⟨x,r,f1,f2,rfl,_,h2,_⟩:=h
  rw[List.length_cons,List.length_cons,h2.len]
theorem Iss.get:∀{l:List PV}{xs:List V}{fp:List Addr}{i:Nat}{a:PV},Iss K H l xs fp->l[i]?=some a->∃x f1,xs[i]?=some x/\Is K H a x f1/\∀p∈f1,p∈fp
 | [],xs,fp,i,a,h,e=>by simp at e
 | l::ls,xs,fp,0,a,h,e=>by
  simp only[Iss] at h
  obtain⟨x,r,f1,f2,rfl,h1,_,rfl⟩:=h
  simp at e;subst e
  exact⟨x,f1,rfl,h1,fun p hp=>List.mem_append_left _ hp⟩
 | l::ls,xs,fp,i+1,a,h,e=>by
  simp only[Iss] at h
  obtain⟨x,r,f1,f2,rfl,_,h2,rfl⟩:=h
  obtain⟨y,g,h3,h4,h5⟩:=h2.get (i:=i) (a:=a) (by simpa using e)
  exact⟨y,g,by simpa using h3,h4,fun p hp=>List.mem_append_right _ (h5 p hp)⟩
theorem Iss.get'{l:List PV}{xs:List V}{fp:List Addr}{i:Nat}{x:V}(h:Iss K H l xs fp)(e:xs[i]?=some x):∃a f1,l[i]?=some a/\Is K H a x f1/\∀p∈f1,p∈fp:=by
 have hi:i<l.length:=by rw[<-h.len];exact(List.getElem?_eq_some_iff.mp e).1
 obtain⟨y,f1,h1,h2,h3⟩:=h.get (List.getElem?_eq_getElem hi)
 rw[e] at h1;cases h1
 exact⟨_,f1,List.getElem?_eq_getElem hi,h2,h3⟩
theorem Iss.nil:Iss K H [] [] []:=by simp[Iss]
theorem Iss.cons{l:PV}{ls:List PV}{x:V}{xs:List V}{f1 f2:List Addr}(h1:Is K H l x f1)(h2:Iss K H ls xs f2):Iss K H (l::ls) (x::xs) (f1++f2):=by
 simp only[Iss];exact⟨x,xs,f1,f2,rfl,h1,h2,rfl⟩
theorem Iss.inv{l:PV}{ls:List PV}{xs:List V}{fp:List Addr}(h:Iss K H (l::ls) xs fp):∃x r f1 f2,xs=x::r/\Is K H l x f1/\Iss K H ls r f2/\fp=f1++f2:=by
 simpa only[Iss] using h
theorem Iss.append:∀{l m:List PV}{xs ys:List V}{f1 f2:List Addr},Iss K H l xs f1->Iss K H m ys f2->Iss K H (l++m) (xs++ys) (f1++f2)
 | [],m,xs,ys,f1,f2,h,h'=>by
  simp only[Iss] at h
  rw[h.1,h.2];exact h'
 | l::ls,m,xs,ys,f1,f2,h,h'=>by
  obtain⟨x,r,g1,g2,rfl,a,b,rfl⟩:=h.inv
  rw[List.append_assoc]
  exact Iss.cons a (b.append h')
theorem Iss.one{l:PV}{x:V}{f:List Addr}(h:Is K H l x f):Iss K H [l] [x] f:=by
 have:=Iss.cons h (Iss.nil (H:=H))
 rwa [List.append_nil] at this
theorem Iss.take:∀{l:List PV}{xs:List V}{fp:List Addr}(n:Nat),Iss K H l xs fp->∃f1,Iss K H (l.take n) (xs.take n) f1/\∀p∈f1,p∈fp
 | l,xs,fp,0,h=>⟨[],by rw[List.take_zero,List.take_zero];exact Iss.nil,fun p hp=>by simp at hp⟩
 | [],xs,fp,n+1,h=>by
  simp only[Iss] at h;rw[h.1]
  exact⟨[],by rw[List.take_nil,List.take_nil];exact Iss.nil,fun p hp=>by simp at hp⟩
 | l::ls,xs,fp,n+1,h=>by
  obtain⟨x,r,f1,f2,rfl,h1,h2,rfl⟩:=h.inv
  obtain⟨f3,a,b⟩:=h2.take n
  refine⟨f1++f3,Iss.cons h1 a,fun p hp=>?_⟩
  rcases List.mem_append.mp hp with h | h
  ·exact List.mem_append_left _ h
  ·exact List.mem_append_right _ (b p h)
theorem Iss.drop:∀{l:List PV}{xs:List V}{fp:List Addr}(n:Nat),Iss K H l xs fp->∃f1,Iss K H (l.drop n) (xs.drop n) f1/\∀p∈f1,p∈fp
 | l,xs,fp,0,h=>⟨fp,h,fun p hp=>hp⟩
 | [],xs,fp,n+1,h=>by
  simp only[Iss] at h;rw[h.1]
  exact⟨[],by rw[List.drop_nil,List.drop_nil];exact Iss.nil,fun p hp=>by simp at hp⟩
 | l::ls,xs,fp,n+1,h=>by
  obtain⟨x,r,f1,f2,rfl,h1,h2,rfl⟩:=h.inv
  obtain⟨f3,a,b⟩:=h2.drop n
  exact⟨f3,a,fun p hp=>List.mem_append_right _ (b p hp)⟩
theorem Iss.setP:∀{l:List PV}{xs:List V}{a:PV}{x:V}(i:Nat),Zp l=true->ZL a=true->Iss K H l xs []->Is K H a x []->Iss K H (l.set i a) (xs.set i x) []
 | [],xs,a,x,i,_,_,h,_=>by
  simp only[Iss] at h
  rw[h.1];simp only[List.set_nil];exact Iss.nil
 | l::ls,xs,a,x,0,hp,_,h,ha=>by
  simp only[Zp,Bool.and_eq_true] at hp
  obtain⟨y,r,f1,f2,rfl,_,h2,e⟩:=h.inv
  have e2:=Iss.pure _ _ _ hp.2 h2;subst e2
  exact Iss.cons (f1:=[]) ha h2
 | l::ls,xs,a,x,i+1,hp,hq,h,ha=>by
  simp only[Zp,Bool.and_eq_true] at hp
  obtain⟨y,r,f1,f2,rfl,h1,h2,e⟩:=h.inv
  have e1:=Is.pure _ _ _ hp.1 h1;have e2:=Iss.pure _ _ _ hp.2 h2
  subst e1 e2
  exact Iss.cons (f1:=[]) h1 (Iss.setP i hp.2 hq h2 ha)
theorem Is.int_inv{i:Int}{v:V}{fp:List Addr}(h:Is K H (.int i) v fp):v = .int i/\fp=[]:=by simpa only[Is] using h
theorem Is.int(i:Int):Is K H (.int i) (.int i) []:=by simp[Is]
theorem Is.bl(i:Bool):Is K H (.bl i) (.bl i) []:=by simp[Is]
theorem Is.non:Is K H .non .non []:=by simp[Is]
theorem Is.str(x:Str):Is K H (.str x) (.str x) []:=by simp[Is]
theorem Is.ty(n:String):Is K H (.ty n) (.ty n) []:=by simp[Is]
theorem Is.bl_inv{i:Bool}{v:V}{fp:List Addr}(h:Is K H (.bl i) v fp):v = .bl i/\fp=[]:=by simpa only[Is] using h
theorem Is.str_inv{i:Str}{v:V}{fp:List Addr}(h:Is K H (.str i) v fp):v = .str i/\fp=[]:=by simpa only[Is] using h
theorem Is.non_inv{v:V}{fp:List Addr}(h:Is K H .non v fp):v = .non/\fp=[]:=by simpa only[Is] using h
theorem Is.ty_inv{n:String}{v:V}{fp:List Addr}(h:Is K H (.ty n) v fp):v = .ty n/\fp=[]:=by simpa only[Is] using h
theorem Is.tup_inv{l:List PV}{v:V}{fp:List Addr}(h:Is K H (.tup l) v fp):∃p xs,v = .ref p/\H p=some (.tup xs)/\Iss K H l xs fp:=by simpa only[Is] using h
theorem Is.tup{l:List PV}{p:Addr}{xs:List V}{fp:List Addr}(h:H p=some (.tup xs))(hi:Iss K H l xs fp):Is K H (.tup l) (.ref p) fp:=by simp only[Is];exact⟨p,xs,rfl,h,hi⟩
theorem Is.lst_inv{l:List PV}{v:V}{fp:List Addr}(h:Is K H (.lst l) v fp):∃p xs fq,v = .ref p/\H p=some (.lst xs)/\Iss K H l xs fq/\fp=p::fq:=by simpa only[Is] using h
theorem Is.lst{l:List PV}{p:Addr}{xs:List V}{fp:List Addr}(h:H p=some (.lst xs))(hi:Iss K H l xs fp):Is K H (.lst l) (.ref p) (p::fp):=by
 simp only[Is];exact⟨p,xs,fp,rfl,h,hi,rfl⟩
theorem Is.cst_inv{l:List PV}{v:V}{fp:List Addr}(h:Is K H (.cst l) v fp):∃p xs,v = .ref p/\CsK K H p xs/\Iss K H l xs fp:=by simpa only[Is] using h
theorem Is.cst{l:List PV}{p:Addr}{xs:List V}{fp:List Addr}(h:CsK K H p xs)(hi:Iss K H l xs fp):Is K H (.cst l) (.ref p) fp:=by
 simp only[Is];exact⟨p,xs,rfl,h,hi⟩
theorem Is.dT_inv{ks:List (List Z4)}{l:List PV}{v:V}{fp:List Addr}(h:Is K H (.dT ks l) v fp):∃p kvs fq,v = .ref p/\Rd H p (.dT kvs)/\kvs.map (·.1)=ks/\Iss K H l (kvs.map (·.2)) fq/\fp=p::fq:=by simpa only[Is] using h
theorem Is.dT{ks:List (List Z4)}{l:List PV}{p:Addr}{kvs:List (List Z4×V)}{fp:List Addr}(h:H p=some (.dT kvs))(hk:kvs.map (·.1)=ks)(hi:Iss K H l (kvs.map (·.2)) fp):Is K H (.dT ks l) (.ref p) (p::fp):=by
 simp only[Is];exact⟨p,kvs,fp,rfl,.inl h,hk,hi,rfl⟩
theorem Is.dK_inv{ks:List Z4}{l:List PV}{v:V}{fp:List Addr}(h:Is K H (.dK ks l) v fp):∃p kvs fq,v = .ref p/\Rd H p (.dK kvs)/\kvs.map (·.1)=ks/\Iss K H l (kvs.map (·.2)) fq/\fp=p::fq:=by simpa only[Is] using h
theorem Is.dK{ks:List Z4}{l:List PV}{p:Addr}{kvs:List (Z4×V)}{fp:List Addr}(h:H p=some (.dK kvs))(hk:kvs.map (·.1)=ks)(hi:Iss K H l (kvs.map (·.2)) fp):Is K H (.dK ks l) (.ref p) (p::fp):=by
 simp only[Is];exact⟨p,kvs,fp,rfl,.inl h,hk,hi,rfl⟩
end
abbrev iL(l:List Int):List PV:=l.map PV.int
theorem Yi(l:List Int):Zp (iL l)=true:=by
 rw[Xx,List.all_eq_true];intro x hx
 obtain⟨i,_,rfl⟩:=List.mem_map.mp hx
 rfl
theorem Iss.iL{H:Hp}:∀{l:List Int}{xs:List V}{fp:List Addr},Iss K H (VL.iL l) xs fp->xs=l.map V.int/\fp=[]
 | [],xs,fp,h=>by simpa only[VL.iL,List.map_nil,Iss] using h
 | i::l,xs,fp,h=>by
  obtain⟨x,r,f1,f2,rfl,h1,h2,rfl⟩:=Iss.inv (show Iss K H (PV.int i::VL.iL l) xs fp from h)
  obtain⟨rfl,rfl⟩:=h1.int_inv
  obtain⟨rfl,rfl⟩:=h2.iL
  exact⟨rfl,rfl⟩
theorem Iss.ofInts{H:Hp}:∀(l:List Int),Iss K H (VL.iL l) (l.map V.int) []
 | []=>Iss.nil
 | i::l=>Iss.cons (f1:=[]) (Is.int i) (Iss.ofInts l)
end VL
namespace VL
open PySem PySem.Spec PyProof.Rows L2
variable {K:PySem.W.Frag}
abbrev Ua:=L2.St
abbrev ZD:=List (Option PV)
abbrev XE:=ZD->Option PV
structure EnvIs(K:PySem.W.Frag)(Rm:Addr->Prop)(H:Hp)(s:ZD)(Z:Ua):Prop where
 is:∀(i:Nat) l,s[i]?=some (some l)->∃v fp,Z[i]?=some (some v)/\Is K H l v fp/\∀p∈fp,¬Rm p
theorem EnvIs.mono{Rm:Addr->Prop}{H H':Hp}{s:ZD}{Z:Ua}(h:EnvIs K Rm H s Z)(e:Same H H'):EnvIs K Rm H' s Z:=⟨fun i l q=>by
 obtain⟨v,fp,a,b,c⟩:=h.is i l q
 exact⟨v,fp,a,b.mono e,c⟩⟩
theorem EnvIs.free{Rm:Addr->Prop}{H:Hp}{s:ZD}{Z:Ua}(h:EnvIs K Rm H s Z):EnvIs K (fun _=>False) H s Z:=⟨fun i l q=>by
 obtain⟨v,fp,a,b,c⟩:=h.is i l q
 exact⟨v,fp,a,b,fun _ _ z=>z⟩⟩
theorem Same.mut{H H':Hp}(e:Same H H'){p:Addr}(h:X9 (H p)):X9 (H' p):=by
 cases q:H p with
 | none=>rw[q] at h;exact h.elim
 | some o=>rw[e p o q,<-q];exact h
theorem Yj{H:Hp}{p:Addr}(h:X9 (H p)):H p≠none:=fun z=>by rw[z] at h;exact h
def tF(K:PySem.W.Frag)(f:XE):TE:=fun Z H Q=>∃(Rm:Addr->Prop) (s:ZD) (l:PV),(∀p,Rm p->X9 (H p))/\EnvIs K Rm H s Z/\f s=some l/\∀v H' fp,Same H H'->Is K H' l v fp->(∀p∈fp,¬Rm p)->Q v H'
def tM(K:PySem.W.Frag)(f:XE):TE:=fun Z H Q=>∃(s:ZD) (l:PV),EnvIs K (fun _=>False) H s Z/\f s=some l/\∀v H' fp,Same H H'->Is K H' l v fp->fp.Nodup->(∀p∈fp,H p=none/\X9 (H' p))->Q v H'
def VE(X:Cx)(e:Expr)(f:XE):Prop:=PE X e (tF X.K f)
def VM(X:Cx)(e:Expr)(f:XE):Prop:=PE X e (tM X.K f)
section
variable {X:Cx} {e:Expr} {f g:XE} {t t':TE}
theorem PE.imp(h:PE X e t)(i:∀Z H Q,t' Z H Q->t Z H Q):PE X e t':=fun pins s Z H Q I q=>h pins s Z H Q I (i Z H Q q)
theorem VM.ve(h:VM X e f):VE X e f:=PE.imp h fun Z H Q ⟨Rm,s,l,hd,env,e,k⟩=>
 ⟨s,l,env.free,e,fun v H' fp sm i _ n=>k v H' fp sm i fun p hp z=>Yj (hd p z) (n p hp).1⟩
def eP(f:XE):XE:=fun s=>(f s).bind fun l=>if ZL l=true then some l else none
theorem MS{s:ZD}{l:PV}(h:eP f s=some l):f s=some l/\ZL l=true:=by
 unfold eP at h
 cases q:f s with
 | none=>rw[q] at h;cases h
 | some a=>
  rw[q] at h;simp only[Option.bind_some] at h
  split at h
  ·cases h;exact⟨rfl,by assumption⟩
  ·cases h
theorem VE.pure(h:VE X e f):VM X e (eP f):=PE.imp h fun Z H Q ⟨s,l,env,e,k⟩=>by
 obtain⟨e1,e2⟩:=MS e
 refine⟨fun _=>False,s,l,fun _ z=>z.elim,env,e1,fun v H' fp sm i n=>?_⟩
 have:=Is.pure l v fp e2 i
 subst this
 exact k v H' [] sm i List.nodup_nil fun p hp=>by simp at hp
end
def Za(i:Nat):XE:=fun s=>(s[i]?).join
def eC(l:PV):XE:=fun _=>some l
theorem Um{i:Nat}{s:ZD}{l:PV}(h:Za i s=some l):s[i]?=some (some l):=by
 unfold Za at h
 cases q:s[i]? with
 | none=>rw[q] at h;cases h
 | some o=>rw[q] at h;cases o with
  | none=>cases h
  | some a=>cases h;rfl
section
variable {X:Cx} {pos:Pos}
theorem Zc{e:Expr}{i:Nat}(h:PE X e (Vr i)):VE X e (Za i):=PE.imp h fun Z H Q ⟨Rm,s,l,hd,env,e,k⟩=>by
 obtain⟨v,fp,a,b,c⟩:=env.is i l (Um e)
 exact⟨v,a,k v H fp (Same.refl H) b c⟩
theorem MT{e:Expr}{v:V}{l:PV}(h:PE X e (tC v))(hv:∀H,Is X.K H l v []):VE X e (eC l):=PE.imp h fun Z H Q ⟨Rm,s,l',hd,env,e,k⟩=>by
 cases e
 exact k v H [] (Same.refl H) (hv H) fun p hp=>by simp at hp
theorem Zj{i j}:VE X (.Constant (.int i) j pos) (eC (.int i)):=MT L4 fun _=>Is.int i
theorem Ru{i j}:VE X (.Constant (.bool i) j pos) (eC (.bl i)):=MT JA fun _=>Is.bl i
theorem KD{j}:VE X (.Constant .none j pos) (eC .non):=MT O1 fun _=>Is.non
end
def RB(K:PySem.W.Frag)(r:R2)(g:PV->PV->Option PV):Prop:=∀(H:Hp)(x y:V)(a b l:PV)(fa fb:List Addr),Is K H a x fa->Is K H b y fb->g a b=some l->∀Q:VK,
 (∀v H' fp,Same H H'->Is K H' l v fp->(∀p∈fp,p∈fa\/p∈fb\/H p=none)->Q v H')->r x y H Q
def Zi(g:PV->PV->Option PV)(a b:XE):XE:=fun s=>(a s).bind fun x=>(b s).bind fun y=>g x y
theorem XH{g:PV->PV->Option PV}{a b:XE}{s:ZD}{l:PV}(h:Zi g a b s=some l):∃x y,a s=some x/\b s=some y/\g x y=some l:=by
 unfold Zi at h
 cases q:a s with
 | none=>rw[q] at h;cases h
 | some x=>cases q2:b s with
  | none=>rw[q,q2] at h;cases h
  | some y=>rw[q,q2] at h;exact⟨x,y,rfl,rfl,h⟩
section
variable {X:Cx} {a b:Expr} {fa fb:XE} {pos:Pos}
theorem Pr{r:R2}{g:PV->PV->Option PV}(hr:RB K r g):∀Z H Q,tF K (Zi g fa fb) Z H Q->Kg r (tF K fa) (tF K fb) Z H Q:=fun Z H Q ⟨Rm,s,l,hd,env,e,k⟩=>by
 obtain⟨x',y',ex,ey,e⟩:=XH e
 refine⟨Rm,s,x',hd,env,ex,fun x H1 f1 s1 i1 n1=>⟨Rm,s,y',fun p hp=>Same.mut s1 (hd p hp),env.mono s1,ey,fun y H2 f2 s2 i2 n2=>?_⟩⟩
 refine hr H2 x y x' y' l f1 f2 (i1.mono s2) i2 e Q fun v H3 fp s3 i3 n3=>k v H3 fp (s1.trans (s2.trans s3)) i3 fun p hp z=>?_
 rcases n3 p hp with h | h | h
 ·exact n1 p h z
 ·exact n2 p h z
 ·exact Yj (Same.mut (s1.trans s2) (hd p z)) h
theorem Rv{op:Operator}{r:R2}{g:PV->PV->Option PV}(ho:Uf X (binaryOp op) r)(hr:RB X.K r g)(ha:VE X a fa)(hb:VE X b fb):VE X (.BinOp a op b pos) (Zi g fa fb):=
 PE.imp (Q9 ho ha hb) (Pr hr)
theorem KG{op:CmpOp}{r:R2}{g:PV->PV->Option PV}(ho:Uf X (compareOp op) r)(hr:RB X.K r g)(ha:VE X a fa)(hb:VE X b fb)(hm:behindInMarks op b=false):VE X (.Compare a [op] [b] pos) (Zi g fa fb):=
 PE.imp (Mx ho ha hb hm) (Pr hr)
theorem J8{r:R2}{g:PV->PV->Option PV}(ho:IxR X r)(hr:RB X.K r g)(ha:VE X a fa)(hb:VE X b fb)(hs:Sz b):VE X (.Subscript a b pos) (Zi g fa fb):=
 PE.imp (Pd ho ha hb hs) (Pr hr)
end
def gI(g:Int->Int->Int):PV->PV->Option PV
 | .int i,.int j=>some (.int (g i j))
 | _,_=>none
def gB(g:Int->Int->Bool):PV->PV->Option PV
 | .int i,.int j=>some (.bl (g i j))
 | _,_=>none
def KH(C:Int->Int->Prop)[∀i j,Decidable (C i j)](g:Int->Int->Int):PV->PV->Option PV
 | .int i,.int j=>if C i j then some (.int (g i j)) else none
 | _,_=>none
theorem MU{g:Int->Int->Int}{a b l:PV}(h:gI g a b=some l):∃i j,a = .int i/\b = .int j/\l = .int (g i j):=by
 unfold gI at h;split at h
 ·cases h;exact⟨_,_,rfl,rfl,rfl⟩
 ·cases h
theorem MV{g:Int->Int->Bool}{a b l:PV}(h:gB g a b=some l):∃i j,a = .int i/\b = .int j/\l = .bl (g i j):=by
 unfold gB at h;split at h
 ·cases h;exact⟨_,_,rfl,rfl,rfl⟩
 ·cases h
theorem Nj{C:Int->Int->Prop}[∀i j,Decidable (C i j)]{g:Int->Int->Int}{a b l:PV}(h:KH C g a b=some l):∃i j,a = .int i/\b = .int j/\C i j/\l = .int (g i j):=by
 unfold KH at h;split at h
 ·split at h
  ·cases h;exact⟨_,_,rfl,rfl,by assumption,rfl⟩
  ·cases h
 ·cases h
theorem J9(g:Int->Int->Int):RB K (Mv fun i j=>.int (g i j)) (gI g):=fun H x y a b l fa fb ha hb e Q k=>by
 obtain⟨i,j,rfl,rfl,rfl⟩:=MU e
 exact⟨i,j,ha.int_inv.1,hb.int_inv.1,k _ H [] (Same.refl H) (Is.int _) fun p hp=>by simp at hp⟩
theorem KI(g:Int->Int->Bool):RB K (Mv fun i j=>.bl (g i j)) (gB g):=fun H x y a b l fa fb ha hb e Q k=>by
 obtain⟨i,j,rfl,rfl,rfl⟩:=MV e
 exact⟨i,j,ha.int_inv.1,hb.int_inv.1,k _ H [] (Same.refl H) (Is.bl _) fun p hp=>by simp at hp⟩
theorem Nk(C:Int->Int->Prop)[∀i j,Decidable (C i j)](g:Int->Int->Int):RB K (rI C fun i j=>.int (g i j)) (KH C g):=fun H x y a b l fa fb ha hb e Q k=>by
 obtain⟨i,j,rfl,rfl,c,rfl⟩:=Nj e
 exact⟨i,j,ha.int_inv.1,hb.int_inv.1,c,k _ H [] (Same.refl H) (Is.int _) fun p hp=>by simp at hp⟩
instance (i j:Int):Decidable (CMul i j):=by unfold CMul;infer_instance
instance (i j:Int):Decidable (UZ i j):=by unfold UZ;infer_instance
instance (i j:Int):Decidable (LF i j):=by unfold LF;infer_instance
instance (i j:Int):Decidable (JP i j):=by unfold JP;infer_instance
abbrev ZO:=gI (· + ·)
abbrev YJ:=gI (· - ·)
abbrev MW:=KH CMul (· * ·)
abbrev XI:=KH UZ (· / ·)
abbrev Yt:=KH (fun _ j=>0<j) (· % ·)
abbrev IE:=gB (fun i j=>decide (i<j))
abbrev IF:=gB (fun i j=>decide (i<=j))
abbrev Ia:=gB (fun i j=>decide (j<i))
section
variable {X:Cx} {a b:Expr} {fa fb:XE} {pos:Pos}
theorem Ya(ha:VE X a fa)(hb:VE X b fb):VE X (.BinOp a .Add b pos) (Zi ZO fa fb):=Rv Kj (J9 _) ha hb
theorem Xf(ha:VE X a fa)(hb:VE X b fb):VE X (.BinOp a .Sub b pos) (Zi YJ fa fb):=Rv Kk (J9 _) ha hb
theorem KJ(ha:VE X a fa)(hb:VE X b fb):VE X (.BinOp a .Mult b pos) (Zi MW fa fb):=Rv Kl (Nk _ _) ha hb
theorem Xn(ha:VE X a fa)(hb:VE X b fb):VE X (.BinOp a .FloorDiv b pos) (Zi XI fa fb):=Rv Mw (Nk _ _) ha hb
theorem Xg(ha:VE X a fa)(hb:VE X b fb):VE X (.BinOp a .Mod b pos) (Zi Yt fa fb):=Rv Km (Nk _ _) ha hb
end
def Yb:PV->PV->Option PV
 | .lst l,.int i=>WT l i
 | .cst l,.int i=>WT l i
 | .tup l,.int i=>WT l i
 | .str z,.int i=>if z.length<=sizeLine then(WT z.cps.toList i).map fun c=>.str ⟨#[c]⟩ else none
 | _,_=>none
theorem Qo{l:List PV}{xs:List V}{H:Hp}{fp:List Addr}{i:Int}{a:PV}(h:Iss K H l xs fp)(e:WT l i=some a):∃x f1,WT xs i=some x/\Is K H a x f1/\∀p∈f1,p∈fp:=by
 unfold WT at e ⊢
 rw[h.len]
 cases q:Qb l.length i with
 | none=>rw[q] at e;cases e
 | some j=>rw[q] at e;exact h.get e
theorem Ib:RB K (Hu K) Yb:=fun H x y a b l fa fb ha hb e Q k=>by
 unfold Yb at e;split at e
 ·obtain⟨p,xs,fq,rfl,hp,hi,rfl⟩:=ha.lst_inv
  obtain⟨z,f1,h1,h2,h3⟩:=Qo hi e
  exact .inl ⟨p,xs,_,z,rfl,hb.int_inv.1,SqL.of hp,h1,k z H f1 (Same.refl H) h2 fun q hq=>.inl (List.mem_cons_of_mem _ (h3 q hq))⟩
 ·obtain⟨p,xs,rfl,hp,hi⟩:=ha.cst_inv
  obtain⟨z,f1,h1,h2,h3⟩:=Qo hi e
  exact .inl ⟨p,xs,_,z,rfl,hb.int_inv.1,hp.sq,h1,k z H f1 (Same.refl H) h2 fun q hq=>.inl (h3 q hq)⟩
 ·obtain⟨p,xs,rfl,hp,hi⟩:=ha.tup_inv
  obtain⟨z,f1,h1,h2,h3⟩:=Qo hi e
  exact .inr (.inl ⟨p,xs,_,z,rfl,hb.int_inv.1,SqT.of hp,h1,k z H f1 (Same.refl H) h2 fun q hq=>.inl (h3 q hq)⟩)
 ·split at e
  ·cases q:WT _ _ with
   | none=>rw[q] at e;cases e
   | some c=>
    rw[q] at e;cases e
    exact .inr (.inr ⟨_,_,c,ha.str_inv.1,hb.int_inv.1,by assumption,q,k _ H [] (Same.refl H) (Is.str _) fun p hp=>by simp at hp⟩)
  ·cases e
 ·cases e
section
variable {X:Cx} {a b:Expr} {fa fb:XE} {pos:Pos}
theorem ZF(ha:VE X a fa)(hb:VE X b fb)(hs:Sz b:=by exact fun _ _=>rfl):VE X (.Subscript a b pos) (Zi Yb fa fb):=J8 Kr Ib ha hb hs
end
abbrev XT:=ZD->Option Bool
def Qc(K:PySem.W.Frag)(f:XT):TT:=fun Z H Q=>∃(Rm:Addr->Prop) (s:ZD) (c:Bool),(∀p,Rm p->X9 (H p))/\EnvIs K Rm H s Z/\f s=some c/\∀H',Same H H'->Q c H'
def VT(X:Cx)(e:Expr)(f:XT):Prop:=PT X e (Qc X.K f)
def VW(X:Cx)(e:Expr)(f:XT):Prop:=PW X e (Qc X.K f)
section
variable {X:Cx} {e:Expr} {f:XT}
theorem PT.imp{t t':TT}(h:PT X e t)(i:∀Z H Q,t' Z H Q->t Z H Q):PT X e t':=fun pins s Z H Q I q=>h pins s Z H Q I (i Z H Q q)
theorem PW.imp{t t':TT}(h:PW X e t)(i:∀Z H Q,t' Z H Q->t Z H Q):PW X e t':=fun whole pins s Z H Q I q=>h whole pins s Z H Q I (i Z H Q q)
theorem VW.vt(h:VW X e f):VT X e f:=PW.pt h
end
def xB(f:XE):XT:=fun s=>match f s with | some (.bl c)=>some c | _=>none
theorem VB{f:XE}{s:ZD}{c:Bool}(h:xB f s=some c):f s=some (.bl c):=by
 unfold xB at h;split at h
 ·cases h;assumption
 ·cases h
section
variable {X:Cx} {a b c:Expr} {Zk:List Expr} {fa fb:XE} {ga gb:XT} {pos:Pos}
theorem Nl(h:VE X a fa)(he:∀whole,isTrue a X.env whole=(do let v <-whole;standAt a.pos;holding [v] (truthy v)):=by intro _;rfl):VT X a (xB fa):=
 PT.imp (L7 h he) fun Z H Q ⟨Rm,s,c,hd,env,e,k⟩=>⟨Rm,s,.bl c,hd,env,VB e,fun v H' fp sm i n=>⟨c,i.bl_inv.1,k H' sm⟩⟩
theorem Rw:∀Z H Q,Qc K (xB fa) Z H Q->Ri (tF K fa) Z H Q:=fun Z H Q ⟨Rm,s,c,hd,env,e,k⟩=>⟨Rm,s,.bl c,hd,env,VB e,fun v H' fp sm i n=>⟨c,i.bl_inv.1,k H' sm⟩⟩
theorem Ta{t t':TE}(i:∀Z H Q,t' Z H Q->t Z H Q):∀Z H Q,Ri t' Z H Q->Ri t Z H Q:=fun Z H Q h=>i Z H _ h
theorem Tb{op:CmpOp}{r:R2}{g:PV->PV->Option PV}(ho:Uf X (compareOp op) r)(hr:RB X.K r g)(ha:VE X a fa)(hb:VE X b fb)(hm:behindInMarks op b=false):VT X (.Compare a [op] [b] pos) (xB (Zi g fa fb)):=
 PT.imp (My ho ha hb hm) fun Z H Q h=>Ta (Pr hr) Z H Q (Rw Z H Q h)
theorem Ic(ha:VE X a fa)(hb:VE X b fb):VT X (.Compare a [.Gt] [b] pos) (xB (Zi Ia fa fb)):=Tb JS (KI _) ha hb (Sx _)
def Vj(a b:XT):XT:=fun s=>(a s).bind fun c=>if c=true then b s else some false
def OY(a b:XT):XT:=fun s=>(a s).bind fun c=>if c=true then some true else b s
def Qp(a:XT):XT:=fun s=>(a s).map not
theorem MX:∀Z H Q,Qc K (Vj ga gb) Z H Q->JB (Qc K ga) (Qc K gb) Z H Q:=fun Z H Q ⟨Rm,s,c,hd,env,e,k⟩=>by
 unfold Vj at e
 cases q:ga s with
 | none=>rw[q] at e;cases e
 | some d=>
  rw[q] at e
  refine⟨Rm,s,d,hd,env,q,fun H1 s1=>?_⟩
  cases d with
  | true=>
   simp only[Option.bind_some,if_true] at e;rw[if_pos rfl]
   exact⟨Rm,s,c,fun p hp=>Same.mut s1 (hd p hp),env.mono s1,e,fun H2 s2=>k H2 (s1.trans s2)⟩
  | false=>
   simp only[Option.bind_some,Bool.false_eq_true,if_false] at e;cases e;rw[if_neg Bool.false_ne_true]
   exact k H1 s1
theorem KM:∀Z H Q,Qc K (OY ga gb) Z H Q->Hr (Qc K ga) (Qc K gb) Z H Q:=fun Z H Q ⟨Rm,s,c,hd,env,e,k⟩=>by
 unfold OY at e
 cases q:ga s with
 | none=>rw[q] at e;cases e
 | some d=>
  rw[q] at e
  refine⟨Rm,s,d,hd,env,q,fun H1 s1=>?_⟩
  cases d with
  | true=>
   simp only[Option.bind_some,if_true] at e;cases e;rw[if_pos rfl]
   exact k H1 s1
  | false=>
   simp only[Option.bind_some,Bool.false_eq_true,if_false] at e;rw[if_neg Bool.false_ne_true]
   exact⟨Rm,s,c,fun p hp=>Same.mut s1 (hd p hp),env.mono s1,e,fun H2 s2=>k H2 (s1.trans s2)⟩
theorem UL(ha:VT X a ga):VW X (.BoolOp .And [a] pos) ga:=Mq ha
theorem Qq(ha:VT X a ga):VW X (.BoolOp .Or [a] pos) ga:=L8 ha
theorem SI(ha:VT X a ga)(hb:VW X (.BoolOp .And (b::Zk) pos) gb):VW X (.BoolOp .And (a::b::Zk) pos) (Vj ga gb):=PW.imp (L9 ha hb) MX
theorem Ps(ha:VT X a ga)(hb:VW X (.BoolOp .Or (b::Zk) pos) gb):VW X (.BoolOp .Or (a::b::Zk) pos) (OY ga gb):=PW.imp (JC ha hb) KM
theorem Nm(ha:VT X a ga):VT X (.UnaryOp .Not a pos) (Qp ga):=PT.imp (Ka ha) fun Z H Q ⟨Rm,s,c,hd,env,e,k⟩=>by
 unfold Qp at e
 cases q:ga s with
 | none=>rw[q] at e;cases e
 | some d=>rw[q] at e;cases e;exact⟨Rm,s,d,hd,env,q,k⟩
end
section
variable {X:Cx} {a b c:Expr} {Zk:List Expr} {fa fb:XE} {gc:XT} {pos:Pos}
def TJ(a b:XE):XE:=fun s=>(xB a s).bind fun c=>if c=true then b s else some (.bl false)
def HB(a b:XE):XE:=fun s=>(xB a s).bind fun c=>if c=true then some (.bl true) else b s
def MY(a:XE):XE:=fun s=>(xB a s).map fun c=>.bl !c
def HC(c:XT)(a b:XE):XE:=fun s=>(c s).bind fun k=>if k=true then a s else b s
theorem SJ{op}(h:VE X a fa):VE X (.BoolOp op [a] pos) fa:=Kb h
theorem Uo(ha:VE X a fa)(hb:VE X (.BoolOp .And (b::Zk) pos) fb):VE X (.BoolOp .And (a::b::Zk) pos) (TJ fa fb):=PE.imp (Kc ha hb) fun Z H Q ⟨Rm,s,l,hd,env,e,k⟩=>by
 unfold TJ at e
 cases q:xB fa s with
 | none=>rw[q] at e;cases e
 | some d=>
  rw[q] at e
  refine⟨Rm,s,.bl d,hd,env,VB q,fun v H1 fp s1 i1 _=>⟨d,i1.bl_inv.1,?_⟩⟩
  cases d with
  | true=>
   simp only[Option.bind_some,if_true] at e;rw[if_pos rfl]
   exact⟨Rm,s,l,fun p hp=>Same.mut s1 (hd p hp),env.mono s1,e,fun v2 H2 fp2 s2 i2 n2=>k v2 H2 fp2 (s1.trans s2) i2 n2⟩
  | false=>
   simp only[Option.bind_some,Bool.false_eq_true,if_false] at e;cases e;rw[if_neg Bool.false_ne_true]
   exact k _ H1 [] s1 (Is.bl false) fun p hp=>by simp at hp
theorem KN(ha:VE X a fa):VE X (.UnaryOp .Not a pos) (MY fa):=PE.imp (Kd ha) fun Z H Q ⟨Rm,s,l,hd,env,e,k⟩=>by
 unfold MY at e
 cases q:xB fa s with
 | none=>rw[q] at e;cases e
 | some d=>
  rw[q] at e;cases e
  exact⟨Rm,s,.bl d,hd,env,VB q,fun v H1 fp s1 i1 _=>⟨d,i1.bl_inv.1,k _ H1 [] s1 (Is.bl _) fun p hp=>by simp at hp⟩⟩
end
section
variable {X:Cx} {a b c:Expr} {fa fb fc:XE} {pos:Pos}
def KO(neg:Bool):PV->Option PV
 | .non=>some (.bl !neg)
 | _=>some (.bl neg)
def Tc:PV->Bool
 | .non=>true
 | _=>false
theorem Qr{H:Hp}{l:PV}{v:V}{fp:List Addr}(i:Is K H l v fp):decide (v=V.non)=Tc l:=by
 cases l with
 | non=>rw[i.non_inv.1];rfl
 | bl b=>rw[i.bl_inv.1];rfl
 | int j=>rw[i.int_inv.1];rfl
 | str y=>rw[i.str_inv.1];rfl
 | ty n=>rw[i.ty_inv.1];rfl
 | exc C=>simp only[Is] at i;obtain⟨⟨e,o,x,C,rfl,_⟩,_⟩:=i;rfl
 | lst l=>obtain⟨p,xs,fq,rfl,_⟩:=i.lst_inv;rfl
 | cst l=>obtain⟨p,xs,rfl,_⟩:=i.cst_inv;rfl
 | tup l=>obtain⟨p,xs,rfl,_⟩:=i.tup_inv;rfl
 | dK ks l=>obtain⟨p,xs,fq,rfl,_⟩:=i.dK_inv;rfl
 | dT ks l=>obtain⟨p,xs,fq,rfl,_⟩:=i.dT_inv;rfl
def SK(neg:Bool)(a:XE):XE:=fun s=>(a s).bind (KO neg)
theorem Rx:∀Z H Q,tF K (SK true fa) Z H Q->LA (tF K fa) Z H Q:=fun Z H Q ⟨Rm,s,l,hd,env,e,k⟩=>by
 unfold SK at e
 cases q:fa s with
 | none=>rw[q] at e;cases e
 | some m=>
  rw[q] at e;simp only[Option.bind_some] at e
  refine⟨Rm,s,m,hd,env,q,fun v H1 fp s1 i1 _=>?_⟩
  show Q _ H1
  rw[Qr i1]
  have:l = .bl (!Tc m):=by cases m<;>cases e<;>rfl
  subst this
  exact k _ H1 [] s1 (Is.bl _) fun p hp=>by simp at hp
theorem MZ{j pos'}(ha:VE X a fa):VE X (.Compare a [.IsNot] [.Constant .none j pos'] pos) (SK true fa):=PE.imp (L6 (Q5 ha)) Rx
theorem LL:∀Z H Q,Qc K (xB fa) Z H Q->tB (tF K fa) Z H Q:=fun Z H Q ⟨Rm,s,c,hd,env,e,k⟩=>⟨Rm,s,.bl c,hd,env,VB e,fun v H' fp sm i n=>⟨c,i.bl_inv.1,k H' sm⟩⟩
theorem Pt{t t':TE}(i:∀Z H Q,t' Z H Q->t Z H Q):∀Z H Q,tB t' Z H Q->tB t Z H Q:=fun Z H Q h=>i Z H _ h
theorem M0{j pos'}(ha:VE X a fa):VT X (.Compare a [.IsNot] [.Constant .none j pos'] pos) (xB (SK true fa)):=PT.imp (O2 (Q5 ha)) fun Z H Q h=>Pt Rx Z H Q (LL Z H Q h)
def Td:PV->Option PV
 | .int i=>some (.int (-i))
 | _=>none
def TM(g:PV->Option PV)(a:XE):XE:=fun s=>(a s).bind g
theorem SL(ha:VE X a fa):VE X (.UnaryOp .USub a pos) (TM Td fa):=PE.imp (JN Kn ha) fun Z H Q ⟨Rm,s,l,hd,env,e,k⟩=>by
 unfold TM at e
 cases q:fa s with
 | none=>rw[q] at e;cases e
 | some m=>
  rw[q] at e;simp only[Option.bind_some] at e;unfold Td at e
  split at e
  ·cases e
   exact⟨Rm,s,_,hd,env,q,fun v H1 fp s1 i1 _=>⟨_,i1.int_inv.1,k _ H1 [] s1 (Is.int _) fun p hp=>by simp at hp⟩⟩
  ·cases e
end
end VL
namespace VL
open PySem PySem.Spec PyProof.Rows L2
variable {K:PySem.W.Frag}
def Ub:List XE->ZD->Option (List PV)
 | [],_=>some []
 | f::fs,s=>(f s).bind fun x=>(Ub fs s).map (x::·)
theorem Te{f:XE}{fs:List XE}{s:ZD}{ls:List PV}(h:Ub (f::fs) s=some ls):∃x r,f s=some x/\Ub fs s=some r/\ls=x::r:=by
 unfold Ub at h
 cases q:f s with
 | none=>rw[q] at h;cases h
 | some x=>cases q2:Ub fs s with
  | none=>rw[q,q2] at h;cases h
  | some r=>rw[q,q2] at h;cases h;exact⟨x,r,rfl,rfl,rfl⟩
theorem WW:∀{fs:List XE}{s:ZD}{ls:List PV},Ub fs s=some ls->ls.length=fs.length
 | [],_,_,h=>by cases h;rfl
 | f::fs,s,ls,h=>by
  obtain⟨x,r,_,h2,rfl⟩:=Te h
  rw[List.length_cons,List.length_cons,WW h2]
def IG(K:PySem.W.Frag)(fs:List XE):TA:=fun Z H Q=>∃(Rm:Addr->Prop) (s:ZD) (ls:List PV),(∀p,Rm p->X9 (H p))/\EnvIs K Rm H s Z/\Ub fs s=some ls/\∀vs H' fp,Same H H'->Iss K H' ls vs fp->(∀p∈fp,¬Rm p)->Q vs H'
def HD(K:PySem.W.Frag)(fs:List XE):TA:=fun Z H Q=>∃(s:ZD) (ls:List PV),EnvIs K (fun _=>False) H s Z/\Ub fs s=some ls/\∀vs H' fp,Same H H'->Iss K H' ls vs fp->fp.Nodup->(∀p∈fp,H p=none/\X9 (H' p))->Q vs H'
def VA(X:Cx)(es:List Expr)(fs:List XE):Prop:=PA X es (IG X.K fs)
def IH(X:Cx)(es:List Expr)(fs:List XE):Prop:=PA X es (HD X.K fs)
section
variable {X:Cx} {e:Expr} {es:List Expr} {f:XE} {fs:List XE} {pos:Pos} {k:Nat}
theorem PA.imp{t t':TA}(h:PA X es t)(i:∀Z H Q,t' Z H Q->t Z H Q):PA X es t':=fun pos pins s Z H Q I q=>h pos pins s Z H Q I (i Z H Q q)
theorem Ze:VA X [] []:=PA.imp Xe fun Z H Q ⟨Rm,s,ls,hd,env,e,k⟩=>by
 cases e
 exact k [] H [] (Same.refl H) Iss.nil fun p hp=>by simp at hp
theorem Zb(ha:VE X e f)(hr:VA X es fs)(hs:starEach (e::es) X.env=(false,eval e X.env)::starEach es X.env:=by rfl):VA X (e::es) (f::fs):=PA.imp (ZX ha hr hs) fun Z H Q ⟨Rm,s,ls,hd,env,e,k⟩=>by
 obtain⟨x',r',h1,h2,rfl⟩:=Te e
 refine⟨Rm,s,x',hd,env,h1,fun x H1 f1 s1 i1 n1=>⟨Rm,s,r',fun p hp=>Same.mut s1 (hd p hp),env.mono s1,h2,fun xs H2 f2 s2 i2 n2=>?_⟩⟩
 refine k _ H2 (f1++f2) (s1.trans s2) (Iss.cons (i1.mono s2) i2) fun p hp=>?_
 rcases List.mem_append.mp hp with h | h
 ·exact n1 p h
 ·exact n2 p h
theorem Xo:IH X [] []:=PA.imp Xe fun Z H Q ⟨s,ls,env,e,k⟩=>by
 cases e
 exact k [] H [] (Same.refl H) Iss.nil List.nodup_nil fun p hp=>by simp at hp
theorem Yc(ha:VM X e f)(hr:IH X es fs)(hs:starEach (e::es) X.env=(false,eval e X.env)::starEach es X.env:=by rfl):IH X (e::es) (f::fs):=PA.imp (ZX ha hr hs) fun Z H Q ⟨s,ls,env,e,k⟩=>by
 obtain⟨x',r',h1,h2,rfl⟩:=Te e
 refine⟨s,x',env,h1,fun x H1 f1 s1 i1 d1 n1=>⟨s,r',env.mono s1,h2,fun xs H2 f2 s2 i2 d2 n2=>?_⟩⟩
 refine k _ H2 (f1++f2) (s1.trans s2) (Iss.cons (i1.mono s2) i2) ?_ fun p hp=>?_
 ·refine List.nodup_append.mpr ⟨d1,d2,fun a ha b hb z=>?_⟩
  subst z
  exact Yj (n1 a ha).2 (n2 a hb).1
 ·rcases List.mem_append.mp hp with h | h
  ·exact⟨(n1 p h).1,Same.mut s2 (n1 p h).2⟩
  ·exact⟨Same.off s1 (n2 p h).1,(n2 p h).2⟩
def YL(fs:List XE):XE:=fun s=>(Ub fs s).map .tup
def ZC(fs:List XE):XE:=fun s=>(Ub fs s).map .lst
theorem map_some{α β:Type}{o:Option α}{g:α->β}{b:β}(h:o.map g=some b):∃a,o=some a/\b=g a:=by
 cases o with
 | none=>cases h
 | some a=>cases h;exact⟨a,rfl,rfl⟩
theorem Wo(h:VA X es fs)(hl:fs.length<=1000:=by decide):VE X (.Tuple es k pos) (YL fs):=PE.imp (Ko h) fun Z H Q ⟨Rm,s,l,hd,env,e,q⟩=>by
 obtain⟨ls,e1,rfl⟩:=map_some e
 refine⟨Rm,s,ls,hd,env,e1,fun vs H1 fp s1 i1 n1=>⟨?_,fun p hp=>?_⟩⟩
 ·rw[i1.len,WW e1];exact Nat.le_of_lt (lt_size (by omega))
 ·exact q _ _ fp (s1.trans (Same.new hp _)) (Is.tup upd_same (i1.mono (Same.new hp _))) n1
theorem YX(h:VA X es fs)(hl:fs.length<=1000:=by decide):VE X (.List es pos) (ZC fs):=PE.imp (Qj h) fun Z H Q ⟨Rm,s,l,hd,env,e,q⟩=>by
 obtain⟨ls,e1,rfl⟩:=map_some e
 refine⟨Rm,s,ls,hd,env,e1,fun vs H1 fp s1 i1 n1=>⟨?_,fun p hp=>?_⟩⟩
 ·rw[i1.len,WW e1];exact Nat.le_of_lt (lt_size (by omega))
 ·refine q _ _ (p::fp) (s1.trans (Same.new hp _)) (Is.lst upd_same (i1.mono (Same.new hp _))) fun a ha z=>?_
  rcases List.mem_cons.mp ha with rfl | ha
  ·exact Yj (Same.mut s1 (hd a z)) hp
  ·exact n1 a ha z
theorem Wp(h:IH X es fs)(hl:fs.length<=1000:=by decide):VM X (.List es pos) (ZC fs):=PE.imp (Qj h) fun Z H Q ⟨s,l,env,e,q⟩=>by
 obtain⟨ls,e1,rfl⟩:=map_some e
 refine⟨s,ls,env,e1,fun vs H1 fp s1 i1 d1 n1=>⟨?_,fun p hp=>?_⟩⟩
 ·rw[i1.len,WW e1];exact Nat.le_of_lt (lt_size (by omega))
 ·refine q _ _ (p::fp) (s1.trans (Same.new hp _)) (Is.lst upd_same (i1.mono (Same.new hp _))) (List.nodup_cons.mpr ⟨fun z=>Yj (n1 p z).2 hp,d1⟩) fun a ha=>?_
  rcases List.mem_cons.mp ha with rfl | ha
  ·exact⟨Same.off s1 hp,by rw[upd_same];exact True.intro⟩
  ·exact⟨(n1 a ha).1,Same.mut (Same.new hp _) (n1 a ha).2⟩
theorem Tf:VM X (.Dict [] [] pos) (eC (.dT [] [])):=PE.imp Nc fun Z H Q ⟨s,l,env,e,q⟩ p hp=>by
 cases e
 exact q _ _ [p] (Same.new hp _) (Is.dT upd_same rfl Iss.nil) (by simp) fun a ha=>by
  rw[List.mem_singleton.mp ha]
  exact⟨hp,by rw[upd_same];exact True.intro⟩
end
def XW(K:PySem.W.Frag)(D:List PV->Option PV)(n:Nat):Sp:=fun vs H Q _=>vs.length=n/\∃ls fp l,Iss K H ls vs fp/\D ls=some l/\∀v H' fq,Same H H'->Is K H' l v fq->fq.Nodup->(∀p∈fq,H p=none/\X9 (H' p))->Q v H'
def Zf(D:List PV->Option PV)(fs:List XE):XE:=fun s=>(Ub fs s).bind D
theorem Zd{α β:Type}{o:Option α}{g:α->Option β}{b:β}(h:o.bind g=some b):∃a,o=some a/\g a=some b:=by
 cases o with
 | none=>cases h
 | some a=>exact⟨a,rfl,h⟩
section
variable {X:Cx} {x:Str} {ps:List Str} {k:Nat} {e:Expr} {es:List Expr} {fs:List XE} {p pos:Pos}
theorem ZA{D:List PV->Option PV}{n:Nat}(C:WA X.prog X.w X.K X.mg X.base x ps (XW X.K D n) k)(hr:Room k X.A)(hg:Gl X x)(ha:VA X (e::es) fs)(hn:fs.length=n:=by rfl)
  (hdb:(x==("__debug__" : Str))=false:=by decide) (he:starEach (e::es) X.env=(false,eval e X.env)::starEach es X.env:=by rfl) (hpl:(backTo pos (starEach es X.env)).any (·.1)=false:=by rfl) :
  VM X (.Call (.Name x p) (e::es) [] pos) (Zf D fs):=PE.imp (Kz C hr hg ha hdb he hpl) fun Z H Q ⟨s,l,env,e,q⟩=>by
 obtain⟨ls,e1,e2⟩:=Zd e
 refine⟨fun _=>False,s,ls,fun _ z=>z.elim,env,e1,fun vs H1 fp s1 i1 n1=>?_⟩
 show XW X.K D n (vs++[]) H1 Q E0
 rw[List.append_nil]
 exact⟨by rw[i1.len,WW e1,hn],ls,fp,l,i1,e2,fun v H2 fq s2 i2 d2 n2=>q v H2 fq (s1.trans s2) i2 d2 fun a ha=>⟨Same.off s1 (n2 a ha).1,(n2 a ha).2⟩⟩
end
def RC(K:PySem.W.Frag)(r:List V->Hp->VK->Prop)(g:List PV->Option PV):Prop:=∀(H:Hp)(vs:List V)(ls:List PV)(l:PV)(fp:List Addr),Iss K H ls vs fp->g ls=some l->∀Q:VK,
 (∀v H' fq,Same H H'->Is K H' l v fq->(∀p∈fq,p∈fp\/H p=none)->Q v H')->r vs H Q
def Ie(K:PySem.W.Frag)(r:List V->Hp->VK->Prop)(g:List PV->Option PV):Prop:=∀(H:Hp)(vs:List V)(ls:List PV)(l:PV)(fp:List Addr),Iss K H ls vs fp->g ls=some l->∀Q:VK,
 (∀v H' fq,Same H H'->Is K H' l v fq->fq.Nodup->(∀p∈fq,H p=none/\X9 (H' p))->Q v H')->r vs H Q
theorem LM{r:List V->Hp->VK->Prop}{g:List PV->Option PV}{fs:List XE}(hr:RC K r g):∀Z H Q,tF K (Zf g fs) Z H Q->IA r (IG K fs) Z H Q:=fun Z H Q ⟨Rm,s,l,hd,env,e,k⟩=>by
 obtain⟨ls,e1,e2⟩:=Zd e
 refine⟨Rm,s,ls,hd,env,e1,fun vs H1 fp s1 i1 n1=>hr H1 vs ls l fp i1 e2 Q fun v H2 fq s2 i2 n2=>k v H2 fq (s1.trans s2) i2 fun p hp z=>?_⟩
 rcases n2 p hp with h | h
 ·exact n1 p h z
 ·exact Yj (Same.mut s1 (hd p z)) h
theorem LN{r:List V->Hp->VK->Prop}{g:List PV->Option PV}{fs:List XE}(hr:Ie K r g):∀Z H Q,tM K (Zf g fs) Z H Q->IA r (IG K fs) Z H Q:=fun Z H Q ⟨s,l,env,e,k⟩=>by
 obtain⟨ls,e1,e2⟩:=Zd e
 exact⟨fun _=>False,s,ls,fun _ z=>z.elim,env,e1,fun vs H1 fp s1 i1 n1=>hr H1 vs ls l fp i1 e2 Q fun v H2 fq s2 i2 d2 n2=>k v H2 fq (s1.trans s2) i2 d2 fun p hp=>⟨Same.off s1 (n2 p hp).1,(n2 p hp).2⟩⟩
section
variable {X:Cx} {x:Str} {k:Nat} {e:Expr} {es:List Expr} {fs:List XE} {p pos:Pos} {id T:String} {r:List V->Hp->VK->Prop} {g:List PV->Option PV}
theorem Zw(hc:Y8 X (.builtin id) r)(hr:RC X.K r g)(hg:Gl X x)(hm:X.mg x=none)(hv:bootBuiltins x=some (.builtin id))(ha:VA X (e::es) fs)(hn:x≠"__name__":=by decide)(hdb:(x==("__debug__" : Str))=false:=by decide)
  (he:starEach (e::es) X.env=(false,eval e X.env)::starEach es X.env:=by rfl) (hpl:(backTo pos (starEach es X.env)).any (·.1)=false:=by rfl):VE X (.Call (.Name x p) (e::es) [] pos) (Zf g fs):=
 PE.imp (U2 hc hg hm hv ha hn hdb he hpl) (LM hr)
theorem Ry(hc:Y8 X (.builtin id) r)(hr:Ie X.K r g)(hg:Gl X x)(hm:X.mg x=none)(hv:bootBuiltins x=some (.builtin id))(ha:VA X (e::es) fs)(hn:x≠"__name__":=by decide)(hdb:(x==("__debug__" : Str))=false:=by decide)
  (he:starEach (e::es) X.env=(false,eval e X.env)::starEach es X.env:=by rfl) (hpl:(backTo pos (starEach es X.env)).any (·.1)=false:=by rfl):VM X (.Call (.Name x p) (e::es) [] pos) (Zf g fs):=
 PE.imp (U2 hc hg hm hv ha hn hdb he hpl) (LN hr)
theorem Wb(hc:Y8 X (.type T) r)(hr:RC X.K r g)(hg:Gl X x)(hm:X.mg x=none)(hv:bootBuiltins x=some (.type T))(ha:VA X (e::es) fs)(hn:x≠"__name__":=by decide)(hdb:(x==("__debug__" : Str))=false:=by decide)
  (he:starEach (e::es) X.env=(false,eval e X.env)::starEach es X.env:=by rfl) (hpl:(backTo pos (starEach es X.env)).any (·.1)=false:=by rfl):VE X (.Call (.Name x p) (e::es) [] pos) (Zf g fs):=
 PE.imp (T2 hc hg hm hv ha hn hdb he hpl) (LM hr)
theorem Sb(hc:Y8 X (.type T) r)(hr:Ie X.K r g)(hg:Gl X x)(hm:X.mg x=none)(hv:bootBuiltins x=some (.type T))(ha:VA X (e::es) fs)(hn:x≠"__name__":=by decide)(hdb:(x==("__debug__" : Str))=false:=by decide)
  (he:starEach (e::es) X.env=(false,eval e X.env)::starEach es X.env:=by rfl) (hpl:(backTo pos (starEach es X.env)).any (·.1)=false:=by rfl):VM X (.Call (.Name x p) (e::es) [] pos) (Zf g fs):=
 PE.imp (T2 hc hg hm hv ha hn hdb he hpl) (LN hr)
end
theorem Iss.one_inv{H:Hp}{l:PV}{vs:List V}{fp:List Addr}(h:Iss K H [l] vs fp):∃v,vs=[v]/\Is K H l v fp:=by
 obtain⟨x,r,f1,f2,rfl,a,b,rfl⟩:=h.inv
 simp only[Iss] at b
 rw[b.1,b.2,List.append_nil];exact⟨x,rfl,a⟩
theorem Iss.two_inv{H:Hp}{l m:PV}{vs:List V}{fp:List Addr}(h:Iss K H [l,m] vs fp):∃v w f1 f2,vs=[v,w]/\Is K H l v f1/\Is K H m w f2/\fp=f1++f2:=by
 obtain⟨x,r,f1,f2,rfl,a,b,rfl⟩:=h.inv
 obtain⟨y,rfl,c⟩:=b.one_inv
 exact⟨x,y,f1,f2,rfl,a,c,rfl⟩
def Tg:PV->Option (List PV)
 | .lst l=>some l
 | .cst l=>some l
 | .tup l=>some l
 | _=>none
theorem WX{H:Hp}{l:PV}{v:V}{fp:List Addr}{m:List PV}(h:Is K H l v fp)(e:Tg l=some m):∃p xs fq,v = .ref p/\(SqL K H p xs\/SqT K H p xs)/\Iss K H m xs fq/\∀q∈fq,q∈fp:=by
 cases l with
 | lst l=>
  cases e
  obtain⟨p,xs,fq,rfl,hp,hi,rfl⟩:=h.lst_inv
  exact⟨p,xs,fq,rfl,.inl (SqL.of hp),hi,fun q hq=>List.mem_cons_of_mem _ hq⟩
 | cst l=>
  cases e
  obtain⟨p,xs,rfl,hp,hi⟩:=h.cst_inv
  exact⟨p,xs,fp,rfl,.inl hp.sq,hi,fun q hq=>hq⟩
 | tup l=>
  cases e
  obtain⟨p,xs,rfl,hp,hi⟩:=h.tup_inv
  exact⟨p,xs,fp,rfl,.inr (SqT.of hp),hi,fun q hq=>hq⟩
 | _=>cases e
def X5:List PV->Option PV
 | [.str z]=>if z.length<=sizeLine then some (.int z.length) else none
 | [l]=>(Tg l).map fun m=>.int m.length
 | _=>none
theorem Wq:RC K (fun xs H Q=>∃x n,xs=[x]/\JT K x H n/\Q (.int n) H) X5:=fun H vs ls l fp h e Q k=>by
 unfold X5 at e
 split at e
 ·split at e
  ·cases e
   obtain⟨v,rfl,i⟩:=h.one_inv
   exact⟨v,_,rfl,by rw[i.str_inv.1];exact⟨by assumption,rfl⟩,k _ H [] (Same.refl H) (Is.int _) fun p hp=>by simp at hp⟩
  ·cases e
 ·obtain⟨m,e1,rfl⟩:=map_some e
  obtain⟨v,rfl,i⟩:=h.one_inv
  obtain⟨p,xs,fq,rfl,hp,hi,_⟩:=WX (K:=K) i e1
  refine⟨_,xs.length,rfl,?_,?_⟩
  ·rcases hp with hp | hp
   ·exact .inl ⟨xs,hp,rfl⟩
   ·exact .inr ⟨xs,hp,rfl⟩
  ·rw[hi.len]
   exact k _ H [] (Same.refl H) (Is.int _) fun p hp=>by simp at hp
 ·cases e
def Xh:List PV->Option PV
 | [l]=>(Tg l).map .tup
 | _=>none
theorem VC:RC K (KB K) Xh:=fun H vs ls l fp h e Q k=>by
 unfold Xh at e
 split at e
 ·obtain⟨m,e1,rfl⟩:=map_some e
  obtain⟨v,rfl,i⟩:=h.one_inv
  rename_i l0
  cases l0 with
  | tup l=>
   cases e1
   obtain⟨p,xs,rfl,hp,hi⟩:=id i.tup_inv
   exact⟨p,xs,rfl,.inr ⟨SqT.of hp,k _ H fp (Same.refl H) i fun a ha=>.inl ha⟩⟩
  | lst l=>
   cases e1
   obtain⟨p,xs,fq,rfl,hp,hi,rfl⟩:=i.lst_inv
   exact⟨p,xs,rfl,.inl ⟨SqL.of hp,fun q hq=>k _ _ fq (Same.new hq _) (Is.tup upd_same (hi.mono (Same.new hq _))) fun a ha=>.inl (List.mem_cons_of_mem _ ha)⟩⟩
  | cst l=>
   cases e1
   obtain⟨p,xs,rfl,hp,hi⟩:=i.cst_inv
   exact⟨p,xs,rfl,.inl ⟨hp.sq,fun q hq=>k _ _ fp (Same.new hq _) (Is.tup upd_same (hi.mono (Same.new hq _))) fun a ha=>.inl ha⟩⟩
  | _=>cases e1
 ·cases e
def WF:List PV->Option PV
 | [l]=>(Tg l).bind fun m=>if Zp m=true then some (.lst m) else none
 | _=>none
theorem Rz:Ie K (MO K) WF:=fun H vs ls l fp h e Q k=>by
 unfold WF at e
 split at e
 ·obtain⟨m,e1,e2⟩:=Zd e
  split at e2
  ·cases e2
   obtain⟨v,rfl,i⟩:=h.one_inv
   obtain⟨p,xs,fq,rfl,hp,hi,hs⟩:=WX (K:=K) i e1
   have:=Iss.pure _ _ _ (by assumption) hi
   subst this
   refine⟨p,xs,rfl,hp,fun q hq=>k _ _ [q] (Same.new hq _) (Is.lst upd_same (hi.mono (Same.new hq _))) (by simp) fun a ha=>?_⟩
   rw[List.mem_singleton.mp ha]
   exact⟨hq,by rw[upd_same];exact True.intro⟩
  ·cases e2
 ·cases e
def Ys:List PV->Option (List Int)
 | []=>some []
 | .int i::r=>(Ys r).map (i::·)
 | _=>none
theorem Z6:∀l:List Int,Ys (iL l)=some l
 | []=>rfl
 | i::r=>by show(Ys (iL r)).map (i::·)=_;rw[Z6 r];rfl
theorem Yd:∀{m:List PV}{l:List Int},Ys m=some l->m=iL l
 | [],l,h=>by cases h;rfl
 | .int i::r,l,h=>by
  obtain⟨a,e,rfl⟩:=map_some (show(Ys r).map (i::·)=some l from h)
  rw[Yd e];rfl
 | .non::_,_,h=>by cases h
 | .bl _::_,_,h=>by cases h
 | .str _::_,_,h=>by cases h
 | .ty _::_,_,h=>by cases h
 | .exc _::_,_,h=>by cases h
 | .tup _::_,_,h=>by cases h
 | .lst _::_,_,h=>by cases h
 | .cst _::_,_,h=>by cases h
 | .dK _ _::_,_,h=>by cases h
 | .dT _ _::_,_,h=>by cases h
abbrev bL(l:List Bool):List PV:=l.map PV.bl
def XX:List PV->Option (List Bool)
 | []=>some []
 | .bl i::r=>(XX r).map (i::·)
 | _=>none
theorem Vg:∀l:List Bool,XX (bL l)=some l
 | []=>rfl
 | i::r=>by show(XX (bL r)).map (i::·)=_;rw[Vg r];rfl
theorem Xp:∀{m:List PV}{l:List Bool},XX m=some l->m=bL l
 | [],l,h=>by cases h;rfl
 | .bl i::r,l,h=>by
  obtain⟨a,e,rfl⟩:=map_some (show(XX r).map (i::·)=some l from h)
  rw[Xp e];rfl
 | .non::_,_,h=>by cases h
 | .int _::_,_,h=>by cases h
 | .str _::_,_,h=>by cases h
 | .ty _::_,_,h=>by cases h
 | .exc _::_,_,h=>by cases h
 | .tup _::_,_,h=>by cases h
 | .lst _::_,_,h=>by cases h
 | .cst _::_,_,h=>by cases h
 | .dK _ _::_,_,h=>by cases h
 | .dT _ _::_,_,h=>by cases h
theorem Iss.bL{H:Hp}:∀{l:List Bool}{xs:List V}{fp:List Addr},Iss K H (VL.bL l) xs fp->xs=l.map V.bl/\fp=[]
 | [],xs,fp,h=>by simpa only[VL.bL,List.map_nil,Iss] using h
 | i::l,xs,fp,h=>by
  obtain⟨x,r,f1,f2,rfl,h1,h2,rfl⟩:=Iss.inv (show Iss K H (PV.bl i::VL.bL l) xs fp from h)
  obtain⟨rfl,rfl⟩:=h1.bl_inv
  obtain⟨rfl,rfl⟩:=h2.bL
  exact⟨rfl,rfl⟩
theorem Nn{H:Hp}{p:Addr}{xs:List V}(h:SqL K H p xs\/SqT K H p xs):∃b,Oi b K H p xs:=by
 rcases h with h | h
 ·exact⟨true,h⟩
 ·exact⟨false,h⟩
def Vk:List PV->Option PV
 | [l]=>(Tg l).bind fun m=>(Ys m).map fun ns=>.int ns.sum
 | _=>none
def TN:List PV->Option PV
 | [l]=>(Tg l).bind fun m=>(XX m).map fun bs=>.bl (bs.all id)
 | _=>none
theorem SM:RC K (fun xs H Q=>∃(b:Bool) (p:Addr) (ns:List Int),xs=[.ref p]/\Oi b K H p (ns.map V.int)/\Q (.int ns.sum) H) Vk:=fun H vs ls l fp h e Q k=>by
 unfold Vk at e
 split at e
 ·obtain⟨m,e1,e2⟩:=Zd e
  obtain⟨ns,e3,rfl⟩:=map_some e2
  obtain⟨v,rfl,i⟩:=h.one_inv
  obtain⟨p,xs,fq,rfl,hp,hi,hs⟩:=WX (K:=K) i e1
  have em:=Yd e3;subst em
  obtain⟨rfl,rfl⟩:=hi.iL
  obtain⟨b,hb⟩:=Nn hp
  exact⟨b,p,ns,rfl,hb,k _ H [] (Same.refl H) (Is.int _) fun p hp=>by simp at hp⟩
 ·cases e
theorem No:RC K (fun xs H Q=>∃(b:Bool) (p:Addr) (bs:List Bool),xs=[.ref p]/\Oi b K H p (bs.map V.bl)/\Q (.bl (bs.all id)) H) TN:=fun H vs ls l fp h e Q k=>by
 unfold TN at e
 split at e
 ·obtain⟨m,e1,e2⟩:=Zd e
  obtain⟨ns,e3,rfl⟩:=map_some e2
  obtain⟨v,rfl,i⟩:=h.one_inv
  obtain⟨p,xs,fq,rfl,hp,hi,hs⟩:=WX (K:=K) i e1
  have em:=Xp e3;subst em
  obtain⟨rfl,rfl⟩:=hi.bL
  obtain⟨b,hb⟩:=Nn hp
  exact⟨b,p,ns,rfl,hb,k _ H [] (Same.refl H) (Is.bl _) fun p hp=>by simp at hp⟩
 ·cases e
def Ww:List PV->Option PV
 | [.int i,.int j]=>some (.int (if j<i then j else i))
 | _=>none
def Sc:List PV->Option PV
 | [.int i,.int j]=>some (.int (if j>i then j else i))
 | _=>none
def RA:List PV->Option PV
 | [.int i]=>some (.int i)
 | [.bl c]=>some (.int (if c then 1 else 0))
 | _=>none
theorem SN:RC K (fun xs H Q=>∃i j,xs=[.int i,.int j]/\Q (.int (if j<i then j else i)) H) Ww:=fun H vs ls l fp h e Q k=>by
 unfold Ww at e
 split at e
 ·cases e
  obtain⟨v,w,f1,f2,rfl,a,b,rfl⟩:=h.two_inv
  exact⟨_,_,by rw[a.int_inv.1,b.int_inv.1],k _ H [] (Same.refl H) (Is.int _) fun p hp=>by simp at hp⟩
 ·cases e
theorem M1:RC K (fun xs H Q=>∃i j,xs=[.int i,.int j]/\Q (.int (if j>i then j else i)) H) Sc:=fun H vs ls l fp h e Q k=>by
 unfold Sc at e
 split at e
 ·cases e
  obtain⟨v,w,f1,f2,rfl,a,b,rfl⟩:=h.two_inv
  exact⟨_,_,by rw[a.int_inv.1,b.int_inv.1],k _ H [] (Same.refl H) (Is.int _) fun p hp=>by simp at hp⟩
 ·cases e
theorem M2:RC K (fun xs H Q=>(∃i,xs=[.int i]/\Q (.int i) H)\/∃k,xs=[.bl k]/\Q (.int (if k then 1 else 0)) H) RA:=fun H vs ls l fp h e Q k=>by
 unfold RA at e
 split at e
 ·cases e
  obtain⟨v,rfl,a⟩:=h.one_inv
  exact .inl ⟨_,by rw[a.int_inv.1],k _ H [] (Same.refl H) (Is.int _) fun p hp=>by simp at hp⟩
 ·cases e
  obtain⟨v,rfl,a⟩:=h.one_inv
  exact .inr ⟨_,by rw[a.bl_inv.1],k _ H [] (Same.refl H) (Is.int _) fun p hp=>by simp at hp⟩
 ·cases e
section
variable {X:Cx} {e:Expr} {es:List Expr} {fs:List XE} {p pos:Pos}
def VD:List PV->Option PV
 | [.int _,.ty "int"]=>some (.bl true)
 | [.int _,.ty "bool"]=>some (.bl false)
 | [.bl _,.ty "bool"]=>some (.bl true)
 | [.tup _,.ty "tuple"]=>some (.bl true)
 | [.lst _,.ty "list"]=>some (.bl true)
 | [.str _,.ty "str"]=>some (.bl true)
 | _=>none
theorem TQ:PySem.W.kitOne K (.type "bool") (.type "bool")=some true:=rfl
theorem SO:RC K (fun xs H Q=>∃x T t b,xs=[x,.ty T]/\TyOf K H x t/\PySem.W.kitOne K t (.type T)=some b/\Q (.bl b) H) VD:=fun H vs ls l fp h e Q k=>by
  have fin:∀b:Bool,l = .bl b->Q (.bl b) H:=fun b z=>by subst z;exact k _ H [] (Same.refl H) (Is.bl _) fun p hp=>by simp at hp
  unfold VD at e
  split at e<;>first
    | (cases e
       obtain⟨v,w,f1,f2,rfl,a,b,rfl⟩:=h.two_inv
       first
         | (obtain⟨rfl,_⟩:=a.int_inv;first
             | exact⟨_,_,_,_,by rw[b.ty_inv.1],TyOf.int _,Rq,fin _ rfl⟩
             | exact⟨_,_,_,_,by rw[b.ty_inv.1],TyOf.int _,SG,fin _ rfl⟩)
         | (obtain⟨rfl,_⟩:=a.bl_inv;exact⟨_,_,_,_,by rw[b.ty_inv.1],TyOf.bl _,TQ,fin _ rfl⟩)
         | (obtain⟨rfl,_⟩:=a.str_inv;exact⟨_,_,_,_,by rw[b.ty_inv.1],TyOf.str _,Rs,fin _ rfl⟩)
         | (obtain⟨q,xs,rfl,hp,_⟩:=a.tup_inv;exact⟨_,_,_,_,by rw[b.ty_inv.1],TyOf.tup hp,Rr,fin _ rfl⟩)
         | (obtain⟨q,xs,fq,rfl,hp,_⟩:=a.lst_inv
            exact⟨_,_,_,_,by rw[b.ty_inv.1],TyOf.lst hp,TH,fin _ rfl⟩))
    | cases e
theorem Np{x:Str}{n:String}(hg:Gl X x)(hm:X.mg x=none)(hv:bootBuiltins x=some (.type n))(hn:x≠"__name__":=by decide)(hd:(x==("__debug__" : Str))=false:=by decide):VE X (.Name x pos) (eC (.ty n)):=
 MT (Mp hg hm hv (v:=.ty n) rfl hn hd) fun _=>Is.ty n
end
end VL
namespace VL
open PySem PySem.Spec PyProof.Rows L2
variable {K:PySem.W.Frag}
open Classical in
noncomputable instance:DecidableEq PV:=fun a b=>propDecidable (a=b)
def Xi:Nat->PV->PV->Bool
 | _+1,.non,.non=>true
 | _+1,.bl _,.bl _=>true
 | _+1,.int _,.int _=>true
 | _+1,.str _,.str _=>true
 | n+1,.tup l,.tup m=>(l.zip m).all fun z=>Xi n z.1 z.2
 | n+1,.lst l,.lst m=>(l.zip m).all fun z=>Xi n z.1 z.2
 | _,_,_=>false
theorem VF{α β:Type}{p:α×β->Bool}{a:α}{b:β}{l:List α}{m:List β}(h:((a::l).zip (b::m)).all p=true):p (a,b)=true/\(l.zip m).all p=true:=by
 rw[List.zip_cons_cons,List.all_cons,Bool.and_eq_true] at h;exact h
theorem Iss.inj'{n:Nat}{H:Hp}(ih:∀a b v fa fb,Xi n a b=true->Is K H a v fa->Is K H b v fb->a=b):∀{l m:List PV}{xs:List V}{fa fb:List Addr},(l.zip m).all (fun z=>Xi n z.1 z.2)=true->Iss K H l xs fa->Iss K H m xs fb->l=m
 | [],m,xs,fa,fb,_,h,h'=>by
  simp only[Iss] at h
  rw[h.1] at h'
  have:=h'.len
  cases m with
  | nil=>rfl
  | cons _ _=>simp at this
 | a::l,m,xs,fa,fb,hc,h,h'=>by
  obtain⟨x,r,f1,f2,rfl,h1,h2,rfl⟩:=h.inv
  cases m with
  | nil=>have:=h'.len;simp at this
  | cons b m=>
   obtain⟨x',r',g1,g2,e,h3,h4,rfl⟩:=h'.inv
   cases e
   obtain⟨c1,c2⟩:=VF hc
   rw[ih a b x f1 g1 c1 h1 h3,Iss.inj' ih c2 h2 h4]
theorem Is.inj'{H:Hp}:∀(n:Nat)(a b:PV)(v:V)(fa fb:List Addr),Xi n a b=true->Is K H a v fa->Is K H b v fb->a=b
 | 0,a,b,v,fa,fb,hc,_,_=>by unfold Xi at hc;simp at hc
 | n+1,a,b,v,fa,fb,hc,ha,hb=>by
  cases a<;>cases b<;>first
   | (exfalso;revert hc;unfold Xi;simp;done)
   | skip
  ·rfl
  ·rw[ha.bl_inv.1] at hb;have:=hb.bl_inv.1;cases this;rfl
  ·rw[ha.int_inv.1] at hb;have:=hb.int_inv.1;cases this;rfl
  ·rw[ha.str_inv.1] at hb;have:=hb.str_inv.1;cases this;rfl
  ·obtain⟨p,xs,rfl,hp,hi⟩:=ha.tup_inv
   obtain⟨p',ys,e,hp',hi'⟩:=hb.tup_inv
   cases e
   rw[hp] at hp';cases hp'
   unfold Xi at hc;rw[Iss.inj' (Is.inj' n) hc hi hi']
  ·obtain⟨p,xs,fq,rfl,hp,hi,_⟩:=ha.lst_inv
   obtain⟨p',ys,fq',e,hp',hi',_⟩:=hb.lst_inv
   cases e
   rw[hp] at hp';cases hp'
   unfold Xi at hc;rw[Iss.inj' (Is.inj' n) hc hi hi']
section
variable {X:Cx} {pins:List (Addr×Obj)} {Z:Ua} {H:Hp} {s:Shared} {A:Around}
theorem Qs{n:Nat}(ih:∀a b x y fa fb u w,Xi n a b=true->Is K H a x fa->Is K H b y fb->RelV x u->RelV y w->∃r,SeqAt.EqAt A s u w r/\(r=true↔a=b)) :
  ∀{l m:List PV}{xs ys:List V}{fa fb:List Addr}{us ws:List Value},(l.zip m).all (fun z=>Xi n z.1 z.2)=true->Iss K H l xs fa->Iss K H m ys fb->Vals xs us->Vals ys ws->
  ∃e:Nat->Bool,(∀j (h1:j<us.length) (h2:j<ws.length),SeqAt.EqAt A s us[j] ws[j] (e j))/\((List.range (min us.length ws.length)).all e=true↔l.take (min us.length ws.length)=m.take (min us.length ws.length))
 | [],m,xs,ys,fa,fb,us,ws,_,h,_,r,_=>by
  simp only[Iss] at h
  obtain⟨rfl,_⟩:=h
  cases r
  exact⟨fun _=>true,fun j h1=>by simp at h1,by simp⟩
 | a::l,[],xs,ys,fa,fb,us,ws,_,_,h,_,r=>by
  simp only[Iss] at h
  obtain⟨rfl,_⟩:=h
  cases r
  exact⟨fun _=>true,fun j h1 h2=>by simp at h2,by simp⟩
 | a::l,b::m,xs,ys,fa,fb,us,ws,hc,h,h',r,r'=>by
  obtain⟨x,xr,f1,f2,rfl,h1,h2,rfl⟩:=h.inv
  obtain⟨y,yr,g1,g2,rfl,h3,h4,rfl⟩:=h'.inv
  obtain⟨c1,c2⟩:=VF hc
  cases r with
  | cons q v=>cases r' with
   | cons q' v'=>
    obtain⟨t,ht,ht'⟩:=ih a b x y f1 g1 _ _ c1 h1 h3 q q'
    obtain⟨e,he,he'⟩:=Qs ih c2 h2 h4 v v'
    refine⟨fun j=>match j with | 0=>t | k+1=>e k,fun j h1 h2=>?_,?_⟩
    ·cases j with
     | zero=>exact ht
     | succ k=>exact he k (by simpa using h1) (by simpa using h2)
    ·simp only[List.length_cons,Nat.succ_min_succ,List.range_succ_eq_map,List.all_cons,List.all_map,Bool.and_eq_true,List.take_succ_cons,List.cons.injEq]
     exact and_congr ht' he'
theorem Iss.same'{l m:List PV}{xs ys:List V}{fa fb:List Addr}{us ws:List Value}(h:Iss K H l xs fa)(h':Iss K H m ys fb)(r:Vals xs us)(r':Vals ys ws) :
  (l.take (min us.length ws.length)=m.take (min us.length ws.length)/\us.length=ws.length)↔l=m:=by
 have e1:=h.len;have e2:=h'.len;have e3:=r.length;have e4:=r'.length;constructor
 ·rintro⟨a,b⟩
  rw[List.take_of_length_le (by omega),List.take_of_length_le (by omega)] at a;exact a
 ·intro a
  subst a
  exact⟨rfl,by omega⟩
def LO(A:Around)(s:Shared)(u w:Value)(r:Bool):Prop:=SeqAt.RcAt A s u w r/\SeqAt.RcNeAt A s u w !r
theorem Th(I:Inv X pins Z H s):∀(n:Nat)(A:Around)(a b:PV)(x y:V)(fa fb:List Addr)(u w:Value),A.units+2*n+2<cLine->Xi n a b=true->Is K H a x fa->Is K H b y fb->RelV x u->RelV y w->
  (∃r,SeqAt.EqAt A s u w r/\(r=true↔a=b))/\∃r,LO A s u w r/\(r=true↔a=b)
 | 0,A,a,b,x,y,fa,fb,u,w,hu,hc,_,_,_,_=>by unfold Xi at hc;simp at hc
 | n+1,A,a,b,x,y,fa,fb,u,w,hu,hc,ha,hb,ru,Uv=>by
  cases a<;>cases b<;>first
   | (exfalso;revert hc;unfold Xi;simp;done)
   | skip
  ·rw[ha.non_inv.1] at ru;rw[hb.non_inv.1] at Uv
   cases ru;cases Uv
   exact⟨⟨true,SeqAt.EqAt.same _,by simp⟩,true,⟨SeqAt.RcAt.none_none,SeqAt.RcNeAt.none_none⟩,by simp⟩
  ·rw[ha.bl_inv.1] at ru;rw[hb.bl_inv.1] at Uv
   cases ru;cases Uv
   exact⟨⟨_,SeqAt.EqAt.bool_bool _ _,by simp⟩,_,⟨SeqAt.RcAt.bool_bool _ _,SeqAt.RcNeAt.bool_bool _ _⟩,by simp⟩
  ·rw[ha.int_inv.1] at ru;rw[hb.int_inv.1] at Uv
   obtain⟨t,rfl⟩:=ru
   obtain⟨t',rfl⟩:=Uv
   exact⟨⟨_,SeqAt.EqAt.int_int _ _ _ _,by simp⟩,_,⟨SeqAt.RcAt.int_int _ _ _ _,SeqAt.RcNeAt.int_int _ _ _ _⟩,by simp⟩
  ·rw[ha.str_inv.1] at ru;rw[hb.str_inv.1] at Uv
   obtain⟨t,rfl⟩:=ru
   obtain⟨t',rfl⟩:=Uv
   exact⟨⟨_,SeqAt.EqAt.str_str _ _ _ _,by simp⟩,_,⟨SeqAt.RcAt.str_str _ _ _ _,SeqAt.RcNeAt.str_str _ _ _ _⟩,by simp⟩
  ·rename_i l1 l2
   obtain⟨p,xs,rfl,hp,hi⟩:=id ha.tup_inv
   obtain⟨p',ys,rfl,hp',hi'⟩:=id hb.tup_inv
   cases ru;cases Uv;have hc':=hc
   unfold Xi at hc'
   obtain⟨us,rv,q,_⟩:=I.tuple (SqT.of hp)
   obtain⟨ws,rv',q',_⟩:=I.tuple (SqT.of hp')
   obtain⟨f,hf,hf'⟩:=Qs (A:=A.in1) (fun a b x y fa fb u w c i1 i2 r1 r2=>(Th I n A.in1 a b x y fa fb u w (by show A.units+1+2*n+2<cLine;omega) c i1 i2 r1 r2).1) hc' hi hi' rv rv'
   have rc:=SeqAt.RcAt.tuples (A:=A) (e:=f) (show s.heap.IsTuple p us.toArray from q) (show s.heap.IsTuple p' ws.toArray from q') (by omega) (fun j h1 h2=>hf j (by simpa using h1) (by simpa using h2))
   have rn:=SeqAt.RcNeAt.tuples (A:=A) (e:=f) (show s.heap.IsTuple p us.toArray from q) (show s.heap.IsTuple p' ws.toArray from q') (by omega) (fun j h1 h2=>hf j (by simpa using h1) (by simpa using h2))
   have key:(((List.range (min us.toArray.size ws.toArray.size)).all f&&us.toArray.size==ws.toArray.size)=true)↔PV.tup l1=PV.tup l2:=by
    simp only[List.size_toArray,Bool.and_eq_true,beq_iff_eq,PV.tup.injEq];rw[hf']
    exact Iss.same' hi hi' rv rv'
   refine⟨?_,_,⟨rc,rn⟩,key⟩
   by_cases e:p=p'
   ·subst e
    exact⟨true,SeqAt.EqAt.same _,by simp[Is.inj' (n+1) _ _ _ _ _ hc ha hb]⟩
   ·exact⟨_,SeqAt.EqAt.of_refs e rc,key⟩
  ·rename_i l1 l2
   obtain⟨p,xs,fq,rfl,hp,hi,_⟩:=id ha.lst_inv
   obtain⟨p',ys,fq',rfl,hp',hi',_⟩:=id hb.lst_inv
   cases ru;cases Uv;have hc':=hc
   unfold Xi at hc'
   obtain⟨us,rv,q,_⟩:=I.list (SqL.of hp)
   obtain⟨ws,rv',q',_⟩:=I.list (SqL.of hp')
   obtain⟨f,hf,hf'⟩:=Qs (A:=A.in1) (fun a b x y fa fb u w c i1 i2 r1 r2=>(Th I n A.in1 a b x y fa fb u w (by show A.units+1+2*n+2<cLine;omega) c i1 i2 r1 r2).1) hc' hi hi' rv rv'
   have fin:∃r,LO A s (.ref p) (.ref p') r/\(r=true↔PV.lst l1=PV.lst l2):=by
    have key:=Iss.same' hi hi' rv rv'
    by_cases hsz:us.length=ws.length
    ·refine⟨_,⟨SeqAt.RcAt.lists (e:=f) q.isList q'.isList (by simpa using hsz) (by omega) (fun j h1 h2=>hf j (by simpa using h1) (by simpa using h2)),SeqAt.RcNeAt.lists (e:=f) q.isList q'.isList (by simpa using hsz) (by omega) (fun j h1 h2=>hf j (by simpa using h1) (by simpa using h2))⟩,?_⟩
     rw[hsz,Nat.min_self] at hf' key
     simp only[List.size_toArray,PV.lst.injEq];rw[hsz,hf',<-key]
     simp
    ·refine⟨false,⟨SeqAt.RcAt.lists_lengths q.isList q'.isList (by simpa using hsz) (by omega),SeqAt.RcNeAt.lists_lengths q.isList q'.isList (by simpa using hsz) (by omega)⟩,?_⟩
     rw[PV.lst.injEq,<-key];simp[hsz]
   obtain⟨r,hr,hk⟩:=fin
   refine⟨?_,r,hr,hk⟩
   by_cases e:p=p'
   ·subst e
    exact⟨true,SeqAt.EqAt.same _,by simp[Is.inj' (n+1) _ _ _ _ _ hc ha hb]⟩
   ·exact⟨r,SeqAt.EqAt.of_refs e hr.1,hk⟩
end
def KP(K:PySem.W.Frag)(neg:Bool):R2:=fun x y H Q=>∃a b fa fb,Is K H a x fa/\Is K H b y fb/\Xi 8 a b=true/\∀r:Bool,(r=true↔a=b)->Q (.bl (if neg then !r else r)) H
section
variable {X:Cx}
theorem Nq(hu:X.A.units+64<cLine):Uf X (compareOp .Eq) (KP X.K false):=by
 intro pins s Z H x y v u Q I rx ry h
 obtain⟨a,b,fa,fb,ha,hb,hc,q⟩:=h
 obtain⟨_,r,hr,hk⟩:=Th I 8 X.A a b x y fa fb v u (by omega) hc ha hb rx ry
 exact hr.1 X.prog X.w X.xe _ ⟨.bl r,H,I,rfl,q r hk⟩
theorem KQ(hu:X.A.units+64<cLine):Uf X (compareOp .NotEq) (KP X.K true):=by
 intro pins s Z H x y v u Q I rx ry h
 obtain⟨a,b,fa,fb,ha,hb,hc,q⟩:=h
 obtain⟨_,r,hr,hk⟩:=Th I 8 X.A a b x y fa fb v u (by omega) hc ha hb rx ry
 exact hr.2 X.prog X.w X.xe _ ⟨.bl !r,H,I,rfl,q r hk⟩
end
noncomputable def Xq(neg:Bool):PV->PV->Option PV:=fun a b=>if Xi 8 a b=true then some (.bl (if neg then !decide (a=b) else decide (a=b))) else none
theorem Qt(neg:Bool):RB K (KP K neg) (Xq neg):=fun H x y a b l fa fb ha hb e Q k=>by
 unfold Xq at e
 split at e
 ·cases e
  refine⟨a,b,fa,fb,ha,hb,by assumption,fun r hr=>?_⟩
  have:r=decide (a=b):=by
   cases r with
   | true=>exact(decide_eq_true (hr.mp rfl)).symm
   | false=>exact(decide_eq_false fun z=>Bool.false_ne_true (hr.mpr z)).symm
  subst this
  exact k _ H [] (Same.refl H) (Is.bl _) fun p hp=>by simp at hp
 ·cases e
def KR(K:PySem.W.Frag)(neg:Bool):R2:=fun x y H Q=>∃a b m fa fb,Is K H a x fa/\Is K H b y fb/\Tg b=some m/\(m.all fun z=>Xi 8 z a)=true/\∀r:Bool,(r=true↔a∈m)->Q (.bl (if neg then !r else r)) H
section
variable {X:Cx} {pins:List (Addr×Obj)} {Z:Ua} {H:Hp} {s:Shared}
theorem UM{a:PV}{x:V}{fa:List Addr}{u:Value}{A:Around}(I:Inv X pins Z H s)(hu:A.units+18<cLine)(ha:Is K H a x fa)(rx:RelV x u):∀{m:List PV}{xs:List V}{fb:List Addr}{us:List Value},(m.all fun z=>Xi 8 z a)=true->Iss K H m xs fb->Vals xs us->
  ∃e:Value->Bool,(∀y∈us,SeqAt.EqAt A s y u (e y))/\(us.any e=true↔a∈m):=fun{m xs fb us} hc h r=>by
 -- each one's answer
 have each:∀y∈us,∃t:Bool,SeqAt.EqAt A s y u t/\(t=true↔∃b,b∈m/\b=a/\∃z f,Is K H b z f/\RelV z y):=fun y hy=>by
  obtain⟨j,hj,e⟩:=List.mem_iff_getElem.mp hy
  have hl:=r.length
  have hxj:xs[j]?=some xs[j]:=List.getElem?_eq_getElem (by omega)
  obtain⟨b,f,hb,ib,_⟩:=h.get' hxj
  obtain⟨w,hw,Uv⟩:=r.get hxj
  rw[List.getElem?_eq_getElem hj] at hw;cases hw;rw[e] at Uv
  have hbm:b∈m:=List.mem_of_getElem? hb
  have cb:=List.all_eq_true.mp hc b hbm
  obtain⟨⟨t,ht,hk⟩,_⟩:=Th I 8 A b a xs[j] x f fa y u (by omega) cb ib ha Uv rx
  refine⟨t,ht,hk.trans ⟨fun z=>⟨b,hbm,z,xs[j],f,ib,Uv⟩,fun⟨b',hb',e',z,f',i',r'⟩=>?_⟩⟩
  have ez:z=xs[j]:=r'.inj Uv
  subst ez;have cb':=List.all_eq_true.mp hc b' hb'
  subst e'
  exact Is.inj' 8 b b' _ _ _ cb ib i'
 classical
 refine⟨fun y=>if hy:y∈us then(each y hy).choose else false,fun y hy=>?_,?_⟩
 ·simp only[dif_pos hy];exact(each y hy).choose_spec.1
 ·rw[List.any_eq_true]
  constructor
  ·rintro⟨y,hy,e⟩
   rw[dif_pos hy] at e
   obtain⟨b,hb,rfl,_⟩:=(each y hy).choose_spec.2.mp e
   exact hb
  ·intro hm
   obtain⟨j,hj,e⟩:=List.mem_iff_getElem.mp hm
   obtain⟨z,f,hz,iz,_⟩:=h.get (List.getElem?_eq_getElem hj)
   obtain⟨y,hy,ry⟩:=r.get hz
   have hyu:y∈us:=List.mem_of_getElem? hy
   refine⟨y,hyu,?_⟩
   rw[dif_pos hyu]
   exact(each y hyu).choose_spec.2.mpr ⟨a,hm,rfl,z,f,e▸iz,ry⟩
end
section
variable {X:Cx}
theorem KS(hu:X.A.units+64<cLine):Uf X (compareOp .In) (KR X.K false):=by
 intro pins s Z H x y v u Q I rx ry h
 obtain⟨a,b,m,fa,fb,ha,hb,hm,hc,q⟩:=h
 obtain⟨p,xs,fq,rfl,hp,hi,_⟩:=WX (K:=X.K) hb hm
 cases ry
 rcases hp with hp | hp
 ·obtain⟨us,rv,t,_⟩:=I.list hp
  obtain⟨e,he,hk⟩:=UM (A:=X.A.in1) I (by show X.A.units+1+18<cLine;omega) ha rx hc hi rv
  refine SeqAt.in_listAt e t.isList (fun w hw=>he w (by simpa using hw)) ⟨.bl _,H,I,rfl,?_⟩
  rw[show us.toArray.any e=us.any e by simp]
  exact q _ hk
 ·obtain⟨us,rv,t,_⟩:=I.tuple hp
  obtain⟨e,he,hk⟩:=UM (A:=X.A.in1) I (by show X.A.units+1+18<cLine;omega) ha rx hc hi rv
  refine SeqAt.in_tupleAt e t (fun w hw=>he w (by simpa using hw)) ⟨.bl _,H,I,rfl,?_⟩
  rw[show us.toArray.any e=us.any e by simp]
  exact q _ hk
theorem Oo(hu:X.A.units+64<cLine):Uf X (compareOp .NotIn) (KR X.K true):=by
 intro pins s Z H x y v u Q I rx ry h
 obtain⟨a,b,m,fa,fb,ha,hb,hm,hc,q⟩:=h
 obtain⟨p,xs,fq,rfl,hp,hi,_⟩:=WX (K:=X.K) hb hm
 cases ry
 rcases hp with hp | hp
 ·obtain⟨us,rv,t,_⟩:=I.list hp
  obtain⟨e,he,hk⟩:=UM (A:=X.A.in1) I (by show X.A.units+1+18<cLine;omega) ha rx hc hi rv
  refine SeqAt.notIn_listAt e t.isList (fun w hw=>he w (by simpa using hw)) ⟨.bl _,H,I,rfl,?_⟩
  rw[show us.toArray.any e=us.any e by simp]
  exact q _ hk
 ·obtain⟨us,rv,t,_⟩:=I.tuple hp
  obtain⟨e,he,hk⟩:=UM (A:=X.A.in1) I (by show X.A.units+1+18<cLine;omega) ha rx hc hi rv
  refine SeqAt.notIn_tupleAt e t (fun w hw=>he w (by simpa using hw)) ⟨.bl _,H,I,rfl,?_⟩
  rw[show us.toArray.any e=us.any e by simp]
  exact q _ hk
end
noncomputable def RD(neg:Bool):PV->PV->Option PV:=fun a b=>(Tg b).bind fun m=>if(m.all fun z=>Xi 8 z a)=true then some (.bl (if neg then !decide (a∈m) else decide (a∈m))) else none
theorem Nr(neg:Bool):RB K (KR K neg) (RD neg):=fun H x y a b l fa fb ha hb e Q k=>by
 obtain⟨m,hm,e⟩:=Zd e
 split at e
 ·cases e
  refine⟨a,b,m,fa,fb,ha,hb,hm,by assumption,fun r hr=>?_⟩
  have:r=decide (a∈m):=by
   cases r with
   | true=>exact(decide_eq_true (hr.mp rfl)).symm
   | false=>exact(decide_eq_false fun z=>Bool.false_ne_true (hr.mpr z)).symm
  subst this
  exact k _ H [] (Same.refl H) (Is.bl _) fun p hp=>by simp at hp
 ·cases e
end VL
namespace VL
open PySem PySem.Spec PyProof.Rows L2
variable {K:PySem.W.Frag}
mutual
theorem Is.dom{H:Hp}:∀(l:PV)(v:V)(fp:List Addr),Is K H l v fp->∀p∈fp,H p≠none
 | .non,_,_,h=>by simp only[Is] at h;rw[h.2];simp
 | .bl _,_,_,h=>by simp only[Is] at h;rw[h.2];simp
 | .int _,_,_,h=>by simp only[Is] at h;rw[h.2];simp
 | .str _,_,_,h=>by simp only[Is] at h;rw[h.2];simp
 | .ty _,_,_,h=>by simp only[Is] at h;rw[h.2];simp
 | .exc _,_,_,h=>by simp only[Is] at h;rw[h.2];simp
 | .tup l,v,fp,h=>by
  obtain⟨p,xs,_,_,hi⟩:=h.tup_inv
  exact Iss.dom l xs fp hi
 | .lst l,v,fp,h=>by
  obtain⟨p,xs,fq,_,hp,hi,rfl⟩:=h.lst_inv
  intro q hq
  rcases List.mem_cons.mp hq with rfl | hq
  ·rw[hp];simp
  ·exact Iss.dom l xs fq hi q hq
 | .cst l,v,fp,h=>by
  obtain⟨p,xs,_,_,hi⟩:=h.cst_inv
  exact Iss.dom l xs fp hi
 | .dK ks l,v,fp,h=>by
  obtain⟨p,kvs,fq,_,hp,_,hi,rfl⟩:=h.dK_inv
  intro q hq
  rcases List.mem_cons.mp hq with rfl | hq
  ·rcases hp with e | ⟨o,e⟩<;>rw[e]<;>simp
  ·exact Iss.dom l _ fq hi q hq
 | .dT ks l,v,fp,h=>by
  obtain⟨p,kvs,fq,_,hp,_,hi,rfl⟩:=h.dT_inv
  intro q hq
  rcases List.mem_cons.mp hq with rfl | hq
  ·rcases hp with e | ⟨o,e⟩<;>rw[e]<;>simp
  ·exact Iss.dom l _ fq hi q hq
theorem Iss.dom{H:Hp}:∀(l:List PV)(xs:List V)(fp:List Addr),Iss K H l xs fp->∀p∈fp,H p≠none
 | [],_,_,h=>by simp only[Iss] at h;rw[h.2];simp
 | l::ls,xs,fp,h=>by
  obtain⟨x,r,f1,f2,_,h1,h2,rfl⟩:=h.inv
  intro q hq
  rcases List.mem_append.mp hq with hq | hq
  ·exact Is.dom l x f1 h1 q hq
  ·exact Iss.dom ls r f2 h2 q hq
end
def Ab(Rm:Addr->Prop)(H H':Hp):Prop:=∀b o,H b=some o->¬Rm b->H' b=some o
theorem Same.ab{Rm:Addr->Prop}{H H':Hp}(s:Same H H'):Ab Rm H H':=fun b o h _=>s b o h
theorem Ab.tk{Rm:Addr->Prop}{H H':Hp}(a:Ab Rm H H')(hd:∀p,Rm p->X9 (H p)):TK2 H H':=⟨fun b xs h=>a b _ h fun z=>by
 have:=hd b z
 rw[h] at this;exact this,fun b o xs h=>a b _ h fun z=>by
 have:=hd b z
 rw[h] at this;exact this,fun b o x h=>a b _ h fun z=>by
 have:=hd b z
 rw[h] at this;exact this⟩
theorem Is.ab{Rm:Addr->Prop}{H H':Hp}(a:Ab Rm H H')(hd:∀p,Rm p->X9 (H p)){l:PV}{v:V}{fp:List Addr}(n:∀p∈fp,¬Rm p)(h:Is K H l v fp):Is K H' l v fp:=
 Is.tr (a.tk hd) l v fp (fun p hp=>RdK.of fun o q=>a p o q (n p hp)) h
structure II(K:PySem.W.Frag)(Rm:Addr->Prop)(H1:Hp)(J:It)(ls:List PV):Prop where
 stop:∀H',Ab Rm H1 H'->J.stop ls.length H'
 go:∀H' (i:Nat) l,Ab Rm H1 H'->ls[i]?=some l->J.go i H'
 yld:∀H' (i:Nat) l x H'',Ab Rm H1 H'->ls[i]?=some l->J.yld i H' x H''->Same H' H''/\∃fp,Is K H'' l x fp/\∀p∈fp,H1 p≠none/\¬Rm p
abbrev XL:=ZD->Option (List PV)
def iF(K:PySem.W.Frag)(f:XL):TI:=fun Z H R=>∃(Rm:Addr->Prop) (s:ZD) (ls:List PV),(∀p,Rm p->X9 (H p))/\EnvIs K Rm H s Z/\f s=some ls/\∀J H1,Same H H1->II K Rm H1 J ls->R J H1
def VI(X:Cx)(tg e:Expr)(f:XL):Prop:=PI X tg e (iF X.K f)
section
variable {X:Cx} {tg e:Expr} {es:List Expr}
theorem PI.imp{t t':TI}(h:PI X tg e t)(i:∀Z H R,t' Z H R->t Z H R):PI X tg e t':=fun pins s Z H R I q=>h pins s Z H R I (i Z H R q)
def Js:PV->Option (List PV)
 | .lst m=>some m
 | .cst m=>some m
 | _=>none
def VG(f:XE):XL:=fun s=>(f s).bind Js
def Qu(f:XE):XL:=fun s=>match f s with | some (.tup m)=>some m | _=>none
theorem Nt{a:PV}{m:List PV}(h:Js a=some m):a = .lst m\/a = .cst m:=by
 unfold Js at h;split at h
 ·cases h;exact .inl rfl
 ·cases h;exact .inr rfl
 ·cases h
theorem Op{f:XE}{s:ZD}{m:List PV}(h:Qu f s=some m):f s=some (.tup m):=by
 unfold Qu at h;split at h
 ·cases h;assumption
 ·cases h
theorem UN{f:XE}(h:VE X e f):VI X tg e (VG f):=PI.imp (Ms h) fun Z H R ⟨Rm,s,ls,hd,env,e,k⟩=>by
 obtain⟨l,e1,e2⟩:=Zd e
 refine⟨Rm,s,l,hd,env,e1,fun v H1 fp s1 i1 n1=>?_⟩
 have hd1:∀p,Rm p->X9 (H1 p):=fun p hp=>Same.mut s1 (hd p hp)
 have main:∀a xs fq,v = .ref a->SqL X.K H1 a xs->(∀H',Ab Rm H1 H'->SqL X.K H' a xs)->Iss X.K H1 ls xs fq->(∀p∈fq,p∈fp)->∃a,v = .ref a/\(∃xs,SqL X.K H1 a xs)/\R (IV X.K a) H1:=by
  rintro a xs fq rfl ha keep hi sub
  refine⟨a,rfl,⟨xs,ha⟩,k _ H1 s1 ⟨fun H' ab=>⟨xs,keep H' ab,by rw[hi.len];exact Nat.le_refl _⟩,fun H' i l ab hl=>?_,fun H' i l x H'' ab hl y=>?_⟩⟩
  ·obtain⟨x,f1,hx,_,_⟩:=hi.get hl
   exact⟨xs,x,keep H' ab,hx⟩
  ·obtain⟨rfl,y⟩:=y
   obtain⟨x',f1,hx,ix,sub'⟩:=hi.get hl
   have:=y xs (keep _ ab)
   rw[hx] at this;cases this
   have n1':∀p∈f1,¬Rm p:=fun p hp=>n1 p (sub p (sub' p hp))
   exact⟨Same.refl _,f1,ix.ab ab hd1 n1',fun p hp=>⟨Is.dom _ _ _ ix p hp,n1' p hp⟩⟩
 rcases Nt e2 with rfl | rfl
 ·obtain⟨a,xs,fq,rfl,ha,hi,rfl⟩:=i1.lst_inv
  exact main a xs fq rfl (SqL.of ha) (fun H' ab=>SqL.of (ab a _ ha (n1 a List.mem_cons_self))) hi fun p hp=>List.mem_cons_of_mem _ hp
 ·obtain⟨a,xs,rfl,ha,hi⟩:=i1.cst_inv
  exact main a xs fp rfl ha.sq (fun H' ab=>(ha.tr (ab.tk hd1)).sq) hi fun p hp=>hp
theorem KU{f:XE}(h:VE X e f):VI X tg e (Qu f):=PI.imp (Kf h) fun Z H R ⟨Rm,s,ls,hd,env,e,k⟩=>by
 refine⟨Rm,s,.tup ls,hd,env,Op e,fun v H1 fp s1 i1 n1=>?_⟩
 obtain⟨a,xs,rfl,ha,hi⟩:=i1.tup_inv
 have hd1:∀p,Rm p->X9 (H1 p):=fun p hp=>Same.mut s1 (hd p hp)
 have keep:∀H',Ab Rm H1 H'->SqT X.K H' a xs:=fun H' ab=>SqT.of ((ab.tk hd1).tup a xs ha)
 refine⟨a,rfl,⟨xs,SqT.of ha⟩,k _ H1 s1 ⟨fun H' ab=>⟨xs,keep H' ab,by rw[hi.len];exact Nat.le_refl _⟩,fun H' i l ab hl=>?_,fun H' i l x H'' ab hl y=>?_⟩⟩
 ·obtain⟨x,f1,hx,_,_⟩:=hi.get hl
  exact⟨xs,x,keep H' ab,hx⟩
 ·obtain⟨rfl,y⟩:=y
  obtain⟨x',f1,hx,ix,sub⟩:=hi.get hl
  have:=y xs (keep _ ab)
  rw[hx] at this;cases this
  have n1':∀p∈f1,¬Rm p:=fun p hp=>n1 p (sub p hp)
  exact⟨Same.refl _,f1,ix.ab ab hd1 n1',fun p hp=>⟨Is.dom _ _ _ ix p hp,n1' p hp⟩⟩
def Xr(n:Nat):List PV:=(List.range n).map fun(i:Nat)=>PV.int (i:Int)
def Xs(lo:Int)(n:Nat):List PV:=(List.range n).map fun(i:Nat)=>PV.int (lo+(i:Int))
def ZI(fs:List XE):XL:=fun s=>match Ub fs s with | some [.int j]=>if -1000000<=j/\j<=1000000 then some (Xr j.toNat) else none | _=>none
def Yu(fs:List XE):XL:=fun s=>match Ub fs s with | some [.int i,.int j]=>if -1000000<=i/\i<=1000000/\-1000000<=j/\j<=1000000 then some (Xs i (j-i).toNat) else none | _=>none
theorem Pu{Rm:Addr->Prop}{H1:Hp}(lo:Int)(n:Nat):II K Rm H1 (JJ lo n) (Xs lo n):=by
 refine⟨fun H' _=>by unfold Xs;rw[List.length_map,List.length_range];exact Nat.le_refl n,fun H' i l _ hl=>?_,fun H' i l x H'' _ hl y=>?_⟩
 ·have:=(List.getElem?_eq_some_iff.mp hl).1
  unfold Xs at this;rw[List.length_map,List.length_range] at this;exact this
 ·obtain⟨rfl,rfl⟩:=y
  have hi:=(List.getElem?_eq_some_iff.mp hl).1
  unfold Xs at hi hl;rw[List.length_map,List.length_range] at hi;rw[List.getElem?_map,List.getElem?_range hi] at hl;cases hl
  exact⟨Same.refl _,[],Is.int _,fun p hp=>by simp at hp⟩
theorem M3(n:Nat):Xr n=Xs 0 n:=by
 unfold Xr Xs
 apply List.map_congr_left
 intro i _;rw[Int.zero_add]
theorem ZZ{a:Expr}{fs:List XE}{p pos:Pos}(hg:Gl X "range")(hm:X.mg "range" = none)(ha:VA X [a] fs)(hs:starEach [a] X.env=[(false,eval a X.env)]:=by rfl):VI X tg (.Call (.Name "range" p) [a] [] pos) (ZI fs):=
 PI.imp (P0 hg hm ha hs) fun Z H R ⟨Rm,s,ls,hd,env,e,k⟩=>by
 unfold ZI at e
 split at e
 ·split at e
  ·cases e
   rename_i j he hb
   refine⟨Rm,s,_,hd,env,he,fun vs H1 fp s1 i1 _=>?_⟩
   obtain⟨v,rfl,i⟩:=i1.one_inv
   refine⟨j,by rw[i.int_inv.1],by omega,by omega,k _ H1 s1 ?_⟩
   rw[M3];exact Pu _ _
  ·cases e
 ·cases e
theorem WY{a b:Expr}{fs:List XE}{p pos:Pos}(hg:Gl X "range")(hm:X.mg "range" = none)(ha:VA X [a,b] fs)(hs:starEach [a,b] X.env=[(false,eval a X.env),(false,eval b X.env)]:=by rfl)(hs2:starEach [b] X.env=[(false,eval b X.env)]:=by rfl):VI X tg (.Call (.Name "range" p) [a,b] [] pos) (Yu fs):=
 PI.imp (P1 hg hm ha hs hs2) fun Z H R ⟨Rm,s,ls,hd,env,e,k⟩=>by
 unfold Yu at e
 split at e
 ·split at e
  ·cases e
   rename_i i j he hb
   refine⟨Rm,s,_,hd,env,he,fun vs H1 fp s1 i1 _=>?_⟩
   obtain⟨v,w,f1,f2,rfl,iv,iw,_⟩:=i1.two_inv
   exact⟨i,j,by rw[iv.int_inv.1,iw.int_inv.1],⟨by omega,by omega,by omega,by omega⟩,k _ H1 s1 (Pu _ _)⟩
  ·cases e
 ·cases e
def Wx(m:List PV):List PV:=m.zipIdx.map fun z=>.tup [.int (z.2:Nat),z.1]
theorem Sd{m:List PV}{i:Nat}{l:PV}(h:(Wx m)[i]?=some l):∃a,m[i]?=some a/\l = .tup [.int (i:Nat),a]:=by
 unfold Wx at h;rw[List.getElem?_map,List.getElem?_zipIdx] at h
 cases q:m[i]? with
 | none=>rw[q] at h;cases h
 | some a=>rw[q] at h;cases h;exact⟨a,rfl,by simp⟩
theorem WZ(m:List PV):(Wx m).length=m.length:=by unfold Wx;rw[List.length_map,List.length_zipIdx]
def seqB:Bool->PV->Option (List PV)
 | true,.lst l=>some l
 | true,.cst l=>some l
 | false,.tup l=>some l
 | _,_=>none
theorem M4{H:Hp}{b:Bool}{l:PV}{v:V}{fp:List Addr}{m:List PV}(h:Is K H l v fp)(e:seqB b l=some m):∃p xs fq,v = .ref p/\Iss K H m xs fq/\(∀q∈fq,q∈fp)/\∀(Rm:Addr->Prop) H',Ab Rm H H'->(∀p,Rm p->X9 (H p))->(∀p∈fp,¬Rm p)->Oi b K H' p xs:=by
 cases b with
 | true=>cases l with
  | lst l=>
   cases e
   obtain⟨p,xs,fq,rfl,hp,hi,rfl⟩:=h.lst_inv
   exact⟨p,xs,fq,rfl,hi,fun q hq=>List.mem_cons_of_mem _ hq,fun Rm H' ab _ n=>SqL.of (ab p _ hp (n p List.mem_cons_self))⟩
  | cst l=>
   cases e
   obtain⟨p,xs,rfl,hp,hi⟩:=h.cst_inv
   exact⟨p,xs,fp,rfl,hi,fun q hq=>hq,fun Rm H' ab hd _=>(hp.tr (ab.tk hd)).sq⟩
  | _=>cases e
 | false=>cases l with
  | tup l=>
   cases e
   obtain⟨p,xs,rfl,hp,hi⟩:=h.tup_inv
   exact⟨p,xs,fp,rfl,hi,fun q hq=>hq,fun Rm H' ab hd _=>SqT.of ((ab.tk hd).tup p xs hp)⟩
  | _=>cases e
def RE(b:Bool)(fs:List XE):XL:=fun s=>match Ub fs s with | some [l]=>(seqB b l).map Wx | _=>none
theorem M5{elts:List Expr}{k:Nat}{tpos:Pos}(b:Bool){a:Expr}{fs:List XE}{p pos:Pos}(hg:Gl X "enumerate")(hm:X.mg "enumerate" = none)(ha:VA X [a] fs)(hs:starEach [a] X.env=[(false,eval a X.env)]:=by rfl) :
  VI X (.Tuple elts k tpos) (.Call (.Name "enumerate" p) [a] [] pos) (RE b fs):=PI.imp (MN b hg hm ha hs) fun Z H R ⟨Rm,s,ls,hd,env,e,k⟩=>by
 unfold RE at e
 split at e
 ·rename_i l he
  obtain⟨m,e1,rfl⟩:=map_some e
  refine⟨Rm,s,_,hd,env,he,fun vs H1 fp s1 i1 n1=>?_⟩
  obtain⟨v,rfl,i⟩:=i1.one_inv
  have hd1:∀p,Rm p->X9 (H1 p):=fun p hp=>Same.mut s1 (hd p hp)
  obtain⟨a,xs,fq,rfl,hi,sub,keep⟩:=M4 (K:=X.K) i e1
  have kp:=fun H' ab=>keep Rm H' ab hd1 n1
  refine⟨a,rfl,⟨xs,kp H1 (Same.ab (Same.refl H1))⟩,k _ H1 s1 ⟨fun H' ab=>⟨xs,kp H' ab,by rw[WZ,hi.len]⟩,fun H' i l ab hl=>?_,fun H' i l x H'' ab hl y=>?_⟩⟩
  ·obtain⟨c,hc,rfl⟩:=Sd hl
   obtain⟨x,f1,hx,_,_⟩:=hi.get hc
   exact⟨xs,x,kp H' ab,hx⟩
  ·obtain⟨c,hc,rfl⟩:=Sd hl
   obtain⟨x',f1,hx,ix,sb⟩:=hi.get hc
   obtain⟨q,z,hq,rfl,rfl,y⟩:=y
   have:=y xs (kp _ ab)
   rw[hx] at this;cases this
   have n1':∀p∈f1,¬Rm p:=fun p hp=>n1 p (sub p (sb p hp))
   refine⟨Same.new hq _,f1,Is.tup upd_same ?_,fun p hp=>⟨Is.dom _ _ _ ix p hp,n1' p hp⟩⟩
   exact Iss.cons (f1:=[]) (Is.int _) (Iss.one ((ix.ab ab hd1 n1').mono (Same.new hq _)))
 ·cases e
end
inductive Tgt where
 | one (i:Nat) | many (is:List Nat)
def Tgt.slots:Tgt->List Nat
 | .one i=>[i]
 | .many is=>is
def setAll:List Nat->List PV->ZD->ZD
 | i::is,l::ls,s=>setAll is ls (s.set i (some l))
 | _,_,s=>s
def Yk:List Nat->List V->Ua->Ua
 | i::is,l::ls,s=>Yk is ls (s.set i (some l))
 | _,_,s=>s
def WG:Tgt->PV->ZD->Option ZD
 | .one i,l,s=>some (s.set i (some l))
 | .many is,.tup ls,s=>if ls.length=is.length then some (setAll is ls s) else none
 | _,_,_=>none
def Qv:List Nat->LD
 | []=>JG
 | i::is=>LE (Uw i) (Qv is)
def gT(K:PySem.W.Frag):Tgt->TG
 | .one i=>Uw i
 | .many is=>JH K is.length (Qv is)
theorem Ti:∀{is:List Nat}{vs:List V}{Z:Ua}{H:Hp}{Q:Ua->Hp->Prop},vs.length=is.length->Q (Yk is vs Z) H->Qv is vs Z H Q
 | [],[],_,_,_,_,q=>⟨rfl,q⟩
 | [],_::_,_,_,_,h,_=>by simp at h
 | _::_,[],_,_,_,h,_=>by simp at h
 | i::is,v::vs,Z,H,Q,h,q=>⟨v,vs,rfl,Ti (is:=is) (vs:=vs) (by simpa using h) q⟩
theorem Qw{T:Tgt}{l:PV}{v:V}{fp:List Addr}{s s':ZD}{H:Hp}(h:Is K H l v fp)(e:WG T l s=some s') :
  ∃ls vs fs,s'=setAll T.slots ls s/\Iss K H ls vs fs/\ls.length=T.slots.length/\(∀p∈fs,p∈fp)/\∀Z (Q:Ua->Hp->Prop),Q (Yk T.slots vs Z) H->gT K T v Z H Q:=by
 cases T with
 | one i=>
  cases e
  exact⟨[l],[v],fp,rfl,Iss.one h,rfl,fun p hp=>hp,fun Z Q q=>q⟩
 | many is=>
  cases l with
  | tup ls=>
   have e:(if ls.length=is.length then some (VL.setAll is ls s) else none)=some s':=e
   split at e
   ·cases e
    obtain⟨p,xs,rfl,hp,hi⟩:=h.tup_inv
    exact⟨ls,xs,fp,rfl,hi,by assumption,fun p hp=>hp,fun Z Q q=>⟨p,xs,rfl,SqT.of hp,by rw[hi.len];assumption,Ti (by rw[hi.len];assumption) q⟩⟩
   ·cases e
  | _=>cases e
theorem Wr:∀{is:List Nat}{vs:List V}{Z:Ua}{n:Nat},(∀i∈is,i<n)->(Yk is vs Z).drop n=Z.drop n
 | [],_,_,_,_=>rfl
 | _::_,[],_,_,_=>rfl
 | i::is,v::vs,Z,n,h=>by
  show(Yk is vs (Z.set i (some v))).drop n=_
  rw[Wr (fun j hj=>h j (List.mem_cons_of_mem _ hj))]
  have:=h i List.mem_cons_self
  rw[List.drop_set,if_pos this]
theorem EnvIs.set{Rm:Addr->Prop}{H:Hp}{s:ZD}{Z:Ua}{i:Nat}{l:PV}{v:V}{fp:List Addr}(h:EnvIs K Rm H s Z)(hl:s.length=Z.length)(hi:Is K H l v fp)(n:∀p∈fp,¬Rm p):EnvIs K Rm H (s.set i (some l)) (Z.set i (some v)):=⟨fun j a e=>by
 rw[List.getElem?_set] at e
 by_cases hj:i=j
 ·subst hj
  rw[if_pos rfl] at e
  split at e
  ·cases e
   exact⟨v,fp,by rw[List.getElem?_set,if_pos rfl,if_pos (by omega)],hi,n⟩
  ·cases e
 ·rw[if_neg hj] at e
  obtain⟨w,f,h1,h2,h3⟩:=h.is j a e
  exact⟨w,f,by rw[List.getElem?_set,if_neg hj];exact h1,h2,h3⟩⟩
theorem EnvIs.setAll{Rm:Addr->Prop}{H:Hp}:∀{is:List Nat}{ls:List PV}{vs:List V}{fs:List Addr}{s:ZD}{Z:Ua},EnvIs K Rm H s Z->s.length=Z.length->Iss K H ls vs fs->(∀p∈fs,¬Rm p)->EnvIs K Rm H (VL.setAll is ls s) (Yk is vs Z)
 | [],_,_,_,_,_,h,_,_,_=>by unfold VL.setAll Yk;exact h
 | i::is,[],vs,fs,s,Z,h,_,hi,_=>by
  simp only[Iss] at hi;rw[hi.1];exact h
 | i::is,l::ls,vs,fs,s,Z,h,hl,hi,n=>by
  obtain⟨x,r,f1,f2,rfl,h1,h2,rfl⟩:=hi.inv
  show EnvIs K Rm H (VL.setAll is ls (s.set i (some l))) (Yk is r (Z.set i (some x)))
  exact EnvIs.setAll (h.set hl h1 fun p hp=>n p (List.mem_append_left _ hp)) (by rw[List.length_set,List.length_set];exact hl) h2 fun p hp=>n p (List.mem_append_right _ hp)
def ZM(n:Nat)(ix:List Nat)(s:ZD):ZD:=List.replicate n none++ix.map (fun i=>(s[i]?).join)
def Wc(T:Tgt)(ft:XT)(fe:XE)(s0:ZD):List PV->Option (List PV)
 | []=>some []
 | l::r=>(WG T l s0).bind fun s1=>(ft s1).bind fun c=>if c=true then(fe s1).bind fun y=>(Wc T ft fe s0 r).map (y::·) else Wc T ft fe s0 r
def ZG(n:Nat)(ix:List Nat)(fi:XL)(T:Tgt)(ft:XT)(fe:XE):XE:=fun s=>(fi s).bind fun ls=>if ls.length<=10000 then(Wc T ft fe (ZM n ix s) ls).map .lst else none
def ZQ:XT:=fun _=>some true
theorem join_some{α:Type}{o:Option (Option α)}{a:α}(h:o.join=some a):o=some (some a):=by
 cases o with
 | none=>cases h
 | some b=>cases b with
  | none=>cases h
  | some c=>cases h;rfl
theorem EnvIs.comp{Rm:Addr->Prop}{H:Hp}{s:ZD}{Z:Ua}{n:Nat}{ix:List Nat}(h:EnvIs K Rm H s Z):EnvIs K Rm H (ZM n ix s) (ZS n ix Z):=⟨fun i l e=>by
 unfold ZM at e;unfold ZS
 by_cases hi:i<n
 ·rw[List.getElem?_append_left (by simpa using hi),List.getElem?_replicate,if_pos hi] at e
  cases e
 ·rw[List.getElem?_append_right (by simpa using hi),List.length_replicate,List.getElem?_map] at e
  rw[List.getElem?_append_right (by simpa using hi),List.length_replicate,List.getElem?_map]
  cases q:ix[i-n]? with
  | none=>rw[q] at e;cases e
  | some j=>
   rw[q] at e
   have e:=join_some (Option.some.inj e)
   obtain⟨v,fp,a,b,c⟩:=h.is j l e
   exact⟨v,fp,by show some ((Z[j]?).join)=_;rw[a];rfl,b,c⟩⟩
theorem RF(n:Nat)(ix:List Nat)(s:ZD)(Z:Ua):(ZM n ix s).length=(ZS n ix Z).length:=by unfold ZM ZS;simp
theorem Tj{T:Tgt}{ft:XT}{fe:XE}{s0:ZD}{l:PV}{r ys:List PV}(h:Wc T ft fe s0 (l::r)=some ys):∃s1 c,WG T l s0=some s1/\ft s1=some c/\((c=true/\∃y zs,fe s1=some y/\Wc T ft fe s0 r=some zs/\ys=y::zs)\/(c=false/\Wc T ft fe s0 r=some ys)):=by
 unfold Wc at h
 obtain⟨s1,e1,h⟩:=Zd h
 obtain⟨c,e2,h⟩:=Zd h
 refine⟨s1,c,e1,e2,?_⟩
 cases c with
 | true=>
  rw[if_pos rfl] at h
  obtain⟨y,e3,h⟩:=Zd h
  obtain⟨zs,e4,rfl⟩:=map_some h
  exact .inl ⟨rfl,y,zs,e3,e4,rfl⟩
 | false=>
  rw[if_neg Bool.false_ne_true] at h
  exact .inr ⟨rfl,h⟩
theorem Tk{α:Type}{l:List α}{i:Nat}{a:α}{r:List α}(h:l.drop i=a::r):l[i]?=some a/\l.drop (i+1)=r:=by
 constructor
 ·have:=congrArg (fun z=>z[0]?) h
  simpa [List.getElem?_drop] using this
 ·rw[<-List.drop_drop,h];rfl
section
variable {n:Nat} {ix:List Nat} {fi:XL} {T:Tgt} {ft:XT} {fe:XE}
theorem M6(hT:∀i∈T.slots,i<n):∀Z H Q,tF K (ZG n ix fi T ft fe) Z H Q->T6 n ix (iF K fi) (gT K T) (Qc K ft) (tF K fe) Z H Q:=fun Z H Q ⟨Rm,s,L,hd,env,e,k⟩=>by
 obtain⟨ls,e1,e⟩:=Zd e
 split at e
 case isFalse=>cases e
 rename_i hlen
 obtain⟨ys,e2,rfl⟩:=map_some e
 refine⟨Rm,s,ls,hd,env,e1,fun J H1 s1 jis=>?_⟩
 have hd1:∀p,Rm p->X9 (H1 p):=fun p hp=>Same.mut s1 (hd p hp)
 refine⟨fun i m vs Hc=>m=ls.length-i/\i<=ls.length/\Same H1 Hc/\∃dn Zk fp,ys=dn++Zk/\dn.length<=i/\Wc T ft fe (ZM n ix s) (ls.drop i)=some Zk/\Iss K Hc dn vs fp/\∀p∈fp,¬Rm p,
  ⟨ls.length,by simp,Nat.zero_le _,Same.refl H1,[],ys,[],rfl,Nat.le_refl _,e2,Iss.nil,fun p hp=>by simp at hp⟩,?_⟩
 rintro i m vs Hc ⟨rfl,hi,sc,dn,Zk,fp,rfl,hdl,ec,iv,nv⟩
 refine⟨by rw[iv.len];exact Nat.le_of_lt (lt_size (by omega)),?_⟩
 cases q:ls.drop i with
 | nil=>
  have hil:i=ls.length:=by
   have:=congrArg List.length q
   rw[List.length_drop] at this
   simp at this;omega
  subst hil;rw[q] at ec;cases ec
  refine .inl ⟨jis.stop Hc (Same.ab sc),fun p hp=>k _ _ (p::fp) (s1.trans (sc.trans (Same.new hp _))) ?_ fun a ha z=>?_⟩
  ·rw[List.append_nil]
   exact Is.lst upd_same (iv.mono (Same.new hp _))
  ·rcases List.mem_cons.mp ha with rfl | ha
   ·exact Yj (Same.mut (s1.trans sc) (hd a z)) hp
   ·exact nv a ha z
 | cons l r=>
  obtain⟨hl,hr⟩:=Tk q
  have hilt:i<ls.length:=(List.getElem?_eq_some_iff.mp hl).1
  rw[q] at ec
  obtain⟨sb,c,eb,et,alt⟩:=Tj ec
  refine .inr ⟨jis.go Hc i l (Same.ab sc) hl,fun vs' H'=>Same H1 H'/\∃dn' rest' fp',dn++Zk=dn'++rest'/\dn'.length<=i+1/\Wc T ft fe (ZM n ix s) (ls.drop (i+1))=some rest'/\Iss K H' dn' vs' fp'/\∀p∈fp',¬Rm p,
   fun vs' H' h'=>⟨ls.length-(i+1),by omega,rfl,hilt,h'.1,h'.2⟩,fun x H2 y=>?_⟩
  obtain⟨s2,fx,ix',nx⟩:=jis.yld Hc i l x H2 (Same.ab sc) hl y
  have hd2:∀p,Rm p->X9 (H2 p):=fun p hp=>Same.mut (sc.trans s2) (hd1 p hp)
  obtain⟨bl,bv,bf,rfl,bi,_,bsub,buse⟩:=Qw (K:=K) ix' eb
  have env2:EnvIs K Rm H2 (ZM n ix s) (ZS n ix Z):=(env.mono (s1.trans (sc.trans s2))).comp
  have env3:=env2.setAll (is:=T.slots) (RF n ix s Z) bi fun p hp=>(nx p (bsub p hp)).2
  refine buse _ _ ⟨Wr hT,Rm,_,c,hd2,env3,et,fun H3 s3=>?_⟩
  have hd3:∀p,Rm p->X9 (H3 p):=fun p hp=>Same.mut s3 (hd2 p hp)
  rcases alt with⟨rfl,y',zs,ey,ez,rfl⟩ | ⟨rfl,ez⟩
  ·refine J3 ?_
   refine⟨Rm,_,y',hd3,env3.mono s3,ey,fun v H4 f4 s4 i4 n4=>?_⟩
   refine⟨sc.trans (s2.trans (s3.trans s4)),dn++[y'],zs,fp++f4,by rw[List.append_assoc];rfl,by rw[List.length_append];simp;exact hdl,by rw[hr];exact ez,(iv.mono (s2.trans (s3.trans s4))).append (Iss.one i4),fun p hp=>?_⟩
   rcases List.mem_append.mp hp with h | h
   ·exact nv p h
   ·exact n4 p h
  ·refine J2 ?_
   exact⟨sc.trans (s2.trans s3),dn,Zk,fp,rfl,Nat.le_succ_of_le hdl,by rw[hr];exact ez,iv.mono (s2.trans s3),nv⟩
theorem Pv(hT:∀i∈T.slots,i<n):∀Z H Q,tM K (ZG n ix fi T ft fe) Z H Q->T6 n ix (iF K fi) (gT K T) (Qc K ft) (tM K fe) Z H Q:=fun Z H Q ⟨s,L,env,e,k⟩=>by
 obtain⟨ls,e1,e⟩:=Zd e
 split at e
 case isFalse=>cases e
 rename_i hlen
 obtain⟨ys,e2,rfl⟩:=map_some e
 have hd:∀(H:Hp) p,(fun _=>False:Addr->Prop) p->X9 (H p):=fun _ _ z=>z.elim
 refine⟨fun _=>False,s,ls,hd H,env,e1,fun J H1 s1 jis=>?_⟩
 refine⟨fun i m vs Hc=>m=ls.length-i/\i<=ls.length/\Same H1 Hc/\∃dn Zk fp,ys=dn++Zk/\dn.length<=i/\Wc T ft fe (ZM n ix s) (ls.drop i)=some Zk/\Iss K Hc dn vs fp/\fp.Nodup/\∀p∈fp,H1 p=none/\X9 (Hc p),
  ⟨ls.length,by simp,Nat.zero_le _,Same.refl H1,[],ys,[],rfl,Nat.le_refl _,e2,Iss.nil,List.nodup_nil,fun p hp=>by simp at hp⟩,?_⟩
 rintro i m vs Hc ⟨rfl,hi,sc,dn,Zk,fp,rfl,hdl,ec,iv,dv,nv⟩
 refine⟨by rw[iv.len];exact Nat.le_of_lt (lt_size (by omega)),?_⟩
 cases q:ls.drop i with
 | nil=>
  have hil:i=ls.length:=by
   have:=congrArg List.length q
   rw[List.length_drop] at this
   simp at this;omega
  subst hil;rw[q] at ec;cases ec
  refine .inl ⟨jis.stop Hc (Same.ab sc),fun p hp=>k _ _ (p::fp) (s1.trans (sc.trans (Same.new hp _))) ?_ (List.nodup_cons.mpr ⟨fun z=>Yj (nv p z).2 hp,dv⟩) fun a ha=>?_⟩
  ·rw[List.append_nil]
   exact Is.lst upd_same (iv.mono (Same.new hp _))
  ·rcases List.mem_cons.mp ha with rfl | ha
   ·exact⟨Same.off (s1.trans sc) hp,by rw[upd_same];exact True.intro⟩
   ·exact⟨Same.off s1 (nv a ha).1,Same.mut (Same.new hp _) (nv a ha).2⟩
 | cons l r=>
  obtain⟨hl,hr⟩:=Tk q
  have hilt:i<ls.length:=(List.getElem?_eq_some_iff.mp hl).1
  rw[q] at ec
  obtain⟨sb,c,eb,et,alt⟩:=Tj ec
  refine .inr ⟨jis.go Hc i l (Same.ab sc) hl,fun vs' H'=>Same H1 H'/\∃dn' rest' fp',dn++Zk=dn'++rest'/\dn'.length<=i+1/\Wc T ft fe (ZM n ix s) (ls.drop (i+1))=some rest'/\Iss K H' dn' vs' fp'/\fp'.Nodup/\∀p∈fp',H1 p=none/\X9 (H' p),
   fun vs' H' h'=>⟨ls.length-(i+1),by omega,rfl,hilt,h'.1,h'.2⟩,fun x H2 y=>?_⟩
  obtain⟨s2,fx,ix',nx⟩:=jis.yld Hc i l x H2 (Same.ab sc) hl y
  obtain⟨bl,bv,bf,rfl,bi,_,bsub,buse⟩:=Qw (K:=K) ix' eb
  have env2:EnvIs K (fun _=>False) H2 (ZM n ix s) (ZS n ix Z):=(env.mono (s1.trans (sc.trans s2))).comp
  have env3:=env2.setAll (is:=T.slots) (RF n ix s Z) bi fun p hp=>(nx p (bsub p hp)).2
  refine buse _ _ ⟨Wr hT,fun _=>False,_,c,hd H2,env3,et,fun H3 s3=>?_⟩
  rcases alt with⟨rfl,y',zs,ey,ez,rfl⟩ | ⟨rfl,ez⟩
  ·refine J3 ?_
   refine⟨_,y',env3.mono s3,ey,fun v H4 f4 s4 i4 d4 n4=>?_⟩
   refine⟨sc.trans (s2.trans (s3.trans s4)),dn++[y'],zs,fp++f4,by rw[List.append_assoc];rfl,by rw[List.length_append];simp;exact hdl,by rw[hr];exact ez,(iv.mono (s2.trans (s3.trans s4))).append (Iss.one i4),List.nodup_append.mpr ⟨dv,d4,fun a ha b hb z=>?_⟩,fun p hp=>?_⟩
   ·subst z
    exact Yj (Same.mut (s2.trans s3) (nv a ha).2) (n4 a hb).1
   ·rcases List.mem_append.mp hp with h | h
    ·exact⟨(nv p h).1,Same.mut (s2.trans (s3.trans s4)) (nv p h).2⟩
    ·exact⟨Same.off (sc.trans (s2.trans s3)) (n4 p h).1,(n4 p h).2⟩
  ·refine J2 ?_
   exact⟨sc.trans (s2.trans s3),dn,Zk,fp,rfl,Nat.le_succ_of_le hdl,by rw[hr];exact ez,iv.mono (s2.trans s3),dv,fun p hp=>⟨(nv p hp).1,Same.mut (s2.trans s3) (nv p hp).2⟩⟩
end
def IJ(X:Cx)(ifs:List Expr)(f:XT):Prop:=Mk X ifs (Qc X.K f)
section
variable {X:Cx} {tg elt iter c:Expr} {ifs:List Expr} {scope:Scope} {pos:Pos} {fi:XL} {T:Tgt} {ft:XT} {fe:XE}
theorem Y4:IJ X [] ZQ:=fun pins s Z H Q I ⟨Rm,s',c,hd,env,e,k⟩=>by
 cases e
 exact MK pins s Z H Q I (k H (Same.refl H))
theorem XY(own fr:List Str)(ix:List Nat)(hcalm:X.calm=true)(hi:VI X tg iter fi)(S:Vi X.N X.env.scope scope own fr ix=true)
  (hg:∀cl C s H ex,PG (Zx X (own++fr) scope cl C s H ex) tg (gT X.K T)) (ht:∀cl C s H ex,IJ (Zx X (own++fr) scope cl C s H ex) ifs ft) (he:∀cl C s H ex,VE (Zx X (own++fr) scope cl C s H ex) elt fe)
  (hT:∀i∈T.slots,i<own.length:=by decide) (hs:∀x,foldedSetIterable iter X.env x=pure x:=by intro _;rfl):VE X (.ListComp elt [⟨tg,iter,ifs,0⟩] scope pos) (ZG own.length ix fi T ft fe):=
 PE.imp (Rt own fr ix hcalm hi S hg (fun cl C s H ex=>(show Mk (Zx X (own++fr) scope cl C s H ex) ifs (Qc X.K ft) from ht cl C s H ex)) (fun cl C s H ex=>(show PE (Zx X (own++fr) scope cl C s H ex) elt (tF X.K fe) from he cl C s H ex)) hs) (M6 hT)
theorem M7(own fr:List Str)(ix:List Nat)(hcalm:X.calm=true)(hi:VI X tg iter fi)(S:Vi X.N X.env.scope scope own fr ix=true)
  (hg:∀cl C s H ex,PG (Zx X (own++fr) scope cl C s H ex) tg (gT X.K T)) (ht:∀cl C s H ex,IJ (Zx X (own++fr) scope cl C s H ex) ifs ft) (he:∀cl C s H ex,VM (Zx X (own++fr) scope cl C s H ex) elt fe)
  (hT:∀i∈T.slots,i<own.length:=by decide) (hs:∀x,foldedSetIterable iter X.env x=pure x:=by intro _;rfl):VM X (.ListComp elt [⟨tg,iter,ifs,0⟩] scope pos) (ZG own.length ix fi T ft fe):=
 PE.imp (Rt own fr ix hcalm hi S hg (fun cl C s H ex=>(show Mk (Zx X (own++fr) scope cl C s H ex) ifs (Qc X.K ft) from ht cl C s H ex)) (fun cl C s H ex=>(show PE (Zx X (own++fr) scope cl C s H ex) elt (tM X.K fe) from he cl C s H ex)) hs) (Pv hT)
end
def Wz(xs:List PV)(lo hi:Option Int):List PV:=(xs.drop (HT.sIx xs.length 0 lo)).take (HT.sIx xs.length xs.length hi-HT.sIx xs.length 0 lo)
theorem Iss.cut{H:Hp}{l:List PV}{xs:List V}{fp:List Addr}(lo hi:Option Int)(h:Iss K H l xs fp):∃f1,Iss K H (Wz l lo hi) (P9 xs lo hi) f1/\∀p∈f1,p∈fp:=by
 unfold Wz P9;rw[h.len]
 obtain⟨f1,a,b⟩:=h.drop (HT.sIx l.length 0 lo)
 obtain⟨f2,c,d⟩:=a.take (HT.sIx l.length l.length hi-HT.sIx l.length 0 lo)
 exact⟨f2,c,fun p hp=>b p (d p hp)⟩
abbrev XO:=ZD->Option (Option Int)
def HE(K:PySem.W.Frag)(f:XO):TO:=fun Z H Q=>∃(Rm:Addr->Prop) (s:ZD) (i:Option Int),(∀p,Rm p->X9 (H p))/\EnvIs K Rm H s Z/\f s=some i/\∀H',Same H H'->Q i H'
def VO(X:Cx)(e:Option Expr)(f:XO):Prop:=PO X e (HE X.K f)
def Uc:XO:=fun _=>some none
def WH(f:XE):XO:=fun s=>match f s with | some (.int i)=>some (some i) | _=>none
def YT(x:PV)(lo hi:Option Int):Option PV:=match x with | .lst l=>some (.lst (Wz l lo hi)) | .cst l=>some (.lst (Wz l lo hi)) | _=>none
def VH(x:PV)(lo hi:Option Int):Option PV:=match x with | .lst l=>if Zp l=true then some (.lst (Wz l lo hi)) else none | .cst l=>if Zp l=true then some (.lst (Wz l lo hi)) else none | _=>none
def Vq(g:PV->Option Int->Option Int->Option PV)(a:XE)(lo hi:XO):XE:=fun s=>(a s).bind fun x=>(lo s).bind fun l=>(hi s).bind fun u=>g x l u
theorem Up{l:List PV}(lo hi:Option Int)(h:Zp l=true):Zp (Wz l lo hi)=true:=by
 rw[Xx,List.all_eq_true] at *
 intro x hx;unfold Wz at hx
 exact h x (List.mem_of_mem_drop (List.mem_of_mem_take hx))
section
variable {X:Cx} {e:Expr} {lo hi:Option Expr} {p2 pos:Pos} {fa:XE} {fl fh:XO}
theorem XZ:VO X none Uc:=fun pins s Z H Q I ⟨Rm,s',i,hd,env,e,k⟩=>by
 cases e
 exact MD pins s Z H Q I (k H (Same.refl H))
theorem Y5{e:Expr}(h:VE X e fa):VO X (some e) (WH fa):=fun pins s Z H Q I ⟨Rm,s',i,hd,env,e,k⟩=>by
 unfold WH at e
 split at e
 ·cases e
  rename_i j hj
  exact Pb h pins s Z H Q I ⟨Rm,s',.int j,hd,env,hj,fun v H' fp sm i n=>⟨j,i.int_inv.1,k H' sm⟩⟩
 ·cases e
theorem YC(ha:VE X e fa)(hl:VO X lo fl)(hh:VO X hi fh):VE X (.Subscript e (.Slice lo hi none p2) pos) (Vq YT fa fl fh):=PE.imp (Rk Pe ha hl hh) fun Z H Q ⟨Rm,s,l,hd,env,e,k⟩=>by
 obtain⟨x,e1,e⟩:=Zd e
 obtain⟨a,e2,e⟩:=Zd e
 obtain⟨b,e3,e⟩:=Zd e
 refine⟨Rm,s,x,hd,env,e1,fun v H1 fp s1 i1 n1=>⟨Rm,s,a,fun p hp=>Same.mut s1 (hd p hp),env.mono s1,e2,fun H2 s2=>⟨Rm,s,b,fun p hp=>Same.mut (s1.trans s2) (hd p hp),env.mono (s1.trans s2),e3,fun H3 s3=>?_⟩⟩⟩
 cases x with
 | lst l=>
  cases e
  obtain⟨p,xs,fq,rfl,hp,hi,rfl⟩:=(i1.mono (s2.trans s3)).lst_inv
  obtain⟨f1,c,d⟩:=hi.cut a b
  refine⟨p,xs,rfl,SqL.of hp,fun q hq=>k _ _ (q::f1) (s1.trans (s2.trans (s3.trans (Same.new hq _)))) (Is.lst upd_same (c.mono (Same.new hq _))) fun r hr z=>?_⟩
  rcases List.mem_cons.mp hr with rfl | hr
  ·exact Yj (Same.mut (s1.trans (s2.trans s3)) (hd r z)) hq
  ·exact n1 r (List.mem_cons_of_mem _ (d r hr)) z
 | cst l=>
  cases e
  obtain⟨p,xs,rfl,hp,hi⟩:=(i1.mono (s2.trans s3)).cst_inv
  obtain⟨f1,c,d⟩:=hi.cut a b
  refine⟨p,xs,rfl,hp.sq,fun q hq=>k _ _ (q::f1) (s1.trans (s2.trans (s3.trans (Same.new hq _)))) (Is.lst upd_same (c.mono (Same.new hq _))) fun r hr z=>?_⟩
  rcases List.mem_cons.mp hr with rfl | hr
  ·exact Yj (Same.mut (s1.trans (s2.trans s3)) (hd r z)) hq
  ·exact n1 r (d r hr) z
 | _=>cases e
theorem Oq(ha:VE X e fa)(hl:VO X lo fl)(hh:VO X hi fh):VM X (.Subscript e (.Slice lo hi none p2) pos) (Vq VH fa fl fh):=PE.imp (Rk Pe ha hl hh) fun Z H Q ⟨s,l,env,e,k⟩=>by
 obtain⟨x,e1,e⟩:=Zd e
 obtain⟨a,e2,e⟩:=Zd e
 obtain⟨b,e3,e⟩:=Zd e
 refine⟨fun _=>False,s,x,fun _ z=>z.elim,env,e1,fun v H1 fp s1 i1 n1=>⟨fun _=>False,s,a,fun _ z=>z.elim,env.mono s1,e2,fun H2 s2=>⟨fun _=>False,s,b,fun _ z=>z.elim,env.mono (s1.trans s2),e3,fun H3 s3=>?_⟩⟩⟩
 cases x with
 | lst l=>
  unfold VH at e
  simp only at e
  split at e
  ·cases e
   obtain⟨p,xs,fq,rfl,hp,hi,rfl⟩:=(i1.mono (s2.trans s3)).lst_inv
   obtain⟨f1,c,d⟩:=hi.cut a b
   have:=Iss.pure _ _ _ (Up a b (by assumption)) c
   subst this
   refine⟨p,xs,rfl,SqL.of hp,fun q hq=>k _ _ [q] (s1.trans (s2.trans (s3.trans (Same.new hq _)))) (Is.lst upd_same (c.mono (Same.new hq _))) (by simp) fun r hr=>?_⟩
   rw[List.mem_singleton.mp hr]
   exact⟨Same.off (s1.trans (s2.trans s3)) hq,by rw[upd_same];exact True.intro⟩
  ·cases e
 | cst l=>
  unfold VH at e
  simp only at e
  split at e
  ·cases e
   obtain⟨p,xs,rfl,hp,hi⟩:=(i1.mono (s2.trans s3)).cst_inv
   obtain⟨f1,c,d⟩:=hi.cut a b
   have:=Iss.pure _ _ _ (Up a b (by assumption)) c
   subst this
   refine⟨p,xs,rfl,hp.sq,fun q hq=>k _ _ [q] (s1.trans (s2.trans (s3.trans (Same.new hq _)))) (Is.lst upd_same (c.mono (Same.new hq _))) (by simp) fun r hr=>?_⟩
   rw[List.mem_singleton.mp hr]
   exact⟨Same.off (s1.trans (s2.trans s3)) hq,by rw[upd_same];exact True.intro⟩
  ·cases e
 | _=>cases e
end
end VL
namespace VL
open PySem PySem.Spec PyProof.Rows L2
variable {K:PySem.W.Frag}
structure Rel(K:PySem.W.Frag)(O:List Nat)(H0:Hp)(fps:Nat->List Addr)(s:ZD)(Z:Ua)(H:Hp):Prop where
 same:Same H0 H
 len:s.length=Z.length
 is:∀(i:Nat) l,s[i]?=some (some l)->∃v,Z[i]?=some (some v)/\Is K H l v (fps i)
 emp:∀(i:Nat),(∀l,s[i]?≠some (some l))->fps i=[]
 nd:∀i∈O,(fps i).Nodup
 own:∀i∈O,∀p∈fps i,H0 p=none/\X9 (H p)
 dis:∀i∈O,∀j,j≠i->∀p∈fps i,p∉fps j
def Ow(O:List Nat)(fps:Nat->List Addr)(p:Addr):Prop:=∃i∈O,p∈fps i
def ZH(O:List Nat)(s:ZD):ZD:=O.foldl (fun s i=>s.set i none) s
theorem Tl:∀{O:List Nat}{s:ZD}{i:Nat}{l:PV},(ZH O s)[i]?=some (some l)->i∉O/\s[i]?=some (some l)
 | [],s,i,l,h=>⟨by simp,h⟩
 | o::O,s,i,l,h=>by
  obtain⟨h1,h2⟩:=Tl (O:=O) (s:=s.set o none) h
  rw[List.getElem?_set] at h2
  by_cases e:o=i
  ·rw[if_pos e] at h2;split at h2<;>cases h2
  ·rw[if_neg e] at h2
   exact⟨by simp only[List.mem_cons,not_or];exact⟨fun z=>e z.symm,h1⟩,h2⟩
section
variable {O:List Nat} {H0 H H':Hp} {fps:Nat->List Addr} {s:ZD} {Z:Ua}
theorem Rel.at(r:Rel K O H0 fps s Z H)(i:Nat){p:Addr}(hp:p∈fps i):∃l v,s[i]?=some (some l)/\Z[i]?=some (some v)/\Is K H l v (fps i):=by
 cases q:s[i]? with
 | none=>rw[r.emp i (fun l z=>by rw[q] at z;cases z)] at hp;simp at hp
 | some o=>cases o with
  | none=>rw[r.emp i (fun l z=>by rw[q] at z;cases z)] at hp;simp at hp
  | some l=>
   obtain⟨v,a,b⟩:=r.is i l q
   exact⟨l,v,rfl,a,b⟩
theorem Rel.dom(r:Rel K O H0 fps s Z H)(i:Nat):∀p∈fps i,H p≠none:=fun p hp=>by
 obtain⟨l,v,_,_,b⟩:=r.at i hp
 exact Is.dom _ _ _ b p hp
theorem Rel.env(r:Rel K O H0 fps s Z H):EnvIs K (fun _=>False) H s Z:=⟨fun i l e=>by
 obtain⟨v,a,b⟩:=r.is i l e
 exact⟨v,_,a,b,fun _ _ z=>z⟩⟩
theorem Rel.envO(r:Rel K O H0 fps s Z H):EnvIs K (Ow O fps) H (ZH O s) Z:=⟨fun i l e=>by
 obtain⟨n,e⟩:=Tl e
 obtain⟨v,a,b⟩:=r.is i l e
 exact⟨v,_,a,b,fun p hp ⟨j,hj,hpj⟩=>r.dis j hj i (fun z=>n (z▸hj)) p hpj hp⟩⟩
theorem Rel.owMut(r:Rel K O H0 fps s Z H):∀p,Ow O fps p->X9 (H p):=fun p ⟨i,hi,hp⟩=>(r.own i hi p hp).2
theorem Rel.grow(r:Rel K O H0 fps s Z H)(e:Same H H'):Rel K O H0 fps s Z H':=
 ⟨r.same.trans e,r.len,fun i l q=>by obtain⟨v,a,b⟩:=r.is i l q;exact⟨v,a,b.mono e⟩,r.emp,r.nd,fun i hi p hp=>⟨(r.own i hi p hp).1,Same.mut e (r.own i hi p hp).2⟩,r.dis⟩
theorem Rel.less{F:Hp}(r:Rel K O F fps s Z H)(e:Same H0 F):Rel K O H0 fps s Z H:=
 ⟨e.trans r.same,r.len,r.is,r.emp,r.nd,fun i hi p hp=>⟨Same.off e (r.own i hi p hp).1,(r.own i hi p hp).2⟩,r.dis⟩
open Classical in
noncomputable def Xc(H:Hp)(Rm:Addr->Prop):Hp:=fun b=>if Rm b then none else H b
theorem Se{Rm:Addr->Prop}:Same (Xc H Rm) H:=fun b o h=>by
 unfold Xc at h
 split at h
 ·cases h
 ·exact h
theorem Rel.frame(r:Rel K O H0 fps s Z H):Rel K O (Xc H (Ow O fps)) fps s Z H:=
 ⟨Se,r.len,r.is,r.emp,r.nd,fun i hi p hp=>⟨by unfold Xc;rw[if_pos ⟨i,hi,hp⟩],(r.own i hi p hp).2⟩,r.dis⟩
theorem Rel.under(r:Rel K O H0 fps s Z H):Same H0 (Xc H (Ow O fps)):=fun b o h=>by
 unfold Xc
 rw[if_neg (fun⟨i,hi,hp⟩=>by rw[(r.own i hi b hp).1] at h;cases h)]
 exact r.same b o h
open Classical in
noncomputable def VJ(fps:Nat->List Addr)(n:Nat)(i:Nat)(fp:List Addr):Nat->List Addr:=fun j=>if j=i/\i<n then fp else fps j
theorem ZN{n i j:Nat}{fp:List Addr}(h:j≠i):VJ fps n i fp j=fps j:=by unfold VJ;rw[if_neg (fun z=>h z.1)]
theorem Pw{n i:Nat}{fp:List Addr}(h:i<n):VJ fps n i fp i=fp:=by unfold VJ;rw[if_pos ⟨rfl,h⟩]
theorem Rel.set(r:Rel K O H0 fps s Z H){i:Nat}{l:PV}{v:V}{fp:List Addr}(hi:Is K H l v fp)(ho:i∈O->fp.Nodup/\∀p∈fp,H0 p=none/\X9 (H p))
  (hd:∀j,j≠i->(j∈O\/i∈O)->∀p∈fp,p∉fps j):Rel K O H0 (VJ fps s.length i fp) (s.set i (some l)) (Z.set i (some v)) H:=by
 by_cases hlt:i<s.length
 ·have e1:VJ fps s.length i fp i=fp:=Pw hlt
  refine⟨r.same,by rw[List.length_set,List.length_set];exact r.len,fun j a e=>?_,fun j h=>?_,fun j hj=>?_,fun j hj p hp=>?_,fun j hj k hk p hp=>?_⟩
  ·rw[List.getElem?_set] at e
   by_cases hj:i=j
   ·subst hj
    rw[if_pos rfl,if_pos hlt] at e;cases e;rw[e1]
    exact⟨v,by rw[List.getElem?_set,if_pos rfl,if_pos (by rw[<-r.len];exact hlt)],hi⟩
   ·rw[if_neg hj] at e
    obtain⟨w,h1,h2⟩:=r.is j a e
    rw[ZN (Ne.symm hj)]
    exact⟨w,by rw[List.getElem?_set,if_neg hj];exact h1,h2⟩
  ·by_cases hj:i=j
   ·subst hj
    exact absurd (by rw[List.getElem?_set,if_pos rfl,if_pos hlt]) (h l)
   ·rw[ZN (Ne.symm hj)]
    exact r.emp j fun a z=>h a (by rw[List.getElem?_set,if_neg hj];exact z)
  ·by_cases e:j=i
   ·subst e;rw[e1];exact(ho hj).1
   ·rw[ZN e];exact r.nd j hj
  ·by_cases e:j=i
   ·subst e;rw[e1] at hp;exact(ho hj).2 p hp
   ·rw[ZN e] at hp;exact r.own j hj p hp
  ·by_cases e:j=i
   ·subst e
    rw[e1] at hp;rw[ZN hk]
    exact hd k hk (.inr hj) p hp
   ·rw[ZN e] at hp
    by_cases e2:k=i
    ·subst e2
     rw[e1]
     exact fun z=>hd j e (.inl hj) p z hp
    ·rw[ZN e2];exact r.dis j hj k hk p hp
 ·have e1:s.set i (some l)=s:=List.set_eq_of_length_le (by omega)
  have e2:Z.set i (some v)=Z:=List.set_eq_of_length_le (by rw[<-r.len];omega)
  have e3:VJ fps s.length i fp=fps:=by funext j;unfold VJ;rw[if_neg (fun z=>hlt z.2)]
  rw[e1,e2,e3];exact r
theorem Rel.mutate(r:Rel K O H0 fps s Z H){i:Nat}(hi:i∈O){p:Addr}(hp:p∈fps i){o:HO}{l':PV}{v:V}{fp':List Addr}(hv:Z[i]?=some (some v))(hlt:i<s.length)
  (h':Is K (upd H p o) l' v fp') (nd:fp'.Nodup) (hm:∀q∈fp',H0 q=none/\X9 (upd H p o q)) (hd:∀j,j≠i->∀q∈fp',q∉fps j) (hmo:X9 (some o)):Rel K O H0 (VJ fps s.length i fp') (s.set i (some l')) Z (upd H p o):=by
 have mu:=(r.own i hi p hp).2
 have pn:H0 p=none:=(r.own i hi p hp).1
 have e1:VJ fps s.length i fp' i=fp':=Pw hlt
 have tk:TK2 H (upd H p o):=⟨fun b xs h=>by
  rw[upd_ne (fun z=>by rw[z] at h;rw[h] at mu;exact mu)];exact h,fun b o xs h=>by
  rw[upd_ne (fun z=>by rw[z] at h;rw[h] at mu;exact mu)];exact h,fun b o x h=>by
  rw[upd_ne (fun z=>by rw[z] at h;rw[h] at mu;exact mu)];exact h⟩
 refine⟨fun b u h=>by rw[upd_ne (Zq h pn)];exact r.same b u h,by rw[List.length_set];exact r.len,fun j a e=>?_,fun j h=>?_,fun j hj=>?_,fun j hj q hq=>?_,fun j hj k hk q hq=>?_⟩
 ·rw[List.getElem?_set] at e
  by_cases hj:i=j
  ·subst hj
   rw[if_pos rfl,if_pos hlt] at e;cases e
   rw[e1];exact⟨v,hv,h'⟩
  ·rw[if_neg hj] at e
   obtain⟨w,h1,h2⟩:=r.is j a e
   rw[ZN (Ne.symm hj)]
   refine⟨w,h1,Is.tr tk _ _ _ (fun q hq=>RdK.of fun u hu=>?_) h2⟩
   have ne:q≠p:=fun z=>r.dis i hi j (Ne.symm hj) p hp (z▸hq)
   rw[upd_ne ne];exact hu
 ·by_cases hj:i=j
  ·subst hj
   exact absurd (by rw[List.getElem?_set,if_pos rfl,if_pos hlt]) (h l')
  ·rw[ZN (Ne.symm hj)]
   exact r.emp j fun a z=>h a (by rw[List.getElem?_set,if_neg hj];exact z)
 ·by_cases e:j=i
  ·subst e;rw[e1];exact nd
  ·rw[ZN e];exact r.nd j hj
 ·by_cases e:j=i
  ·subst e;rw[e1] at hq;exact hm q hq
  ·rw[ZN e] at hq
   refine⟨(r.own j hj q hq).1,?_⟩
   have ne:q≠p:=fun z=>r.dis j hj i (Ne.symm e) q hq (z▸hp)
   rw[upd_ne ne];exact(r.own j hj q hq).2
 ·by_cases e:j=i
  ·subst e
   rw[e1] at hq;rw[ZN hk]
   exact hd k hk q hq
  ·rw[ZN e] at hq
   by_cases e2:k=i
   ·subst e2
    rw[e1]
    exact fun z=>hd j e q z hq
   ·rw[ZN e2];exact r.dis j hj k hk q hq
end
def Kep(a b:List Addr):Prop:=a=b\/a=[]
theorem Kep.refl(a:List Addr):Kep a a:=.inl rfl
theorem Kep.trans{a b c:List Addr}(h:Kep a b)(k:Kep b c):Kep a c:=by
 rcases h with rfl | h
 ·exact k
 ·exact .inr h
inductive Os where
 | nx (s:ZD) | rt (l:PV) | bk (s:ZD) | ct (s:ZD)
abbrev XS:=ZD->Option Os
def OutOk(K:PySem.W.Frag)(O W:List Nat)(H0:Hp)(fps:Nat->List Addr)(Z:Ua)(D:Wy):Os->Prop
 | .nx s'=>∀fps' Z' H',Rel K O H0 fps' s' Z' H'->(∀j,j∉W->Z'[j]?=Z[j]?/\Kep (fps' j) (fps j))->D.nx Z' H'
 | .bk s'=>∀fps' Z' H',Rel K O H0 fps' s' Z' H'->(∀j,j∉W->Z'[j]?=Z[j]?/\Kep (fps' j) (fps j))->D.bk Z' H'
 | .ct s'=>∀fps' Z' H',Rel K O H0 fps' s' Z' H'->(∀j,j∉W->Z'[j]?=Z[j]?/\Kep (fps' j) (fps j))->D.ct Z' H'
 | .rt l=>∀v fp H',Same H0 H'->Is K H' l v fp->fp.Nodup->(∀p∈fp,H0 p=none/\X9 (H' p))->D.rt v H'
def Ml(K:PySem.W.Frag)(O W:List Nat)(f:XS):TS:=fun D Z H=>∃H0 fps s out,Rel K O H0 fps s Z H/\f s=some out/\OutOk K O W H0 fps Z D out
def VS(X:Cx)(O W:List Nat)(st:Stmt)(f:XS):Prop:=PS X st (Ml X.K O W f)
def Nu(X:Cx)(O W:List Nat)(st:List Stmt)(f:XS):Prop:=PSs X st (Ml X.K O W f)
theorem OutOk.same{O W W':List Nat}{H0:Hp}{fps fps1:Nat->List Addr}{Z Z1:Ua}{D:Wy}{out:Os}(h:OutOk K O W' H0 fps Z D out)(k:∀j,j∉W'->Z1[j]?=Z[j]?/\Kep (fps1 j) (fps j))(hs:∀j,j∉W'->j∉W):OutOk K O W H0 fps1 Z1 D out:=by
 cases out with
 | nx s'=>exact fun fps' Z' H' r q=>h fps' Z' H' r fun j hj=>⟨(q j (hs j hj)).1.trans (k j hj).1,(q j (hs j hj)).2.trans (k j hj).2⟩
 | bk s'=>exact fun fps' Z' H' r q=>h fps' Z' H' r fun j hj=>⟨(q j (hs j hj)).1.trans (k j hj).1,(q j (hs j hj)).2.trans (k j hj).2⟩
 | ct s'=>exact fun fps' Z' H' r q=>h fps' Z' H' r fun j hj=>⟨(q j (hs j hj)).1.trans (k j hj).1,(q j (hs j hj)).2.trans (k j hj).2⟩
 | rt l=>exact h
theorem OutOk.less{O W:List Nat}{H0 F:Hp}{fps:Nat->List Addr}{Z:Ua}{D:Wy}{out:Os}(h:OutOk K O W H0 fps Z D out)(e:Same H0 F):OutOk K O W F fps Z D out:=by
 cases out with
 | nx s'=>exact fun fps' Z' H' r q=>h fps' Z' H' (r.less e) q
 | bk s'=>exact fun fps' Z' H' r q=>h fps' Z' H' (r.less e) q
 | ct s'=>exact fun fps' Z' H' r q=>h fps' Z' H' (r.less e) q
 | rt l=>exact fun v fp H' sm i d n=>h v fp H' (e.trans sm) i d fun p hp=>⟨Same.off e (n p hp).1,(n p hp).2⟩
def Z8:XS:=fun s=>some (.nx s)
def Zm(f g:XS):XS:=fun s=>(f s).bind fun o=>match o with | .nx s'=>g s' | r=>some r
def UO(c:XT)(f g:XS):XS:=fun s=>(c s).bind fun k=>if k=true then f s else g s
def YU(f:XE):XS:=fun s=>(f s).map .rt
def Zo(i:Nat)(f:XE):XS:=fun s=>(f s).map fun l=>.nx (s.set i (some l))
section
variable {X:Cx} {O W W1 W2:List Nat} {st:Stmt} {Zk:List Stmt} {f g:XS} {pos:Pos}
theorem PS.imp{t t':TS}(h:PS X st t)(i:∀D Z H,t' D Z H->t D Z H):PS X st t':=fun pins s Z H D I q=>h pins s Z H D I (i D Z H q)
theorem PSs.imp{t t':TS}(h:PSs X Zk t)(i:∀D Z H,t' D Z H->t D Z H):PSs X Zk t':=fun pins s Z H D I q=>h pins s Z H D I (i D Z H q)
theorem Nv:∀D Z H,Ml K O W Z8 D Z H->LB D Z H:=fun D Z H ⟨H0,fps,s,out,r,e,k⟩=>by
 cases e
 exact k fps Z H r fun j _=>⟨rfl,Kep.refl _⟩
theorem YM:Nu X O [] [] Z8:=PSs.imp Mr Nv
theorem Zl(h:VS X O W st f):Nu X O W [st] f:=Q6 h
theorem Zg(h1:VS X O W1 st f)(h2:Nu X O W2 Zk g):Nu X O (W1++W2) (st::Zk) (Zm f g):=PSs.imp (Rg h1 h2) fun D Z H ⟨H0,fps,s,out,r,e,k⟩=>by
 obtain⟨o1,e1,e⟩:=Zd e
 have sub1:∀j,j∉W1++W2->j∉W1:=fun j hj z=>hj (List.mem_append_left _ z)
 have sub2:∀j,j∉W1++W2->j∉W2:=fun j hj z=>hj (List.mem_append_right _ z)
 refine⟨H0,fps,s,o1,r,e1,?_⟩
 cases o1 with
 | nx s1=>
  intro fps1 Z1 H1 r1 q1
  exact⟨H0,fps1,s1,out,r1,e,k.same (fun j hj=>q1 j (sub1 j hj)) sub2⟩
 | bk s1=>cases e;exact fun fps' Z' H' r' q'=>k fps' Z' H' r' fun j hj=>q' j (sub1 j hj)
 | ct s1=>cases e;exact fun fps' Z' H' r' q'=>k fps' Z' H' r' fun j hj=>q' j (sub1 j hj)
 | rt l=>cases e;exact k
theorem WI{c:Expr}{a b:List Stmt}{fc:XT}(hc:VT X c fc)(ha:Nu X O W1 a f)(hb:Nu X O W2 b g):VS X O (W1++W2) (.If c a b pos) (UO fc f g):=PS.imp (LC hc ha hb) fun D Z H ⟨H0,fps,s,out,r,e,k⟩=>by
 obtain⟨c,e1,e⟩:=Zd e
 have sub1:∀j,j∉W1++W2->j∉W1:=fun j hj z=>hj (List.mem_append_left _ z)
 have sub2:∀j,j∉W1++W2->j∉W2:=fun j hj z=>hj (List.mem_append_right _ z)
 refine⟨fun _=>False,s,c,fun _ z=>z.elim,r.env,e1,fun H1 s1=>?_⟩
 cases c with
 | true=>
  rw[if_pos rfl] at e ⊢
  exact⟨H0,fps,s,out,r.grow s1,e,k.same (fun j _=>⟨rfl,Kep.refl _⟩) sub1⟩
 | false=>
  rw[if_neg Bool.false_ne_true] at e ⊢
  exact⟨H0,fps,s,out,r.grow s1,e,k.same (fun j _=>⟨rfl,Kep.refl _⟩) sub2⟩
theorem Yf{e:Expr}{fe:XE}(he:VM X e fe):VS X O [] (.Return (some e) pos) (YU fe):=PS.imp (Qe he) fun D Z H ⟨H0,fps,s,out,r,e,k⟩=>by
 obtain⟨l,e1,rfl⟩:=map_some e
 exact⟨s,l,r.env,e1,fun v H' fp sm i d n=>k v fp H' (r.same.trans sm) i d fun p hp=>⟨Same.off r.same (n p hp).1,(n p hp).2⟩⟩
theorem SQ{e:Expr}{i:Nat}(he:PE X e (Vr i))(hi:i∈O:=by decide):VS X O [] (.Return (some e) pos) (YU (Za i)):=PS.imp (Qe he) fun D Z H ⟨H0,fps,s,out,r,e,k⟩=>by
 obtain⟨l,e1,rfl⟩:=map_some e
 obtain⟨v,a,b⟩:=r.is i l (Um e1)
 exact⟨v,a,k v _ H r.same b (r.nd i hi) (r.own i hi)⟩
theorem Px{t:TE}{i:Nat}{fe:XE}(ht:∀Z H Q,tM K fe Z H Q->t Z H Q):∀D Z H,Ml K O [i] (Zo i fe) D Z H->PY t (Uw i) D Z H:=fun D Z H ⟨H0,fps,s,out,r,e,k⟩=>by
 obtain⟨l,e1,rfl⟩:=map_some e
 refine ht Z H _ ⟨s,l,r.env,e1,fun v H' fp sm is d n=>?_⟩
 refine k _ _ H' ((r.grow sm).set (i:=i) is (fun _=>⟨d,fun p hp=>⟨Same.off r.same (n p hp).1,(n p hp).2⟩⟩) fun j _ _ p hp z=>r.dom j p z (n p hp).1) fun j hj=>?_
 have:j≠i:=by simpa using hj
 exact⟨by rw[List.getElem?_set,if_neg (Ne.symm this)],.inl (ZN this)⟩
theorem Zr{i:Nat}{x:Str}{e:Expr}{fe:XE}{pos':Pos}(hN:X.N.Nodup)(hi:X.N[i]?=some x)(hx:Jr X.env.scope x)(he:VM X e fe)(hs:swapsWith e (some (.Name x pos')) pos.line X.env=pure false:=by rfl)(hf:X.fn x=true\/X.env.scope.names.lookup x=some .local:=by first | exact .inl rfl | exact .inr rfl | assumption) :
  VS X O [i] (.Assign [.Name x pos'] e pos) (Zo i fe):=PS.imp (O5 hN hi hx he hs hf) (Px fun _ _ _ h=>h)
end
def Xj(T:Tgt)(fb:XS):List PV->ZD->Option Os
 | [],s=>some (.nx s)
 | l::r,s=>(WG T l s).bind fun s1=>(fb s1).bind fun o=>match o with | .nx s2=>Xj T fb r s2 | .ct s2=>Xj T fb r s2 | .bk s2=>some (.nx s2) | .rt v=>some (.rt v)
def YV(O:List Nat)(fi:XL)(T:Tgt)(fb:XS):XS:=fun s=>(fi (ZH O s)).bind fun ls=>Xj T fb ls s
theorem Rel.setAll{O:List Nat}{H0 H:Hp}:∀{is:List Nat}{ls:List PV}{vs:List V}{fs:List Addr}{fps:Nat->List Addr}{s:ZD}{Z:Ua},Rel K O H0 fps s Z H->Iss K H ls vs fs->ls.length=is.length->(∀i∈is,i∉O)->(∀i∈O,∀p∈fps i,p∉fs)->
  ∃fps',Rel K O H0 fps' (VL.setAll is ls s) (Yk is vs Z) H/\∀j,j∉is->(Yk is vs Z)[j]?=Z[j]?/\Kep (fps' j) (fps j)
 | [],ls,vs,fs,fps,s,Z,r,_,_,_,_=>⟨fps,by unfold VL.setAll Yk;exact r,fun j _=>⟨by unfold Yk;rfl,Kep.refl _⟩⟩
 | i::is,[],vs,fs,fps,s,Z,r,_,hl,_,_=>by simp at hl
 | i::is,l::ls,vs,fs,fps,s,Z,r,hi,hl,hO,hd=>by
  obtain⟨x,rr,f1,f2,rfl,h1,h2,rfl⟩:=hi.inv
  have hiO:=hO i List.mem_cons_self
  have r1:=r.set (i:=i) h1 (fun z=>absurd z hiO) fun j hj hjo p hp z=>by
   rcases hjo with hjo | hjo
   ·exact hd j hjo p z (List.mem_append_left _ hp)
   ·exact absurd hjo hiO
  obtain⟨fps',r2,q2⟩:=Rel.setAll (is:=is) r1 h2 (by simpa using hl) (fun j hj=>hO j (List.mem_cons_of_mem _ hj)) fun j hj p hp z=>by
   have hji:j≠i:=fun e=>hiO (by rw[<-e];exact hj)
   rw[ZN hji] at hp
   exact hd j hj p hp (List.mem_append_right _ z)
  refine⟨fps',r2,fun j hj=>?_⟩
  have hji:j≠i:=fun e=>hj (e▸List.mem_cons_self)
  obtain⟨a,b⟩:=q2 j (fun z=>hj (List.mem_cons_of_mem _ z))
  exact⟨a.trans (by rw[List.getElem?_set,if_neg (Ne.symm hji)]),b.trans (.inl (ZN hji))⟩
section
variable {O W:List Nat} {T:Tgt} {fb:XS}
theorem Tm{H1:Hp}{fps:Nat->List Addr}{s:ZD}{Z:Ua}{D:Wy}{J:It}{ls:List PV}{out:Os}(r:Rel K O (Xc H1 (Ow O fps)) fps s Z H1)(jis:II K (Ow O fps) H1 J ls)(e:Xj T fb ls s=some out)(hT:∀i∈T.slots,i∉O)
  (k:OutOk K O (T.slots++W) (Xc H1 (Ow O fps)) fps Z D out):KA (gT K T) (Ml K O W fb) D Z J H1:=by
 have subT:∀j,j∉T.slots++W->j∉T.slots:=fun j hj z=>hj (List.mem_append_left _ z)
 have subW:∀j,j∉T.slots++W->j∉W:=fun j hj z=>hj (List.mem_append_right _ z)
 refine⟨fun i m Z' H'=>m=ls.length-i/\i<=ls.length/\∃fps' s',Rel K O (Xc H1 (Ow O fps)) fps' s' Z' H'/\Xj T fb (ls.drop i) s'=some out/\∀j,j∉T.slots++W->Z'[j]?=Z[j]?/\Kep (fps' j) (fps j),
  ⟨ls.length,by simp,Nat.zero_le _,fps,s,r,e,fun j _=>⟨rfl,Kep.refl _⟩⟩,?_⟩
 rintro i m Z' H' ⟨rfl,hi,fps',s',r',e',q'⟩
 have ab:Ab (Ow O fps) H1 H':=fun b o h n=>r'.same b o (by unfold Xc;rw[if_neg n];exact h)
 cases q:ls.drop i with
 | nil=>
  have hil:i=ls.length:=by
   have:=congrArg List.length q
   rw[List.length_drop] at this
   simp at this;omega
  subst hil
  rw[q] at e'
  cases e'
  exact .inl ⟨jis.stop H' ab,k fps' Z' H' r' q'⟩
 | cons l rr=>
  obtain⟨hl,hr⟩:=Tk q
  have hilt:i<ls.length:=(List.getElem?_eq_some_iff.mp hl).1
  rw[q] at e'
  unfold Xj at e'
  obtain⟨sb,eb,e'⟩:=Zd e'
  obtain⟨o,eo,e'⟩:=Zd e'
  refine .inr ⟨jis.go H' i l ab hl,fun Z2 H2=>∃fps2 s2,Rel K O (Xc H1 (Ow O fps)) fps2 s2 Z2 H2/\Xj T fb (ls.drop (i+1)) s2=some out/\∀j,j∉T.slots++W->Z2[j]?=Z[j]?/\Kep (fps2 j) (fps j),
   fun Z2 H2 h2=>⟨ls.length-(i+1),by omega,rfl,hilt,h2⟩,fun x H2 y=>?_⟩
  obtain⟨s2,fx,ix,nx⟩:=jis.yld H' i l x H2 ab hl y
  obtain⟨bl,bv,bf,rfl,bi,blen,bsub,buse⟩:=Qw (K:=K) ix eb
  obtain⟨fps3,r3,q3⟩:=Rel.setAll (is:=T.slots) (r'.grow s2) bi blen hT fun j hj p hp z=>by
   obtain⟨n1,n2⟩:=nx p (bsub p z)
   have:=(r'.own j hj p hp).1
   unfold Xc at this;rw[if_neg n2] at this
   exact n1 this
  refine buse _ _ ⟨_,fps3,_,o,r3,eo,?_⟩
  have keep:∀j,j∉T.slots++W->(Yk T.slots bv Z')[j]?=Z[j]?/\Kep (fps3 j) (fps j):=fun j hj=>⟨(q3 j (subT j hj)).1.trans (q' j hj).1,(q3 j (subT j hj)).2.trans (q' j hj).2⟩
  cases o with
  | nx s4=>exact fun fps4 Z4 H4 r4 q4=>⟨fps4,s4,r4,by rw[hr];exact e',fun j hj=>⟨(q4 j (subW j hj)).1.trans (keep j hj).1,(q4 j (subW j hj)).2.trans (keep j hj).2⟩⟩
  | ct s4=>exact fun fps4 Z4 H4 r4 q4=>⟨fps4,s4,r4,by rw[hr];exact e',fun j hj=>⟨(q4 j (subW j hj)).1.trans (keep j hj).1,(q4 j (subW j hj)).2.trans (keep j hj).2⟩⟩
  | bk s4=>
   cases e'
   exact fun fps4 Z4 H4 r4 q4=>k fps4 Z4 H4 r4 fun j hj=>⟨(q4 j (subW j hj)).1.trans (keep j hj).1,(q4 j (subW j hj)).2.trans (keep j hj).2⟩
  | rt v=>
   cases e'
   exact k
end
section
variable {X:Cx} {O W:List Nat} {tg iter:Expr} {body:List Stmt} {fi:XL} {T:Tgt} {fb:XS} {pos:Pos}
theorem XJ(hp:PassesOwn (model X.prog X.w) X.A X.env X.xe)(hc:X.calm=true)(hi:VI X tg iter fi)(hg:PG X tg (gT X.K T))(hb:Nu X O W body fb)(hT:∀i∈T.slots,i∉O:=by decide)
  (hs:∀x,foldedSetIterable iter X.env x=pure x:=by intro _;rfl):VS X O (T.slots++W) (.For tg iter body [] pos) (YV O fi T fb):=PS.imp (Sw hp hc hi hg hb hs) fun D Z H ⟨H0,fps,s,out,r,e,k⟩=>by
 obtain⟨ls,e1,e⟩:=Zd e
 refine⟨Ow O fps,ZH O s,ls,r.owMut,r.envO,e1,fun J H1 s1 jis=>?_⟩
 exact Tm (r.grow s1).frame jis e hT (k.less (r.grow s1).under)
end
end VL
namespace VL
open PySem PySem.Spec PyProof.Rows L2
variable {K:PySem.W.Frag}
section
variable {O:List Nat} {H0 H H':Hp} {fps:Nat->List Addr} {s:ZD} {Z:Ua}
theorem Rel.lst_at(r:Rel K O H0 fps s Z H){i:Nat}(hi:i∈O){m:List PV}(e:s[i]?=some (some (.lst m))):∃p xs fq,Z[i]?=some (some (.ref p))/\H p=some (.lst xs)/\Iss K H m xs fq/\fps i=p::fq:=by
 obtain⟨v,a,b⟩:=r.is i _ e
 obtain⟨p,xs,fq,rfl,hp,hm,ef⟩:=b.lst_inv
 exact⟨p,xs,fq,a,hp,hm,ef⟩
theorem Rel.dT_at(r:Rel K O H0 fps s Z H){i:Nat}(hi:i∈O){ks:List (List Z4)}{m:List PV}(e:s[i]?=some (some (.dT ks m))):∃p kvs fq,Z[i]?=some (some (.ref p))/\H p=some (.dT kvs)/\kvs.map (·.1)=ks/\Iss K H m (kvs.map (·.2)) fq/\fps i=p::fq:=by
 obtain⟨v,a,b⟩:=r.is i _ e
 obtain⟨p,xs,fq,rfl,hp,hk,hm,ef⟩:=b.dT_inv
 refine⟨p,xs,fq,a,?_,hk,hm,ef⟩
 have mu:=(r.own i hi p (by rw[ef];exact List.mem_cons_self)).2
 rcases hp with hp | ⟨o,hp⟩
 ·exact hp
 ·rw[hp] at mu;exact mu.elim
theorem Rel.dK_at(r:Rel K O H0 fps s Z H){i:Nat}(hi:i∈O){ks:List Z4}{m:List PV}(e:s[i]?=some (some (.dK ks m))):∃p kvs fq,Z[i]?=some (some (.ref p))/\H p=some (.dK kvs)/\kvs.map (·.1)=ks/\Iss K H m (kvs.map (·.2)) fq/\fps i=p::fq:=by
 obtain⟨v,a,b⟩:=r.is i _ e
 obtain⟨p,xs,fq,rfl,hp,hk,hm,ef⟩:=b.dK_inv
 refine⟨p,xs,fq,a,?_,hk,hm,ef⟩
 have mu:=(r.own i hi p (by rw[ef];exact List.mem_cons_self)).2
 rcases hp with hp | ⟨o,hp⟩
 ·exact hp
 ·rw[hp] at mu;exact mu.elim
theorem W0{α:Type}{l:List α}{i:Nat}{a:α}(h:l[i]?=some a):i<l.length:=(List.getElem?_eq_some_iff.mp h).1
theorem TK.upd'{p:Addr}{o:HO}(mu:X9 (H p)):TK2 H (L2.upd H p o):=⟨fun b xs h=>by
 rw[upd_ne (fun z=>by rw[z] at h;rw[h] at mu;exact mu)];exact h,fun b o xs h=>by
 rw[upd_ne (fun z=>by rw[z] at h;rw[h] at mu;exact mu)];exact h,fun b o x h=>by
 rw[upd_ne (fun z=>by rw[z] at h;rw[h] at mu;exact mu)];exact h⟩
theorem RdK.upd_ne{p q:Addr}{o:HO}(ne:q≠p):RdK H (L2.upd H p o) q:=RdK.of fun u hu=>by rw[L2.upd_ne ne];exact hu
theorem Rel.relist(r:Rel K O H0 fps s Z H){i:Nat}(hi:i∈O){m m':List PV}(e:s[i]?=some (some (.lst m))){p:Addr}{fq fq':List Addr}{xs':List V}(ef:fps i=p::fq)(hv:Z[i]?=some (some (.ref p)))
  (h':Iss K H m' xs' fq') (nd:(p::fq').Nodup) (hf:∀q∈fq',q∈fq\/((H0 q=none/\X9 (H q))/\∀j,q∉fps j)):Rel K O H0 (VJ fps s.length i (p::fq')) (s.set i (some (.lst m'))) Z (L2.upd H p (.lst xs')):=by
 have hp:p∈fps i:=by rw[ef];exact List.mem_cons_self
 have mu:=(r.own i hi p hp).2
 have np:p∉fq':=(List.nodup_cons.mp nd).1
 refine r.mutate hi hp hv (W0 e) (Is.lst upd_same (Iss.tr (TK.upd' mu) _ _ _ (fun q hq=>RdK.upd_ne fun z=>np (z▸hq)) h')) nd (fun q hq=>?_) (fun j hj q hq z=>?_) True.intro
 ·rcases List.mem_cons.mp hq with rfl | hq
  ·exact⟨(r.own i hi q hp).1,by rw[upd_same];exact True.intro⟩
  ·have ne:q≠p:=fun z=>np (z▸hq)
   rw[L2.upd_ne ne]
   rcases hf q hq with h | h
   ·exact r.own i hi q (by rw[ef];exact List.mem_cons_of_mem _ h)
   ·exact h.1
 ·rcases List.mem_cons.mp hq with rfl | hq
  ·exact r.dis i hi j hj q hp z
  ·rcases hf q hq with h | h
   ·exact r.dis i hi j hj q (by rw[ef];exact List.mem_cons_of_mem _ h) z
   ·exact h.2 j z
end
def Mm(s:ZD)(i:Nat):Option (List PV):=match s[i]? with | some (some (.lst m))=>some m | _=>none
def OZ:PV->Option Int
 | .int k=>some k
 | _=>none
def Ig:PV->Option (List PV)
 | .lst k=>some k
 | _=>none
theorem VN{s:ZD}{i:Nat}{m:List PV}(h:Mm s i=some m):s[i]?=some (some (.lst m)):=by
 unfold Mm at h;split at h
 ·cases h;assumption
 ·cases h
theorem VP{a:PV}{k:Int}(h:OZ a=some k):a = .int k:=by
 unfold OZ at h;split at h
 ·cases h;rfl
 ·cases h
theorem RG{a:PV}{k:List PV}(h:Ig a=some k):a = .lst k:=by
 unfold Ig at h;split at h
 ·cases h;rfl
 ·cases h
def gd(c:Bool):Option Unit:=if c=true then some () else none
theorem W3{c:Bool}{u:Unit}(h:gd c=some u):c=true:=by
 unfold gd at h;split at h
 ·assumption
 ·cases h
def Yv(i:Nat)(f:XE):XS:=fun s=>(f s).bind fun l=>(Mm s i).bind fun m=>(gd (decide (m.length<=10000))).bind fun _=>some (.nx (s.set i (some (.lst (m++[l])))))
def Ws(i:Nat)(f:XE):XS:=fun s=>(f s).bind fun l=>(Ig l).bind fun n=>(Mm s i).bind fun m=>(gd (decide (m.length+n.length<=10000))).bind fun _=>some (.nx (s.set i (some (.lst (m++n)))))
def Xt(i:Nat)(fk:XE)(f:XE):XS:=fun s=>(fk s).bind fun k=>(f s).bind fun l=>(OZ k).bind fun k=>(Mm s i).bind fun m=>(gd (Zp m&&ZL l&&decide (0<=k/\k<=1000000/\m.length<=10000))).bind fun _=>some (.nx (s.set i (some (.lst (m.take k.toNat++l::m.drop k.toNat)))))
section
variable {X:Cx} {O:List Nat} {i:Nat} {st:Stmt} {f fk:XE}
theorem Hh{H:Hp}{p:Addr}{xs:List V}(h:H p=some (.lst xs)):IC K "list" (.ref p) H:=.inl ⟨rfl,_,SqL.of h⟩
theorem Sf{s:ZD}{Z:Ua}{fps:Nat->List Addr}{fp:List Addr}:∀j,j∉[i]->Z[j]?=Z[j]?/\Kep (VJ fps s.length i fp j) (fps j):=fun j hj=>⟨rfl,.inl (ZN (by simpa using hj))⟩
theorem W4(h:PS X st (Q7 (ID X.K "list" Pf (Vr i) (Ux (tM X.K f) P7))))(hi:i∈O:=by decide):VS X O [i] st (Yv i f):=PS.imp h fun D Z H ⟨H0,fps,s,out,r,e,k⟩=>by
 obtain⟨l,e1,e⟩:=Zd e
 obtain⟨m,em,e⟩:=Zd e
 obtain⟨_,eg,e⟩:=Zd e
 have em:=VN em
 have hlen:=of_decide_eq_true (W3 eg)
 cases e
 obtain⟨p,xs,fq,hv,hp,hm,ef⟩:=r.lst_at hi em
 refine⟨.ref p,hv,Hh hp,s,l,r.env,e1,fun y H2 fe s2 i2 d2 n2=>?_⟩
 refine⟨p,xs,y,rfl,rfl,s2 _ _ hp,by rw[hm.len];exact lt_size (by omega),?_⟩
 have r2:=r.grow s2
 have fr:∀q∈fe,∀j,q∉fps j:=fun q hq j z=>r.dom j q z (n2 q hq).1
 refine k _ _ _ (r2.relist hi em ef hv ((hm.mono s2).append (Iss.one i2)) ?_ fun q hq=>?_) Sf
 ·have nd:=r.nd i hi
  rw[ef] at nd;rw[<-List.cons_append]
  exact List.nodup_append.mpr ⟨nd,d2,fun a ha b hb z=>fr b hb i (by rw[ef,<-z];exact ha)⟩
 ·rcases List.mem_append.mp hq with h | h
  ·exact .inl h
  ·exact .inr ⟨⟨Same.off r.same (n2 q h).1,(n2 q h).2⟩,fr q h⟩
theorem Ot(h:PS X st (Q7 (ID X.K "list" Pg (Vr i) (Ux (tM X.K f) P7))))(hi:i∈O:=by decide):VS X O [i] st (Ws i f):=PS.imp h fun D Z H ⟨H0,fps,s,out,r,e,k⟩=>by
 obtain⟨l,e1,e⟩:=Zd e
 obtain⟨n,en,e⟩:=Zd e
 obtain⟨m,em,e⟩:=Zd e
 obtain⟨_,eg,e⟩:=Zd e
 rw[RG en] at e1;have em:=VN em
 have hlen:=of_decide_eq_true (W3 eg)
 cases e
 obtain⟨p,xs,fq,hv,hp,hm,ef⟩:=r.lst_at hi em
 refine⟨.ref p,hv,Hh hp,s,_,r.env,e1,fun y H2 fe s2 i2 d2 n2=>?_⟩
 obtain⟨b,zs,fb,rfl,hb,hz,rfl⟩:=i2.lst_inv
 have hb':H2 b=some (.lst zs):=hb
 refine⟨p,b,xs,zs,rfl,rfl,s2 _ _ hp,hb',by rw[hm.len,hz.len];exact Nat.le_of_lt (lt_size (by omega)),?_⟩
 have r2:=r.grow s2
 have fr:∀q∈fb,∀j,q∉fps j:=fun q hq j z=>r.dom j q z (n2 q (List.mem_cons_of_mem _ hq)).1
 refine k _ _ _ (r2.relist hi em ef hv ((hm.mono s2).append hz) ?_ fun q hq=>?_) Sf
 ·have nd:=r.nd i hi
  rw[ef] at nd;rw[<-List.cons_append]
  exact List.nodup_append.mpr ⟨nd,(List.nodup_cons.mp d2).2,fun a ha b hb z=>fr b hb i (by rw[ef,<-z];exact ha)⟩
 ·rcases List.mem_append.mp hq with h | h
  ·exact .inl h
  ·exact .inr ⟨⟨Same.off r.same (n2 q (List.mem_cons_of_mem _ h)).1,(n2 q (List.mem_cons_of_mem _ h)).2⟩,fr q h⟩
theorem Iss.pureEq{H:Hp}{l:List PV}{xs:List V}{fp:List Addr}(h:Iss K H l xs fp)(hp:Zp l=true):Iss K H l xs []:=by
 have:=Iss.pure _ _ _ hp h
 subst this;exact h
theorem Qx{l:List PV}(n:Nat)(h:Zp l=true):Zp (l.take n)=true:=by
 rw[Xx,List.all_eq_true] at *
 exact fun x hx=>h x (List.mem_of_mem_take hx)
theorem Qy{l:List PV}(n:Nat)(h:Zp l=true):Zp (l.drop n)=true:=by
 rw[Xx,List.all_eq_true] at *
 exact fun x hx=>h x (List.mem_of_mem_drop hx)
theorem Sg(h:PS X st (Q7 (ID X.K "list" Po (Vr i) (Ux (tF X.K fk) (Ux (tF X.K f) P7)))))(hi:i∈O:=by decide):VS X O [i] st (Xt i fk f):=PS.imp h fun D Z H ⟨H0,fps,s,out,r,e,k⟩=>by
 obtain⟨kk,e0,e⟩:=Zd e
 obtain⟨l,e1,e⟩:=Zd e
 obtain⟨ki,ek,e⟩:=Zd e
 obtain⟨m,em,e⟩:=Zd e
 obtain⟨_,eg,e⟩:=Zd e
 rw[VP ek] at e0;have em:=VN em;have hc:=W3 eg;simp only[Bool.and_eq_true,decide_eq_true_eq] at hc
 obtain⟨⟨pm,pl⟩,k0,k1,hlen⟩:=hc
 cases e
 obtain⟨p,xs,fq,hv,hp,hm,ef⟩:=r.lst_at hi em
 refine⟨.ref p,hv,Hh hp,fun _=>False,s,_,fun _ z=>z.elim,r.env,e0,fun z H1 fz s1 i1 _=>⟨fun _=>False,s,l,fun _ z=>z.elim,r.env.mono s1,e1,fun y H2 fe s2 i2 _=>?_⟩⟩
 have s12:=s1.trans s2
 obtain⟨rfl,_⟩:=i1.int_inv
 have:=Is.pure _ _ _ pl i2
 subst this
 refine⟨p,xs,ki,y,rfl,rfl,s12 _ _ hp,k0,by omega,by rw[hm.len];exact lt_size (by omega),?_⟩
 have hm':=(hm.mono s12).pureEq pm
 obtain⟨f1,a1,_⟩:=hm'.take ki.toNat
 obtain⟨f2,a2,_⟩:=hm'.drop ki.toNat
 have a1:=a1.pureEq (Qx _ pm)
 have a2:=a2.pureEq (Qy _ pm)
 exact k _ _ _ ((r.grow s12).relist hi em ef hv (a1.append (Iss.cons i2 a2)) (by simp) fun q hq=>by simp at hq) Sf
end
theorem Iss.setRow{H:Hp}{o:List V}:∀{m:List PV}{xs:List V}{fq:List Addr}{j:Nat}{n n':List PV}{q:Addr},Iss K H m xs fq->m[j]?=some (.lst n)->xs[j]?=some (.ref q)->fq.Nodup->X9 (H q)->Zp n=true->Iss K (L2.upd H q (.lst o)) n' o []->
  Iss K (L2.upd H q (.lst o)) (m.set j (.lst n')) xs fq
 | [],_,_,_,_,_,_,_,e,_,_,_,_,_=>by simp at e
 | a::m,xs,fq,0,n,n',q,h,e,ex,nd,mu,pn,h'=>by
  obtain⟨x,r,f1,f2,rfl,h1,h2,rfl⟩:=h.inv
  simp at e ex
  subst e ex
  obtain⟨p',zs,fz,e,hp,hz,rfl⟩:=h1.lst_inv
  cases e
  have:=Iss.pure _ _ _ pn hz
  subst this
  have nq:q∉f2:=(List.nodup_cons.mp nd).1
  exact Iss.cons (Is.lst upd_same h') (Iss.tr (TK.upd' mu) _ _ _ (fun z hz=>RdK.upd_ne fun e=>nq (e▸hz)) h2)
 | a::m,xs,fq,j+1,n,n',q,h,e,ex,nd,mu,pn,h'=>by
  obtain⟨x,r,f1,f2,rfl,h1,h2,rfl⟩:=h.inv
  simp at e ex
  obtain⟨nd1,nd2,nd3⟩:=List.nodup_append.mp nd
  obtain⟨y,fy,hy,iy,suby⟩:=h2.get e
  rw[ex] at hy;cases hy
  obtain⟨p',zs,fz,e',_,_,rfl⟩:=iy.lst_inv
  cases e'
  have nq:q∉f1:=fun z=>nd3 q z q (suby q List.mem_cons_self) rfl
  exact Iss.cons (Is.tr (TK.upd' mu) _ _ _ (fun z hz=>RdK.upd_ne fun e=>nq (e▸hz)) h1) (Iss.setRow h2 e ex nd2 mu pn h')
def X1(i:Nat)(fa fb:XE)(f:XE):XS:=fun s=>(f s).bind fun l=>(fa s).bind fun a=>(fb s).bind fun b=>(OZ a).bind fun a=>(OZ b).bind fun b=>(Mm s i).bind fun m=>(Qb m.length a).bind fun j=>(m[j]?).bind fun r=>(Ig r).bind fun n=>
 (gd (Zp n&&ZL l)).bind fun _=>(Qb n.length b).map fun c=>.nx (s.set i (some (.lst (m.set j (.lst (n.set c l))))))
theorem Sh{X:Cx}{O:List Nat}{i:Nat}{st:Stmt}{f fa fb:XE}(h:PS X st (PY (tF X.K f) (JI (Kg (ME X.K) (Vr i) (tF X.K fa)) (tF X.K fb) LI)))(hi:i∈O:=by decide):VS X O [i] st (X1 i fa fb f):=PS.imp h fun D Z H ⟨H0,fps,s,out,r,e,k⟩=>by
 obtain⟨l,e0,e⟩:=Zd e
 obtain⟨a,e1,e⟩:=Zd e
 obtain⟨b,e2,e⟩:=Zd e
 obtain⟨ai,ea,e⟩:=Zd e
 obtain⟨bi,eb,e⟩:=Zd e
 obtain⟨m,em,e⟩:=Zd e
 obtain⟨j,ej,e⟩:=Zd e
 obtain⟨Uv,en,e⟩:=Zd e
 obtain⟨n,er,e⟩:=Zd e
 obtain⟨_,eg,e⟩:=Zd e
 rw[VP ea] at e1;rw[VP eb] at e2;rw[RG er] at en;have em:=VN em;have hc:=W3 eg;simp only[Bool.and_eq_true] at hc
 obtain⟨pn,pl⟩:=hc
 obtain⟨c,ec,rfl⟩:=map_some e
 obtain⟨p,xs,fq,hv,hp,hm,ef⟩:=r.lst_at hi em
 refine⟨fun _=>False,s,l,fun _ z=>z.elim,r.env,e0,fun y H1 fy s1 i1 _=>?_⟩
 refine⟨.ref p,hv,fun _=>False,s,_,fun _ z=>z.elim,r.env.mono s1,e1,fun z H2 fz s2 i2 _=>?_⟩
 obtain⟨rfl,_⟩:=i2.int_inv
 have s12:=s1.trans s2
 obtain⟨q,f1,hq,iq,subq⟩:=(hm.mono s12).get en
 obtain⟨qa,zs,fz',rfl,hqa,hz,rfl⟩:=id iq.lst_inv
 refine⟨p,xs,ai,.ref qa,rfl,rfl,SqL.of (s12 _ _ hp),?_,fun _=>False,s,_,fun _ z=>z.elim,r.env.mono s12,e2,fun w H3 fw s3 i3 _=>?_⟩
 ·unfold WT;rw[hm.len,ej];exact hq
 obtain⟨rfl,_⟩:=i3.int_inv
 have s123:=s12.trans s3;have r3:=r.grow s123
 have hqf:qa∈fps i:=by rw[ef];exact List.mem_cons_of_mem _ (subq qa List.mem_cons_self)
 have mu:=(r3.own i hi qa hqf).2
 have hqa3:H3 qa=some (.lst zs):=s3 _ _ hqa
 have:=Is.pure _ _ _ pl i1
 subst this
 refine⟨qa,zs,bi,c,rfl,rfl,hqa3,by rw[hz.len];exact ec,?_⟩
 have nd:=r.nd i hi;rw[ef] at nd
 have hqp:qa≠p:=fun z=>(List.nodup_cons.mp nd).1 (z▸subq qa List.mem_cons_self)
 have newrow:Iss X.K (L2.upd H3 qa (.lst (zs.set c y))) (n.set c l) (zs.set c y) []:=Iss.tr (TK.upd' mu) _ _ _ (fun q hq=>by simp at hq) (Iss.setP c pn pl ((hz.mono s3).pureEq pn) (i1.mono (s2.trans s3)))
 have rows:=Iss.setRow (hm.mono s123) en hq (List.nodup_cons.mp nd).2 mu pn newrow
 refine k _ _ _ (r3.mutate (o:=.lst (zs.set c y)) (l':=.lst (m.set j (.lst (n.set c l)))) (fp':=p::fq) hi hqf hv (W0 em) (Is.lst (by rw[L2.upd_ne (Ne.symm hqp)];exact s123 _ _ hp) rows) nd (fun q hq=>?_) (fun j hj q hq z=>r.dis i hi j hj q (by rw[ef];exact hq) z) True.intro) Sf
 refine⟨(r.own i hi q (by rw[ef];exact hq)).1,?_⟩
 by_cases e:q=qa
 ·subst e;rw[upd_same];exact True.intro
 ·rw[L2.upd_ne e];exact(r3.own i hi q (by rw[ef];exact hq)).2
end VL
namespace VL
open PySem PySem.Spec PyProof.Rows L2
variable {K:PySem.W.Frag}
def Tn:PV->Option Z4
 | .int i=>some (.inl i)
 | .str x=>some (.inr x)
 | _=>none
def RH:List PV->Option (List Z4)
 | []=>some []
 | a::r=>(Tn a).bind fun k=>(RH r).map (k::·)
def To:PV->Option (List Z4)
 | .tup l=>RH l
 | _=>none
def kP:Z4->PV
 | .inl i=>.int i
 | .inr x=>.str x
theorem SR{H:Hp}{a:PV}{k:Z4}{v:V}{fp:List Addr}(e:Tn a=some k)(h:Is K H a v fp):v=kV k/\fp=[]:=by
 cases a with
 | int i=>cases e;exact h.int_inv
 | str x=>cases e;exact h.str_inv
 | _=>cases e
theorem RI{H:Hp}:∀{l:List PV}{ks:List Z4}{xs:List V}{fp:List Addr},RH l=some ks->Iss K H l xs fp->xs=ks.map kV/\fp=[]
 | [],ks,xs,fp,e,h=>by
  cases e
  simpa only[List.map_nil,Iss] using h
 | a::r,ks,xs,fp,e,h=>by
  obtain⟨k,e1,e⟩:=Zd (show(Tn a).bind (fun k=>(RH r).map (k::·))=some ks from e)
  obtain⟨kr,e2,rfl⟩:=map_some e
  obtain⟨x,rr,f1,f2,rfl,h1,h2,rfl⟩:=h.inv
  obtain⟨rfl,rfl⟩:=SR e1 h1
  obtain⟨rfl,rfl⟩:=RI e2 h2
  exact⟨rfl,rfl⟩
theorem Py{H:Hp}{a:PV}{k:List Z4}{v:V}{fp:List Addr}(e:To a=some k)(h:Is K H a v fp):∃b,v = .ref b/\H b=some (.tup (k.map kV)):=by
 cases a with
 | tup l=>
  obtain⟨p,xs,rfl,hp,hi⟩:=h.tup_inv
  obtain⟨rfl,_⟩:=RI (show RH l=some k from e) hi
  exact⟨p,rfl,hp⟩
 | _=>cases e
theorem Ih{H:Hp}(k:Z4):Is K H (kP k) (kV k) []:=by
 cases k with
 | inl i=>exact Is.int i
 | inr x=>exact Is.str x
theorem Nw{H:Hp}:∀(ks:List Z4),Iss K H (ks.map kP) (ks.map kV) []
 | []=>Iss.nil
 | k::r=>Iss.cons (f1:=[]) (Ih k) (Nw r)
section
variable {κ:Type} [DecidableEq κ]
def XV(ks:List κ)(vs:List PV)(k:κ):Option PV:=((ks.zip vs).find? fun z=>decide (z.1=k)).map (·.2)
def WK(ks:List κ)(k:κ):List κ:=if k∈ks then ks else ks++[k]
def WM(ks:List κ)(vs:List PV)(k:κ)(v:PV):List PV:=if k∈ks then(ks.zip vs).map fun z=>if z.1=k then v else z.2 else vs++[v]
theorem Tp{H:Hp}:∀{kvs:List (κ×V)}{l:List PV}{fq:List Addr}(k:κ),Iss K H l (kvs.map (·.2)) fq->
  (XV (kvs.map (·.1)) l k=none/\WD kvs k=none)\/∃a x f,XV (kvs.map (·.1)) l k=some a/\WD kvs k=some x/\Is K H a x f/\∀p∈f,p∈fq
 | [],l,fq,k,h=>.inl ⟨by unfold XV;simp,rfl⟩
 | kv::r,[],fq,k,h=>by have:=h.len;simp at this
 | kv::r,a::l,fq,k,h=>by
  obtain⟨x,rr,f1,f2,e,h1,h2,rfl⟩:=h.inv
  cases e
  by_cases hk:kv.1=k
  ·refine .inr ⟨a,kv.2,f1,?_,Vv hk,h1,fun p hp=>List.mem_append_left _ hp⟩
   unfold XV;rw[List.map_cons,List.zip_cons_cons,List.find?_cons];simp[hk]
  ·have e1:XV ((kv::r).map (·.1)) (a::l) k=XV (r.map (·.1)) l k:=by
    unfold XV;rw[List.map_cons,List.zip_cons_cons,List.find?_cons];simp[hk]
   rw[e1,Vw hk]
   rcases Tp (l:=l) k h2 with z | ⟨b,y,f,z1,z2,z3,z4⟩
   ·exact .inl z
   ·exact .inr ⟨b,y,f,z1,z2,z3,fun p hp=>List.mem_append_right _ (z4 p hp)⟩
theorem any_mem{kvs:List (κ×V)}{k:κ}:(kvs.any fun kv=>decide (kv.1=k))=true↔k∈kvs.map (·.1):=by
 rw[List.any_eq_true,List.mem_map];constructor
 ·rintro⟨x,hx,e⟩;exact⟨x,hx,of_decide_eq_true e⟩
 ·rintro⟨x,hx,e⟩;exact⟨x,hx,decide_eq_true e⟩
theorem Pz{kvs:List (κ×V)}{k:κ}{x:V}:(Wa kvs k x).map (·.1)=WK (kvs.map (·.1)) k:=by
 unfold Wa WK
 by_cases h:k∈kvs.map (·.1)
 ·rw[if_pos (any_mem.mpr h),if_pos h,List.map_map]
  apply List.map_congr_left
  intro z _
  show(if z.1=k then(z.1,x) else z).1=z.1
  split<;>rfl
 ·rw[if_neg (fun z=>h (any_mem.mp z)),if_neg h,List.map_append];rfl
theorem PB{H:Hp}{kvs:List (κ×V)}{l:List PV}{k:κ}{a:PV}{x:V}(h:Iss K H l (kvs.map (·.2)) [])(hp:Zp l=true)(ha:Is K H a x [])(pa:ZL a=true):Iss K H (WM (kvs.map (·.1)) l k a) ((Wa kvs k x).map (·.2)) []:=by
 unfold Wa WM
 by_cases hk:k∈kvs.map (·.1)
 ·rw[if_pos (any_mem.mpr hk),if_pos hk]
  clear hk
  induction kvs generalizing l with
  | nil=>
   have:=h.len
   cases l with
   | nil=>exact Iss.nil
   | cons _ _=>simp at this
  | cons kv r ih=>
   cases l with
   | nil=>have:=h.len;simp at this
   | cons b l=>
    obtain⟨y,rr,f1,f2,e,h1,h2,e2⟩:=h.inv
    cases e;simp only[Zp,Bool.and_eq_true] at hp;have z1:=Is.pure _ _ _ hp.1 h1;have z2:=Iss.pure _ _ _ hp.2 h2
    subst z1 z2
    have ih:=ih h2 hp.2;rw[List.map_cons,List.zip_cons_cons,List.map_cons,List.map_cons,List.map_cons]
    by_cases e:kv.1=k
    ·rw[if_pos e,if_pos e]
     exact Iss.cons (f1:=[]) ha ih
    ·rw[if_neg e,if_neg e]
     exact Iss.cons (f1:=[]) h1 ih
 ·rw[if_neg (fun z=>hk (any_mem.mp z)),if_neg hk,List.map_append]
  exact h.append (Iss.one ha)
end
def XM:PV->PV->Option PV
 | .dK ks vs,k=>(Tn k).bind fun k=>XV ks vs k
 | .dT ks vs,k=>(To k).bind fun k=>XV ks vs k
 | _,_=>none
def IK:PV->PV->Option Bool
 | .dK ks vs,k=>(Tn k).map fun k=>(XV ks vs k).isSome
 | .dT ks vs,k=>(To k).map fun k=>(XV ks vs k).isSome
 | _,_=>none
theorem PD{H:Hp}{d k:PV}{x y:V}{fd fk:List Addr}(hd:Is K H d x fd)(hk:Is K H k y fk){b:Bool}(e:IK d k=some b):∃a o,x = .ref a/\Od H a y o/\o.isSome=b/\((XM d k=none/\o=none)\/∃c v f,XM d k=some c/\o=some v/\Is K H c v f/\∀p∈f,p∈fd):=by
 cases d with
 | dK ks vs=>
  obtain⟨kk,e1,rfl⟩:=map_some (show(Tn k).map (fun k=>(XV ks vs k).isSome)=some b from e)
  obtain⟨p,kvs,fq,rfl,hp,rfl,hi,rfl⟩:=hd.dK_inv
  obtain⟨rfl,_⟩:=SR e1 hk
  refine⟨p,WD kvs kk,rfl,.inl ⟨kvs,kk,hp,rfl,rfl⟩,?_,?_⟩
  ·rcases Tp kk hi with⟨z1,z2⟩ | ⟨a,v,f,z1,z2,_⟩<;>rw[z1,z2]<;>rfl
  ·show(XM (.dK _ vs) k=none/\_)\/_
   have eg:XM (.dK (kvs.map (·.1)) vs) k=XV (kvs.map (·.1)) vs kk:=by show(Tn k).bind _=_;rw[e1];rfl
   rw[eg]
   rcases Tp kk hi with z | ⟨a,v,f,z1,z2,z3,z4⟩
   ·exact .inl z
   ·exact .inr ⟨a,v,f,z1,z2,z3,fun q hq=>List.mem_cons_of_mem _ (z4 q hq)⟩
 | dT ks vs=>
  obtain⟨kk,e1,rfl⟩:=map_some (show(To k).map (fun k=>(XV ks vs k).isSome)=some b from e)
  obtain⟨p,kvs,fq,rfl,hp,rfl,hi,rfl⟩:=hd.dT_inv
  obtain⟨b,rfl,hb⟩:=Py e1 hk
  refine⟨p,WD kvs kk,rfl,.inr ⟨kvs,kk,b,hp,rfl,hb,rfl⟩,?_,?_⟩
  ·rcases Tp kk hi with⟨z1,z2⟩ | ⟨a,v,f,z1,z2,_⟩<;>rw[z1,z2]<;>rfl
  ·have eg:XM (.dT (kvs.map (·.1)) vs) k=XV (kvs.map (·.1)) vs kk:=by show(To k).bind _=_;rw[e1];rfl
   rw[eg]
   rcases Tp kk hi with z | ⟨a,v,f,z1,z2,z3,z4⟩
   ·exact .inl z
   ·exact .inr ⟨a,v,f,z1,z2,z3,fun q hq=>List.mem_cons_of_mem _ (z4 q hq)⟩
 | _=>cases e
theorem M8{d k c:PV}(h:XM d k=some c):IK d k=some true:=by
 cases d with
 | dK ks vs=>
  obtain⟨kk,e1,e2⟩:=Zd (show(Tn k).bind (fun k=>XV ks vs k)=some c from h)
  show(Tn k).map _=_
  rw[e1];show some ((XV ks vs kk).isSome)=_;rw[e2];rfl
 | dT ks vs=>
  obtain⟨kk,e1,e2⟩:=Zd (show(To k).bind (fun k=>XV ks vs k)=some c from h)
  show(To k).map _=_
  rw[e1];show some ((XV ks vs kk).isSome)=_;rw[e2];rfl
 | _=>cases h
section
variable {X:Cx} {o i e f:Expr} {fd fk fx:XE} {pos apos cpos:Pos}
theorem Nx:∀Z H Q,tF K (Zi XM fd fk) Z H Q->LK (tF K fd) (tF K fk) Z H Q:=fun Z H Q ⟨Rm,s,l,hd,env,e,k⟩=>by
 obtain⟨d,kk,e1,e2,e3⟩:=XH e
 refine⟨Rm,s,d,hd,env,e1,fun x H1 f1 s1 i1 n1=>⟨Rm,s,kk,fun p hp=>Same.mut s1 (hd p hp),env.mono s1,e2,fun y H2 f2 s2 i2 n2=>?_⟩⟩
 obtain⟨a,ov,rfl,dg,_,alt⟩:=PD (i1.mono s2) i2 (M8 e3)
 rcases alt with⟨z,_⟩ | ⟨c,v,fv,z1,rfl,z3,z4⟩
 ·rw[z] at e3;cases e3
 ·rw[z1] at e3;cases e3
  exact⟨a,v,rfl,dg,k v H2 fv (s1.trans s2) z3 fun p hp=>n1 p (z4 p hp)⟩
theorem SS(hu:X.A.units+1<cLine)(ho:VE X o fd)(hi:VE X i fk)(hs:Kv i:=by exact fun _ _=>rfl):VE X (.Subscript o i pos) (Zi XM fd fk):=PE.imp (MI hu ho hi hs) Nx
def Qz(neg:Bool)(fk fd:XE):XE:=fun s=>(fk s).bind fun k=>(fd s).bind fun d=>(IK d k).map fun b=>.bl (if neg then !b else b)
theorem QA:∀Z H Q,tF K (Qz true fk fd) Z H Q->Pl (tF K fk) (tF K fd) Z H Q:=fun Z H Q ⟨Rm,s,l,hd,env,e,k⟩=>by
 obtain⟨kk,e1,e⟩:=Zd e
 obtain⟨d,e2,e⟩:=Zd e
 obtain⟨b,e3,rfl⟩:=map_some e
 refine⟨Rm,s,kk,hd,env,e1,fun y H1 f1 s1 i1 n1=>⟨Rm,s,d,fun p hp=>Same.mut s1 (hd p hp),env.mono s1,e2,fun x H2 f2 s2 i2 n2=>?_⟩⟩
 obtain⟨a,ov,rfl,dg,rfl,_⟩:=PD i2 (i1.mono s2) e3
 exact⟨a,ov,rfl,dg,k _ H2 [] (s1.trans s2) (Is.bl _) fun p hp=>by simp at hp⟩
theorem Ou(hu:X.A.units+1<cLine)(hi:VE X i fk)(ho:VE X o fd)(hm:behindInMarks .NotIn o=false:=by with_unfolding_all rfl):VT X (.Compare i [.NotIn] [o] pos) (xB (Qz true fk fd)):=PT.imp (O2 (Og hu hi ho) hm) fun Z H Q h=>Pt QA Z H Q (LL Z H Q h)
end
def M9(d k v:PV):Option PV:=match d with
 | .dT ks vs=>(gd (Zp vs&&ZL v&&decide (ks.length<=10000))).bind fun _=>(To k).map fun k=>.dT (WK ks k) (WM ks vs k v)
 | .dK ks vs=>(gd (Zp vs&&ZL v&&decide (ks.length<=10000))).bind fun _=>(Tn k).map fun k=>.dK (WK ks k) (WM ks vs k v)
 | _=>none
def sDPut(i:Nat)(fk fv:XE):XS:=fun s=>(fv s).bind fun v=>(fk s).bind fun k=>((s[i]?).join).bind fun d=>(M9 d k v).map fun d=>.nx (s.set i (some d))
theorem UP{X:Cx}{O:List Nat}{i:Nat}{st:Stmt}{fk fv:XE}(h:PS X st (L2.sDPut (Vr i) (tF X.K fk) (tF X.K fv)))(hi:i∈O:=by decide):VS X O [i] st (sDPut i fk fv):=PS.imp h fun D Z H ⟨H0,fps,s,out,r,e,k⟩=>by
 obtain⟨v,e1,e⟩:=Zd e
 obtain⟨kk,e2,e⟩:=Zd e
 obtain⟨d,em,e⟩:=Zd e
 obtain⟨d',ed,rfl⟩:=map_some e
 have em:=join_some em
 cases d with
 | dT ks vs=>
  obtain⟨_,eg,ed⟩:=Zd (show(gd (Zp vs&&ZL v&&decide (ks.length<=10000))).bind (fun _=>(To kk).map fun k=>PV.dT (WK ks k) (WM ks vs k v))=some d' from ed)
  have hc:=W3 eg;simp only[Bool.and_eq_true,decide_eq_true_eq] at hc
  obtain⟨⟨pm,pl⟩,hlen⟩:=hc
  obtain⟨kt,e3,rfl⟩:=map_some ed
  obtain⟨p,kvs,fq,hv,hp,rfl,hm,ef⟩:=r.dT_at hi em
  refine⟨fun _=>False,s,v,fun _ z=>z.elim,r.env,e1,fun y H1 fy s1 i1 _=>⟨.ref p,hv,fun _=>False,s,kk,fun _ z=>z.elim,r.env.mono s1,e2,fun z H2 fz s2 i2 _=>?_⟩⟩
  have s12:=s1.trans s2
  obtain⟨b,rfl,hb⟩:=Py e3 i2
  have z1:=Is.pure _ _ _ pl i1;subst z1
  have hm':=(hm.mono s12).pureEq pm
  have z2:=Iss.pure _ _ _ pm hm;subst z2;have r2:=r.grow s12
  have hpf:p∈fps i:=by rw[ef];exact List.mem_cons_self
  have mu:=(r2.own i hi p hpf).2
  refine⟨p,_,rfl,.inr ⟨kvs,kt,b,s12 _ _ hp,rfl,hb,by rw[<-List.length_map (·.1)];exact lt_size hlen,rfl⟩,?_⟩
  refine k _ _ _ (r2.mutate (o:=.dT (Wa kvs kt y)) (l':=.dT (WK (kvs.map (·.1)) kt) (WM (kvs.map (·.1)) vs kt v)) (fp':=[p]) hi hpf hv (W0 em) (Is.dT upd_same Pz (Iss.tr (TK.upd' mu) _ _ _ (fun q hq=>by simp at hq) (PB hm' pm (i1.mono s2) pl))) (by simp) (fun q hq=>?_) (fun j hj q hq z=>r.dis i hi j hj q (by rw[ef];exact hq) z) True.intro) Sf
  rw[List.mem_singleton.mp hq]
  exact⟨(r.own i hi p hpf).1,by rw[upd_same];exact True.intro⟩
 | dK ks vs=>
  obtain⟨_,eg,ed⟩:=Zd (show(gd (Zp vs&&ZL v&&decide (ks.length<=10000))).bind (fun _=>(Tn kk).map fun k=>PV.dK (WK ks k) (WM ks vs k v))=some d' from ed)
  have hc:=W3 eg;simp only[Bool.and_eq_true,decide_eq_true_eq] at hc
  obtain⟨⟨pm,pl⟩,hlen⟩:=hc
  obtain⟨kt,e3,rfl⟩:=map_some ed
  obtain⟨p,kvs,fq,hv,hp,rfl,hm,ef⟩:=r.dK_at hi em
  refine⟨fun _=>False,s,v,fun _ z=>z.elim,r.env,e1,fun y H1 fy s1 i1 _=>⟨.ref p,hv,fun _=>False,s,kk,fun _ z=>z.elim,r.env.mono s1,e2,fun z H2 fz s2 i2 _=>?_⟩⟩
  have s12:=s1.trans s2
  obtain⟨rfl,_⟩:=SR e3 i2
  have z1:=Is.pure _ _ _ pl i1;subst z1
  have hm':=(hm.mono s12).pureEq pm
  have z2:=Iss.pure _ _ _ pm hm;subst z2;have r2:=r.grow s12
  have hpf:p∈fps i:=by rw[ef];exact List.mem_cons_self
  have mu:=(r2.own i hi p hpf).2
  refine⟨p,_,rfl,.inl ⟨kvs,kt,s12 _ _ hp,rfl,by rw[<-List.length_map (·.1)];exact lt_size hlen,rfl⟩,?_⟩
  refine k _ _ _ (r2.mutate (o:=.dK (Wa kvs kt y)) (l':=.dK (WK (kvs.map (·.1)) kt) (WM (kvs.map (·.1)) vs kt v)) (fp':=[p]) hi hpf hv (W0 em) (Is.dK upd_same Pz (Iss.tr (TK.upd' mu) _ _ _ (fun q hq=>by simp at hq) (PB hm' pm (i1.mono s2) pl))) (by simp) (fun q hq=>?_) (fun j hj q hq z=>r.dis i hi j hj q (by rw[ef];exact hq) z) True.intro) Sf
  rw[List.mem_singleton.mp hq]
  exact⟨(r.own i hi p hpf).1,by rw[upd_same];exact True.intro⟩
 | _=>cases ed
end VL
namespace VL
open PySem PySem.Spec PyProof.Rows L2
variable {K:PySem.W.Frag}
section
variable {X:Cx} {a b c d:Expr} {fa fb fc fd:XE} {pos:Pos}
theorem RJ(hu:X.A.units+64<cLine)(ha:VE X a fa)(hb:VE X b fb):VE X (.Compare a [.Eq] [b] pos) (Zi (Xq false) fa fb):=KG (Nq hu) (Qt false) ha hb (Sx _)
theorem Ii(hu:X.A.units+64<cLine)(ha:VE X a fa)(hb:VE X b fb):VT X (.Compare a [.Eq] [b] pos) (xB (Zi (Xq false) fa fb)):=Tb (Nq hu) (Qt false) ha hb (Sx _)
theorem VQ(hu:X.A.units+64<cLine)(ha:VE X a fa)(hb:VE X b fb):VT X (.Compare a [.NotEq] [b] pos) (xB (Zi (Xq true) fa fb)):=Tb (KQ hu) (Qt true) ha hb (Sx _)
theorem LP(hu:X.A.units+64<cLine)(ha:VE X a fa)(hb:VE X b fb)(hm:behindInMarks .In b=false:=by with_unfolding_all rfl):VT X (.Compare a [.In] [b] pos) (xB (Zi (RD false) fa fb)):=Tb (KS hu) (Nr false) ha hb hm
theorem RK(hu:X.A.units+64<cLine)(ha:VE X a fa)(hb:VE X b fb)(hm:behindInMarks .NotIn b=false:=by with_unfolding_all rfl):VT X (.Compare a [.NotIn] [b] pos) (xB (Zi (RD true) fa fb)):=Tb (Oo hu) (Nr true) ha hb hm
def La:PV->Option Bool
 | .bl c=>some c
 | _=>none
theorem Ny{a:PV}{k:Bool}(h:La a=some k):a = .bl k:=by
 unfold La at h;split at h
 ·cases h;rfl
 ·cases h
def LQ(g h:PV->PV->Option PV)(a b c:XE):XE:=fun s=>(a s).bind fun x=>(b s).bind fun y=>((g x y).bind La).bind fun k=>if k=true then(c s).bind fun z=>h y z else some (.bl false)
theorem Nz{r r':R2}{g h:PV->PV->Option PV}(hr:RB K r g)(hr':RB K r' h):∀Z H Q,tF K (LQ g h fa fb fc) Z H Q->O6 r r' (tF K fa) (tF K fb) (tF K fc) Z H Q:=fun Z H Q ⟨Rm,s,l,hd,env,e,k⟩=>by
 obtain⟨x',e1,e⟩:=Zd e
 obtain⟨y',e2,e⟩:=Zd e
 obtain⟨b,e3,e⟩:=Zd e
 obtain⟨z',e3,eb⟩:=Zd e3
 rw[Ny eb] at e3
 refine⟨Rm,s,x',hd,env,e1,fun x H1 f1 s1 i1 n1=>⟨Rm,s,y',fun p hp=>Same.mut s1 (hd p hp),env.mono s1,e2,fun y H2 f2 s2 i2 n2=>?_⟩⟩
 refine hr H2 x y x' y' _ f1 f2 (i1.mono s2) i2 e3 _ fun v H3 fp s3 i3 n3=>⟨b,i3.bl_inv.1,?_⟩
 have s123:=s1.trans (s2.trans s3)
 cases b with
 | false=>
  rw[if_neg Bool.false_ne_true] at e ⊢
  cases e
  exact k _ H3 [] s123 (Is.bl _) fun p hp=>by simp at hp
 | true=>
  rw[if_pos rfl] at e ⊢
  obtain⟨w',e4,e⟩:=Zd e
  refine⟨Rm,s,w',fun p hp=>Same.mut s123 (hd p hp),env.mono s123,e4,fun w H4 f4 s4 i4 n4=>?_⟩
  refine hr' H4 y w y' w' l f2 f4 (i2.mono (s3.trans s4)) i4 e Q fun v H5 fp5 s5 i5 n5=>k v H5 fp5 (s123.trans (s4.trans s5)) i5 fun p hp z=>?_
  rcases n5 p hp with q | q | q
  ·exact n2 p q z
  ·exact n4 p q z
  ·exact Yj (Same.mut (s123.trans s4) (hd p z)) q
theorem NA{op op':CmpOp}{r r':R2}{g h:PV->PV->Option PV}(ho:Uf X (compareOp op) r)(ho':Uf X (compareOp op') r')(hr:RB X.K r g)(hr':RB X.K r' h)(ha:VE X a fa)(hb:VE X b fb)(hc:VE X c fc)
  (hm:lastMarks [op,op'] [b,c]=false:=by with_unfolding_all rfl):VT X (.Compare a [op,op'] [b,c] pos) (xB (LQ g h fa fb fc)):=PT.imp (O7 ho ho' ha hb hc hm) fun Z H Q q=>Ta (Nz hr hr') Z H Q (Rw Z H Q q)
end
section
variable {X:Cx} {a b:Expr} {fa fb:XE} {pos:Pos}
def gCat:PV->PV->Option PV
 | .lst m,.lst n=>if m.length+n.length<=10000 then some (.lst (m++n)) else none
 | _,_=>none
def ZJ:PV->PV->Option PV
 | .lst m,.lst n=>if m.length+n.length<=10000/\Zp m=true/\Zp n=true then some (.lst (m++n)) else none
 | _,_=>none
theorem YN(ha:VE X a fa)(hb:VE X b fb):VM X (.BinOp a .Add b pos) (Zi ZJ fa fb):=PE.imp (Q9 O9 ha hb) fun Z H Q ⟨s,l,env,e,k⟩=>by
 obtain⟨x',y',e1,e2,e⟩:=XH e
 refine⟨fun _=>False,s,x',fun _ z=>z.elim,env,e1,fun x H1 f1 s1 i1 _=>⟨fun _=>False,s,y',fun _ z=>z.elim,env.mono s1,e2,fun y H2 f2 s2 i2 _=>?_⟩⟩
 cases x' with
 | lst m=>cases y' with
  | lst n=>
   have e:(if m.length+n.length<=10000/\Zp m=true/\Zp n=true then some (PV.lst (m++n)) else none)=some l:=e
   split at e
   case isFalse=>cases e
   rename_i hl
   cases e
   obtain⟨p,xs,fq,rfl,hp,hi,rfl⟩:=i1.lst_inv
   obtain⟨p',ys,fq',rfl,hp',hi',rfl⟩:=i2.lst_inv
   refine⟨p,p',xs,ys,rfl,rfl,s2 _ _ hp,hp',by rw[hi.len,hi'.len];exact Nat.le_of_lt (lt_size hl.1),fun q hq=>?_⟩
   refine k _ _ [q] (s1.trans (s2.trans (Same.new hq _))) (Is.lst upd_same ((((hi.mono s2).pureEq hl.2.1).append (hi'.pureEq hl.2.2)).mono (Same.new hq _))) (by simp) fun r hr=>?_
   rw[List.mem_singleton.mp hr]
   exact⟨Same.off (s1.trans s2) hq,by rw[upd_same];exact True.intro⟩
  | _=>cases e
 | _=>cases e
def NB:PV->PV->Option PV
 | .lst m,.int k=>if Zp m=true/\-1000000<=k/\k<=1000000/\m.length*k.toNat<=10000 then some (.lst (List.replicate k.toNat m).flatten) else none
 | _,_=>none
theorem Iss.rep{H:Hp}{m:List PV}{xs:List V}(h:Iss K H m xs []):∀k:Nat,Iss K H (List.replicate k m).flatten (List.replicate k xs).flatten []
 | 0=>Iss.nil
 | k+1=>by
  rw[List.replicate_succ,List.replicate_succ,List.flatten_cons,List.flatten_cons]
  exact h.append (Iss.rep h k)
theorem KW(ha:VE X a fa)(hb:VE X b fb):VM X (.BinOp a .Mult b pos) (Zi NB fa fb):=PE.imp (Q9 Kt ha hb) fun Z H Q ⟨s,l,env,e,k⟩=>by
 obtain⟨x',y',e1,e2,e⟩:=XH e
 refine⟨fun _=>False,s,x',fun _ z=>z.elim,env,e1,fun x H1 f1 s1 i1 _=>⟨fun _=>False,s,y',fun _ z=>z.elim,env.mono s1,e2,fun y H2 f2 s2 i2 _=>?_⟩⟩
 cases x' with
 | lst m=>cases y' with
  | int n=>
   have e:(if Zp m=true/\-1000000<=n/\n<=1000000/\m.length*n.toNat<=10000 then some (PV.lst (List.replicate n.toNat m).flatten) else none)=some l:=e
   split at e
   case isFalse=>cases e
   rename_i hl
   cases e
   obtain⟨p,xs,fq,rfl,hp,hi,rfl⟩:=i1.lst_inv
   refine⟨p,n,xs,rfl,i2.int_inv.1,s2 _ _ hp,by omega,by omega,by rw[hi.len];exact Nat.le_of_lt (lt_size hl.2.2.2),fun q hq=>?_⟩
   refine k _ _ [q] (s1.trans (s2.trans (Same.new hq _))) (Is.lst upd_same ((Iss.rep ((hi.mono s2).pureEq hl.1) n.toNat).mono (Same.new hq _))) (by simp) fun r hr=>?_
   rw[List.mem_singleton.mp hr]
   exact⟨Same.off (s1.trans s2) hq,by rw[upd_same];exact True.intro⟩
  | _=>cases e
 | _=>cases e
end
theorem Iss.fps{H:Hp}:∀{ls:List PV}{vs:List V}{fp:List Addr},Iss K H ls vs fp->∃fps:Nat->List Addr,(∀(i:Nat) l,ls[i]?=some l->∃v,vs[i]?=some v/\Is K H l v (fps i))/\∀i,ls.length<=i->fps i=[]
 | [],vs,fp,h=>⟨fun _=>[],fun i l e=>by simp at e,fun _ _=>rfl⟩
 | a::ls,vs,fp,h=>by
  obtain⟨x,r,f1,f2,rfl,h1,h2,rfl⟩:=h.inv
  obtain⟨fps,p1,p2⟩:=h2.fps
  refine⟨fun i=>match i with | 0=>f1 | k+1=>fps k,fun i l e=>?_,fun i hi=>?_⟩
  ·cases i with
   | zero=>simp at e;subst e;exact⟨x,rfl,h1⟩
   | succ k=>
    obtain⟨v,a,b⟩:=p1 k l (by simpa using e)
    exact⟨v,by simpa using a,b⟩
  ·cases i with
   | zero=>simp at hi
   | succ k=>exact p2 k (by simpa using hi)
def ZV(m:Nat)(ls:List PV):ZD:=ls.map some++List.replicate (m-ls.length) none
def X6:Os->Option PV
 | .rt v=>some v
 | .nx _=>some .non
 | _=>none
def X8(m:Nat)(f:XS):List PV->Option PV:=fun ls=>(f (ZV m ls)).bind X6
theorem SU{N:List Str}{n:Nat}{O W:List Nat}{f:XS}{vs:List V}{H:Hp}{Q:VK}{E:XK}(hO:∀i∈O,n<=i)(h:XW K (X8 N.length f) n vs H Q E):Ml K O W f { nx:=fun _ H'=>Q .non H',rt:=Q } (L2.start N vs) H:=by
 obtain⟨hl,ls,fp,l,hi,e,q⟩:=h
 obtain⟨out,e1,e2⟩:=Zd e
 obtain⟨fps,p1,p2⟩:=hi.fps
 have hlen:=hi.len
 have hout:∀i:Nat,ls.length<=i->∀l,(ZV N.length ls)[i]?≠some (some l):=fun i hi l z=>by
  unfold ZV at z;rw[List.getElem?_append_right (by simpa using hi),List.getElem?_replicate] at z
  split at z<;>cases z
 have rel:Rel K O H fps (ZV N.length ls) (L2.start N vs) H:=by
  refine⟨Same.refl H,?_,fun i a z=>?_,fun i hne=>?_,fun i hi=>?_,fun i hi p hp=>?_,fun i hi j hj p hp=>?_⟩
  ·unfold ZV L2.start;simp[hlen]
  ·by_cases hil:i<ls.length
   ·unfold ZV at z
    rw[List.getElem?_append_left (by simpa using hil),List.getElem?_map] at z
    cases q:ls[i]? with
    | none=>rw[q] at z;cases z
    | some b=>
     rw[q] at z;cases z
     obtain⟨v,a1,b1⟩:=p1 i a q
     refine⟨v,?_,b1⟩
     unfold L2.start
     rw[List.getElem?_append_left (by simpa [hlen] using hil),List.getElem?_map,a1];rfl
   ·exact absurd z (hout i (by omega) a)
  ·by_cases hil:i<ls.length
   ·exact absurd (by unfold ZV;rw[List.getElem?_append_left (by simpa using hil),List.getElem?_map,List.getElem?_eq_getElem hil];rfl) (hne ls[i])
   ·exact p2 i (by omega)
  ·rw[p2 i (by have:=hO i hi;omega)];exact List.nodup_nil
  ·rw[p2 i (by have:=hO i hi;omega)] at hp;simp at hp
  ·rw[p2 i (by have:=hO i hi;omega)] at hp;simp at hp
 refine⟨H,fps,ZV N.length ls,out,rel,e1,?_⟩
 cases out with
 | nx s'=>
  cases e2
  exact fun fps' Z' H' r' _=>q .non H' [] r'.same Is.non List.nodup_nil fun p hp=>by simp at hp
 | rt v=>
  cases e2
  exact fun v fp H' sm i d n=>q v H' fp sm i d n
 | bk s'=>cases e2
 | ct s'=>cases e2
section
variable {P:Program} {w:World} {mg:Str->Option Value} {base:Heap}
theorem Yy{x:Str}{st:Stmt}{N ps:List Str}{k n:Nat}{O W:List Nat}(m:Nat)(f:XS)(D:Def K mg x st)(S:ZE N ps (Zh st))
  (hb:∀(kV doc pm:Value)(an:Option Addr)(cdv ct:Value)(us:List Value),us.length=ps.length->bindArgs (PySem.W.fnOf x x (Zz st) (Zs st) (Zh st) .none kV doc pm an cdv ct) ⟨us,[]⟩=pure (ps.zip us))
  (hn:ps.length=n) (hm:N.length=m) (hO:∀i∈O,n<=i)
  (hbody:∀(fa:Addr)(cdv:Value)(A:Around)(outer:List Env)(s:Shared)(H:Hp)(E:XK),Room k (A.deeper (envOfC x (Zh st) s.heap.objs.size fa cdv))->Nu (U1 Pm P w K mg base N x (Zh st) fa cdv A outer s H E).nox O W (Zs st) f) :
  WA P w K mg base x ps (XW K (X8 m f) n) (k+1):=by
 subst hm
 refine D.cal S hb (fun vs H Q E h=>by rw[hn];exact h.1) fun fa cdv A outer s H vs Q E hr h=>⟨_,hbody fa cdv A outer s H E hr,SU hO h⟩
end
end VL
namespace VL
open PySem PySem.Spec PyProof.Rows L2
variable {K:PySem.W.Frag}
theorem Inv.thaw{X:Cx}{pins:List (Addr×Obj)}{Z:Ua}{H:Hp}{s:Shared}{d:Addr}{kvs:List (List Z4×V)}{o:Obj}(I:L2.Inv X pins Z H s)(hd:H d=some (.frz o (.dT kvs)))(h0:∀o u,X.H₀ d≠some (.frz o u)) :
  L2.Inv X pins Z (upd H d (.dT kvs)) s:=by
 have ne:∀b u,H b=some u->(∀o v,u≠.frz o v)->b≠d:=fun b u q n z=>by rw[z,hd] at q;exact n _ _ (Option.some.inj q).symm
 have nn:∀b,H b=none->b≠d:=fun b q z=>by rw[z,hd] at q;cases q
 have hok:HOk X.prog X.w (upd H d (.dT kvs)) s.heap:=fun b u q=>by
  have hown:∀c y,H c=some (.own y)->upd H d (.dT kvs) c=some (.own y):=fun c y z=>by rw[upd_ne (ne c _ z fun _ _ z=>nomatch z)];exact z
  have htup:∀c xs,H c=some (.tup xs)->upd H d (.dT kvs) c=some (.tup xs):=fun c y z=>by rw[upd_ne (ne c _ z fun _ _ z=>nomatch z)];exact z
  by_cases hb:b=d
  ·subst hb
   rw[upd_same] at q;cases q
   obtain⟨_,x⟩:=(show ObjOk X.prog X.w H s.heap b (.frz o (.dT kvs)) from I.hok b _ hd)
   exact ObjOk.stay x (fun _ _ _ z=>z) (fun c z=>hown c _ z) htup
  ·rw[upd_ne hb] at q
   exact(I.hok b u q).stay (fun _ _ _ z=>z) (fun c z=>hown c _ z) htup
 refine⟨I.ok,I.os,I.bare,⟨I.base.keep,I.base.slot,fun b o q n hx=>?_,I.base.there,fun b xs q=>?_,fun b o u q=>?_,fun b ps q=>?_⟩,I.loc,I.cell,?_,fun x c e=>?_,fun p hp=>?_,hok,I.len⟩
 ·have z:=I.base.free b o q n hx
  rw[upd_ne (nn b z)];exact z
 ·have z:=I.base.tups b xs q
  rw[upd_ne (ne b _ z fun _ _ z=>nomatch z)];exact z
 ·have z:=I.base.frzs b o u q
  have hb:b≠d:=fun e=>h0 o u (by rw[<-e];exact q)
  rw[upd_ne hb];exact z
 ·obtain⟨more,z⟩:=I.base.tbls b ps q
  exact⟨more,by rw[upd_ne (ne b _ z fun _ _ z=>nomatch z)];exact z⟩
 ·rw[upd_ne (nn _ I.free)];exact I.free
 ·rw[upd_ne (nn _ (I.freeC x c e))];exact I.freeC x c e
 ·obtain⟨a,b,c⟩:=I.pin p hp
  exact⟨a,by rw[upd_ne (nn _ b)];exact b,c⟩
def thaw(d:Addr)(kvs:List (List Z4×V))(D:Wy):Wy where
 nx:=fun Z H=>(∃o,H d=some (.frz o (.dT kvs)))/\D.nx Z (upd H d (.dT kvs))
 bk:=fun Z H=>(∃o,H d=some (.frz o (.dT kvs)))/\D.bk Z (upd H d (.dT kvs))
 ct:=fun Z H=>(∃o,H d=some (.frz o (.dT kvs)))/\D.ct Z (upd H d (.dT kvs))
 rt:=fun v H=>(∃o,H d=some (.frz o (.dT kvs)))/\D.rt v (upd H d (.dT kvs))
def LR(i:Nat)(g:TG)(tb:TS):TS:=fun D Z H=>∃d kvs,Z[i]?=some (some (.ref d))/\
 ((H d=some (.dT kvs)/\∀o,KA g tb (thaw d kvs D) Z (Ky d o kvs) (upd H d (.frz o (.dT kvs))))\/∃o,H d=some (.frz o (.dT kvs))/\KA g tb D Z (Ky d o kvs) H)
theorem PF{X:Cx}{st:Stmt}{i:Nat}{g:TG}{tb:TS}(h:PS X st (Mu (Pn (Vr i)) g tb)):PS X st (LR i g tb):=by
 intro pins s Z H D I hq
 obtain⟨d,kvs,hv,alt⟩:=hq
 rcases alt with⟨hd,q⟩ | ⟨o,hd,q⟩
 ·have h0:∀o u,X.H₀ d≠some (.frz o u):=fun o u z=>by
   have:=I.base.frzs d o u z
   rw[hd] at this;cases this
  have main:=h pins s Z H (thaw d kvs D) I ⟨.ref d,hv,d,kvs,rfl,.inl ⟨hd,q⟩⟩
  refine Z5 main fun f s' hsp=>?_
  cases f with
  | next=>
   obtain⟨Z',H',I',⟨o,ho⟩,q'⟩:=hsp
   exact⟨Z',_,Inv.thaw I' ho h0,q'⟩
  | brk=>
   obtain⟨Z',H',I',⟨o,ho⟩,q'⟩:=hsp
   exact⟨Z',_,Inv.thaw I' ho h0,q'⟩
  | cont=>
   obtain⟨Z',H',I',⟨o,ho⟩,q'⟩:=hsp
   exact⟨Z',_,Inv.thaw I' ho h0,q'⟩
  | ret u=>
   obtain⟨v,Z',H',I',r',⟨o,ho⟩,q'⟩:=hsp
   exact⟨v,Z',_,Inv.thaw I' ho h0,r',q'⟩
 ·exact h pins s Z H D I ⟨.ref d,hv,d,kvs,rfl,.inr ⟨o,hd,q⟩⟩
def Lb(k:List Z4):PV:=.tup (k.map kP)
theorem RL{Rm:Addr->Prop}{H1:Hp}{d:Addr}{o:Obj}{kvs:List (List Z4×V)}(hd:H1 d=some (.frz o (.dT kvs)))(hn:¬Rm d):II K Rm H1 (Ky d o kvs) ((kvs.map (·.1)).map Lb):=by
 refine⟨fun H' ab=>⟨ab d _ hd hn,by simp⟩,fun H' i l ab hl=>⟨ab d _ hd hn,by have:=(List.getElem?_eq_some_iff.mp hl).1;simpa using this⟩,fun H' i l x H'' ab hl y=>?_⟩
 obtain⟨rfl,b,k,v,hk,rfl,hb⟩:=y
 rw[List.getElem?_map,List.getElem?_map,hk] at hl;cases hl
 exact⟨Same.refl _,[],Is.tup hb (Nw k),fun p hp=>by simp at hp⟩
def Si:PV->Option (List PV)
 | .dT ks _=>some (ks.map Lb)
 | _=>none
def Tq(i:Nat)(T:Tgt)(fb:XS):XS:=fun s=>((s[i]?).join.bind Si).bind fun ls=>Xj T fb ls s
theorem Rd.dT_inj{H:Hp}{p:Addr}{xs ys:List (List Z4×V)}(a:Rd H p (.dT xs))(b:Rd H p (.dT ys)):xs=ys:=by
 rcases a with a | ⟨o,a⟩<;>rcases b with b | ⟨o',b⟩<;>rw[a] at b<;>cases b<;>rfl
theorem RdK.swap{H H':Hp}{d:Addr}{kvs:List (List Z4×V)}(h:Rd H d (.dT kvs))(h':Rd H' d (.dT kvs))(hs:∀b,b≠d->H' b=H b)(p:Addr):RdK H H' p:=by
 by_cases hp:p=d
 ·subst hp
  refine⟨fun xs z=>?_,fun k z=>?_,fun k z=>?_⟩
  ·rcases h with h | ⟨o,h⟩<;>rw[h] at z<;>cases z
  ·rcases h with h | ⟨o,h⟩<;>rcases z with z | ⟨o',z⟩<;>rw[h] at z<;>cases z
  ·rw[<-Rd.dT_inj h z];exact h'
 ·exact RdK.of fun o z=>by rw[hs p hp];exact z
theorem TK2.swap{H H':Hp}{d:Addr}{kvs:List (List Z4×V)}(h:Rd H d (.dT kvs))(hs:∀b,b≠d->H' b=H b):TK2 H H':=by
 have ne:∀b u,H b=some u->(∀k,u≠.dT k)->(∀o k,u≠.frz o (.dT k))->b≠d:=fun b u q n n' z=>by
  rw[z] at q
  rcases h with h | ⟨o,h⟩<;>rw[h] at q<;>cases q
  ·exact n _ rfl
  ·exact n' _ _ rfl
 exact⟨fun b xs z=>by rw[hs b (ne b _ z (fun _ z=>nomatch z) fun _ _ z=>nomatch z)];exact z,fun b o xs z=>by rw[hs b (ne b _ z (fun _ z=>nomatch z) fun o k z=>by cases z)];exact z,fun b o xs z=>by rw[hs b (ne b _ z (fun _ z=>nomatch z) fun o k z=>by cases z)];exact z⟩
section
variable {O W:List Nat} {T:Tgt} {fb:XS} {i:Nat}
theorem Sj{O':List Nat}{H0 H:Hp}{fps:Nat->List Addr}{s:ZD}{Z:Ua}{D:Wy}{out:Os}{ks:List (List Z4)}{vs:List PV}(r:Rel K O H0 fps s Z H)(hO':∀j∈O',j∈O/\j≠i)(e:s[i]?=some (some (.dT ks vs)))
  (ef:Xj T fb (ks.map Lb) s=some out) (hT:∀j∈T.slots,j∉O')
  (k:∀(F:Hp)(th:Hp->Hp),(∀b,H b≠none->¬Ow O' fps b->F b≠none)->Same H0 (th F)->(∀H',Same F H'->Same (th F) (th H')/\TK2 H' (th H')/\(∀p,RdK H' (th H') p)/\(∀p,F p=none->th H' p=H' p)/\(∀p,p∈fps i->¬Ow O' fps p->H p=th H' p))->(∀p,F p=none->H0 p=none)->
   ∀out',out=out'->match out' with
    | .nx s'=>∀fps' Z' H',Rel K O' F fps' s' Z' H'->(∀j,j∉T.slots++W->Z'[j]?=Z[j]?/\Kep (fps' j) (fps j))->D.nx Z' (th H')
    | .rt l=>∀v fp H',Same F H'->Is K H' l v fp->fp.Nodup->(∀p∈fp,F p=none/\X9 (H' p))->D.rt v (th H')
    | _=>True):LR i (gT K T) (Ml K O' W fb) D Z H:=by
 obtain⟨v,hv,iv⟩:=r.is i _ e
 obtain⟨d,kvs,fq,rfl,hd,rfl,hi,efp⟩:=iv.dT_inv
 have dO:¬Ow O' fps d:=fun⟨j,hj,hp⟩=>r.dis j (hO' j hj).1 i (Ne.symm (hO' j hj).2) d hp (by rw[efp];exact List.mem_cons_self)
 have owm:∀p,Ow O' fps p->H0 p=none/\X9 (H p):=fun p ⟨j,hj,hp⟩=>r.own j (hO' j hj).1 p hp
 -- the frame and the relation at the loop's start,in a heap that differs from H at d alone
 have start:∀H2:Hp,Rd H2 d (.dT kvs)->(∀b,b≠d->H2 b=H b)->Rel K O' (Xc H2 (Ow O' fps)) fps s Z H2:=fun H2 h2 hs=>by
  refine⟨Se,r.len,fun j l q=>?_,r.emp,fun j hj=>r.nd j (hO' j hj).1,fun j hj p hp=>⟨by unfold Xc;rw[if_pos ⟨j,hj,hp⟩],?_⟩,fun j hj=>r.dis j (hO' j hj).1⟩
  ·obtain⟨w,a,b⟩:=r.is j l q
   exact⟨w,a,Is.tr (TK2.swap hd hs) _ _ _ (fun p _=>RdK.swap hd h2 hs p) b⟩
  ·have pd:p≠d:=fun z=>dO ⟨j,hj,z▸hp⟩
   rw[hs p pd];exact(r.own j (hO' j hj).1 p hp).2
 have outk:∀(F:Hp)(th:Hp->Hp)(D':Wy),(∀Z' H',Same F H'->D.nx Z' (th H')->D'.nx Z' H')->(∀v H',Same F H'->D.rt v (th H')->D'.rt v H')->(∀b,H b≠none->¬Ow O' fps b->F b≠none)->Same H0 (th F)->(∀H',Same F H'->Same (th F) (th H')/\TK2 H' (th H')/\(∀p,RdK H' (th H') p)/\(∀p,F p=none->th H' p=H' p)/\(∀p,p∈fps i->¬Ow O' fps p->H p=th H' p))->(∀p,F p=none->H0 p=none)->(∀s',out≠.bk s')->(∀s',out≠.ct s')->OutOk K O' (T.slots++W) F fps Z D' out:=fun F th D' h1 h2 h3 h4 h5 h6 hb hc=>by
  have kk:=k F th h3 h4 h5 h6 out rfl
  cases out with
  | nx s'=>exact fun fps' Z' H' r' q'=>h1 Z' H' r'.same (kk fps' Z' H' r' q')
  | rt l=>exact fun v fp H' sm i d n=>h2 v H' sm (kk v fp H' sm i d n)
  | bk s'=>exact absurd rfl (hb s')
  | ct s'=>exact absurd rfl (hc s')
 have nobc:(∀s',out≠.bk s')/\(∀s',out≠.ct s'):=by
  have:∀(ls:List PV)(s:ZD)(o:Os),Xj T fb ls s=some o->(∀s',o≠.bk s')/\(∀s',o≠.ct s'):=by
   intro ls
   induction ls with
   | nil=>intro s o h;cases h;exact⟨fun _ z=>(nomatch z),fun _ z=>(nomatch z)⟩
   | cons l rr ih=>
    intro s o h;unfold Xj at h
    obtain⟨s1,_,h⟩:=Zd h
    obtain⟨o1,_,h⟩:=Zd h
    cases o1 with
    | nx s2=>exact ih s2 o h
    | ct s2=>exact ih s2 o h
    | bk s2=>cases h;exact⟨fun _ z=>(nomatch z),fun _ z=>(nomatch z)⟩
    | rt v=>cases h;exact⟨fun _ z=>(nomatch z),fun _ z=>(nomatch z)⟩
  exact this _ _ _ ef
 rcases hd with hd | ⟨o,hd⟩
 ·refine⟨d,kvs,hv,.inl ⟨hd,fun o=>?_⟩⟩
  have h2:upd H d (.frz o (.dT kvs)) d=some (.frz o (.dT kvs)):=upd_same
  have hs:∀b,b≠d->upd H d (.frz o (.dT kvs)) b=H b:=fun b hb=>upd_ne hb
  have Fd:Xc (upd H d (.frz o (.dT kvs))) (Ow O' fps) d=some (.frz o (.dT kvs)):=by unfold Xc;rw[if_neg dO];exact h2
  refine Tm (K:=K) (start _ (.inr ⟨o,h2⟩) hs) (RL h2 dO) ef hT (outk _ (fun Hx=>upd Hx d (.dT kvs)) (thaw d kvs D) (fun Z' H' sm q=>⟨⟨o,sm d _ Fd⟩,q⟩) (fun v H' sm q=>⟨⟨o,sm d _ Fd⟩,q⟩) (fun b hb nb=>?_) (fun b u h=>?_) (fun H' sm=>⟨?_,?_,fun p=>?_,fun p hp=>?_,fun p hp np=>?_⟩) (fun p hp=>?_) nobc.1 nobc.2)
  ·unfold Xc;rw[if_neg nb]
   by_cases e:b=d
   ·subst e;rw[h2];simp
   ·rw[hs b e];exact hb
  ·by_cases e:b=d
   ·subst e
    have:=r.same b u h
    rw[hd] at this;cases this;exact upd_same
   ·rw[upd_ne e]
    unfold Xc
    rw[if_neg (fun z=>by rw[(owm b z).1] at h;cases h),hs b e]
    exact r.same b u h
  ·intro b u h
   by_cases e:b=d
   ·subst e;rw[upd_same] at h ⊢;exact h
   ·rw[upd_ne e] at h ⊢;exact sm b u h
  ·exact TK2.swap (d:=d) (kvs:=kvs) (.inr ⟨o,sm d _ Fd⟩) fun b hb=>upd_ne hb
  ·exact RdK.swap (d:=d) (kvs:=kvs) (.inr ⟨o,sm d _ Fd⟩) (.inl upd_same) (fun b hb=>upd_ne hb) p
  ·exact upd_ne fun e=>by rw[e,Fd] at hp;cases hp
  ·by_cases e:p=d
   ·subst e;rw[hd];exact upd_same.symm
   ·show H p=upd H' d (.dT kvs) p
    rw[upd_ne e];have hpn:=r.dom i p hp
    cases q:H p with
    | none=>exact absurd q hpn
    | some u=>exact(sm p u (by unfold Xc;rw[if_neg np,hs p e];exact q)).symm
  ·cases q:H0 p with
   | none=>rfl
   | some u=>
    exfalso
    have hpd:p≠d:=fun e=>by rw[e,Fd] at hp;cases hp
    unfold Xc at hp
    rw[if_neg (fun z=>by rw[(owm p z).1] at q;cases q),hs p hpd,r.same p u q] at hp
    cases hp
 ·refine⟨d,kvs,hv,.inr ⟨o,hd,?_⟩⟩
  have Fd:Xc H (Ow O' fps) d=some (.frz o (.dT kvs)):=by unfold Xc;rw[if_neg dO];exact hd
  refine Tm (K:=K) (start H (.inr ⟨o,hd⟩) fun _ _=>rfl) (RL hd dO) ef hT (outk _ (fun Hx=>Hx) D (fun Z' H' sm q=>q) (fun v H' sm q=>q) (fun b hb nb=>by unfold Xc;rw[if_neg nb];exact hb) (fun b u h=>?_) (fun H' sm=>⟨sm,Same.tk2 (Same.refl _),fun p=>RdK.of fun _ z=>z,fun p _=>rfl,fun p hp np=>?_⟩) (fun p hp=>?_) nobc.1 nobc.2)
  ·unfold Xc
   rw[if_neg (fun z=>by rw[(owm b z).1] at h;cases h)]
   exact r.same b u h
  ·have hpn:=r.dom i p hp
   cases q:H p with
   | none=>exact absurd q hpn
   | some u=>exact(sm p u (by unfold Xc;rw[if_neg np];exact q)).symm
  ·cases q:H0 p with
   | none=>rfl
   | some u=>
    exfalso;unfold Xc at hp
    rw[if_neg (fun z=>by rw[(owm p z).1] at q;cases q),r.same p u q] at hp
    cases hp
end
section
variable {X:Cx} {O O' W:List Nat} {T:Tgt} {fb:XS} {i:Nat} {st:Stmt}
theorem PH(h:PS X st (Mu (Pn (Vr i)) (gT X.K T) (Ml X.K O W fb)))(hi:i∉O:=by decide)(hT:∀j∈T.slots,j∉O:=by decide):VS X O (T.slots++W) st (Tq i T fb):=PS.imp (PF h) fun D Z H ⟨H0,fps,s,out,r,e,k⟩=>by
 obtain⟨ls,e1,e⟩:=Zd e
 obtain⟨d,e2,e3⟩:=Zd e1
 have e2:=join_some e2
 cases d with
 | dT ks vs=>
  cases e3
  refine Sj (O':=O) r (fun j hj=>⟨hj,fun z=>hi (z▸hj)⟩) e2 e hT fun F th _ h4 h5 h6 out' eo=>?_
  subst eo
  cases out with
  | nx s'=>
   intro fps' Z' H' r' q'
   obtain⟨t1,t2,t3,t4,_⟩:=h5 H' r'.same
   refine k fps' Z' (th H') ⟨h4.trans t1,r'.len,fun j l q=>?_,r'.emp,r'.nd,fun j hj p hp=>⟨h6 p (r'.own j hj p hp).1,by rw[t4 p (r'.own j hj p hp).1];exact(r'.own j hj p hp).2⟩,r'.dis⟩ q'
   obtain⟨v,a,b⟩:=r'.is j l q
   exact⟨v,a,Is.tr t2 _ _ _ (fun p _=>t3 p) b⟩
  | rt l=>
   intro v fp H' sm is nd fr
   obtain⟨t1,t2,t3,t4,_⟩:=h5 H' sm
   exact k v fp (th H') (h4.trans t1) (Is.tr t2 _ _ _ (fun p _=>t3 p) is) nd fun p hp=>⟨h6 p (fr p hp).1,by rw[t4 p (fr p hp).1];exact(fr p hp).2⟩
  | bk s'=>trivial
  | ct s'=>trivial
 | _=>cases e3
def YO(O:List Nat):Nat->ZD->ZD
 | _,[]=>[]
 | k,o::r=>(if k∈O then o else match o with | some l=>if ZL l=true then some l else none | none=>none)::YO O (k+1) r
theorem Vl{O:List Nat}:∀{s:ZD}{k j:Nat}{l:PV},(YO O k s)[j]?=some (some l)->s[j]?=some (some l)/\(k+j∈O\/ZL l=true)
 | [],k,j,l,h=>by simp[YO] at h
 | o::r,k,0,l,h=>by
  unfold YO at h;simp only[List.getElem?_cons_zero,Option.some.injEq] at h
  by_cases hk:k∈O
  ·rw[if_pos hk] at h;exact⟨by simp[h],.inl hk⟩
  ·rw[if_neg hk] at h
   cases o with
   | none=>cases h
   | some a=>
    simp only at h
    split at h
    ·cases h;exact⟨rfl,.inr (by assumption)⟩
    ·cases h
 | o::r,k,j+1,l,h=>by
  unfold YO at h;rw[List.getElem?_cons_succ] at h
  obtain⟨a,b⟩:=Vl h
  exact⟨by simpa using a,by rw[show k+(j+1)=k+1+j by omega];exact b⟩
theorem Tr{O:List Nat}:∀{s:ZD}{k:Nat},(YO O k s).length=s.length
 | [],_=>rfl
 | o::r,k=>by unfold YO;rw[List.length_cons,List.length_cons,Tr]
def QB(O:List Nat):Os->Os
 | .nx s=>.nx (YO O 0 s)
 | o=>o
def Vm(O:List Nat)(i:Nat)(T:Tgt)(fb:XS):XS:=fun s=>((s[i]?).join.bind Si).bind fun ls=>(Xj T fb ls s).map (QB O)
open Classical in
theorem NC(h:PS X st (Mu (Pn (Vr i)) (gT X.K T) (Ml X.K O' W fb)))(hi:i∈O:=by decide)(hO:∀j,j∈O'↔(j∈O/\j≠i))(hT:∀j∈T.slots,j∉O:=by decide)(hW:i∉T.slots++W:=by decide):VS X O (T.slots++W) st (Vm O i T fb):=PS.imp (PF h) fun D Z H ⟨H0,fps,s,out,r,e,k⟩=>by
 obtain⟨ls,e1,e⟩:=Zd e
 obtain⟨d,e2,e3⟩:=Zd e1
 obtain⟨out0,e5,rfl⟩:=map_some e
 have e2:=join_some e2
 cases d with
 | dT ks vs=>
  cases e3
  refine Sj (O':=O') r (fun j hj=>(hO j).mp hj) e2 e5 (fun j hj z=>hT j hj ((hO j).mp z).1) fun F th h3 h4 h5 h6 out' eo=>?_
  subst eo
  cases out0 with
  | nx s'=>
   intro fps' Z' H' r' q'
   obtain⟨t1,t2,t3,t4,t5⟩:=h5 H' r'.same
   have ki:=q' i hW
   have fi:∀p∈fps i,¬Ow O' fps p:=fun p hp ⟨j,hj,z⟩=>r.dis i hi j ((hO j).mp hj).2 p hp z
   have Fi:∀p∈fps i,F p≠none:=fun p hp=>h3 p (r.dom i p hp) (fi p hp)
   have sub:∀p,p∈fps' i->p∈fps i:=fun p hp=>by
    rcases ki.2 with z | z
    ·rw[<-z];exact hp
    ·rw[z] at hp;simp at hp
   have ow':∀j∈O',∀p∈fps' j,F p=none:=fun j hj p hp=>(r'.own j hj p hp).1
   have inO:∀j∈O,j≠i->j∈O':=fun j hj n=>(hO j).mpr ⟨hj,n⟩
   have get:∀j p,p∈(if(YO O 0 s')[j]?=s'[j]? then fps' j else [])->p∈fps' j/\(YO O 0 s')[j]?=s'[j]?:=fun j p hp=>by
    split at hp
    ·exact⟨hp,by assumption⟩
    ·simp at hp
   refine k (fun j=>if(YO O 0 s')[j]?=s'[j]? then fps' j else []) Z' (th H') ⟨h4.trans t1,by rw[Tr];exact r'.len,fun j l q=>?_,fun j hne=>?_,fun j hj=>?_,fun j hj p hp=>?_,fun j hj m hm p hp z=>?_⟩ fun j hj=>⟨(q' j hj).1,?_⟩
   ·obtain⟨q1,_⟩:=Vl q
    obtain⟨v,a,b⟩:=r'.is j l q1
    rw[if_pos (q.trans q1.symm)]
    exact⟨v,a,Is.tr t2 _ _ _ (fun p _=>t3 p) b⟩
   ·show(if(YO O 0 s')[j]?=s'[j]? then fps' j else [])=[]
    split
    ·rename_i h;exact r'.emp j fun l z=>hne l (by rw[h];exact z)
    ·rfl
   ·show(if(YO O 0 s')[j]?=s'[j]? then fps' j else []).Nodup
    split
    ·by_cases e:j=i
     ·subst e
      rcases ki.2 with z | z
      ·rw[z];exact r.nd j hi
      ·rw[z];exact List.nodup_nil
     ·exact r'.nd j (inO j hj e)
    ·exact List.nodup_nil
   ·obtain⟨hp,_⟩:=get j p hp
    by_cases e:j=i
    ·subst e
     have hp:=sub p hp
     exact⟨(r.own j hi p hp).1,by rw[<-t5 p hp (fi p hp)];exact(r.own j hi p hp).2⟩
    ·have o:=r'.own j (inO j hj e) p hp
     exact⟨h6 p o.1,by rw[t4 p o.1];exact o.2⟩
   ·obtain⟨hp,_⟩:=get j p hp
    obtain⟨zp,zc⟩:=get m p z
    by_cases e:j=i
    ·subst e
     have hpi:=sub p hp
     by_cases hmO:m∈O'
     ·exact Fi p hpi (ow' m hmO p zp)
     ·obtain⟨l,v,ql,_,b⟩:=r'.at m zp
      rw[ql] at zc
      obtain⟨_,alt⟩:=Vl zc
      rcases alt with alt | alt
      ·rw[Nat.zero_add] at alt
       exact hmO (inO m alt hm)
      ·rw[Is.pure _ _ _ alt b] at zp;simp at zp
    ·exact r'.dis j (inO j hj e) m hm p hp zp
   ·show Kep (if(YO O 0 s')[j]?=s'[j]? then fps' j else []) (fps j)
    split
    ·exact(q' j hj).2
    ·exact .inr rfl
  | rt l=>
   intro v fp H' sm is nd fr
   obtain⟨t1,t2,t3,t4,_⟩:=h5 H' sm
   exact k v fp (th H') (h4.trans t1) (Is.tr t2 _ _ _ (fun p _=>t3 p) is) nd fun p hp=>⟨h6 p (fr p hp).1,by rw[t4 p (fr p hp).1];exact(fr p hp).2⟩
  | bk s'=>trivial
  | ct s'=>trivial
 | _=>cases e3
end
end VL
namespace VL
open PySem PySem.Spec PyProof.Rows L2
variable {K:PySem.W.Frag}
section
variable {X:Cx} {O:List Nat} {tg elt iter:Expr} {ifs:List Expr} {scope:Scope} {pos:Pos} {fi:XL} {T:Tgt} {ft:XT} {fe:XE}
theorem Lc(own fr:List Str)(ix:List Nat){i:Nat}{y:Str}{py spos:Pos}(hN:X.N.Nodup)(hy:X.N[i]?=some y)(hloc:X.env.scope.names.lookup y=some .local)(hcalm:X.calm=true)(hi:VI X tg iter fi)(S:Vi X.N X.env.scope scope own fr ix=true)
  (hg:∀cl C s H ex,PG (Zx X (own++fr) scope cl C s H ex) tg (gT X.K T)) (ht:∀cl C s H ex,IJ (Zx X (own++fr) scope cl C s H ex) ifs ft) (he:∀cl C s H ex,VM (Zx X (own++fr) scope cl C s H ex) elt fe)
  (hT:∀i∈T.slots,i<own.length:=by decide)
  (hsw:swapsWith (.ListComp elt [⟨tg,iter,ifs,0⟩] scope pos) (some (.Name y py)) spos.line X.env=pure true:=by rfl)
  (hs:∀x,foldedSetIterable iter X.env x=pure x:=by intro _;rfl):VS X O [i] (.Assign [.Name y py] (.ListComp elt [⟨tg,iter,ifs,0⟩] scope pos) spos) (Zo i (ZG own.length ix fi T ft fe)):=
 PS.imp (Ng own fr ix hN hy hloc hcalm hi S hg (fun cl C s H ex=>(show Mk (Zx X (own++fr) scope cl C s H ex) ifs (Qc X.K ft) from ht cl C s H ex)) (fun cl C s H ex=>(show PE (Zx X (own++fr) scope cl C s H ex) elt (tM X.K fe) from he cl C s H ex)) hsw hs) (Px (Pv hT))
end
def SV(i:Nat)(fk:XE):XS:=fun s=>(Za i s).bind fun a=>((fk s).bind OZ).bind fun k=>if k=0 then some (.rt .non) else if k=1 then some (.rt a) else none
theorem Ov{X:Cx}{O:List Nat}{e:Expr}{i:Nat}{fk:XE}{pos:Pos}(he:PE X e (Kg (ME X.K) (JU (Ux (tC .non) (Ux (Vr i) P7))) (tF X.K fk)))(hi:i∈O:=by decide):VS X O [] (.Return (some e) pos) (SV i fk):=PS.imp (Qe he) fun D Z H ⟨H0,fps,s,out,r,e,k⟩=>by
 obtain⟨a,e0,e⟩:=Zd e
 obtain⟨n,e1,e⟩:=Zd e
 obtain⟨l,e1,e2⟩:=Zd e1
 rw[VP e2] at e1
 obtain⟨v,hv,iv⟩:=r.is i a (Um e0)
 refine⟨v,hv,(by show 2<=sizeLine;decide),fun p hp=>?_⟩
 have sn:Same H (upd H p (.lst [V.non,v])):=Same.new hp _
 refine⟨fun _=>False,s,_,fun _ z=>z.elim,r.env.mono sn,e1,fun y H2 fy s2 i2 _=>?_⟩
 have hp2:H2 p=some (.lst [V.non,v]):=s2 _ _ upd_same
 by_cases h0:n=0
 ·rw[if_pos h0] at e;cases e
  exact⟨p,[V.non,v],n,V.non,rfl,i2.int_inv.1,SqL.of hp2,by rw[h0];rfl,k .non [] H2 (r.same.trans (sn.trans s2)) Is.non List.nodup_nil fun p hp=>by simp at hp⟩
 ·rw[if_neg h0] at e
  split at e
  ·rename_i h1
   cases e;have s12:=sn.trans s2
   exact⟨p,[V.non,v],n,v,rfl,i2.int_inv.1,SqL.of hp2,by rw[h1];rfl,k v (fps i) H2 (r.same.trans s12) (iv.mono s12) (r.nd i hi) fun q hq=>⟨(r.own i hi q hq).1,Same.mut s12 (r.own i hi q hq).2⟩⟩
  ·cases e
section
variable {P:Program} {w:World} {mg:Str->Option Value} {base:Heap}
theorem KY{x:Str}{st:Stmt}{N ps:List Str}{k n:Nat}{O W:List Nat}{fa:Addr}{fd:FuncData}(m:Nat)(f:XS)(F:Fun K x x st fa fd)(S:ZE N ps (Zh st))
  (hn:ps.length=n) (hm:N.length=m) (hO:∀i∈O,n<=i)
  (hbody:∀(fa:Addr)(cdv:Value)(A:Around)(outer:List Env)(s:Shared)(H:Hp)(E:XK),Room k (A.deeper (envOfC x (Zh st) s.heap.objs.size fa cdv))->Nu (U1 Pm P w K mg base N x (Zh st) fa cdv A outer s H E).nox O W (Zs st) f) :
  Vt P w K mg base Pm (k+1) fa fd ps (XW K (X8 m f) n):=by
 subst hm
 refine F.ok S (fun vs H Q E h=>by rw[hn];exact h.1) fun cdv A outer s H vs Q E hr h=>⟨_,hbody fa cdv A outer s H E hr,?_⟩
 exact SU hO h
theorem ND{st:Stmt}{x:Str}{D:List PV->Option PV}{k:Nat}{fa:Addr}(Df:Def K mg "law" st)(hfa:mg "law" = some (.ref fa))
  (hb:∀(kV doc pm:Value)(an:Option Addr)(cdv ct u:Value),bindArgs (PySem.W.fnOf "law" "law" (Zz st) (Zs st) (Zh st) .none kV doc pm an cdv ct) ⟨[u],[]⟩=pure [(x,u)])
  (H:∀(base:Heap)(f:Addr)(fd:FuncData),K.In base->base.Ns mainGlobals mg->Fun K "law" "law" st f fd->Vt P w K mg base Pm k f fd [x] (XW K D 1)) :
  ∃fd:FuncData,(∀(s:Shared)(u:Value),BindsTo s fd ⟨[u],[]⟩ [(x,u)])/\∀base:Heap,K.In base->base.Ns mainGlobals mg->Vt P w K mg base Pm k fa fd [x] (XW K D 1):=by
 obtain⟨f,fd,hm,F⟩:=Df.ex
 have e:=hfa.symm.trans hm;cases e
 refine⟨fd,?_,fun base h1 h2=>H base fa fd h1 h2 F⟩
 obtain⟨oc,od,kV,doc,pm,an,cdv,ct,osl,rfl,lk,hcd⟩:=F.ex
 exact fun s u=>.of_eq (hb kV doc pm an cdv ct u)
end
theorem KZ{H:Hp}{a:Addr}{ns:List Int}{D:List PV->Option PV}{E:XK}(hD:D [.cst (iL ns)]=some (.bl true))(hO:MJ H)(hS:SqL K H a (ns.map V.int)):XW K D 1 [.ref a] H (fun v _=>v = .bl true) E:=by
 have cs:CsK K H a (ns.map V.int):=by
  rcases hS with h | h
  ·rcases h with h | ⟨o,h⟩
   ·rcases hO a with z | ⟨o,xs,z⟩
    ·rw[h] at z;cases z
    ·rw[h] at z;cases z
   ·exact .inl ⟨o,h⟩
  ·exact .inr h
 exact⟨rfl,[.cst (iL ns)],[],.bl true,Iss.one (Is.cst cs (Iss.ofInts ns)),hD,fun v H' fq _ i _ _=>i.bl_inv.1⟩
theorem law_walk{l:PySem.W.OpenLaw}{q:Program}{loose:List Str}{XP:(Str->Option Value)->Heap->Prop}{YP:World->Heap->Prop}{d:DefRec}{KK:Params->PySem.W.Frag}{x:Str}{D:List PV->Option PV}(k:Nat)(hn:l.most=some 63)(hdf:d.params.defaults=[])
  (hr:Room k callerA) (hD:∀ns:List Int,ns.length<=63->D [.cst (iL ns)]=some (.bl true))
  (hY:∀(w:World)(h:Heap),YP w h->(KK w.params).In h)
  (F:∀(w:World)(mg:Str->Option Value)(fa:Addr)(h:Heap),(KK w.params).In h->h.Ns mainGlobals mg->mg d.name=some (.ref fa)->
   ∃fd:FuncData,(∀(s:Shared)(u:Value),BindsTo s fd ⟨[u],[]⟩ [(x,u)])/\∀base:Heap,(KK w.params).In base->base.Ns mainGlobals mg->Vt l.prog w (KK w.params) mg base Pm k fa fd [x] (XW (KK w.params) D 1)) :
  PySem.W.WalkO q loose XP YP l.row.toRowW d [] (fun f vs=>PySem.call f vs):=
 L2.walk_of (n:=63) (k:=k) (x:=x) (CX:=fun _=>Pm) (sp:=fun w=>XW (KK w.params) D 1) hn (by decide) hdf hr hY F (fun w H a ns hl hO hS=>KZ (hD ns hl) hO hS) fun _ _ _ _ _ z=>z
end VL
namespace VL
open PySem L2
@[simp] theorem YQ(i:Nat)(s:ZD):Za i s=(s[i]?).join:=rfl
@[simp] theorem eC_def(l:PV)(s:ZD):eC l s=some l:=rfl
@[simp] theorem Yl(g:PV->PV->Option PV)(a b:XE)(s:ZD):Zi g a b s=(a s).bind fun x=>(b s).bind fun y=>g x y:=rfl
@[simp] theorem eUn_def(g:PV->Option PV)(a:XE)(s:ZD):TM g a s=(a s).bind g:=rfl
@[simp] theorem Vn(f:XE)(s:ZD):eP f s=(f s).bind fun l=>if ZL l=true then some l else none:=rfl
@[simp] theorem Ld(s:ZD):Ub [] s=some []:=rfl
@[simp] theorem ZT(f:XE)(fs:List XE)(s:ZD):Ub (f::fs) s=(f s).bind fun x=>(Ub fs s).map (x::·):=rfl
@[simp] theorem Ym(D:List PV->Option PV)(fs:List XE)(s:ZD):Zf D fs s=(Ub fs s).bind D:=rfl
@[simp] theorem eTup_def(fs:List XE)(s:ZD):YL fs s=(Ub fs s).map .tup:=rfl
@[simp] theorem NE(fs:List XE)(s:ZD):ZC fs s=(Ub fs s).map .lst:=rfl
@[simp] theorem UQ(g:PV->Option Int->Option Int->Option PV)(a:XE)(lo hi:XO)(s:ZD):Vq g a lo hi s=(a s).bind fun x=>(lo s).bind fun l=>(hi s).bind fun u=>g x l u:=rfl
@[simp] theorem UR(s:ZD):Uc s=some none:=rfl
@[simp] theorem gI_ii(g:Int->Int->Int)(i j:Int):gI g (.int i) (.int j)=some (.int (g i j)):=rfl
@[simp] theorem gB_ii(g:Int->Int->Bool)(i j:Int):gB g (.int i) (.int j)=some (.bl (g i j)):=rfl
@[simp] theorem gIC_ii(C:Int->Int->Prop)[∀i j,Decidable (C i j)](g:Int->Int->Int)(i j:Int):KH C g (.int i) (.int j)=if C i j then some (.int (g i j)) else none:=rfl
@[simp] theorem gIx_ti(l:List PV)(i:Int):Yb (.tup l) (.int i)=WT l i:=rfl
@[simp] theorem gIx_li(l:List PV)(i:Int):Yb (.lst l) (.int i)=WT l i:=rfl
@[simp] theorem gIx_ci(l:List PV)(i:Int):Yb (.cst l) (.int i)=WT l i:=rfl
@[simp] theorem X7(f:XE)(s:ZD):xB f s=(f s).bind La:=by
 unfold xB
 cases f s with
 | none=>rfl
 | some a=>cases a<;>rfl
@[simp] theorem K0(b:Bool):La (.bl b)=some b:=rfl
@[simp] theorem RM(a b:XT)(s:ZD):Vj a b s=(a s).bind fun c=>if c=true then b s else some false:=rfl
@[simp] theorem Lf(a b:XT)(s:ZD):OY a b s=(a s).bind fun c=>if c=true then some true else b s:=rfl
@[simp] theorem NF(a:XT)(s:ZD):Qp a s=(a s).map not:=rfl
@[simp] theorem Ts(a b:XE)(s:ZD):TJ a b s=(xB a s).bind fun c=>if c=true then b s else some (.bl false):=rfl
@[simp] theorem eOr_def(a b:XE)(s:ZD):HB a b s=(xB a s).bind fun c=>if c=true then some (.bl true) else b s:=rfl
@[simp] theorem eNot_def(a:XE)(s:ZD):MY a s=(xB a s).map fun c=>.bl !c:=rfl
@[simp] theorem eIf_def(c:XT)(a b:XE)(s:ZD):HC c a b s=(c s).bind fun k=>if k=true then a s else b s:=rfl
@[simp] theorem eIsN_def(neg:Bool)(a:XE)(s:ZD):SK neg a s=(a s).bind (KO neg):=rfl
@[simp] theorem Ox(s:ZD):Z8 s=some (.nx s):=rfl
@[simp] theorem ZP(f g:XS)(s:ZD):Zm f g s=(f s).bind fun o=>match o with | .nx s'=>g s' | r=>some r:=rfl
@[simp] theorem Xu(c:XT)(f g:XS)(s:ZD):UO c f g s=(c s).bind fun k=>if k=true then f s else g s:=rfl
@[simp] theorem VR(f:XE)(s:ZD):YU f s=(f s).map .rt:=rfl
@[simp] theorem Z9(i:Nat)(f:XE)(s:ZD):Zo i f s=(f s).map fun l=>.nx (s.set i (some l)):=rfl
@[simp] theorem retO_rt(v:PV):X6 (.rt v)=some v:=rfl
@[simp] theorem Oy(i:Int):ZL (.int i)=true:=rfl
@[simp] theorem pureV_bl(i:Bool):ZL (.bl i)=true:=rfl
@[simp] theorem pureV_str(i:Str):ZL (.str i)=true:=rfl
@[simp] theorem pureV_non:ZL .non=true:=rfl
@[simp] theorem pureV_tup(l:List PV):ZL (.tup l)=Zp l:=by rw[ZL]
@[simp] theorem pureL_nil:Zp []=true:=rfl
@[simp] theorem pureL_cons(a:PV)(l:List PV):Zp (a::l)=(ZL a&&Zp l):=rfl
theorem Sk{α:Type}{l:List α}{f:α->PV}(h:∀a∈l,ZL (f a)=true):Zp (l.map f)=true:=by
 rw[Xx,List.all_map,List.all_eq_true];exact h
@[simp] theorem pureL_iL(l:List Int):Zp (l.map PV.int)=true:=Yi l
abbrev pP(l:List Int):PV:=.tup (iL l)
abbrev wP(W:List (List Int)):PV:=.tup (W.map pP)
@[simp] theorem pureL_wP(W:List (List Int)):Zp (W.map pP)=true:=Sk fun a _=>by simp
theorem NG{l:List Int}{k:Nat}(h:k<l.length):(iL l)[k]?=some (.int (Zy l k)):=by
 rw[List.getElem?_map,List.getElem?_eq_getElem h];simp[Zy,List.getD_eq_getElem?_getD,List.getElem?_eq_getElem h]
theorem WN{l:List Int}{k:Nat}(h:k<l.length):WT (iL l) (k:Int)=some (.int (Zy l k)):=UJ (NG h)
theorem SW{W:List (List Int)}{k:Nat}(h:k<W.length):WT (W.map pP) (k:Int)=some (pP (Zu W k)):=by
 refine UJ ?_
 rw[List.getElem?_map,U8 h];rfl
@[simp] theorem gSum_t(l:List Int):Vk [.tup (l.map PV.int)]=some (.int l.sum):=by
 simp[Vk,Tg,Z6 l]
@[simp] theorem gSum_l(l:List Int):Vk [.lst (l.map PV.int)]=some (.int l.sum):=by
 simp[Vk,Tg,Z6 l]
@[simp] theorem NH(l:List Bool):TN [.lst (l.map PV.bl)]=some (.bl (l.all id)):=by
 simp[TN,Tg,Vg l]
@[simp] theorem gLen_t(l:List PV):X5 [.tup l]=some (.int l.length):=rfl
@[simp] theorem gLen_l(l:List PV):X5 [.lst l]=some (.int l.length):=rfl
@[simp] theorem gLen_c(l:List PV):X5 [.cst l]=some (.int l.length):=rfl
@[simp] theorem gTuple_l(l:List PV):Xh [.lst l]=some (.tup l):=rfl
@[simp] theorem gTuple_t(l:List PV):Xh [.tup l]=some (.tup l):=rfl
@[simp] theorem gListP_t(l:List PV):WF [.tup l]=if Zp l=true then some (.lst l) else none:=rfl
@[simp] theorem gListP_l(l:List PV):WF [.lst l]=if Zp l=true then some (.lst l) else none:=rfl
@[simp] theorem gMin2_ii(i j:Int):Ww [.int i,.int j]=some (.int (if j<i then j else i)):=rfl
@[simp] theorem gMax2_ii(i j:Int):Sc [.int i,.int j]=some (.int (if j>i then j else i)):=rfl
@[simp] theorem gInt1_b(c:Bool):RA [.bl c]=some (.int (if c then 1 else 0)):=rfl
@[simp] theorem gInt1_i(c:Int):RA [.int c]=some (.int c):=rfl
@[simp] theorem gInst_ii(i:Int):VD [.int i,.ty "int"]=some (.bl true):=rfl
@[simp] theorem gInst_ib(i:Int):VD [.int i,.ty "bool"]=some (.bl false):=rfl
@[simp] theorem gInst_tt(l:List PV):VD [.tup l,.ty "tuple"]=some (.bl true):=rfl
@[simp] theorem gInst_ll(l:List PV):VD [.lst l,.ty "list"]=some (.bl true):=rfl
theorem SX(n:Nat)(i j:Int):Xi (n+1) (.int i) (.int j)=true:=rfl
theorem WO{α β:Type}{f:α->PV}{g:β->PV}{p:PV->PV->Bool}(h:∀a b,p (f a) (g b)=true):∀(l:List α)(m:List β),((l.map f).zip (m.map g)).all (fun z=>p z.1 z.2)=true
 | [],_=>by simp
 | _::_,[]=>by simp
 | a::l,b::m=>by
  rw[List.map_cons,List.map_cons,List.zip_cons_cons,List.all_cons,WO h l m,h a b];rfl
theorem Lg(n:Nat)(l m:List Int):Xi (n+2) (pP l) (pP m)=true:=WO (fun a b=>SX n a b) l m
theorem SY(n:Nat)(l m:List Int):Xi (n+2) (.lst (iL l)) (.lst (iL m))=true:=WO (fun a b=>SX n a b) l m
theorem NI{l m:List Int}:iL l=iL m↔l=m:=by
 constructor
 ·intro h
  exact(List.map_inj_right (fun a b e=>PV.int.inj e)).mp h
 ·intro h;rw[h]
theorem K1{l m:List Int}:pP l=pP m↔l=m:=by
 rw[PV.tup.injEq];exact NI
@[simp] theorem gEq_ii(neg:Bool)(i j:Int):Xq neg (.int i) (.int j)=some (.bl (if neg then !decide (i=j) else decide (i=j))):=by
 unfold Xq;rw[if_pos (SX 7 i j)]
 congr 2
 cases neg<;>simp
@[simp] theorem gEq_pp(neg:Bool)(l m:List Int):Xq neg (.tup (l.map PV.int)) (.tup (m.map PV.int))=some (.bl (if neg then !decide (l=m) else decide (l=m))):=by
 unfold Xq;rw[if_pos (Lg 6 l m)]
 have:decide ((PV.tup (l.map PV.int)) = .tup (m.map PV.int))=decide (l=m):=decide_eq_decide.mpr K1
 rw[this]
@[simp] theorem gEq_ll(neg:Bool)(l m:List Int):Xq neg (.lst (l.map PV.int)) (.lst (m.map PV.int))=some (.bl (if neg then !decide (l=m) else decide (l=m))):=by
 unfold Xq;rw[if_pos (SY 6 l m)]
 have:decide ((PV.lst (l.map PV.int)) = .lst (m.map PV.int))=decide (l=m):=decide_eq_decide.mpr (by rw[PV.lst.injEq];exact NI)
 rw[this]
theorem Sl{α:Type}{T:Tgt}{ft:XT}{fe:XE}{s0:ZD}{q g:α->PV}:∀{ls:List α},(∀a∈ls,∃s1,WG T (q a) s0=some s1/\ft s1=some true/\fe s1=some (g a))->Wc T ft fe s0 (ls.map q)=some (ls.map g)
 | [],_=>rfl
 | a::r,h=>by
  obtain⟨s1,h1,h2,h3⟩:=h a List.mem_cons_self
  have ih:=Sl (ls:=r) fun b hb=>h b (List.mem_cons_of_mem _ hb)
  rw[List.map_cons,List.map_cons];unfold Wc;rw[h1];simp only[Option.bind_some,h2,if_true,h3,ih,Option.map_some]
theorem YY{α:Type}{n:Nat}{ix:List Nat}{fi:XL}{T:Tgt}{ft:XT}{fe:XE}{s:ZD}(ls:List α)(q g:α->PV)(hfi:fi s=some (ls.map q))(hl:ls.length<=10000)
  (h:∀a∈ls,∃s1,WG T (q a) (ZM n ix s)=some s1/\ft s1=some true/\fe s1=some (g a)):ZG n ix fi T ft fe s=some (.lst (ls.map g)):=by
 unfold ZG;rw[hfi];simp only[Option.bind_some,List.length_map,if_pos hl,Sl h,Option.map_some]
theorem ZR{T:Tgt}{fb:XS}:∀{ls:List PV}{s:ZD}(Jv:Nat->ZD->Prop),Jv 0 s->(∀(i:Nat) l st,ls[i]?=some l->Jv i st->∃s1 s2,WG T l st=some s1/\fb s1=some (.nx s2)/\Jv (i+1) s2)->
  ∃s',Xj T fb ls s=some (.nx s')/\Jv ls.length s'
 | [],s,Jv,h0,_=>⟨s,rfl,h0⟩
 | l::r,s,Jv,h0,h=>by
  obtain⟨s1,s2,a,b,c⟩:=h 0 l s rfl h0
  obtain⟨s',d,e⟩:=ZR (ls:=r) (s:=s2) (fun i=>Jv (i+1)) c fun i l' st hl hi=>h (i+1) l' st (by simpa using hl) hi
  refine⟨s',?_,e⟩
  unfold Xj;rw[a];simp only[Option.bind_some,b];exact d
theorem Wd{n i:Nat}{l:PV}(h:(Xr n)[i]?=some l):i<n/\l = .int (i:Int):=by
 have hi:=(List.getElem?_eq_some_iff.mp h).1
 unfold Xr at hi h;rw[List.length_map,List.length_range] at hi;rw[List.getElem?_map,List.getElem?_range hi] at h
 exact⟨hi,(Option.some.inj h).symm⟩
theorem VU{lo:Int}{n i:Nat}{l:PV}(h:(Xs lo n)[i]?=some l):i<n/\l = .int (lo+(i:Int)):=by
 have hi:=(List.getElem?_eq_some_iff.mp h).1
 unfold Xs at hi h;rw[List.length_map,List.length_range] at hi;rw[List.getElem?_map,List.getElem?_range hi] at h
 exact⟨hi,(Option.some.inj h).symm⟩
@[simp] theorem We(n:Nat):(Xr n).length=n:=by unfold Xr;simp
@[simp] theorem VV(lo:Int)(n:Nat):(Xs lo n).length=n:=by unfold Xs;simp
@[simp] theorem bindT_one(i:Nat)(l:PV)(s:ZD):WG (.one i) l s=some (s.set i (some l)):=rfl
theorem RN(m:List PV):Wx m=(List.range m.length).map fun(i:Nat)=>.tup [.int (i:Int),m.getD i .non]:=by
 apply List.ext_getElem?
 intro i;rw[List.getElem?_map]
 by_cases h:i<m.length
 ·have:(Wx m)[i]?=some (.tup [.int (i:Int),m[i]]):=by
   unfold Wx;rw[List.getElem?_map,List.getElem?_zipIdx,List.getElem?_eq_getElem h]
   simp
  rw[this,List.getElem?_range h];simp[List.getD_eq_getElem?_getD,List.getElem?_eq_getElem h]
 ·rw[List.getElem?_eq_none (by rw[WZ];omega),List.getElem?_eq_none (by simpa using h)];rfl
theorem NJ(W:List (List Int))(i:Nat)(h:i<W.length):(W.map pP).getD i .non=pP (Zu W i):=by
 rw[List.getD_eq_getElem?_getD,List.getElem?_map,U8 h];rfl
@[simp] theorem Lh(f:XE)(s:ZD):ZI [f] s=(f s).bind fun a=>(OZ a).bind fun j=>if -1000000<=j/\j<=1000000 then some (Xr j.toNat) else none:=by
 unfold ZI
 cases h:f s with
 | none=>simp[h]
 | some a=>cases a<;>simp[h,OZ]
@[simp] theorem Li(f g:XE)(s:ZD):Yu [f,g] s=(f s).bind fun a=>(g s).bind fun b=>(OZ a).bind fun i=>(OZ b).bind fun j=>if -1000000<=i/\i<=1000000/\-1000000<=j/\j<=1000000 then some (Xs i (j-i).toNat) else none:=by
 unfold Yu
 cases h:f s with
 | none=>simp[h]
 | some a=>cases h2:g s with
  | none=>simp[h,h2]
  | some b=>cases a<;>cases b<;>simp[h,h2,OZ]
@[simp] theorem US(i:Int):OZ (.int i)=some i:=rfl
@[simp] theorem PJ(i:List PV):Ig (.lst i)=some i:=rfl
@[simp] theorem Oz(b:Bool)(f:XE)(s:ZD):RE b [f] s=(f s).bind fun l=>(seqB b l).map Wx:=by
 unfold RE
 cases h:f s<;>simp[h]
@[simp] theorem K2(l:List PV):seqB false (.tup l)=some l:=rfl
@[simp] theorem seqB_t(l:List PV):seqB true (.lst l)=some l:=rfl
@[simp] theorem seqB_c(l:List PV):seqB true (.cst l)=some l:=rfl
@[simp] theorem NK(f:XE)(s:ZD):VG f s=(f s).bind Js:=rfl
@[simp] theorem NL(l:List PV):Js (.lst l)=some l:=rfl
@[simp] theorem asS_c(l:List PV):Js (.cst l)=some l:=rfl
theorem NM{f:XE}{s:ZD}{l:List PV}(h:f s=some (.tup l)):Qu f s=some l:=by unfold Qu;rw[h]
@[simp] theorem Yg(O:List Nat)(fi:XL)(T:Tgt)(fb:XS)(s:ZD):YV O fi T fb s=(fi (ZH O s)).bind fun ls=>Xj T fb ls s:=rfl
@[simp] theorem xTrue_def(s:ZD):ZQ s=some true:=rfl
theorem Z0{f:XE}{s:ZD}{n:Nat}(h:f s=some (.int (n:Int)))(hn:n<=10000):ZI [f] s=some (Xr n):=by
 rw[Lh,h];simp only[Option.bind_some,US];rw[if_pos ⟨by omega,by omega⟩,Int.toNat_natCast]
theorem W5{f g:XE}{s:ZD}{i j:Int}(h:f s=some (.int i))(h':g s=some (.int j))(hi : -10000<=i/\i<=10000)(hj : -10000<=j/\j<=10000):Yu [f,g] s=some (Xs i (j-i).toNat):=by
 rw[Li,h,h'];simp only[Option.bind_some,US];rw[if_pos ⟨by omega,by omega,by omega,by omega⟩]
theorem K3{i j:Int}(h0 : -10000<=i)(h:i<=10000):CMul i j:=by
 refine .inl ?_
 have e:(2^64:Int)=18446744073709551616:=by decide
 rw[e];omega
theorem VY{c:Bool}(h:c=true):gd c=some ():=by unfold gd;rw[if_pos h]
theorem QC{i:Nat}{f:XE}{s:ZD}{m n:List PV}(h:f s=some (.lst n))(hm:Mm s i=some m)(hl:m.length+n.length<=10000):Ws i f s=some (.nx (s.set i (some (.lst (m++n))))):=by
 unfold Ws;rw[h];simp only[Option.bind_some,PJ,hm,VY (decide_eq_true hl)]
theorem Vo{i:Nat}{f:XE}{s:ZD}{m:List PV}{l:PV}(h:f s=some l)(hm:Mm s i=some m)(hl:m.length<=10000):Yv i f s=some (.nx (s.set i (some (.lst (m++[l]))))):=by
 unfold Yv;rw[h];simp only[Option.bind_some,hm,VY (decide_eq_true hl)]
theorem Tt{i:Nat}{fk f:XE}{s:ZD}{m:List PV}{l:PV}{k:Int}(hk:fk s=some (.int k))(h:f s=some l)(hm:Mm s i=some m)(hp:Zp m=true)(hq:ZL l=true)(h0:0<=k)(h1:k<=1000000)(hl:m.length<=10000) :
  Xt i fk f s=some (.nx (s.set i (some (.lst (m.take k.toNat++l::m.drop k.toNat))))):=by
 unfold Xt;rw[hk,h]
 have c:(Zp m&&ZL l&&decide (0<=k/\k<=1000000/\m.length<=10000))=true:=by rw[hp,hq,decide_eq_true ⟨h0,h1,hl⟩];rfl
 simp only[Option.bind_some,US,hm,VY c]
theorem Tu{i:Nat}{fa fb f:XE}{s:ZD}{m n:List PV}{l:PV}{a b:Int}{j c:Nat}(h:f s=some l)(ha:fa s=some (.int a))(hb:fb s=some (.int b))(hm:Mm s i=some m)(hj:Qb m.length a=some j)(hn:m[j]?=some (.lst n))(hp:Zp n=true)(hq:ZL l=true)(hc:Qb n.length b=some c) :
  X1 i fa fb f s=some (.nx (s.set i (some (.lst (m.set j (.lst (n.set c l))))))):=by
 unfold X1;rw[h,ha,hb]
 have cc:(Zp n&&ZL l)=true:=by rw[hp,hq];rfl
 simp only[Option.bind_some,US,PJ,hm,hj,hn,VY cc,hc,Option.map_some]
theorem UT{n k:Nat}(h:k<n):Qb n (k:Int)=some k:=by
 unfold Qb
 rw[if_pos (by omega),if_pos (by omega)];rfl
theorem Uq{i j:Int}(h0:0<j)(h:j<=10000):UZ i j:=⟨h0,by omega⟩
end VL
namespace PW
open PySem L2 VL
noncomputable def W6:XS:=(Zm (Zo 1 (ZC []))
  (Zm (YV [1] (RE false [(Za 0)]) (.many [2,3]) (YV [1] (Yu [(Zi ZO (Za 2) (eC (.int 1))),(Zf X5 [(Za 0)])]) (.one 4) (Ws 1 (ZG 1 [2,4] (ZI [(Zi Yb (Za 3) (Za 4))]) (.one 0) ZQ (eP (YL [(Za 1),(Za 2),(Za 0)]))))))
  (YU (Za 1))))
noncomputable def W7:List PV->Option PV:=X8 5 W6
noncomputable def SZ:XS:=(YU (eP (Zi ZO (Zi YJ (Zf X5 [(Zf W7 [(Za 0)])]) (Zf X5 [(Za 0)])) (eC (.int 1)))))
noncomputable def W8:List PV->Option PV:=X8 1 SZ
noncomputable def Tv:XS:=(YU (eP (Zi Yb (Zi ZJ (Vq YT (Za 0) (WH (Za 1)) (WH (Zi ZO (Za 1) (eC (.int 1))))) (ZC [(eC (.int 0))])) (eC (.int 0)))))
noncomputable def Zn:List PV->Option PV:=X8 2 Tv
noncomputable def Ur:XS:=(YU (eP (TJ (Zf VD [(Za 0),(eC (.ty "int"))]) (MY (Zf VD [(Za 0),(eC (.ty "bool"))])))))
noncomputable def Xy:List PV->Option PV:=X8 1 Ur
noncomputable def X2:XS:=(Zm (Zo 3 (ZC []))
  (Zm (YV [3,5] (ZI [(Za 2)]) (.one 4) (Zm (Xt 3 (Zi Yt (Za 1) (Zi ZO (Za 4) (eC (.int 1)))) (Za 4))
  (Zo 1 (eP (Zi XI (Za 1) (Zi ZO (Za 4) (eC (.int 1))))))))
  (Zm (Zo 5 (eC (.dT [] [])))
  (Zm (Tq 0 (.many [6,7]) (Zm (Zo 8 (eP (YL [(Zf Ww [(Zi Yb (Za 3) (Za 6)),(Zi Yb (Za 3) (Za 7))]),(Zf Sc [(Zi Yb (Za 3) (Za 6)),(Zi Yb (Za 3) (Za 7))])])))
  (sDPut 5 (Za 8) (Zi XM (Za 0) (YL [(Za 6),(Za 7)])))))
  (YU (Za 5))))))
noncomputable def X3:List PV->Option PV:=X8 9 X2
noncomputable def YR:XS:=(Zm (Zo 4 (eC (.dT [] [])))
  (Zm (Zo 5 (ZC [(eP (eC (.int 0)))]))
  (Zm (YV [4,5] (ZI [(Za 1)]) (.one 6) (YV [4,5] (Yu [(Zi ZO (Za 6) (eC (.int 1))),(Za 1)]) (.one 7) (Zm (Zo 8 (eP (Zf Ww [(Zi MW (Zi Yt (Za 0) (eC (.int 2))) (Zi ZO (eC (.int 1)) (Zi Yt (Zi XI (Za 0) (eC (.int 2))) (Za 3)))),(Za 2)])))
  (Zm (Zo 0 (eP (Zi Yb (ZC [(Zi XI (Za 0) (eC (.int 2))),(Zi XI (Zi XI (Za 0) (eC (.int 2))) (Za 3))]) (Zi Yt (Za 0) (eC (.int 2))))))
  (UO (xB (Zi Ia (Za 8) (eC (.int 0)))) (Zm (sDPut 4 (YL [(Za 6),(Za 7)]) (Za 8))
  (Zo 2 (eP (Zi YJ (Za 2) (Za 8))))) Z8)))))
  (Zm (YV [4,5] (ZI [(Za 1)]) (.one 9) (Vm [4,5] 4 (.many [6,7]) (Zm (UO (Vj (xB (Zi (RD false) (Za 6) (Za 5))) (xB (Zi (RD true) (Za 7) (Za 5)))) (Yv 5 (eP (Za 7))) Z8)
  (UO (Vj (xB (Zi (RD false) (Za 7) (Za 5))) (xB (Zi (RD true) (Za 6) (Za 5)))) (Yv 5 (eP (Za 6))) Z8))))
  (SV 4 (Zf RA [(Zi (Xq false) (Zf X5 [(Za 5)]) (Za 1))]))))))
noncomputable def Z1:List PV->Option PV:=X8 10 YR
noncomputable def W9:XS:=(Zm (Zo 3 (Zf Zn [(Za 0),(Za 1)]))
  (Zm (UO (Vj (xB (Zi (Xq false) (Zi Yt (Za 3) (eC (.int 2))) (eC (.int 1)))) (xB (SK true (Zf Z1 [(Zi XI (Za 3) (eC (.int 2))),(Za 2),(eC (.int 30)),(eC (.int 9))])))) (YU (Zf Z1 [(Zi XI (Za 3) (eC (.int 2))),(Za 2),(eC (.int 30)),(eC (.int 9))])) Z8)
  (Zm (Zo 4 (eC (.dT [] [])))
  (Zm (Zo 5 (eP (eC (.int 30))))
  (Zm (YV [4] (Yu [(eC (.int 1)),(Za 2)]) (.one 6) (Zm (Zo 7 (Zf Zn [(Za 0),(Zi ZO (Za 1) (Za 6))]))
  (Zm (Zo 8 (eP (Zf Ww [(Zi Yb (ZC [(eC (.int 1)),(eC (.int 1)),(eC (.int 1)),(eC (.int 2)),(eC (.int 3)),(eC (.int 9))]) (Zi Yt (Zi XI (Za 7) (Za 6)) (eC (.int 6)))),(Zi YJ (Za 5) (Zi YJ (Zi YJ (Za 2) (eC (.int 1))) (Za 6)))])))
  (Zm (sDPut 4 (YL [(Zi Yt (Za 7) (Za 6)),(Za 6)]) (Za 8))
  (Zo 5 (eP (Zi YJ (Za 5) (Za 8))))))))
  (Zm (Zo 9 (eP (Zi ZO (Za 1) (eC (.int 7)))))
  (Zm (YV [4] (ZI [(Za 2)]) (.one 10) (YV [4] (Yu [(Zi ZO (Za 10) (eC (.int 1))),(Za 2)]) (.one 11) (Zm (Zo 8 (eP (Zi Yb (ZC [(eC (.int 0)),(eC (.int 0)),(eC (.int 0)),(eC (.int 1)),(eC (.int 1)),(eC (.int 2)),(eC (.int 4)),(eC (.int 9))]) (Zi Yt (Zf Zn [(Za 0),(Za 9)]) (eC (.int 8))))))
  (Zm (Zo 9 (eP (Zi ZO (Za 9) (eC (.int 1)))))
  (UO (Vj (xB (Qz true (YL [(Za 10),(Za 11)]) (Za 4))) (xB (LQ IE IF (eC (.int 0)) (Za 8) (Za 5)))) (Zm (sDPut 4 (YL [(Za 10),(Za 11)]) (Za 8))
  (Zo 5 (eP (Zi YJ (Za 5) (Za 8))))) Z8)))))
  (YU (Zf X3 [(Za 4),(Zi XI (Zf Zn [(Za 0),(Za 1)]) (eC (.int 7))),(Za 2)])))))))))
noncomputable def YD:List PV->Option PV:=X8 12 W9
noncomputable def Wt:XS:=(Zm (Zo 2 (ZG 1 [1] (ZI [(Za 1)]) (.one 0) ZQ (Zi NB (ZC [(eC (.int 0))]) (Za 1))))
  (Zm (Tq 0 (.many [3,4]) (Zm (X1 2 (Za 3) (Za 4) (Zi XM (Za 0) (YL [(Za 3),(Za 4)])))
  (X1 2 (Za 4) (Za 3) (Zi XM (Za 0) (YL [(Za 3),(Za 4)])))))
  (YU (eP (Zf Xh [(ZG 1 [] (VG (Za 2)) (.one 0) ZQ (Zf Xh [(Za 0)]))])))))
noncomputable def Yz:List PV->Option PV:=X8 5 Wt
noncomputable def Us:XS:=(YU (eP (TJ (Zf VD [(Za 0),(eC (.ty "tuple"))]) (TJ (Zi (Xq false) (Zf X5 [(Za 0)]) (Za 1)) (Zf TN [(ZG 1 [] (Qu (Za 0)) (.one 0) ZQ (Zf Xy [(Za 0)]))])))))
noncomputable def Xz:List PV->Option PV:=X8 2 Us
end PW
namespace VL
open PySem PySem.Spec PyProof.Rows L2
def Xd(l:List Int):List Int:=l.mergeSort fun a b=>decide (a<=b)
theorem Wu(l:List Int):(Xd l).Perm l:=List.mergeSort_perm l _
theorem S0(l:List Int):(Xd l).Pairwise (·<=·):=by
 have:=List.pairwise_mergeSort (le:=fun a b:Int=>decide (a<=b)) (fun a b c h1 h2=>by simp only[decide_eq_true_eq] at *;omega) (fun a b=>by simp only[Bool.or_eq_true,decide_eq_true_eq];omega) l
 exact this.imp fun h=>of_decide_eq_true h
theorem RO{l m:List Int}(hp:m.Perm l)(hs:m.Pairwise (·<=·)):m=Xd l:=
 List.Perm.eq_of_pairwise (le:=(·<=·)) (fun a b _ _ h1 h2=>Int.le_antisymm h1 h2) hs (S0 l) (hp.trans (Wu l).symm)
theorem VZ:∀{us:List Value}{ns:List Int},IntsAre us ns->Vals (ns.map V.int) us
 | _,_,.nil=>.nil
 | _,_,.cons n t h=>.cons ⟨t,rfl⟩ (VZ h)
def S1(K:PySem.W.Frag):List V->Hp->VK->Prop:=fun xs H Q=>∃p ns,xs=[.ref p]/\SqL K H p (ns.map V.int)/\ns.length<64/\∀l,H l=none->Q (.ref l) (upd H l (.lst ((Xd ns).map V.int)))
theorem V0{X:Cx}:Y8 X (.builtin "sorted") (S1 X.K):=by
 intro pins s Z H xs us Q I r h
 obtain⟨p,ns,rfl,hq,hl,q⟩:=h
 obtain⟨u,rfl,rx⟩:=WC r
 cases rx
 obtain⟨its,r',pl,hz⟩:=I.list hq
 have hlen:=r'.length
 rw[List.length_map] at hlen hz
 refine sorted_ints pl.isList (Ql r') (by omega) fun out ns' a1 a2 a3=>?_
 obtain⟨e,he⟩:=sortedAll_at s.heap its out
 have hns:=RO a2 a3;subst hns
 refine⟨.ref (s.heap.objs.size+1),_,I.laid (t':=s.toks) (fun b o=>sortedAll_old) (Nat.le_succ _) (show ObjOk X.prog X.w _ _ _ (.lst ((Xd ns).map V.int)) from⟨?_,out.toList,e,VZ a1,?_⟩),rfl,q _ (I.hok.fresh (Nat.le_succ _))⟩
 ·rw[List.length_map,(Wu ns).length_eq];exact hz
 ·rw[Array.toArray_toList];exact he
def Xv:List PV->Option PV
 | [.lst l]=>(Ys l).bind fun ns=>if ns.length<64 then some (.lst (iL (Xd ns))) else none
 | [.cst l]=>(Ys l).bind fun ns=>if ns.length<64 then some (.lst (iL (Xd ns))) else none
 | _=>none
theorem Tw{K:PySem.W.Frag}:Ie K (S1 K) Xv:=fun H vs ls l fp h e Q k=>by
 have fin:∀(p:Addr)(ns:List Int),SqL K H p (ns.map V.int)->ns.length<64->l = .lst (iL (Xd ns))->S1 K [.ref p] H Q:=by
  rintro p ns hp hl rfl
  refine⟨p,ns,rfl,hp,hl,fun q hq=>k _ _ [q] (Same.new hq _) (Is.lst upd_same (Iss.ofInts _)) (by simp) fun r hr=>?_⟩
  rw[List.mem_singleton.mp hr]
  exact⟨hq,by rw[upd_same];exact True.intro⟩
 unfold Xv at e
 split at e
 ·obtain⟨ns,e1,e2⟩:=Zd e
  split at e2
  ·cases e2
   obtain⟨v,rfl,i⟩:=h.one_inv
   have em:=Yd e1;subst em
   obtain⟨p,xs,fq,rfl,hp,hi,_⟩:=i.lst_inv
   obtain⟨rfl,rfl⟩:=hi.iL
   exact fin p ns (.inl (.inl hp)) (by assumption) rfl
  ·cases e2
 ·obtain⟨ns,e1,e2⟩:=Zd e
  split at e2
  ·cases e2
   obtain⟨v,rfl,i⟩:=h.one_inv
   have em:=Yd e1;subst em
   obtain⟨p,xs,rfl,hp,hi⟩:=i.cst_inv
   obtain⟨rfl,rfl⟩:=hi.iL
   exact fin p ns hp.sq (by assumption) rfl
  ·cases e2
 ·cases e
def Vp:XS:=fun _=>none
theorem RP{X:Cx}{O W:List Nat}{st:Stmt}:VS X O W st Vp:=by
 intro pins s Z H D I h;unfold Ml at h;simp only[Vp] at h
 obtain⟨_,_,_,_,_,q,_⟩:=h
 cases q
def UE(k:Int):List Int->Option Nat
 | []=>none
 | x::r=>if x=k then some 0 else(UE k r).map (· + 1)
theorem RQ{k:Int}:∀{l:List Int}{j:Nat},UE k l=some j->l[j]?=some k/\∀m,m<j->l[m]?≠some k
 | [],_,h=>by cases h
 | x::r,j,h=>by
  unfold UE at h
  split at h
  ·rename_i e
   cases h
   exact⟨by simp[e],fun m hm=>by omega⟩
  ·rename_i e
   cases q:UE k r with
   | none=>rw[q] at h;cases h
   | some i=>
    rw[q] at h;cases h
    obtain⟨a,b⟩:=RQ q
    refine⟨by simpa using a,fun m hm=>?_⟩
    cases m with
    | zero=>simpa using e
    | succ m=>
     have hm:m+1<i+1:=hm
     simpa using b m (by omega)
theorem S2{k:Int}:∀{l:List Int},k∈l->∃j,UE k l=some j
 | x::r,h=>by
  unfold UE
  by_cases e:x=k
  ·exact⟨0,by rw[if_pos e]⟩
  ·rcases List.mem_cons.mp h with q | q
   ·exact absurd q.symm e
   ·obtain⟨j,hj⟩:=S2 q
    exact⟨j+1,by rw[if_neg e,hj];rfl⟩
def NN(K:PySem.W.Frag):V->List V->Hp->VK->Prop:=fun x vs H Q=>∃p ns k j,x = .ref p/\vs=[.int k]/\SqL K H p (ns.map V.int)/\UE k ns=some j/\Q (.int (j:Int)) H
theorem NO{X:Cx}:IB X "list.index" (NN X.K):=by
 intro pins s Z H x vs v us Q I rx rv h
 obtain⟨p,ns,k,j,rfl,rfl,hq,hj,q⟩:=h
 cases rx
 obtain⟨u,rfl,ru⟩:=WC rv
 obtain⟨t,rfl⟩:=ru
 obtain⟨its,r,pl,hz⟩:=I.list hq
 obtain⟨o,n,ho,hc,hd,hs⟩:=pl
 obtain⟨cls,dd,data,sl⟩:=o
 simp only at hc hd hs
 subst hc hd hs
 have hl:=r.length
 rw[List.length_map] at hl hz
 obtain⟨a,b⟩:=RQ hj
 have hjn:j<ns.length:=(List.getElem?_eq_some_iff.mp a).1
 have at':∀m (hm:m<its.toArray.size),∃t',its.toArray[m]=Value.int (ns.getD m 0) t':=fun m hm=>by
  have hm':m<its.length:=by simpa using hm
  obtain⟨u,hu,ru⟩:=r.get (i:=m) (x:=.int ns[m]) (by rw[List.getElem?_map,List.getElem?_eq_getElem (by omega)];rfl)
  obtain⟨t',rfl⟩:=ru
  refine⟨t',?_⟩
  rw[List.getElem?_eq_getElem hm'] at hu
  have:=Option.some.inj hu
  simp only[List.getElem_toArray]
  rw[this,List.getD_eq_getElem?_getD,List.getElem?_eq_getElem (by omega)];rfl
 let e:Value->Bool:=fun y=>match y with | .int c _=>c==k | _=>false
 have sz:sizeLine<2^62:=by decide
 refine call_meets F.slot_list_index ⟨_,ho,rfl⟩ F.entry_list_index (F.args_list_index_2 _ _) (SeqAt.list_indexAt p its.toArray n none sl (.int k t) e j (by rw[List.size_toArray];omega) (by omega) ?_ ?_) ⟨ho,fun y hy=>?_,.int (j:Int),H,I.tok _,⟨_,rfl⟩,q⟩
 ·obtain⟨t',et⟩:=at' j (by rw[List.size_toArray];omega)
  rw[et]
  show(ns.getD j 0==k)=true
  rw[List.getD_eq_getElem?_getD,a];simp
 ·intro m hm hmj
  obtain⟨t',et⟩:=at' m hm
  rw[et]
  show(ns.getD m 0==k)=false
  have:=b m hmj
  have hm2:m<ns.length:=by omega
  rw[List.getElem?_eq_getElem hm2] at this;rw[List.getD_eq_getElem?_getD,List.getElem?_eq_getElem hm2]
  simpa using this
 ·obtain⟨m,hm,rfl⟩:=Array.getElem_of_mem hy
  obtain⟨t',et⟩:=at' m hm
  rw[et]
  exact SeqAt.EqAt.int_int _ _ _ _
def XN:PV->PV->Option PV
 | .lst l,.int k=>(Ys l).bind fun ns=>(UE k ns).map fun(j:Nat)=>PV.int (j:Int)
 | .cst l,.int k=>(Ys l).bind fun ns=>(UE k ns).map fun(j:Nat)=>PV.int (j:Int)
 | _,_=>none
section
variable {X:Cx} {o e:Expr} {fo fe:XE} {apos cpos:Pos}
theorem RS(ho:VE X o fo)(he:VE X e fe)
  (hbase:attributeBase o "index" X.env (eval o X.env)=eval o X.env:=by rfl)
  (hfew:((backTo cpos (starEach [e] X.env)).all (fun x=>!x.1)&&(backToKw cpos (keywordEach [] X.env)).all (fun x=>x.1.isSome)
   &&decide (([e]:List Expr).length+([]:List Keyword).length+(if([]:List Keyword).isEmpty then 0 else 1)<30))=true:=by rfl)
  (hline:(apos.endLine==cpos.line)=true:=by rfl) (hs:starEach [e] X.env=(false,eval e X.env)::starEach [] X.env:=by rfl) (hplain:(backTo cpos (starEach [] X.env)).any (·.1)=false:=by rfl) :
  VE X (.Call (.Attribute o "index" apos) [e] [] cpos) (Zi XN fo fe):=
 PE.imp (Vd F.plainAttrs_list F.slot_list_index F.type_list_index NO ho (Zb he Ze hs) hbase hfew hline hs hplain) fun Z H Q ⟨Rm,s,l,hd,env,e,k⟩=>by
  obtain⟨x',y',e1,e2,e⟩:=XH e
  refine⟨Rm,s,x',hd,env,e1,fun v H1 fp s1 i1 n1=>?_⟩
  have fin:∀(p:Addr)(ns:List Int)(kk:Int)(j:Nat),v = .ref p->(∀H2,Same H1 H2->SqL X.K H2 p (ns.map V.int))->y' = .int kk->UE kk ns=some j->l = .int (j:Int)->IC X.K "list" v H1/\IG X.K [fe] Z H1 fun xs H2=>NN X.K v xs H2 Q:=by
   rintro p ns kk j rfl hp rfl hj rfl
   refine⟨.inl ⟨rfl,_,hp H1 (Same.refl H1)⟩,Rm,s,[.int kk],fun q hq=>Same.mut s1 (hd q hq),env.mono s1,by show(fe s).bind _=_;rw[e2];rfl,fun vs H2 fq s2 i2 n2=>?_⟩
   obtain⟨w,rfl,iw⟩:=i2.one_inv
   rw[iw.int_inv.1]
   exact⟨p,ns,kk,j,rfl,rfl,hp H2 s2,hj,k _ _ [] (s1.trans s2) (Is.int _) fun r hr=>by simp at hr⟩
  unfold XN at e
  split at e
  ·obtain⟨ns,e3,e4⟩:=Zd e
   obtain⟨j,hj,rfl⟩:=map_some e4
   have em:=Yd e3;subst em
   obtain⟨p,xs,fq,rfl,hp,hi,_⟩:=i1.lst_inv
   obtain⟨rfl,rfl⟩:=hi.iL
   exact fin p ns _ j rfl (fun H2 s2=>.inl (.inl (s2 _ _ hp))) rfl hj rfl
  ·obtain⟨ns,e3,e4⟩:=Zd e
   obtain⟨j,hj,rfl⟩:=map_some e4
   have em:=Yd e3;subst em
   obtain⟨p,xs,rfl,hp,hi⟩:=i1.cst_inv
   obtain⟨rfl,rfl⟩:=hi.iL
   exact fin p ns _ j rfl (fun H2 s2=>by
    obtain⟨p',xs',e',hp',hi'⟩:=(i1.mono s2).cst_inv
    cases e'
    obtain⟨rfl,_⟩:=hi'.iL
    exact hp'.sq) rfl hj rfl
  ·cases e
end
theorem Tx:∀(us:List Value)(k:Nat),(∀(i:Nat)(v:Value),us[i]?=some v->∃t,v=Value.int ((k+i:Nat):Int) t)->Vals ((List.range us.length).map fun i=>V.int ((k+i:Nat):Int)) us
 | [],k,_=>.nil
 | u::us,k,h=>by
  obtain⟨t,rfl⟩:=h 0 u rfl
  rw[List.length_cons,List.range_succ_eq_map,List.map_cons,List.map_map]
  refine .cons ⟨t,rfl⟩ ?_
  have:=Tx us (k+1) fun i v hv=>by
   obtain⟨t,e⟩:=h (i+1) v (by simpa using hv)
   exact⟨t,by rw[e];congr 2;omega⟩
  refine Eq.mp (congrArg (fun l=>Vals l us) (List.map_congr_left fun i _=>?_)) this
  show V.int _=V.int _
  congr 2;omega
def HF(ta:TA):TE:=fun Z H Q=>ta Z H fun vs H1=>∃j:Nat,vs=[.int (j:Int)]/\j<=10000/\∀l,H1 l=none->Q (.ref l) (upd H1 l (.lst ((List.range j).map fun(i:Nat)=>V.int (i:Int))))
section
variable {X:Cx} {a:Expr} {ta:TA} {p p2 pos pos2:Pos}
theorem S3(hc:X.calm=true)(hgl:Gl X "list")(hml:X.mg "list" = none)(hgr:Gl X "range")(hmr:X.mg "range" = none)(ha:PA X [a] ta)(hs:starEach [a] X.env=[(false,eval a X.env)]:=by rfl)
  (he:starEach [.Call (.Name "range" p2) [a] [] pos2] X.env=(false,eval (.Call (.Name "range" p2) [a] [] pos2) X.env)::starEach [] X.env:=by rfl) (hpl:(backTo pos (starEach [] X.env)).any (·.1)=false:=by rfl) :
  PE X (.Call (.Name "list" p) [.Call (.Name "range" p2) [a] [] pos2] [] pos) (HF ta):=by
 intro pins s Z H Q I h
 refine wpAny_Call_Name_kw (Wj I hgl hml (u:=.type "list") (by decide +kernel) ?_)
 refine PyProof.Rows.callWith_type1 (T:="list") ?_ he hpl
 rw[he]
 show wpAny _ _ (spliced ((false,eval (.Call (.Name "range" p2) [a] [] pos2) X.env)::[])) _ _ s
 refine Calls.spliced_cons ?_
 refine Call_ (Wj I hgr hmr boot_range (PyProof.Rows.callWith_type1 (Z5 (ha pos2 pins s Z H _ I h) fun us s1 ⟨vs,H1,I1,r1,q1⟩=>?_) hs rfl))
 obtain⟨j,e,hj,q⟩:=q1
 subst e
 cases r1 with
 | cons r rr=>
  cases rr
  obtain⟨t,rfl⟩:=r
  refine call_range_1 (Calls.spliced_nil ?_)
  have sz:sizeLine=2^24:=rfl
  refine call_list_range (n:=j) (I.ok.hd hc) (IsRange.new ..) (small_one (by omega) (by omega) (by omega) (by omega)) (by rw[rangeSize_one];split<;>omega) (by omega) fun h' tk acc' c' hk hS hacc=>?_
  have I2:=I1.kept (t':=s1.toks+1+1) (h':=s1.heap.push { cls:=.type "range",data:=.fields #[.int 0 s1.toks,.int (j:Int) t,.int 1 (s1.toks+1)] }) fun b o e=>Heap.get?_push_of_some _ e
  refine⟨.ref _,_,I2.laid (t':=tk) hk (Nat.le_refl _) (show ObjOk X.prog X.w _ _ _ (.lst ((List.range j).map fun(i:Nat)=>V.int (i:Int))) from⟨by simp;omega,acc'.toList,c',?_,?_⟩),rfl,q _ (I2.hok.fresh (Nat.le_refl _))⟩
  ·have:=Tx acc'.toList 0 fun i v hv=>by
    obtain⟨t',e⟩:=hacc.2 i v (by simpa using hv)
    exact⟨t',by rw[e];congr 1;omega⟩
   rw[Array.length_toList,hacc.1] at this
   refine Eq.mp (congrArg (fun l=>Vals l acc'.toList) (List.map_congr_left fun i _=>?_)) this
   show V.int _=V.int _
   congr 2;omega
  ·rw[Array.toArray_toList];exact hS
end
def YZ:PV->Option PV
 | .int k=>if 0<=k/\k<=10000 then some (.lst (iL ((List.range k.toNat).map fun(i:Nat)=>(i:Int)))) else none
 | _=>none
theorem V1{X:Cx}{a:Expr}{fa:XE}{p p2 pos pos2:Pos}(hc:X.calm=true)(hgl:Gl X "list")(hml:X.mg "list" = none)(hgr:Gl X "range")(hmr:X.mg "range" = none)(ha:VE X a fa)(hs:starEach [a] X.env=[(false,eval a X.env)]:=by rfl)
  (he:starEach [.Call (.Name "range" p2) [a] [] pos2] X.env=(false,eval (.Call (.Name "range" p2) [a] [] pos2) X.env)::starEach [] X.env:=by rfl) (hpl:(backTo pos (starEach [] X.env)).any (·.1)=false:=by rfl) :
  VM X (.Call (.Name "list" p) [.Call (.Name "range" p2) [a] [] pos2] [] pos) (TM YZ fa):=
 PE.imp (S3 hc hgl hml hgr hmr (Zb ha Ze hs) hs he hpl) fun Z H Q ⟨s,l,env,e,k⟩=>by
  obtain⟨x,e1,e2⟩:=Zd e
  refine⟨fun _=>False,s,[x],fun _ z=>z.elim,env,by show(fa s).bind _=_;rw[e1];rfl,fun vs H1 fp s1 i1 _=>?_⟩
  obtain⟨w,rfl,iw⟩:=i1.one_inv
  cases x with
  | int kk=>
   unfold YZ at e2
   simp only at e2
   split at e2
   case isFalse=>cases e2
   rename_i hk
   cases e2
   refine⟨kk.toNat,by rw[iw.int_inv.1];congr 2;omega,by omega,fun q hq=>?_⟩
   have hm:(List.range kk.toNat).map (fun(i:Nat)=>V.int (i:Int))=((List.range kk.toNat).map fun(i:Nat)=>(i:Int)).map V.int:=by rw[List.map_map];rfl
   rw[hm]
   refine k _ _ [q] (s1.trans (Same.new hq _)) (Is.lst upd_same (Iss.ofInts _)) (by simp) fun r hr=>?_
   rw[List.mem_singleton.mp hr]
   exact⟨Same.off s1 hq,by rw[upd_same];exact True.intro⟩
  | _=>cases e2
variable {K:PySem.W.Frag}
def LS(i j:Int):Prop:=i.natAbs.log2<67108863/\j.natAbs.log2<67108863
def LT(i j:Int):Prop:=j≠0/\j.natAbs.log2<9000
instance (i j:Int):Decidable (LS i j):=by unfold LS;infer_instance
instance (i j:Int):Decidable (LT i j):=by unfold LT;infer_instance
end VL
namespace VL
open PySem PySem.Spec PyProof.Rows L2
variable {K:PySem.W.Frag}
theorem UF(n:Nat):sliceRange ((n:Int)-1) (-1) (-1)=(List.range n).reverse:=by
 unfold sliceRange
 have h1:¬((-1:Int)>0):=by decide
 simp only[h1,if_false]
 have h2:(if(n:Int)-1 > -1 then((n:Int)-1 - -1 - -1-1)/(- -1) else 0)=(n:Int):=by
  split
  ·rw[show(- -1:Int)=1 by decide,Int.ediv_one];omega
  ·omega
 rw[h2,Int.toNat_natCast]
 refine List.ext_getElem (by simp) fun i h3 h4=>?_
 simp at h3
 simp
 omega
theorem TR(items:List Value):slicePick items.toArray none none (some (-1))=items.reverse.toArray:=by
 unfold slicePick
 have e:sliceBounds none none (some (-1)) items.toArray.size=((items.length:Int)-1,-1,-1):=by
  unfold sliceBounds;simp
 rw[e];simp only[];rw[UF]
 congr 1
 rw[List.filterMap_reverse]
 congr 1
 have:((List.range items.length).filterMap fun x=>items.toArray[x]?)=items:=by
  have h:(fun(x:Nat)=>items.toArray[x]?)=fun x=>items[x]?:=by funext x;simp
  rw[h]
  refine List.ext_getElem? fun i=>?_
  have:∀(l:List Value),(List.range l.length).filterMap (fun x=>l[x]?)=l:=by
   intro l
   induction l with
   | nil=>rfl
   | cons a r ih=>
    rw[List.length_cons,List.range_succ_eq_map,List.filterMap_cons];simp only[List.getElem?_cons_zero];rw[List.filterMap_map]
    have h2:((fun x=>(a::r)[x]?) ∘ Nat.succ)=fun x=>r[x]?:=by funext x;simp
    rw[h2,ih]
  rw[this]
 exact this
def Hi(K:PySem.W.Frag)(te:TE)(ts:TO):TE:=fun Z H Q=>te Z H fun x H1=>ts Z H1 fun o H2=>o=some (-1)/\∃a xs,x = .ref a/\SqL K H2 a xs/\∀p,H2 p=none->Q (.ref p) (upd H2 p (.lst xs.reverse))
section
variable {X:Cx} {e st:Expr} {te:TE} {ts:TO} {pos p2:Pos} {fa:XE}
theorem K4(he:PE X e te)(hst:PO X (some st) ts):PE X (.Subscript e (.Slice none none (some st) p2) pos) (Hi X.K te ts):=by
 intro pins s Z H Q I h
 refine Subscript_ (Z5 (he pins s Z H _ I h) fun v s1 ⟨x,H1,I1,r1,q1⟩=>?_)
 refine wpAny_Slice ?_
 rw[evalPart_none]
 refine wpAny_pure (wpAny_pure ?_)
 refine Z5 (hst pins s1 Z H1 _ I1 q1) fun vs s3 hh=>?_
 obtain⟨o,H3,I3,po,rfl,a,xs,rfl,hx,q⟩:=hh
 cases r1
 have I4:Inv X pins Z H3 { s3 with heap:=s3.heap.push { cls:=.type "slice",data:=.fields #[.none,.none,vs] } }:=I3.kept (t':=s3.toks) fun b ob q=>Heap.get?_push_of_some _ q
 obtain⟨its,r,ht,hz⟩:=I4.list hx
 have hlen:=r.length
 show wpAny (model X.prog X.w) X.A (subscriptTail e (.Slice none none (some st) p2) (.ref a) (.ref s3.heap.objs.size)) (EP X pins Z Q) X.xe { s3 with heap:=s3.heap.push { cls:=.type "slice",data:=.fields #[.none,.none,vs] } }
 refine tail_any (T:="list") (ops:=[.ref a,.ref s3.heap.objs.size]) ht.isList.typeIs slot_list_getitem.lookup (wpAny_getItem_list_slice ht.isList (Heap.IsSliceOf.new ..) .none .none po (by simp) ?_ (by rw[List.size_toArray];omega)) (by with_unfolding_all rfl)
 rw[TR]
 refine⟨.ref _,_,I4.laid (t':=s3.toks) (o:=.lst xs.reverse) (fun b ob q=>Heap.get?_push_of_some _ q) (Nat.le_refl _) ?_,rfl,q _ (I4.hok.fresh (Nat.le_refl _))⟩
 exact⟨by rw[List.length_reverse];exact hz,_,0,r.reverse,Heap.get?_push_size _ rfl⟩
def OA:PV->Option PV
 | .lst l=>if Zp l=true then some (.lst l.reverse) else none
 | _=>none
theorem Iss.rev{H:Hp}:∀{l:List PV}{xs:List V},Iss K H l xs []->Iss K H l.reverse xs.reverse []
 | [],xs,h=>by simp only[Iss] at h;rw[h.1];exact Iss.nil
 | a::r,xs,h=>by
  obtain⟨x,t,f1,f2,rfl,h1,h2,ef⟩:=h.inv
  obtain⟨rfl,rfl⟩:f1=[]/\f2=[]:=List.append_eq_nil_iff.mp ef.symm
  rw[List.reverse_cons,List.reverse_cons]
  exact Iss.append (Iss.rev h2) (Iss.one h1)
theorem K5(ha:VE X e fa)(hs:VE X st (TM Td (eC (.int 1)))):VM X (.Subscript e (.Slice none none (some st) p2) pos) (TM OA fa):=PE.imp (K4 ha (Pb hs)) fun Z H Q ⟨s,l,env,e,k⟩=>by
 obtain⟨x,e1,e⟩:=Zd e
 refine⟨fun _=>False,s,x,fun _ z=>z.elim,env,e1,fun v H1 fp s1 i1 _=>⟨fun _=>False,s,.int (-1),fun _ z=>z.elim,env.mono s1,rfl,fun u H2 fu s2 i2 _=>⟨-1,i2.int_inv.1,rfl,?_⟩⟩⟩
 cases x with
 | lst m=>
  have e:(if Zp m=true then some (PV.lst m.reverse) else none)=some l:=e
  split at e
  case isFalse=>cases e
  rename_i pm
  cases e
  obtain⟨p,xs,fq,rfl,hp,hi,rfl⟩:=i1.lst_inv
  have hi2:=(hi.mono s2).pureEq pm
  refine⟨p,xs,rfl,SqL.of (s2 _ _ hp),fun q hq=>?_⟩
  refine k _ _ [q] (s1.trans (s2.trans (Same.new hq _))) (Is.lst upd_same ((Iss.rev hi2).mono (Same.new hq _))) (by simp) fun r hr=>?_
  rw[List.mem_singleton.mp hr]
  exact⟨Same.off (s1.trans s2) hq,by rw[upd_same];exact True.intro⟩
 | _=>cases e
end
end VL
namespace L2
open PySem PySem.Spec PyProof.Rows
abbrev WJ:=Addr->Obj->List (List Z4×V)->It
end L2
namespace VX
open PySem PySem.Spec PyProof.Rows L2
structure Eff(fs ch:List Addr)(h h':Heap):Prop where
 keep:∀b o,h.get? b=some o->b∉ch->b∉fs->h'.get? b=some o
 slot:∀b o,h.get? b=some o->b∉ch->b∈fs->∃sl,h'.get? b=some { o with slots:=sl }
 there:∀b o,h.get? b=some o->∃o',h'.get? b=some o'
theorem Eff.trans{fs ch:List Addr}{h h1 h2:Heap}(x:Eff fs ch h h1)(y:Eff fs ch h1 h2):Eff fs ch h h2:=
 ⟨fun b o e hc hf=>y.keep b o (x.keep b o e hc hf) hc hf,fun b o e hc hf=>by
  obtain⟨sl,e1⟩:=x.slot b o e hc hf
  obtain⟨sl2,e2⟩:=y.slot b _ e1 hc hf
  exact⟨sl2,e2⟩,fun b o e=>by
  obtain⟨o1,e1⟩:=x.there b o e
  exact y.there b o1 e1⟩
theorem Eff.mono{fs ch ch':List Addr}{h h':Heap}(x:Eff fs ch h h')(hs:∀b∈ch,b∈ch'):Eff fs ch' h h':=
 ⟨fun b o e hc hf=>x.keep b o e (fun z=>hc (hs b z)) hf,fun b o e hc hf=>x.slot b o e (fun z=>hc (hs b z)) hf,x.there⟩
theorem Eff.field{fs:List Addr}{h:Heap}{a:Addr}{o:Obj}{vs:Array Value}{f:Array Value->Array Value}(ha:h.get? a=some o)(hd:o.data = .fields vs):Eff fs [a] h (h.update a (Obj.mapFields f)):=
  ⟨fun b u e hc _=>by rw[Heap.get?_update_other _ _ (fun z=>hc (by rw[z];exact .head _))];exact e,
   fun b u e hc _=>⟨u.slots,by rw[Heap.get?_update_other _ _ (fun z=>hc (by rw[z];exact .head _))];exact e⟩,
   fun b u e=>by
    by_cases q:a=b
    · subst q;exact⟨_,Heap.get?_update_self _ ha (Obj.isFreed_of_fields (Obj.data_mapFields hd f))⟩
    · exact⟨u,by rw[Heap.get?_update_other _ _ q];exact e⟩⟩
theorem Eff.funs{fs:List Addr}{ch:List Addr}{h h' base:Heap}{l:List Env}(x:Eff fs ch h h')(hl:h.FunFrames base l)(hc:∀b∈ch,∀o,h.get? b=some o->∃vs,o.data = .fields vs):h'.FunFrames base l:=
 hl.of_keeps fun b o e hn=>by
  have hb:b∉ch:=fun z=>by obtain⟨vs,q⟩:=hc b z o e;exact hn vs q
  by_cases hf:b∈fs
  ·obtain⟨sl,q⟩:=x.slot b o e hb hf;exact⟨_,q,rfl⟩
  ·exact⟨o,x.keep b o e hb hf,rfl⟩
section
variable {M:Model} {A:Around} {E:Value->Shared->Prop} {s:Shared}
theorem Ty{base:Heap}{env:Env}{outer:List Env}{L e:Addr}{oe:Obj}{vs:Array Value}{head:Value}{hadNext:Bool}{Q:Unit->Shared->Prop}
  (hfr:A.frames=some (env::outer)) (hl:s.heap.FunFrames base (env::outer)) (hf:env.frame=some L)
  (he:s.heap.get? e=some oe) (hd:oe.data = .fields vs) (hsz:1<vs.size)
  (h:∀h' T,s.heap.objs.size<=T->h'.get? e=some (oe.mapFields (·.setIfInBounds 1 (.ref T)))->(∃oT ts,h'.get? T=some oT/\oT.data = .fields ts/\ts[3]?=some (rawInt L))->Eff ((env::outer).filterMap (·.frame)) [e] s.heap h'->Q () { s with heap:=h' }) :
  wpAny M A (do let a <-frameOf env;let pl <-entryPlaceOf L hadNext;let b <-EntryCells.newEntry head a .none (rawInt L) .none pl;setField (.ref e) 1 b) Q E s:=by
 have hene:e∉(env::outer).filterMap (·.frame):=fun hm=>by
  obtain⟨_,o,ho,hnf⟩:=hl.mem hm
  rw[he] at ho;injection ho with ho;subst ho;exact hnf vs hd
 refine wpAny_bind (wpAny_frameOf_fun hfr hl hf fun h₁ hs₁=>?_)
 refine wpAny_bind (wpAny_entryPlaceOf fun pl hpl=>?_)
 unfold EntryCells.newEntry newFields
 refine wpAny_bind (wpAny_newObj_type ?_ (hpl.sizeOk5 _ _ _ _ _))
 have he₁:h₁.get? e=some oe:=(hs₁.2.1 e hene).trans he
 have he₂:=Heap.get?_push_of_some (h:=h₁) { cls:=.type "traceback",dict:=none,data:=.fields ([head,.ref L,.none,rawInt L,.none]++(if pl.isEmpty then List.replicate 6 Value.none else pl)).toArray } he₁
 have hsize:h₁.objs.size=s.heap.objs.size:=hs₁.1
 have p1:=Heap.get?_update_self (Obj.mapFields (·.setIfInBounds 1 (Value.ref h₁.objs.size))) he₂ (Obj.isFreed_of_fields (Obj.data_mapFields hd _))
 have p2:=(Heap.get?_update_other (h₁.push { cls:=.type "traceback",dict:=none,data:=.fields ([head,.ref L,.none,rawInt L,.none]++(if pl.isEmpty then List.replicate 6 Value.none else pl)).toArray })
  (Obj.mapFields (·.setIfInBounds 1 (Value.ref h₁.objs.size))) (Nat.ne_of_lt (Heap.lt_size he₁))).trans (Heap.get?_push_size h₁ rfl)
 have p3:Eff ((env::outer).filterMap (·.frame)) [e] s.heap ((h₁.push { cls:=.type "traceback",dict:=none,data:=.fields ([head,.ref L,.none,rawInt L,.none]++(if pl.isEmpty then List.replicate 6 Value.none else pl)).toArray }).update e (Obj.mapFields (·.setIfInBounds 1 (Value.ref h₁.objs.size)))):=
  Eff.trans (h1:=h₁) ⟨fun b o q _ hb=>(hs₁.2.1 b hb).trans q,fun b o q _ _=>hs₁.2.2 b o q,fun b o q=>by obtain⟨sl,z⟩:=hs₁.2.2 b o q;exact⟨_,z⟩⟩ (Eff.trans (h1:=h₁.push _) ⟨fun b o q _ _=>Heap.get?_push_of_some _ q,fun b o q _ _=>⟨o.slots,Heap.get?_push_of_some _ q⟩,fun b o q=>⟨o,Heap.get?_push_of_some _ q⟩⟩ (Eff.field he₂ hd))
 refine wpAny_setField he₂ hd hsz (h _ h₁.objs.size (by omega) p1 ⟨_,_,p2,rfl,?_⟩ p3)
 simp
def K6(h:Heap)(e:Addr)(cls:Value)(dd:Option Addr):Prop:=∃oe vs,h.get? e=some oe/\oe.cls=cls/\oe.dict=dd/\oe.data = .fields vs/\vs[1]?=some .none
def Lj(h:Heap)(e:Addr)(cls:Value)(dd:Option Addr)(T:Addr)(fl:Value):Prop:=
 ∃oe vs oT ts,h.get? e=some oe/\oe.cls=cls/\oe.dict=dd/\oe.data = .fields vs/\vs[1]?=some (.ref T)/\T≠e/\h.get? T=some oT/\oT.data = .fields ts/\ts[3]?=some fl
theorem WP(o:Obj)(f:Array Value->Array Value):(o.mapFields f).dict=o.dict:=by
 unfold Obj.mapFields
 split<;>rfl
variable {base:Heap} {env:Env} {outer:List Env} {L e T:Addr} {cls fl:Value} {dd:Option Addr} {Q:Unit->Shared->Prop}
theorem Ij(hfr:A.frames=some (env::outer))(hl:s.heap.FunFrames base (env::outer))(hf:env.frame=some L)(x:K6 s.heap e cls dd)
  (h:∀h' T,s.heap.objs.size<=T->Lj h' e cls dd T (rawInt L)->Eff ((env::outer).filterMap (·.frame)) [e] s.heap h'->Q () { s with heap:=h' }):wpAny M A (noteFrame (.ref e) env) Q E s:=by
 obtain⟨oe,vs,he,hc,hdd,hd,h1⟩:=x
 unfold noteFrame;simp only[hf]
 refine wpAny_bind (wpAny_field he hd h1 ?_)
 rw[if_neg (by decide)]
 have hsz:=(Array.getElem?_eq_some_iff.mp h1).1
 refine Ty hfr hl hf he hd hsz fun h' T hT p1 ⟨oT,ts,p2,p3,p4⟩ p5=>h h' T hT ⟨_,_,oT,ts,p1,(Obj.cls_mapFields _ _).trans hc,(WP _ _).trans hdd,Obj.data_mapFields hd _,by simp[hsz],?_,p2,p3,p4⟩ p5
 exact Nat.ne_of_gt (Nat.lt_of_lt_of_le (Heap.lt_size he) hT)
theorem Ik(hfr:A.frames=some (env::outer))(hl:s.heap.FunFrames base (env::outer))(hf:env.frame=some L)(x:Lj s.heap e cls dd T .none)
  (h:∀h' T',s.heap.objs.size<=T'->Lj h' e cls dd T' (rawInt L)->Eff ((env::outer).filterMap (·.frame)) [e,T] s.heap h'->Q () { s with heap:=h' }):wpAny M A (noteFrame (.ref e) env) Q E s:=by
 obtain⟨oe,vs,oT,ts,he,hc,hdd,hd,h1,hTe,hT,hdT,h3⟩:=x
 unfold noteFrame;simp only[hf]
 refine wpAny_bind (wpAny_field he hd h1 ?_)
 rw[if_pos (show(Value.ref T != Value.none)=true from by simp)]
 refine wpAny_bind (wpAny_field hT hdT h3 ?_)
 rw[if_neg (show ¬((Value.none==rawInt L)=true) from by simp[rawInt])]
 refine wpAny_bind (wpAny_setField hT hdT (Array.getElem?_eq_some_iff.mp h3).1 ?_)
 have hsz:=(Array.getElem?_eq_some_iff.mp h1).1
 have ef:Eff ((env::outer).filterMap (·.frame)) [T] s.heap (s.heap.update T (Obj.mapFields (·.setIfInBounds 3 Value.none))):=Eff.field hT hdT
 have hl':=ef.funs hl (fun b hb o q=>by rw[List.mem_singleton.mp hb,hT] at q;cases q;exact⟨_,hdT⟩)
 have he':=(Heap.get?_update_other s.heap (Obj.mapFields (·.setIfInBounds 3 Value.none)) hTe).trans he
 have hz:(s.heap.update T (Obj.mapFields (·.setIfInBounds 3 Value.none))).objs.size=s.heap.objs.size:=by simp
 refine Ty (s:={ s with heap:=s.heap.update T (Obj.mapFields (·.setIfInBounds 3 Value.none)) }) hfr hl' hf he' hd hsz fun h' T' hT' p1 ⟨oT',ts',p2,p3,p4⟩ p5=>h h' T' (by rw[<-hz];exact hT') ⟨_,_,oT',ts',p1,(Obj.cls_mapFields _ _).trans hc,(WP _ _).trans hdd,Obj.data_mapFields hd _,by simp[hsz],?_,p2,p3,p4⟩ ?_
 ·have hT':(s.heap.update T (Obj.mapFields (·.setIfInBounds 3 Value.none))).objs.size<=T':=hT'
  rw[hz] at hT'
  exact Nat.ne_of_gt (Nat.lt_of_lt_of_le (Heap.lt_size he) hT')
 ·exact(ef.mono fun b hb=>by simp at hb;simp[hb]).trans (p5.mono fun b hb=>by simp at hb;simp[hb])
theorem QD(x:Lj s.heap e cls dd T fl){fs:List Addr}(h:∀h',Lj h' e cls dd T .none->Eff fs [T] s.heap h'->h'.objs.size=s.heap.objs.size->Q () { s with heap:=h' }):wpAny M A (setFlight (.ref e) none) Q E s:=by
 obtain⟨oe,vs,oT,ts,he,hc,hdd,hd,h1,hTe,hT,hdT,h3⟩:=x
 have hsz:=(Array.getElem?_eq_some_iff.mp h3).1
 unfold setFlight
 refine wpAny_bind (wpAny_field he hd h1 ?_)
 rw[if_pos (show(Value.ref T != Value.none)=true from by simp)]
 refine wpAny_setField hT hdT hsz (h _ ⟨oe,vs,_,_,(Heap.get?_update_other _ _ hTe).trans he,hc,hdd,hd,h1,hTe,Heap.get?_update_self _ hT (Obj.isFreed_of_fields (Obj.data_mapFields hdT _)),Obj.data_mapFields hdT _,by simp[hsz]⟩ (Eff.field hT hdT) (by simp))
theorem NP(hfr:A.frames=some (env::outer))(hl:s.heap.FunFrames base (env::outer))(hf:env.frame=some L)(x:K6 s.heap e cls dd)
  (h:∀h' T,s.heap.objs.size<=T->Lj h' e cls dd T .none->Eff ((env::outer).filterMap (·.frame)) [e] s.heap h'->Q () { s with heap:=h' }):wpAny M A (leaving env (.ref e)) Q E s:=by
 unfold leaving
 refine wpAny_bind (Ij hfr hl hf x fun h1 T hT x1 e1=>?_)
 refine QD x1 (fs:=(env::outer).filterMap (·.frame)) fun h2 x2 e2 _=>h h2 T hT x2 ?_
 have nT:∀b o,s.heap.get? b=some o->b≠T:=fun b o q z=>by
  subst z
  exact Nat.lt_irrefl _ (Nat.lt_of_lt_of_le (Heap.lt_size q) hT)
 exact⟨fun b o q hc hf=>e2.keep b o (e1.keep b o q hc hf) (by simpa using nT b o q) hf,fun b o q hc hf=>by
  obtain⟨sl,q1⟩:=e1.slot b o q hc hf
  obtain⟨sl2,q2⟩:=e2.slot b _ q1 (by simpa using nT b o q) hf
  exact⟨sl2,q2⟩,fun b o q=>by
  obtain⟨o1,q1⟩:=e1.there b o q
  exact e2.there b o1 q1⟩
end
section
variable {P:Program} {w:World} {fs ch:List Addr} {H:Hp} {h h':Heap}
theorem PK(x:HOk P w H h)(e:Eff fs ch h h')(hc:∀b∈ch,H b=none)(hf:∀b∈fs,H b=none):HOk P w H h':=fun a o ha=>
 (x a o ha).stay (fun b u hb q=>by
  have hb':∃o',H b=some o':=by
   rcases hb with z | z
   ·exact⟨o,by rw[z];exact ha⟩
   ·exact⟨_,z⟩
  obtain⟨o',hb'⟩:=hb'
  exact e.keep b u q (fun z=>by rw[hc b z] at hb';cases hb') (fun z=>by rw[hf b z] at hb';cases hb')) (fun _ q=>q) fun _ _ q=>q
end
def Fl(H':Hp)(h0 h:Heap)(e:Addr)(cls:Value)(dd:Option Addr):Prop:=∃T,Lj h e cls dd T .none/\H' e=none/\H' T=none/\h0.get? e=none/\h0.get? T=none
def Jt(P:Program)(w:World):O8:=fun outer H s E v s'=>
 ∃e cls dd H',v = .ref e/\s'.os=s.os/\AllBare s'.gens/\Un (Qa outer) [] H H' s.heap s'.heap/\HOk P w H' s'.heap/\Fl H' s.heap s'.heap e cls dd/\E cls dd H'
section
variable {X:Cx} {pins:List (Addr×Obj)} {Z:L2.St} {H:Hp} {s:Shared} {e:Addr} {cls:Value} {dd:Option Addr} {E:XK}
structure NQ(X:Cx)(E:XK):Prop where
 stk:X.stack=X.env::X.outer
 fr:X.env.frame=some X.env.locals
 ex:X.ex=[]
 xe:X.xe=fun v s'=>wpAny (model X.prog X.w) X.A (leaving X.env v) (fun _ s''=>Jt X.prog X.w X.outer X.H₀ X.s₀ E v s'') (fun v' s''=>Jt X.prog X.w X.outer X.H₀ X.s₀ E v' s'') s'
theorem OB(D:NQ X E)(I:Inv X pins Z H s){ch:List Addr}{h':Heap}{T:Addr}(hT:X.s₀.heap.get? T=none)(he:X.s₀.heap.get? e=none)(hH:H e=none)(hHT:H T=none)(hc:∀b∈ch,H b=none/\X.s₀.heap.get? b=none)(x:Lj h' e cls dd T .none)
  (ef:Eff ((X.env::X.outer).filterMap (·.frame)) ch s.heap h') (q:E cls dd H):Jt X.prog X.w X.outer X.H₀ X.s₀ E (.ref e) { s with heap:=h' }:=by
 have hf:∀b∈(X.env::X.outer).filterMap (·.frame),H b=none:=fun b hb=>by
  have:=I.stkFree b
  rw[D.stk] at this
  exact this hb
 refine⟨e,cls,dd,H,rfl,I.os,I.bare,?_,PK I.hok ef (fun b hb=>(hc b hb).1) hf,⟨T,x,hH,hHT,he,hT⟩,q⟩
 have ub:=I.base
 have lt:∀b o,X.s₀.heap.get? b=some o->b∉ch:=fun b o z hb=>by rw[(hc b hb).2] at z;cases z
 have nL:∀b o,X.s₀.heap.get? b=some o->b≠X.env.locals:=fun b o z hb=>by
  subst hb
  exact Nat.lt_irrefl _ (Nat.lt_of_lt_of_le (Heap.lt_size z) I.ok.above)
 have mem:∀b o,X.s₀.heap.get? b=some o->(b∈(X.env::X.outer).filterMap (·.frame)↔b∈Qa X.outer):=fun b o z=>by
  rw[List.filterMap_cons_some D.fr,List.mem_cons]
  exact⟨fun h=>h.elim (fun q=>absurd q (nL b o z)) fun q=>q,.inr⟩
 have nex:∀b:Addr,b∉X.ex:=fun b z=>by rw[D.ex] at z;simp at z
 refine⟨fun b o z n hb _=>?_,fun b o z n hb _=>?_,fun b o z n _=>ub.free b o z n (nex b),fun b o z _=>?_,ub.tups,ub.frzs,ub.tbls⟩
 ·exact ef.keep b o (ub.keep b o z n hb (nex b)) (lt b o z) (fun q=>hb ((mem b o z).mp q))
 ·obtain⟨sl,z1⟩:=ub.slot b o z n hb (nex b)
  obtain⟨sl2,z2⟩:=ef.slot b _ z1 (lt b o z) ((mem b o z).mpr hb)
  exact⟨sl2,z2⟩
 ·obtain⟨o1,z1⟩:=ub.there b o z (nex b)
  exact ef.there b o1 z1
theorem K7(D:NQ X E)(I:Inv X pins Z H s)(x:K6 s.heap e cls dd)(he:X.s₀.heap.get? e=none)(hH:H e=none)(q:E cls dd H):X.xe (.ref e) s:=by
 rw[D.xe];have hst:=I.stack;rw[D.stk] at hst;have hfr:=I.ok.frames;rw[D.stk] at hfr
 refine NP hfr hst D.fr x fun h' T hT x' ef=>?_
 exact OB D I (Heap.get?_none_of_le (Nat.le_trans I.sz hT)) he hH (I.hok.fresh hT) (fun b hb=>by rw[List.mem_singleton.mp hb];exact⟨hH,he⟩) x' ef q
theorem Lk{P:Program}{w:World}{K:PySem.W.Frag}{mg:Str->Option Value}{base:Heap}{N:List Str}{qual:Str}{scope:Scope}{f:Addr}{cd:Value}{A:Around}{outer:List Env}{s:Shared}{H:Hp}{E:XK} :
  NQ (U1 (Jt P w) P w K mg base N qual scope f cd A outer s H E) E:=⟨rfl,rfl,rfl,rfl⟩
end
theorem K8{K:PySem.W.Frag}{h:Heap}{C:Addr}{bmB:List Value}{newId:String}(X:K.In h)(q:PySem.W.excIn K C bmB newId=true) :
  ∃bm N nm qn bs hdct sn sub ab col dd k0 k1 k2 k3 k5 mN,h.get? C=some (excClassObj nm qn C N bs bm hdct sn sub ab col dd k0 k1 k2 k3 k5 newId)/\h.Ns N mN/\mN "__init__" = none/\OwnTail h bmB bm:=by
 unfold PySem.W.excIn at q
 split at q
 ·rename_i dd cd sl ho
  split at q
  ·rename_i C' bm k0 k1 k2 k3 n k5 hm hs
   simp only[Bool.and_eq_true,beq_iff_eq,Bool.not_eq_true'] at q
   obtain⟨⟨⟨⟨⟨rfl,rfl⟩,hdel⟩,ht⟩,hok⟩,hni⟩:=q
   obtain⟨nm,bs,mro,ns,qn,hd,sn,sub,ab,col,HG⟩:=cd
   dsimp only at hm hdel hok hni
   subst hm hdel
   have hsl:sl = #[k0,k1,k2,k3,some (.builtin n),k5]:=by
    obtain⟨l⟩:=sl
    simp only at hs
    rw[hs]
   subst hsl
   exact⟨bm,ns,nm,qn,bs,hd,sn,sub,ab,col,dd,k0,k1,k2,k3,k5,_,X _ _ ho,.of_isNs (PySem.W.isNs_of_in X hok),PySem.W.nsMap_none_of_in X hok hni,PySem.W.tail_of_in X ht⟩
  ·cases q
 ·cases q
theorem OC{P:Program}{w:World}{H:Hp}{h:Heap}{a:Addr}{o:HO}(x:ObjOk P w H h a o):∃ob,h.get? a=some ob:=by
 cases o with
 | lst xs=>obtain⟨_,_,_,_,e⟩:=x;exact⟨_,e⟩
 | tup xs=>obtain⟨_,_,_,p⟩:=x;obtain⟨ob,e,_⟩:=p;exact⟨_,e⟩
 | dK kvs=>obtain⟨_,_,_,_,o,_,_,e,_⟩:=x;exact⟨_,e⟩
 | dT kvs=>obtain⟨_,_,_,_,o,_,_,e,_⟩:=x;exact⟨_,e⟩
 | set S n=>obtain⟨o,_,_,_,e,_⟩:=x;exact⟨_,e⟩
 | ins C dx fs=>obtain⟨_,_,_,e,_⟩:=x;exact⟨_,e⟩
 | own y=>exact x
 | xd fs=>obtain⟨_,⟨_,_,_,e,_⟩,_⟩:=x;exact⟨_,e⟩
 | rng lo hi=>obtain⟨_,_,_,e⟩:=x;exact⟨_,e⟩
 | frz ob u=>exact⟨_,x.1⟩
 | tbl ps=>exact⟨_,x⟩
 | met f y=>exact⟨_,x⟩
 | ext φ=>exact x.2.1
section
variable {X:Cx} {E:XK} {C:Addr} {bmB:List Value} {B newId initId:String} {x:Str} {np cpos pos:Pos} {a:Expr} {ta:TE}
theorem NR(F:ExcBaseFacts B newId initId bmB)(hq:PySem.W.excIn X.K C bmB newId=true)(hg:Gl X x)(hm:X.mg x=some (.ref C))(hcalm:X.calm=true)(DX:NQ X E)(ha:PE X a ta)
  (hdb:(x==("__debug__" : Str))=false:=by decide) (he:starEach [a] X.env=(false,eval a X.env)::starEach [] X.env:=by rfl):PS X (.Raise (some (.Call (.Name x np) [a] [] cpos)) none pos) (fun _ Z H=>ta Z H fun v H1=>[v].length=1/\E (.ref C) none H1):=by
 intro pins s Z H D I h
 have X0:X.K.In X.base:=I.ok.mod.kin
 obtain⟨bm,N,nm,qn,bs,hdct,sn,sub,ab,col,dd,k0,k1,k2,k3,k5,mN,hC,hN,hni,TL⟩:=K8 X0 hq
 refine wpAny_Raise_call_subT (nm:=nm) (q:=qn) (N:=N) (bs:=bs) (hdct:=hdct) (sn:=sn) (sub:=sub) (ab:=ab) (col:=col) (dd:=dd) (k0:=k0) (k1:=k1) (k2:=k2) (k3:=k3) (k5:=k5) F (mN:=mN) (TL.hasType F.hasBase) (I.ok.hd hcalm) (by rw[he];rfl) hni (Vs I hg hm ⟨rfl,?_⟩ hdb)
 have pa:PA X [a] (Ux ta P7):=ZX ha Xe (hs:=he)
 have key:wpAny (model X.prog X.w) X.A (spliced (backTo cpos (starEach [a] X.env))) (fun us s₂=>us.length<=sizeLine/\s₂.heap.get? C=some (excClassObj nm qn C N bs bm hdct sn sub ab col dd k0 k1 k2 k3 k5 newId)/\s₂.heap.Ns N mN/\OwnTail s₂.heap bmB bm/\
    ∀h' e,Heap.MadeExcOf s₂.heap h' e (.ref C) us->X.xe (.ref e) { s₂ with heap:=h' }) X.xe s:=by
  refine Z5 (pa cpos pins s Z H (fun vs H1=>vs.length=1/\E (.ref C) none H1) I h) fun us s₂ ⟨vs,H1,I1,r,hl,q⟩=>?_
  have lu:us.length=1:=by rw[<-r.length];exact hl
  refine⟨by rw[lu];decide,I1.bk _ _ hC,hN.keeps I1.bk,TL.keeps I1.bk,fun h' e hm=>?_⟩
  have I2:Inv X pins Z H1 { s₂ with heap:=h' }:=I1.kept (t':=s₂.toks) hm.keeps
  obtain⟨t,ht,_,_⟩:=hm.there
  refine K7 DX I2 ⟨_,_,ht,rfl,rfl,rfl,rfl⟩ ?_ ?_ q
  ·cases z:X.s₀.heap.get? e with
   | none=>rfl
   | some o=>
    obtain⟨o',z'⟩:=I1.base.there e o z (by rw[DX.ex];simp)
    rw[hm.new] at z';cases z'
  ·cases z:H1 e with
   | none=>rfl
   | some o=>
    obtain⟨o',z'⟩:=OC (I1.hok e o z)
    rw[hm.new] at z';cases z'
 rw[he] at key ⊢
 exact Calls.evalArgs_plain (wpAny_mono key (fun us s₂ h2=>⟨rfl,h2⟩) fun _ _ z=>z)
end
theorem UA:∀(ts:List Str)(k m:Nat)(acc:Str),(∀t∈ts,t.length<=m)->(textFrom k acc ts).length<=acc.length+ts.length*(m+2)
 | [],k,m,acc,_=>by show acc.length<=_;omega
 | t::r,k,m,acc,h=>by
  have h1:=UA r (k+1) m (acc++(if k>0 then ", " else "" : String)++t) (fun u hu=>h u (by simp[hu]))
  have h2:=h t (by simp)
  have e:(acc++(if k>0 then ", " else "" : String)++t).length<=acc.length+2+t.length:=by
   rw[strLen_append,strLen_append]
   have:(Str.ofString (if k>0 then ", " else "" : String)).length<=2:=by split<;>decide
   omega
  show(textFrom (k+1) (acc++(if k>0 then ", " else "" : String)++t) r).length<=_
  rw[List.length_cons,Nat.add_mul];omega
theorem RT{ts:List Str}{m:Nat}(h:∀t∈ts,t.length<=m):(listText ts).length<=2+ts.length*(m+2):=by
 unfold listText;rw[strLen_append]
 have:=UA ts 0 m "[" h
 have e1:(Str.ofString "[").length=1:=by decide
 have e2:(Str.ofString "]").length=1:=by decide
 omega
theorem OD(is:List Int):PyData.shownAll (is.map PyData.int)=is.map fun i=>Str.ofString (toString i):=by
 induction is with
 | nil=>rfl
 | cons i r ih=>rw[List.map_cons,PyData.shownAll,ih];rfl
theorem S4{is:List Int}(h:∀i∈is,i.natAbs.log2<1920):PyData.showableAll (is.map PyData.int)=true:=by
 induction is with
 | nil=>rfl
 | cons i r ih=>
  rw[List.map_cons,PyData.showableAll,ih fun j hj=>h j (by simp[hj])]
  simp[PyData.showable,h i (by simp)]
theorem QE(is:List Int):PyData.hasDictAll (is.map PyData.int)=false:=by
 induction is with
 | nil=>rfl
 | cons i r ih=>rw[List.map_cons,PyData.hasDictAll,ih];rfl
theorem Sm{h:Heap}:∀{is:List Int}{us:List Value},Vals (is.map V.int) us->ReadsAll h us (is.map PyData.int) []
 | [],_,.nil=>.nil
 | i::r,_,.cons h1 h2=>by
  obtain⟨t,rfl⟩:=h1
  exact ReadsAll.cons (as:=[]) (bs:=[]) (.int i t) (Sm h2)
theorem OE(is:List Int):PyData.depthAll (is.map PyData.int)<=1:=by
 induction is with
 | nil=>decide
 | cons i r ih=>
  rw[List.map_cons,PyData.depthAll];simp[PyData.depth];omega
section
variable {X:Cx} {k:Nat} {e:Expr} {te:TE} {y:Str} {p1 p2 p3:Pos} {jj:Nat}
def Hj(te:TE):TE:=fun Z H Q=>te Z H fun v H1=>∃(a:Addr) (is:List Int),v = .ref a/\(∃xs,xs=is.map V.int/\H1 a=some (.lst xs))/\is.length<=100/\(∀i∈is,i.natAbs.log2<1920)/\∀z,Q (.str z) H1
theorem K9(hr:Room k X.A)(he:PE X e te)(hy:y.length<=1000:=by decide):PE X (.JoinedStr [.Constant (.str y) jj p1,.FormattedValue e (-1) none p2] p3) (Hj te):=by
 intro pins s Z H Q I h
 refine wpAny_JoinedStr ?_
 show wpAny _ _ (eval (.Constant (.str y) jj p1) X.env) _ _ s
 refine Z5 (L5 (X:=X) (x:=y) (j:=jj) (pos:=p1) pins s Z H (fun v H1=>v = .str y/\H1=H) I ⟨rfl,rfl⟩) fun u s1 ⟨v,H1,I1,r,hv,hH⟩=>?_
 subst hv hH
 obtain⟨t,rfl⟩:=r
 have e0:(Str.empty++y).length=y.length:=by rw[strLen_append];show 0+_=_;omega
 have sz:(1000:Nat)+200000<=sizeLine:=by decide
 refine⟨y,t,rfl,by omega,?_⟩
 show wpAny _ _ (eval (.FormattedValue e (-1) none p2) X.env) _ _ s1
 refine wpAny_FormattedValue_plain ?_
 refine Z5 (he pins s1 Z H1 _ I1 h) fun u s2 ⟨v,H2,I2,r,a,is,hv,⟨xs,hxs,ha⟩,hl,hs,q⟩=>?_
 subst hv hxs
 obtain rfl:u=Value.ref a:=r
 obtain⟨_,its,n,rv,ho⟩:=(show ObjOk X.prog X.w H2 s2.heap a (.lst (is.map V.int)) from I2.hok a _ ha)
 have rd:Reads s2.heap (.ref a) (.list (is.map PyData.int)) [a]:=.list ho rfl rfl (Sm (by simpa using rv))
 have sl:(PyData.list (is.map PyData.int)).shown.length<=2+is.length*(1930+2):=by
  show(listText (PyData.shownAll (is.map PyData.int))).length<=_
  rw[OD]
  have:=RT (ts:=is.map fun i=>Str.ofString (toString i)) (m:=1930) fun t ht=>by
   obtain⟨i,hi,rfl⟩:=List.mem_map.mp ht
   have:=int_text_length_le (k:=1920) (by decide) (hs i hi)
   rw[PySem.ofString_length];omega
  rwa [List.length_map] at this
 have s2':is.length*(1930+2)<=193200:=by omega
 have hu:=hr.un;have dp:=OE is
 refine formatField_of_reads rd (S4 hs) (fun z=>by rw[show(PyData.list (is.map PyData.int)).hasDict=PyData.hasDictAll (is.map PyData.int) from rfl,QE] at z;cases z) hr.gd (by
  show X.A.units+(PyData.depth (.list (is.map PyData.int))+2)<cLine
  simp only[PyData.depth]
  omega) (fun _ _ z=>z) (fun h' u tk hk=>?_) (by omega)
 have I3:Inv X pins Z H2 { s2 with heap:=h',toks:=tk }:=I2.kept hk
 refine⟨_,u,rfl,?_,?_⟩
 ·rw[strLen_append,e0];omega
 ·refine⟨by rw[strLen_append,e0];omega,.str _,H2,I3.tok _,⟨_,rfl⟩,q _⟩
end
end VX
namespace VX
open PySem PySem.Spec PyProof.Rows L2 VL
abbrev XR:=ZD->Option Str
def Hk(K:PySem.W.Frag)(O:List Nat)(fx:XR)(E:XK):TS:=fun _ Z H=>∃H0 fps s n,Rel K O H0 fps s Z H/\fx s=some n/\∀C H',PySem.W.nsIn K mainGlobals n=some (some (.ref C))->Same H0 H'->E (.ref C) none H'
def VX(X:Cx)(O:List Nat)(E:XK)(st:Stmt)(fx:XR):Prop:=PS X st (Hk X.K O fx E)
def Ja(X:Cx)(O:List Nat)(E:XK)(st:List Stmt)(fx:XR):Prop:=PSs X st (Hk X.K O fx E)
def QF(n:Str)(f:XE):XR:=fun s=>match f s with
 | some (.lst l)=>(match Ys l with
  | some is=>if is.length<=100/\∀i∈is,i.natAbs.log2<1920 then some n else none
  | none=>none)
 | _=>none
def Il(fc:XT)(f g:XR):XR:=fun s=>(fc s).bind fun c=>if c=true then f s else g s
def QG(f1:XR)(f:XS)(g:XR):XR:=fun s=>match f1 s with
 | some c=>some c
 | none=>(match f s with
  | some (.nx s')=>g s'
  | _=>none)
def Ju:XR:=fun _=>none
section
variable {X:Cx} {O W:List Nat} {E:XK} {C:Addr} {bmB:List Value} {B newId initId:String} {x y:Str} {np cpos pos p1 p2 p3:Pos} {jj k:Nat} {e:Expr} {f:XE}
theorem NS(F:ExcBaseFacts B newId initId bmB)(hq:PySem.W.excIn X.K C bmB newId=true)(hg:Gl X x)(hm:X.mg x=some (.ref C))(hns:PySem.W.nsIn X.K mainGlobals x=some (some (.ref C)))(hcalm:X.calm=true)(DX:NQ X E)(hr:Room k X.A)(he:VE X e f)
  (hy:y.length<=1000:=by decide) (hdb:(x==("__debug__" : Str))=false:=by decide) (hst:starEach [.JoinedStr [.Constant (.str y) jj p1,.FormattedValue e (-1) none p2] p3] X.env=(false,eval (.JoinedStr [.Constant (.str y) jj p1,.FormattedValue e (-1) none p2] p3) X.env)::starEach [] X.env:=by rfl) :
  VX X O E (.Raise (some (.Call (.Name x np) [.JoinedStr [.Constant (.str y) jj p1,.FormattedValue e (-1) none p2] p3] [] cpos)) none pos) (QF x f):=
 PS.imp (NR F hq hg hm hcalm DX (K9 hr he hy) hdb hst) fun D Z H ⟨H0,fps,s,cls,r,e,q⟩=>by
  unfold QF at e
  split at e
  ·rename_i l hl
   split at e
   ·rename_i is his
    split at e
    ·rename_i hs
     cases e
     have:=Yd his
     subst this
     refine⟨fun _=>False,s,.lst (iL is),fun _ z=>z.elim,r.env,hl,fun v H' fp sm i _=>?_⟩
     obtain⟨p,xs,fq,rfl,hp,hi,_⟩:=i.lst_inv
     exact⟨p,is,rfl,⟨xs,hi.iL.1,hp⟩,hs.1,hs.2,fun z=>⟨rfl,q C H' hns (r.same.trans sm)⟩⟩
    ·cases e
   ·cases e
  ·cases e
variable {st:Stmt} {Zk a b:List Stmt} {c:Expr} {fc:XT} {f1 g1:XR} {fs:XS}
theorem vx_no:VX X O E st Ju:=fun pins s Z H D I ⟨_,_,_,_,_,e,_⟩=>by cases e
theorem NT:Ja X O E Zk Ju:=fun pins s Z H D I ⟨_,_,_,_,_,e,_⟩=>by cases e
theorem Im(hc:VT X c fc)(ha:Ja X O E a f1)(hb:Ja X O E b g1):VX X O E (.If c a b pos) (Il fc f1 g1):=PS.imp (LC hc ha hb) fun D Z H ⟨H0,fps,s,cls,r,e,q⟩=>by
 obtain⟨d,e1,e⟩:=Zd e
 refine⟨fun _=>False,s,d,fun _ z=>z.elim,r.env,e1,fun H1 s1=>?_⟩
 cases d with
 | true=>rw[if_pos rfl] at e ⊢;exact⟨H0,fps,s,cls,r.grow s1,e,q⟩
 | false=>rw[if_neg Bool.false_ne_true] at e ⊢;exact⟨H0,fps,s,cls,r.grow s1,e,q⟩
theorem Ll(h:VX X O E st f1):Ja X O E [st] f1:=Q6 h
theorem OF{t:TS}(h1:PS X st t)(hx:∀D D' Z H,t D Z H->t D' Z H):PSs X (st::Zk) (fun _ Z H=>t { nx:=fun _ _=>False,rt:=fun _ _=>False } Z H):=by
 intro pins s Z H D I h
 refine wpAny_execs_cons (Z5 (h1 pins s Z H { nx:=fun _ _=>False,rt:=fun _ _=>False } I h) fun f s1 q=>?_)
 cases f with
 | next=>obtain⟨_,_,_,z⟩:=q;exact z.elim
 | ret u=>obtain⟨_,_,_,_,_,z⟩:=q;exact z.elim
 | brk=>obtain⟨_,_,_,z⟩:=q;exact z.elim
 | cont=>obtain⟨_,_,_,z⟩:=q;exact z.elim
theorem NU(h1:VX X O E st f1)(hs:VS X O W st fs)(h2:Ja X O E Zk g1):Ja X O E (st::Zk) (QG f1 fs g1):=by
 intro pins s Z H D I ⟨H0,fps,sp,cls,r,e,q⟩
 unfold QG at e
 split at e
 ·rename_i c hc
  cases e
  exact OF h1 (fun _ _ _ _ z=>z) pins s Z H D I ⟨H0,fps,sp,_,r,hc,q⟩
 ·split at e
  ·rename_i s' hf
   refine Rg hs h2 pins s Z H D I ⟨H0,fps,sp,.nx s',r,hf,fun fps' Z' H' r' _=>?_⟩
   exact⟨H0,fps',s',cls,r',e,q⟩
  ·cases e
end
def spX(K:PySem.W.Frag)(R:List PV->Option Str)(n:Nat):Sp:=fun vs H _ E=>vs.length=n/\∃ls fp nm,Iss K H ls vs fp/\R ls=some nm/\∀C H',PySem.W.nsIn K mainGlobals nm=some (some (.ref C))->Same H H'->E (.ref C) none H'
def Io(m:Nat)(fx:XR):List PV->Option Str:=fun ls=>fx (ZV m ls)
structure CalX(P:Program)(w:World)(K:PySem.W.Frag)(mg:Str->Option Value)(base:Heap)(x:Str)(ps:List Str)(sp:Sp)(k:Nat):Prop where
 ex:∃f fd,mg x=some (.ref f)/\PySem.W.keepIn K (.ref f)=true/\Binds K fd ps []/\Vt P w K mg base (Jt P w) k f fd ps sp
section
variable {K:PySem.W.Frag} {P:Program} {w:World} {mg:Str->Option Value} {base:Heap}
open Classical in
theorem Jb{N:List Str}{O:List Nat}{n:Nat}{fx:XR}{vs:List V}{H:Hp}{Q:VK}{E:XK}{D:Wy}(hO:∀i∈O,n<=i)(h:spX K (Io N.length fx) n vs H Q E):Hk K O fx E D (L2.start N vs) H:=by
 obtain⟨hl,ls,fp,cls,hi,e,q⟩:=h
 obtain⟨H0,fps,s,out,r,e1,k⟩:=SU (N:=N) (n:=n) (O:=O) (W:=[]) (f:=fun s=>if s=ZV N.length ls then some (.rt .non) else none) (vs:=vs) (H:=H) (Q:=fun _ H'=>Same H H') (E:=fun _ _ _=>True) hO ⟨hl,ls,fp,.non,hi,by unfold X8;simp[X6],fun _ H' _ sm _ _ _=>sm⟩
 simp only at e1
 split at e1
 ·rename_i hs
  cases e1;subst hs
  exact⟨H0,fps,_,cls,r,e,fun C H' hc sm=>q C H' hc (k .non [] H' sm Is.non List.nodup_nil fun p hp=>by simp at hp)⟩
 ·cases e1
theorem def_x{x:Str}{st:Stmt}{N ps:List Str}{k n:Nat}{O:List Nat}(m:Nat)(fx:XR)(D:Def K mg x st)(S:ZE N ps (Zh st))
  (hb:∀(kV doc pm:Value)(an:Option Addr)(cdv ct:Value)(us:List Value),us.length=ps.length->bindArgs (PySem.W.fnOf x x (Zz st) (Zs st) (Zh st) .none kV doc pm an cdv ct) ⟨us,[]⟩=pure (ps.zip us))
  (hn:ps.length=n) (hm:N.length=m) (hO:∀i∈O,n<=i)
  (hbody:∀(fa:Addr)(cdv:Value)(A:Around)(outer:List Env)(s:Shared)(H:Hp)(E:XK),Room k (A.deeper (envOfC x (Zh st) s.heap.objs.size fa cdv))->Ja (U1 (Jt P w) P w K mg base N x (Zh st) fa cdv A outer s H E) O E (Zs st) fx) :
  CalX P w K mg base x ps (spX K (Io m fx) n) (k+1):=by
 subst hm
 obtain⟨f,fd,hm,F⟩:=D.ex
 refine⟨f,fd,hm,F.kp,F.binds hb,?_⟩
 obtain⟨oc,od,kV,doc,pm,an,cdv,ct,osl,rfl,lk,hcd⟩:=F.ex
 exact LH lk hcd S (fun vs H Q E h=>by rw[hn];exact h.1) fun A outer s H vs Q E hr hsp=>⟨_,hbody f cdv A outer s H E hr,Jb hO hsp⟩
end
section
variable {X:Cx} {pins:List (Addr×Obj)} {Z:L2.St} {H:Hp} {s:Shared}
theorem OG{A:Around}{E:Value->Shared->Prop}{i:Nat}{n:Str}{pos:Pos}{Q:Unit->Shared->Prop}(I:Inv X pins Z H s)(hN:X.N.Nodup)(hi:X.N[i]?=some n)(hk:X.env.scope.names.lookup n=some .local)
  (h:∀s',Inv X pins (Z.set i none) H s'->Q () s'):wpAny (model X.prog X.w) A (do bindName X.env n .none;unbindBehindTheSuite X.env n pos) Q E s:=by
 refine wpAny_bind (wpAny_bindName (WB I hN hi (.inl hk) (v:=.non) (u:=Value.none) rfl (fun s1 I1=>?_) (.inr hk)))
 unfold unbindBehindTheSuite
 refine wpAny_onRaise ?_
 have hcls:(X.env.scope.kind==.class || (X.env.scope.kind==.module&&X.env.locals != X.env.globals))=false:=by rw[I.ok.kind];rfl
 have hiZ:i<Z.length:=by rw[I.len];exact(List.getElem?_eq_some_iff.mp hi).1
 obtain⟨m,hn,hl⟩:=id I1.loc
 obtain⟨u,ru,lk⟩:=hl i n .non hi (by rw[List.getElem?_set_self hiZ]) (.inl hk)
 have hkl:X.env.kindOf n=some .local:=hk
 have hv:m n=some u:=by
  rcases lk with⟨_,z⟩ | ⟨z,_⟩
  ·exact z
  ·rw[hkl] at z;rcases z with z | z<;>cases z
 have cne:=I1.cne
 refine wpAny_unbindName_local hkl hn hv hcls fun h' u' hn' hs=>h _ ?_
 obtain⟨oL,_,_,hoL,_⟩:=id hn
 refine⟨I1.ok,I1.os,I1.bare,⟨fun b o e n hb hx=>?_,fun b o e n hb hx=>?_,I1.base.free,fun b o e hx=>?_,I1.base.tups,I1.base.frzs,I1.base.tbls⟩,⟨_,hn',fun j y v' e1 e2 e3=>?_⟩,fun y c e=>?_,I1.free,I1.freeC,fun p hp=>?_,fun b ob e=>?_,by have:=I1.len;simpa using this⟩
 ·exact(hs.2 b (Nat.ne_of_lt (Nat.lt_of_lt_of_le (Heap.lt_size e) I1.ok.above))).trans (I1.base.keep b o e n hb hx)
 ·obtain⟨sl,e1⟩:=I1.base.slot b o e n hb hx
  exact⟨sl,(hs.2 b (Nat.ne_of_lt (Nat.lt_of_lt_of_le (Heap.lt_size e) I1.ok.above))).trans e1⟩
 ·obtain⟨o',e1⟩:=I1.base.there b o e hx
  exact⟨o',(hs.2 b (Nat.ne_of_lt (Nat.lt_of_lt_of_le (Heap.lt_size e) I1.ok.above))).trans e1⟩
 ·by_cases hj:j=i
  ·subst hj
   rw[List.getElem?_set_self hiZ] at e2;cases e2
  ·have e2':(Z.set i (some V.non))[j]?=some (some v'):=by rw[List.getElem?_set_ne (Ne.symm hj)] at e2 ⊢;exact e2
   obtain⟨u2,r2,q⟩:=hl j y v' e1 e2' e3
   refine⟨u2,r2,?_⟩
   rcases q with⟨k,e⟩ | ⟨k,c,e,z⟩
   ·refine .inl ⟨k,?_⟩
    have:y≠n:=fun e=>hj (UY hN e1 (e▸hi))
    simp[this,e]
   ·exact .inr ⟨k,c,e,z.sameBut hs (cne y c e)⟩
 ·obtain⟨w',z⟩:=I1.cell y c e
  exact⟨w',z.sameBut hs (cne y c e)⟩
 ·obtain⟨e,n,ne,nf,d⟩:=I1.pin p hp
  exact⟨(hs.2 p.1 ne).trans e,n,ne,nf,d⟩
 ·refine(I1.hok b ob e).stay (fun c w' hc q=>(hs.2 c ?_).trans q) (fun _ q=>q) fun _ _ q=>q
  rintro rfl
  have hf:=I1.free
  rcases hc with rfl | hc
  ·rw[hf] at e;cases e
  ·rw[hf] at hc;cases hc
abbrev Cx.mark(X:Cx)(e:Addr):Cx:={ X with A:=X.A.mark (some (.ref e)),calm:=false,xe:=fun _ _=>False }
theorem RU{e:Addr}(I:Inv X pins Z H s):Inv (Cx.mark X e) pins Z H s:=
 ⟨⟨I.ok.mod,I.ok.kind,I.ok.glob,I.ok.blt,I.ok.above,I.ok.inj,I.ok.has,I.ok.cab,(fun z=>by cases z),I.ok.frames,I.ok.stk,I.ok.exf,I.ok.bs,I.ok.bsz,I.ok.noex,I.ok.exfs,I.ok.funs,I.ok.frf⟩,I.os,I.bare,I.base,I.loc,I.cell,I.free,I.freeC,I.pin,I.hok,I.len⟩
theorem QH{e:Addr}(ok:X.Ok)(I:Inv (Cx.mark X e) pins Z H s):Inv X pins Z H s:=
 ⟨ok,I.os,I.bare,I.base,I.loc,I.cell,I.free,I.freeC,I.pin,I.hok,I.len⟩
def Jc(X:Cx)(pins:List (Addr×Obj))(b:Addr):Prop:=X.s₀.heap.get? b=none/\b≠X.env.locals/\(∀x c,X.env.cells.lookup x=some c->c≠b)/\∀p∈X.pn++pins,p.1≠b
theorem QI{b:Addr}(I:Inv X pins Z H s)(hx:X.ex=[])(h:s.heap.get? b=none):Jc X pins b:=by
 refine⟨?_,fun z=>?_,fun x c hc z=>?_,fun p hp z=>?_⟩
 ·cases r:X.s₀.heap.get? b with
  | none=>rfl
  | some o=>
   obtain⟨o',r'⟩:=I.base.there b o r (by rw[hx];simp)
   rw[h] at r';cases r'
 ·obtain⟨m,⟨o,_,_,ho,_⟩,_⟩:=I.loc
  rw[z,ho] at h;cases h
 ·obtain⟨v,o,ho,_⟩:=I.cell x c hc
  rw[z] at ho;rw[ho] at h;cases h
 ·have:=(I.pin p hp).1
  rw[z] at this;rw[this] at h;cases h
theorem S5{ch:List Addr}{h':Heap}(I:Inv X pins Z H s)(hx:X.ex=[])(hfr:X.env.frame=some X.env.locals)(ef:Eff ((X.env::X.outer).filterMap (·.frame)) ch s.heap h')(hc:∀b∈ch,H b=none/\Jc X pins b)(hst:X.stack=X.env::X.outer):Inv X pins Z H { s with heap:=h' }:=by
 have hf:∀b∈(X.env::X.outer).filterMap (·.frame),H b=none:=fun b hb=>by
  have:=I.stkFree b
  rw[hst] at this
  exact this hb
 have lt:∀b o,X.s₀.heap.get? b=some o->b∉ch:=fun b o z hb=>by rw[(hc b hb).2.1] at z;cases z
 have nL:∀b o,X.s₀.heap.get? b=some o->b≠X.env.locals:=fun b o z hb=>by
  subst hb
  exact Nat.lt_irrefl _ (Nat.lt_of_lt_of_le (Heap.lt_size z) I.ok.above)
 have mem:∀b,b≠X.env.locals->(b∈(X.env::X.outer).filterMap (·.frame)↔b∈X.fs):=fun b z=>by
  rw[List.filterMap_cons_some hfr,List.mem_cons]
  exact⟨fun h=>h.elim (fun q=>absurd q z) fun q=>q,.inr⟩
 have any:∀b o,s.heap.get? b=some o->b∉ch->∃sl,h'.get? b=some { o with slots:=sl }:=fun b o q hb=>by
  by_cases z:b∈(X.env::X.outer).filterMap (·.frame)
  ·exact ef.slot b o q hb z
  ·exact⟨o.slots,ef.keep b o q hb z⟩
 obtain⟨m,⟨oL,es,ep,hoL,rL⟩,hl⟩:=id I.loc
 have nLc:X.env.locals∉ch:=fun z=>(hc _ z).2.2.1 rfl
 obtain⟨slL,hL⟩:=any _ _ hoL nLc
 have cellK:∀c v,(∀b∈ch,c≠b)->s.heap.IsCell c v->h'.IsCell c v:=fun c v hne ⟨o,ho,hd⟩=>by
  obtain⟨sl,q⟩:=any c o ho fun z=>hne c z rfl
  exact⟨_,q,hd⟩
 have cne:∀x c,X.env.cells.lookup x=some c->∀b∈ch,c≠b:=fun x c q b hb=>(hc b hb).2.2.2.1 x c q
 refine⟨I.ok,I.os,I.bare,⟨fun b o e n hb hx'=>?_,fun b o e n hb hx'=>?_,I.base.free,fun b o e hx'=>?_,I.base.tups,I.base.frzs,I.base.tbls⟩,⟨m,⟨_,es,ep,hL,rL⟩,fun j y v' e1 e2 e3=>?_⟩,fun y c e=>?_,I.free,I.freeC,fun p hp=>?_,PK I.hok ef (fun b hb=>(hc b hb).1) hf,I.len⟩
 ·exact ef.keep b o (I.base.keep b o e n hb hx') (lt b o e) fun z=>hb ((mem b (nL b o e)).mp z)
 ·obtain⟨sl,z1⟩:=I.base.slot b o e n hb hx'
  obtain⟨sl2,z2⟩:=ef.slot b _ z1 (lt b o e) ((mem b (nL b o e)).mpr hb)
  exact⟨sl2,z2⟩
 ·obtain⟨o1,z1⟩:=I.base.there b o e hx'
  exact ef.there b o1 z1
 ·obtain⟨u',r',q⟩:=hl j y v' e1 e2 e3
  refine⟨u',r',?_⟩
  rcases q with q | ⟨k,c,e,z⟩
  ·exact .inl q
  ·exact .inr ⟨k,c,e,cellK c _ (cne y c e) z⟩
 ·obtain⟨w',z⟩:=I.cell y c e
  exact⟨w',cellK c _ (cne y c e) z⟩
 ·obtain⟨e,n,ne,nf,d⟩:=I.pin p hp
  exact⟨ef.keep p.1 p.2 e (fun z=>(hc _ z).2.2.2.2 p hp rfl) (fun z=>nf ((mem p.1 ne).mp z)),n,ne,nf,d⟩
theorem OH{e:Addr}{oe:Obj}(I:Inv X pins Z H s)(he:s.heap.get? e=some oe)(hH:H e=none)(ho:Jc X pins e):Inv X pins Z (upd H e (.frz oe (.own e))) s:=by
 have ne:∀b u,H b=some u->b≠e:=fun b u q z=>by rw[z,hH] at q;cases q
 refine⟨I.ok,I.os,I.bare,⟨I.base.keep,I.base.slot,fun b o q n hx=>?_,I.base.there,fun b xs q=>?_,fun b o u q=>?_,fun b ps q=>?_⟩,I.loc,I.cell,?_,fun x c q=>?_,fun p hp=>?_,fun b u q=>?_,I.len⟩
 ·rw[upd_ne (fun z=>by rw[z,ho.1] at q;cases q)];exact I.base.free b o q n hx
 ·have:=I.base.tups b xs q;rw[upd_ne (ne _ _ this)];exact this
 ·have:=I.base.frzs b o u q;rw[upd_ne (ne _ _ this)];exact this
 ·obtain⟨more,z⟩:=I.base.tbls b ps q
  exact⟨more,by rw[upd_ne (ne _ _ z)];exact z⟩
 ·rw[upd_ne (Ne.symm ho.2.1)];exact I.free
 ·rw[upd_ne (ho.2.2.1 x c q)];exact I.freeC x c q
 ·obtain⟨e1,n,r⟩:=I.pin p hp
  exact⟨e1,by rw[upd_ne (ho.2.2.2 p hp)];exact n,r⟩
 ·by_cases z:b=e
  ·subst z
   rw[upd_same] at q;cases q
   exact⟨he,_,he⟩
  ·rw[upd_ne z] at q
   exact(I.hok b u q).stay (fun _ _ _ r=>r) (fun c r=>by rw[upd_ne (ne _ _ r)];exact r) fun c xs r=>by rw[upd_ne (ne _ _ r)];exact r
end
section
variable {M:Model} {A:Around} {E:Value->Shared->Prop}
variable {nm q nm' q':Str} {C N Cb N':Addr} {bs bm bs' bm':List Value} {hdct hdct':Bool} {sn sn':List Str} {sub sub':List Value} {ab ab':Bool} {col col':Option Bool} {dd dd':Option Addr} {k0 k1 k2 k3 k5 j0 j1 j2 j3 j5:Option Value} {newId newId':String}
theorem RV{h:Heap}{g:Array GenState}{d:Drawn}{t:Nat}{os:OsState}{e:Addr}{oe:Obj}{Q:Bool->Shared->Prop}
  (hC:h.get? C=some (excClassObj nm q C N bs bm hdct sn sub ab col dd k0 k1 k2 k3 k5 newId)) (hB:h.get? Cb=some (excClassObj nm' q' Cb N' bs' bm' hdct' sn' sub' ab' col' dd' j0 j1 j2 j3 j5 newId')) (he:h.get? e=some oe) (hcls:oe.cls = .ref C) (hbase:bm'.contains (.type "BaseException")=true)
  (hq:Q ((Value.ref C::bm).contains (.ref Cb)) ⟨h,g,d,t,os⟩):wpAny M A (excMatches (.ref e) (.ref Cb)) Q E ⟨h,g,d,t,os⟩:=by
 have hcB:(Value.ref Cb::bm').contains (.type "BaseException")=true:=by rw[List.contains_cons,hbase,Bool.or_true]
 have f:=tc_notTuple;unfold excMatches
 cases hcC:(Value.ref C::bm).contains (.ref Cb) with
 | true=>
  rw[hcC] at hq
  repeat (first | (with_reducible refine wpAny_loadPart_at he ?_;rw[hcls]) | with_reducible refine wpAny_loadPart_at hB ?_ | (with_reducible refine wpAny_isSubtype_exc hB ?_;rw[hcB]) | (with_reducible refine wpAny_isSubtype_exc hC ?_;rw[hcC]) | wp_step)
  exact hq
 | false=>
  rw[hcC] at hq
  repeat (first | (with_reducible refine wpAny_loadPart_at he ?_;rw[hcls]) | with_reducible refine wpAny_loadPart_at hB ?_ | (with_reducible refine wpAny_isSubtype_exc hB ?_;rw[hcB]) | (with_reducible refine wpAny_isSubtype_exc hC ?_;rw[hcC]) | wp_step)
  exact hq
end
def belowIn(K:PySem.W.Frag)(C Cb:Addr):Bool:=match K.lookup C with
 | some ⟨_,_,.cls cd,_⟩=>cd.mro.contains (.ref Cb)
 | _=>false
theorem NV{K:PySem.W.Frag}{h:Heap}{C Cb:Addr}{nm qn:Str}{N:Addr}{bs bm:List Value}{hdct:Bool}{sn:List Str}{sub:List Value}{ab:Bool}{col:Option Bool}{dd:Option Addr}{k0 k1 k2 k3 k5:Option Value}{newId:String}(X:K.In h)(e:belowIn K C Cb=true)
  (hC:h.get? C=some (excClassObj nm qn C N bs bm hdct sn sub ab col dd k0 k1 k2 k3 k5 newId)):(Value.ref C::bm).contains (.ref Cb)=true:=by
 unfold belowIn at e
 split at e
 ·rename_i ho
  have:=X _ _ ho
  rw[hC] at this;cases this;exact e
 ·cases e
section
variable {X:Cx} {pins:List (Addr×Obj)} {Z:L2.St} {H:Hp} {s:Shared} {e T C Cb:Addr} {dd:Option Addr} {cx n:Str} {np pos:Pos} {b₀:Stmt} {suite:List Stmt} {Zk:List ExceptHandler} {ts:TS} {D:Wy} {i:Nat}
def NW(i:Nat)(D:Wy):Wy:={ nx:=fun Z H=>D.nx (Z.set i none) H,rt:=D.rt,bk:=fun Z H=>D.bk (Z.set i none) H,ct:=fun Z H=>D.ct (Z.set i none) H }
theorem Hl(I:Inv X pins Z H s)(hx:X.ex=[])(hst:X.stack=X.env::X.outer)(hfr:X.env.frame=some X.env.locals)(x:Lj s.heap e (.ref C) dd T .none)(hH:H e=none)(hHT:H T=none)(oe:Jc X pins e)(oT:Jc X pins T)
  (hN:X.N.Nodup) (hi:X.N[i]?=some n) (hk:X.env.scope.names.lookup n=some .local) (hg:Gl X cx) (hm:X.mg cx=some (.ref Cb)) (hC:PySem.W.ktsIn X.K C "BaseException" = true) (hB:PySem.W.ktsIn X.K Cb "BaseException" = true) (hb:belowIn X.K C Cb=true)
  (hs:PSs (Cx.mark X e) (b₀::suite) ts) (q:∀oe:Obj,oe.cls = .ref C->oe.dict=dd->(∃vs,oe.data = .fields vs)->ts (NW i D) (Z.set i (some (.ref e))) (upd H e (.frz oe (.own e))))
  (hdb:(cx==("__debug__" : Str))=false:=by decide) :
  wpAny (model X.prog X.w) X.A (noteFrame (.ref e) X.env) (fun _ s₂=>wpAny (model X.prog X.w) X.A (setFlight (.ref e) none) (fun _ s₃=>
   wpAny (model X.prog X.w) X.A (handleBy (.ref e) X.env (.ExceptHandler (some (.Name cx np)) (some n) (b₀::suite) pos::Zk)) (SP X pins D) X.xe s₃) X.xe s₂) X.xe s:=by
 have hstk:=I.stack;rw[hst] at hstk;have hfrs:=I.ok.frames;rw[hst] at hfrs
 refine Ik hfrs hstk hfr x fun h1 T' hT' x1 e1=>?_
 have I1:Inv X pins Z H { s with heap:=h1 }:=S5 I hx hfr e1 (fun b hb=>by
  rcases List.mem_cons.mp hb with z | z
  ·rw[z];exact⟨hH,oe⟩
  ·rw[List.mem_singleton.mp z];exact⟨hHT,oT⟩) hst
 have oT':Jc X pins T':=QI I hx (Heap.get?_none_of_le hT')
 have hHT':H T'=none:=I.hok.fresh hT'
 have tch:∀b∈[T'],H b=none/\Jc X pins b:=fun b hb=>by rw[List.mem_singleton.mp hb];exact⟨hHT',oT'⟩
 refine QD x1 (fs:=(X.env::X.outer).filterMap (·.frame)) fun h2 x2 e2 _=>?_
 have I2:Inv X pins Z H { s with heap:=h2 }:=S5 (s:={ s with heap:=h1 }) I1 hx hfr e2 tch hst
 refine wpAny_handleBy_cons (codeAny_handlers_test ?_) (by intro z;cases z)
 have I2m:Inv (Cx.mark X e) pins Z H { s with heap:=h2 }:=RU I2
 refine Vs (X:=Cx.mark X e) I2m hg hm ?_ hdb
 obtain⟨nm,qn,N,bs,bm,hdct,sn,sub,ab,col,dc,k0,k1,k2,k3,k5,nid,hCo,_,_⟩:=PySem.W.kts_cls I2.kIn hC
 obtain⟨nm',qn',N',bs',bm',hdct',sn',sub',ab',col',dc',j0,j1,j2,j3,j5,nid',hBo,hbase,_⟩:=PySem.W.kts_cls I2.kIn hB
 obtain⟨ob,vs,oT2,tsx,heo,hcls,hdd,hdat,_⟩:=id x2
 refine RV hCo hBo heo hcls hbase ?_
 rw[NV I2.kIn hb hCo]
 refine codeAny_handlers_suite_as ?_
 refine QD (s:={ s with heap:=h2 }) x2 (fs:=(X.env::X.outer).filterMap (·.frame)) fun h3 x3 e3 _=>?_
 have I3:Inv X pins Z H { s with heap:=h3 }:=S5 (s:={ s with heap:=h2 }) I2 hx hfr e3 tch hst
 obtain⟨ob3,vs3,oT3,ts3,heo3,hcls3,hdd3,hdat3,_⟩:=id x3
 have I4:=OH (s:={ s with heap:=h3 }) I3 heo3 hH oe
 refine WB (X:=Cx.mark X e) (RU I4) hN hi (.inl hk) (v:=.ref e) (u:=.ref e) rfl (fun s5 I5=>?_) (.inr hk)
 refine wpAny_mono (hs pins s5 _ _ (NW i D) I5 (q ob3 hcls3 hdd3 ⟨_,hdat3⟩)) (fun f s6 h6=>?_) fun _ _ z=>z.elim
 have go:∀Z' H' s6,Inv (Cx.mark X e) pins Z' H' s6->(∀s7,Inv X pins (Z'.set i none) H' s7->SP X pins D f s7)->wpAny (model X.prog X.w) X.A (do bindName X.env n .none;unbindBehindTheSuite X.env n pos) (fun _ s₃=>SP X pins D f s₃) X.xe s6:=fun Z' H' s6 I6 k=>
  OG (QH I.ok I6) hN hi hk k
 cases f with
 | next=>
  obtain⟨Z',H',I6,z⟩:=h6
  exact go Z' H' s6 I6 fun s7 I7=>⟨_,_,I7,z⟩
 | ret u=>
  obtain⟨v,Z',H',I6,r6,z⟩:=h6
  exact go Z' H' s6 I6 fun s7 I7=>⟨v,_,_,I7,r6,z⟩
 | brk=>
  obtain⟨Z',H',I6,z⟩:=h6
  exact go Z' H' s6 I6 fun s7 I7=>⟨_,_,I7,z⟩
 | cont=>
  obtain⟨Z',H',I6,z⟩:=h6
  exact go Z' H' s6 I6 fun s7 I7=>⟨_,_,I7,z⟩
end
def Ip(i:Nat):Os->Os
 | .nx s=>.nx (s.set i none)
 | .bk s=>.bk (s.set i none)
 | .ct s=>.ct (s.set i none)
 | .rt l=>.rt l
def NX(R:List PV->Option Str)(fs:List XE)(i:Nat)(f:XS):XS:=fun s=>(Ub fs s).bind fun ls=>(R ls).bind fun n=>(f (s.set i (some (.exc n)))).map (Ip i)
theorem Tz{K:PySem.W.Frag}{O:List Nat}{H0 H:Hp}{fps:Nat->List Addr}{s:ZD}{Z:Ua}{i:Nat}(hiO:i∉O)(r:Rel K O H0 fps s Z H):Rel K O H0 (fun j=>if j=i then [] else fps j) (s.set i none) (Z.set i none) H:=by
 refine⟨r.same,by rw[List.length_set,List.length_set];exact r.len,fun j a e=>?_,fun j h=>?_,fun j hj=>?_,fun j hj p hp=>?_,fun j hj k hk p hp=>?_⟩
 ·by_cases hji:j=i
  ·subst hji
   rw[List.getElem?_set] at e
   simp at e
  ·rw[List.getElem?_set_ne (Ne.symm hji)] at e ⊢
   rw[if_neg hji]
   exact r.is j a e
 ·by_cases hji:j=i
  ·rw[if_pos hji]
  ·rw[if_neg hji]
   refine r.emp j fun l z=>h l ?_
   rw[List.getElem?_set_ne (Ne.symm hji)];exact z
 ·have hji:j≠i:=fun z=>hiO (z▸hj)
  simp only[if_neg hji];exact r.nd j hj
 ·have hji:j≠i:=fun z=>hiO (z▸hj)
  simp only[if_neg hji] at hp;exact r.own j hj p hp
 ·have hji:j≠i:=fun z=>hiO (z▸hj)
  simp only[if_neg hji] at hp
  by_cases hki:k=i
  ·rw[if_pos hki];simp
  ·rw[if_neg hki];exact r.dis j hj k hk p hp
section
variable {X:Cx} {O W:List Nat} {k n i:Nat} {x cx nm:Str} {ps:List Str} {R:List PV->Option Str} {e:Expr} {es:List Expr} {fs:List XE} {p cp ep np hp pos:Pos} {b₀:Stmt} {suite:List Stmt} {f:XS} {Cb:Addr} {Zk:List ExceptHandler}
theorem Jd(CX:CalX X.prog X.w X.K X.mg X.base x ps (spX X.K R n) k)(hr:Room k X.A)(hg:Gl X x)(ha:VA X.nox (e::es) fs)(hx:X.ex=[])(hst:X.stack=X.env::X.outer)(hfr:X.env.frame=some X.env.locals)
  (hN:X.N.Nodup) (hi:X.N[i]?=some nm) (hk:X.env.scope.names.lookup nm=some .local) (hgc:Gl X cx) (hmc:X.mg cx=some (.ref Cb)) (hB:PySem.W.ktsIn X.K Cb "BaseException" = true)
  (hR:∀ls m,R ls=some m->∃C,PySem.W.nsIn X.K mainGlobals m=some (some (.ref C))/\PySem.W.ktsIn X.K C "BaseException" = true/\belowIn X.K C Cb=true)
  (hs:∀e,Nu (Cx.mark X e) O W (b₀::suite) f) (hiO:i∉O) (hsw:swapsWith (.Call (.Name x p) (e::es) [] cp) none ep.line X.env=pure false:=by rfl) (hn:fs.length=n:=by rfl)
  (hdb:(x==("__debug__" : Str))=false:=by decide) (hdb2:(cx==("__debug__" : Str))=false:=by decide) (he:starEach (e::es) X.env=(false,eval e X.env)::starEach es X.env:=by rfl) (hpl:(backTo cp (starEach es X.env)).any (·.1)=false:=by rfl) :
  VS X O (i::W) (.Try [.Expr (.Call (.Name x p) (e::es) [] cp) ep] (.ExceptHandler (some (.Name cx np)) (some nm) (b₀::suite) hp::Zk) [] [] pos) (NX R fs i f):=by
 intro pins s Z H D I ⟨H0,fps,sp,out,r,e1,ok⟩
 obtain⟨ls,e2,e1⟩:=Zd e1
 obtain⟨m,e3,e1⟩:=Zd e1
 obtain⟨o1,e4,rfl⟩:=map_some e1
 obtain⟨C,hns,hC,hb⟩:=hR ls m e3
 obtain⟨fa,fd,hmx,hkp,hbd,F⟩:=CX.ex
 refine wpAny_Try_except (wpAny_execs_cons (wpAny_Expr_any ?_ I.quiet hsw))
 refine wpAny_Call_Name_kw (Vs I hg hmx ?_ hdb)
 refine PySem.W.callWith_K (h₀:=X.base) I.ok.mod.kin hkp ?_ he hpl
 refine wpAny_mono (ha cp pins s Z H (fun vs H1=>Same H H1/\∃fp,Iss X.K H1 ls vs fp) (I.wish _) ⟨fun _=>False,sp,ls,fun _ z=>z.elim,r.env,e2,fun vs H1 fp s1 i1 _=>⟨s1,fp,i1⟩⟩) (fun us s1 ⟨vs,H1,I1,rv,sm,fp,i1⟩=>?_) fun _ _ z=>z.elim
 have I1:Inv X pins Z H1 s1:=I1.unwish
 have lv:vs.length=n:=by rw[i1.len,WW e2,hn]
 have hsp:spX X.K R n vs H1 (fun _ _=>False) (fun cls dd H'=>cls = .ref C/\dd=none/\Same H1 H'):=⟨lv,ls,fp,m,i1,e3,fun C' H' hc sm=>⟨by rw[hns] at hc;cases hc;rfl,rfl,sm⟩⟩
 have hl:(us++[]).length=ps.length:=by rw[List.append_nil,<-rv.length,lv];have:=F.len _ _ _ _ hsp;omega
 have hbb:=hbd s1 us I1.kIn hl;rw[List.append_nil] at hbb
 refine⟨I1.kIn,wpAny_call (codeAny_mono (F.run X.A X.stack s1 H1 ⟨us,[]⟩ us vs _ _ hr I1.env0 hbb rv hsp) fun res s' hq=>?_)⟩
 cases res with
 | ok fl=>
  cases fl with
  | ret u=>obtain⟨_,_,_,_,_,_,_,z⟩:=hq;exact z.elim
  | next=>exact False.elim hq
  | brk=>exact False.elim hq
  | cont=>exact False.elim hq
 | error v=>
  obtain⟨ea,cls,dd,H',rfl,hos,hgn,u,hok,⟨T,xx,hH,hHT,he0,hT0⟩,rfl,rfl,sm1⟩:=hq
  have I2:Inv X pins Z H' s':=I1.call' hos u hok hgn fun b hb=>nomatch hb
  refine Hl I2 hx hst hfr xx hH hHT (QI I1 hx he0) (QI I1 hx hT0) hN hi hk hgc hmc hC hB hb (hs ea) (fun oe h1 h2 h3=>?_) hdb2
  have sm2:Same H (upd H' ea (.frz oe (.own ea))):=fun b o q=>by
   have q':=sm1 b o (sm b o q)
   rw[upd_ne (Zq q' hH)];exact q'
  have iE:Is X.K (upd H' ea (.frz oe (.own ea))) (.exc m) (.ref ea) []:=by
   simp only[Is]
   exact⟨⟨ea,oe,ea,C,rfl,upd_same,h1,hns,h2,h3⟩,trivial⟩
  have hlt:i<sp.length:=by
   have:=(List.getElem?_eq_some_iff.mp hi).1
   rw[r.len,I.len];exact this
  have r2:=(r.grow sm2).set (i:=i) iE (fun z=>absurd z hiO) (fun k _ _ p hp=>by simp at hp)
  refine⟨H0,_,_,o1,r2,e4,?_⟩
  have fin:∀(fps':Nat->List Addr)(Z':Ua)(H'':Hp)(s':ZD),(∀j,j∉W->Z'[j]?=(Z.set i (some (V.ref ea)))[j]?/\Kep (fps' j) (VJ fps sp.length i [] j))->∀j,j∉i::W->(Z'.set i none)[j]?=Z[j]?/\Kep (if j=i then [] else fps' j) (fps j):=fun fps' Z' H'' s' h j hj=>by
   have hji:j≠i:=fun z=>hj (by rw[z];exact .head _)
   obtain⟨a1,a2⟩:=h j fun z=>hj (.tail _ z)
   rw[List.getElem?_set_ne (Ne.symm hji)] at a1 ⊢
   rw[ZN hji] at a2;rw[if_neg hji]
   exact⟨a1,a2⟩
  cases o1 with
  | nx s'=>exact fun fps' Z' H'' r' k'=>ok _ _ _ (Tz hiO r') (fin fps' Z' H'' s' k')
  | bk s'=>exact fun fps' Z' H'' r' k'=>ok _ _ _ (Tz hiO r') (fin fps' Z' H'' s' k')
  | ct s'=>exact fun fps' Z' H'' r' k'=>ok _ _ _ (Tz hiO r') (fin fps' Z' H'' s' k')
  | rt l=>exact ok
end
section
variable {prog:Program} {w:World} {A:Around} {E:Value->Shared->Prop} {K:PySem.W.Frag} {a C:Addr}
theorem OI{s:Shared}{Q:Option Value->Shared->Prop}(X:K.In s.heap){o:Obj}{vs:Array Value}(hx:s.heap.get? a=some o)(hc:o.cls = .ref C)(hd:o.data = .fields vs)(hdd:o.dict=none)
  (g1:PySem.W.findIn K (.ref C) "__getattribute__" = some (some (.builtin "BaseException.__getattribute__")))
  (g2:PySem.W.findIn K (.ref C) "__getattr__" = some none) (g3:PySem.W.findIn K (.ref C) "__class__" = some (some (.builtin "object.__class__"))) (g4:PySem.W.mroIn K C (.type "object")=some true) (g5:PySem.W.ktsIn K C "BaseException" = true)
  (h:Q (some (.ref C)) { s with toks:=s.toks+1 }):wpAny (model prog w) A (getAttr? (.ref a) "__class__") Q E s:=by
 obtain⟨hh,g,d,t,os⟩:=s
 have I:PySem.W.InstAt hh a o C none:=⟨hx,hc,by unfold PySem.W.notCls;rw[hd],by rw[hdd];trivial⟩
 have L0:=I.type (M:=model prog w)
 have L1:=PySem.W.looks_findIn (M:=model prog w) X g1
 unfold getAttr? getAttrBy? getAttrBy
 refine wpAny_bind (wpAny_mkText (wpAny_bind (wpAny_attempt (wpAny_holding (wpAny_bind (L0.at (wpAny_bind (L1.at ?_))))))))
 have L2:=PySem.W.looks_findIn (M:=model prog w) X g2
 have L3:=PySem.W.looks_findIn (M:=model prog w) X g3
 show wpAny (model prog w) A (getAttrByItsOwn (.ref a) (.str "__class__" t) (.ref C) (.builtin "BaseException.__getattribute__") false false) _ _ _
 have f3:=F.attr_ValueError.ga.bind (.ref a)
 unfold getAttrByItsOwn
 repeat (any_goals (first | assumption | wp_step | (refine wpAny_bind (L2.at ?_)) | (refine L2.at ?_)))
 obtain⟨nm,qn,N,bs,bm,hdct,sn,sub,ab,col,dc,k0,k1,k2,k3,k5,nid,hC,hbase,_⟩:=PySem.W.kts_cls X g5
 have hC:hh.get? C=some (excClassObj nm qn C N bs bm hdct sn sub ab col dc k0 k1 k2 k3 k5 nid):=hC
 have hcB:(Value.ref C::bm).contains (.type "BaseException")=true:=by rw[List.contains_cons,hbase,Bool.or_true]
 have L0':=I.type (M:=model prog w)
 show codeAny (model prog w) A (.call (.builtin "BaseException.__getattribute__") ⟨[.ref a,.str "__class__" t],[]⟩) _ ⟨hh,g,d,t+1,os⟩
 refine codeAny_call_builtin F.attr_ValueError.ga.plain F.entry_bexc_ga ?_
 have hk:builtinKind "BaseException.__getattribute__" = some .slot:=by decide +kernel
 have hsplit:splitId "BaseException.__getattribute__" = some ("BaseException","__getattribute__"):=by decide +kernel
 have ha:=F.args_bexc_ga (.ref a) (.str "__class__" t)
 simp only[checkBuiltinCall,hk,hsplit]
 refine wpAny_bind ?_
 unfold isInstance
 repeat (first | (with_reducible refine wpAny_loadPart_at hx ?_;rw[hc]) | (with_reducible refine wpAny_isSubtype_exc hC ?_;rw[hcB]) | wp_step)
 refine L3.at ?_
 have f5:=PySem.W.KF.type_class;have f6:=F.slot_gs_get.lookup;have f7:=F.slot_gs_set.lookup
 repeat (any_goals (first | assumption | (with_reducible refine wpAny_loadPart_at hx ?_;rw[hc]) | wp_step))
 have X':K.In (⟨hh,g,d,t+1,os⟩:Shared).heap:=X
 have I':PySem.W.InstAt (⟨hh,g,d,t+1,os⟩:Shared).heap a o C none:=I
 refine PySem.W.class_get X' I' g4 ?_
 repeat (any_goals (first | assumption | wp_step))
end
def Hm(a C:Addr)(h:Heap):Prop:=∃o,h.get? a=some o/\o.cls = .ref C/\o.dict=none/\∃vs,o.data = .fields vs
structure PL(K:PySem.W.Frag)(C:Addr):Prop where
 ga:PySem.W.findIn K (.ref C) "__getattribute__" = some (some (.builtin "BaseException.__getattribute__"))
 gr:PySem.W.findIn K (.ref C) "__getattr__" = some none
 cl:PySem.W.findIn K (.ref C) "__class__" = some (some (.builtin "object.__class__"))
 mr:PySem.W.mroIn K C (.type "object")=some true
 kt:PySem.W.ktsIn K C "BaseException" = true
theorem NY{K:PySem.W.Frag}{a C:Addr}(c:PL K C):PySem.W.KitX K (.ref a) (.ref C) (Hm a C) where
 ty:=fun M h _ ⟨o,h1,h2,_⟩=>h2▸(PySem.W.Looks.ld h1).andThen .now
 it:=fun M h X _=>by
  obtain⟨nm,qn,N,bs,bm,hdct,sn,sub,ab,col,dc,k0,k1,k2,k3,k5,nid,hC,_⟩:=PySem.W.kts_cls X c.kt
  intro A' Q' E' s' k q
  unfold isType loadHead
  exact wpAny_bind (wpAny_loadPart (k _ _ hC) (wpAny_pure q))
 ne:=fun h tp dd its n sl X htp=>by
  obtain⟨nm,qn,N,bs,bm,hdct,sn,sub,ab,col,dc,k0,k1,k2,k3,k5,nid,hC,_⟩:=PySem.W.kts_cls X c.kt
  refine Bool.eq_false_iff.mpr fun q=>?_
  have e:C=tp:=Value.ref.inj (beq_iff_eq.mp q)
  subst e;rw[hC] at htp
  exact absurd (congrArg Obj.cls (Option.some.inj htp)) (show ¬(Value.type "type" = Value.type "tuple") by decide)
 ca:=fun X ⟨o,h1,h2,h3,vs,h4⟩ k=>OI X h1 h2 h4 h3 c.ga c.gr c.cl c.mr c.kt k
def Yn(tb:Str->Option Bool)(f:XE):XE:=fun s=>match f s with
 | some (.exc n)=>(tb n).map PV.bl
 | _=>none
inductive ClsV:V->Value->Prop
 | own (C:Addr):ClsV (.ref C) (.ref C)
 | ty (T:String):ClsV (.ty T) (.type T)
theorem ClsV.rel{cv:V}{c u:Value}(h:ClsV cv c)(r:RelV cv u):u=c:=by
 cases h with
 | own C=>exact r
 | ty T=>exact r
section
variable {X:Cx} {e:Expr} {f:XE} {cx:Str} {p p2 pos:Pos} {tb:Str->Option Bool} {c:Value} {cv:V}
theorem QJ:Y8 X (.builtin "isinstance") (fun xs H Q=>∃a C cv c b o x,xs=[.ref a,cv]/\ClsV cv c/\H a=some (.frz o (.own x))/\o.cls = .ref C/\o.dict=none/\(∃vs,o.data = .fields vs)/\PL X.K C/\PySem.W.kitOne X.K (.ref C) c=some b/\Q (.bl b) H):=by
 intro pins s Z H xs us Q I r h
 obtain⟨a,C,cv,c,b,o,x,rfl,hcv,hH,hc,hd,hv,ec,hk,q⟩:=h
 obtain⟨u,v,rfl,ru,rv⟩:=Pa r
 obtain rfl:=hcv.rel rv
 obtain rfl:u=Value.ref a:=ru
 exact PySem.W.kia_one (NY ec) I.kIn ⟨o,(I.hok a _ hH).1,hc,hd,hv⟩ hk (fun z=>nomatch z) fun tk=>⟨.bl b,H,I.tok tk,rfl,q⟩
theorem Lm{C:Addr}(hg:Gl X cx)(hm:X.mg cx=some (.ref C))(hdb:(cx==("__debug__" : Str))=false:=by decide):PE X (.Name cx p2) (fun _ H Q=>Q (.ref C) H):=fun pins s Z H Q I h=>Vs I hg hm ⟨.ref C,H,I,rfl,h⟩ hdb
theorem Ln{T:String}(hg:Gl X cx)(hm:X.mg cx=none)(hv:bootBuiltins cx=some (.type T))(hn:cx≠"__name__":=by decide)(hdb:(cx==("__debug__" : Str))=false:=by decide):PE X (.Name cx p2) (fun _ H Q=>Q (.ty T) H):=fun pins s Z H Q I h=>Wj I hg hm hv ⟨.ty T,H,I,rfl,h⟩ hn hdb
theorem NZ(hgi:Gl X "isinstance")(hm:X.mg "isinstance" = none)(he:VE X e f)(hcv:ClsV cv c)(hc:PE X (.Name cx p2) (fun _ H Q=>Q cv H))
  (ht:∀n b,tb n=some b->∃C,PySem.W.nsIn X.K mainGlobals n=some (some (.ref C))/\PL X.K C/\PySem.W.kitOne X.K (.ref C) c=some b)
  (hst:starEach [e,.Name cx p2] X.env=(false,eval e X.env)::starEach [.Name cx p2] X.env:=by rfl) (hst2:starEach [.Name cx p2] X.env=(false,eval (.Name cx p2) X.env)::starEach [] X.env:=by rfl) (hpl:(backTo pos (starEach [.Name cx p2] X.env)).any (·.1)=false:=by rfl):VM X (.Call (.Name "isinstance" p) [e,.Name cx p2] [] pos) (Yn tb f):=
 PE.imp (U2 QJ hgi hm (by decide +kernel) (ZX he (ZX hc Xe (hs:=hst2)) (hs:=hst)) (by decide) (by decide) hst hpl) fun Z H Q ⟨s,l,env,e1,k⟩=>by
  unfold Yn at e1
  split at e1
  ·rename_i n hn
   obtain⟨b,hb,rfl⟩:=map_some e1
   obtain⟨C,hns,ec,hk⟩:=ht n b hb
   refine⟨fun _=>False,s,.exc n,fun _ z=>z.elim,env,hn,fun v H1 fp s1 i1 _=>?_⟩
   simp only[Is] at i1
   obtain⟨⟨ea,o,x,C',rfl,hH,hcl,hn',hd,hv⟩,_⟩:=i1
   rw[hns] at hn'
   cases hn'
   exact⟨ea,C,cv,c,b,o,x,rfl,hcv,hH,hcl,hd,hv,ec,hk,k _ H1 [] s1 (Is.bl _) List.nodup_nil fun p hp=>by simp at hp⟩
  ·cases e1
end
def Jw(k:Bool):List Bool->Option Nat
 | []=>none
 | x::r=>if x=k then some 0 else(Jw k r).map (· + 1)
theorem RW{k:Bool}:∀{l:List Bool}{j:Nat},Jw k l=some j->l[j]?=some k/\∀m,m<j->l[m]?≠some k
 | [],_,h=>by cases h
 | x::r,j,h=>by
  unfold Jw at h
  split at h
  ·rename_i e
   cases h
   exact⟨by simp[e],fun m hm=>by omega⟩
  ·rename_i e
   cases q:Jw k r with
   | none=>rw[q] at h;cases h
   | some i=>
    rw[q] at h;cases h
    obtain⟨a,b⟩:=RW q
    refine⟨by simpa using a,fun m hm=>?_⟩
    cases m with
    | zero=>simpa using e
    | succ m=>have hm':m+1<i+1:=hm;simpa using b m (by omega)
def Lo(K:PySem.W.Frag):V->List V->Hp->VK->Prop:=fun x vs H Q=>∃(p:Addr) (ns:List Bool) (k:Bool) (j:Nat),x = .ref p/\vs=[.bl k]/\SqL K H p (ns.map V.bl)/\Jw k ns=some j/\Q (.int (j:Int)) H
def Lp(K:PySem.W.Frag):V->List V->Hp->VK->Prop:=fun x vs H Q=>∃(p:Addr) (ns:List Bool) (k:Bool),x = .ref p/\vs=[.bl k]/\SqL K H p (ns.map V.bl)/\Q (.int ((ns.filter (·==k)).length:Int)) H
theorem RX{ns:List Bool}{its:List Value}(r:Vals (ns.map V.bl) its):its=ns.map Value.bool:=by
 induction ns generalizing its with
 | nil=>cases r;rfl
 | cons a t ih=>
  cases r with
  | cons h1 h2=>rw[ih h2];cases h1;rfl
theorem OJ{X:Cx}:IB X "list.index" (Lo X.K):=by
 intro pins s Z H x vs v us Q I rx rv h
 obtain⟨p,ns,k,j,rfl,rfl,hq,hj,q⟩:=h
 cases rx
 obtain⟨u,rfl,ru⟩:=WC rv
 obtain rfl:u=Value.bool k:=ru
 obtain⟨its,r,pl,hz⟩:=I.list hq
 obtain⟨o,n,ho,hc,hd,hs⟩:=pl
 obtain⟨cls,dd,data,sl⟩:=o
 simp only at hc hd hs
 subst hc hd hs
 rw[List.length_map] at hz;have hb:=RX r;subst hb
 obtain⟨a,b⟩:=RW hj
 have hjn:j<ns.length:=(List.getElem?_eq_some_iff.mp a).1
 let e:Value->Bool:=fun y=>match y with | .bool c=>c==k | _=>false
 have sz:sizeLine<2^62:=by decide
 refine call_meets F.slot_list_index ⟨_,ho,rfl⟩ F.entry_list_index (F.args_list_index_2 _ _) (SeqAt.list_indexAt p (ns.map Value.bool).toArray n none sl (.bool k) e j (by simp;omega) (by omega) ?_ ?_) ⟨ho,fun y hy=>?_,.int (j:Int),H,I.tok _,⟨_,rfl⟩,q⟩
 ·rw[List.getElem?_eq_getElem hjn] at a
  simp only[List.getElem_toArray,List.getElem_map]
  show(ns[j]==k)=true
  rw[Option.some.inj a];simp
 ·intro m hm hmj
  have hm2:m<ns.length:=by simpa using hm
  have:=b m hmj
  rw[List.getElem?_eq_getElem hm2] at this;simp only[List.getElem_toArray,List.getElem_map]
  show(ns[m]==k)=false
  simpa using this
 ·simp at hy
  rcases hy with⟨hb,rfl⟩ | ⟨hb,rfl⟩<;>exact SeqAt.EqAt.bool_bool _ _
theorem OK{X:Cx}:IB X "list.count" (Lp X.K):=by
 intro pins s Z H x vs v us Q I rx rv h
 obtain⟨p,ns,k,rfl,rfl,hq,q⟩:=h
 cases rx
 obtain⟨u,rfl,ru⟩:=WC rv
 obtain rfl:u=Value.bool k:=ru
 obtain⟨its,r,pl,hz⟩:=I.list hq
 obtain⟨o,n,ho,hc,hd,hs⟩:=pl
 obtain⟨cls,dd,data,sl⟩:=o
 simp only at hc hd hs
 subst hc hd hs
 have hb:=RX r;subst hb
 let e:Value->Bool:=fun y=>match y with | .bool c=>c==k | _=>false
 have hcnt:((ns.map Value.bool).toArray.toList.countP e)=(ns.filter (·==k)).length:=by
  rw[<-List.countP_eq_length_filter];simp only[List.countP_map];rfl
 refine call_meets F.slot_list_count ⟨_,ho,rfl⟩ F.entry_list_count (F.args_list_count_2 _ _) (SeqAt.list_countAt p (ns.map Value.bool).toArray n none sl (.bool k) e) ⟨ho,fun y hy=>?_,?_⟩
 ·simp at hy
  rcases hy with⟨hb,rfl⟩ | ⟨hb,rfl⟩<;>exact SeqAt.EqAt.bool_bool _ _
 ·rw[hcnt]
  exact⟨.int _,H,I.tok _,⟨_,rfl⟩,q⟩
def UU:PV->PV->Option PV
 | .lst l,.bl k=>(XX l).bind fun ns=>(Jw k ns).map fun(j:Nat)=>PV.int (j:Int)
 | _,_=>none
def V2:PV->PV->Option PV
 | .lst l,.bl k=>(XX l).map fun ns=>PV.int ((ns.filter (·==k)).length:Int)
 | _,_=>none
section
variable {X:Cx} {o e:Expr} {fo fe:XE} {apos cpos:Pos}
theorem OL(ho:VE X o fo)(he:VE X e fe)
  (hbase:attributeBase o "index" X.env (eval o X.env)=eval o X.env:=by rfl)
  (hfew:((backTo cpos (starEach [e] X.env)).all (fun x=>!x.1)&&(backToKw cpos (keywordEach [] X.env)).all (fun x=>x.1.isSome)
   &&decide (([e]:List Expr).length+([]:List Keyword).length+(if([]:List Keyword).isEmpty then 0 else 1)<30))=true:=by rfl)
  (hline:(apos.endLine==cpos.line)=true:=by rfl) (hs:starEach [e] X.env=(false,eval e X.env)::starEach [] X.env:=by rfl) (hplain:(backTo cpos (starEach [] X.env)).any (·.1)=false:=by rfl) :
  VE X (.Call (.Attribute o "index" apos) [e] [] cpos) (Zi UU fo fe):=
 PE.imp (Vd F.plainAttrs_list F.slot_list_index F.type_list_index OJ ho (Zb he Ze hs) hbase hfew hline hs hplain) fun Z H Q ⟨Rm,s,l,hd,env,e,k⟩=>by
  obtain⟨x',y',e1,e2,e⟩:=XH e
  refine⟨Rm,s,x',hd,env,e1,fun v H1 fp s1 i1 n1=>?_⟩
  unfold UU at e
  split at e
  ·obtain⟨ns,e3,e4⟩:=Zd e
   obtain⟨j,hj,rfl⟩:=map_some e4
   have em:=Xp e3;subst em
   obtain⟨p,xs,fq,rfl,hp,hi,_⟩:=i1.lst_inv
   obtain⟨rfl,rfl⟩:=hi.bL
   refine⟨.inl ⟨rfl,_,.inl (.inl hp)⟩,Rm,s,[.bl _],fun q hq=>Same.mut s1 (hd q hq),env.mono s1,by show(fe s).bind _=_;rw[e2];rfl,fun vs H2 fq s2 i2 n2=>?_⟩
   obtain⟨w,rfl,iw⟩:=i2.one_inv
   rw[iw.bl_inv.1]
   exact⟨p,ns,_,j,rfl,rfl,.inl (.inl (s2 _ _ hp)),hj,k _ _ [] (s1.trans s2) (Is.int _) fun r hr=>by simp at hr⟩
  ·cases e
theorem OM(ho:VE X o fo)(he:VE X e fe)
  (hbase:attributeBase o "count" X.env (eval o X.env)=eval o X.env:=by rfl)
  (hfew:((backTo cpos (starEach [e] X.env)).all (fun x=>!x.1)&&(backToKw cpos (keywordEach [] X.env)).all (fun x=>x.1.isSome)
   &&decide (([e]:List Expr).length+([]:List Keyword).length+(if([]:List Keyword).isEmpty then 0 else 1)<30))=true:=by rfl)
  (hline:(apos.endLine==cpos.line)=true:=by rfl) (hs:starEach [e] X.env=(false,eval e X.env)::starEach [] X.env:=by rfl) (hplain:(backTo cpos (starEach [] X.env)).any (·.1)=false:=by rfl) :
  VE X (.Call (.Attribute o "count" apos) [e] [] cpos) (Zi V2 fo fe):=
 PE.imp (Vd F.plainAttrs_list F.slot_list_count F.type_list_count OK ho (Zb he Ze hs) hbase hfew hline hs hplain) fun Z H Q ⟨Rm,s,l,hd,env,e,k⟩=>by
  obtain⟨x',y',e1,e2,e⟩:=XH e
  refine⟨Rm,s,x',hd,env,e1,fun v H1 fp s1 i1 n1=>?_⟩
  unfold V2 at e
  split at e
  ·obtain⟨ns,e3,rfl⟩:=map_some e
   have em:=Xp e3;subst em
   obtain⟨p,xs,fq,rfl,hp,hi,_⟩:=i1.lst_inv
   obtain⟨rfl,rfl⟩:=hi.bL
   refine⟨.inl ⟨rfl,_,.inl (.inl hp)⟩,Rm,s,[.bl _],fun q hq=>Same.mut s1 (hd q hq),env.mono s1,by show(fe s).bind _=_;rw[e2];rfl,fun vs H2 fq s2 i2 n2=>?_⟩
   obtain⟨w,rfl,iw⟩:=i2.one_inv
   rw[iw.bl_inv.1]
   exact⟨p,ns,_,rfl,rfl,.inl (.inl (s2 _ _ hp)),k _ _ [] (s1.trans s2) (Is.int _) fun r hr=>by simp at hr⟩
  ·cases e
end
def RY(i:Nat)(f:XE):XS:=fun s=>match s[i]?,f s with
 | some (some (.lst m)),some (.lst n)=>if m.length+n.length<=10000 then some (.nx (s.set i (some (.lst (m++n))))) else none
 | _,_=>none
section
variable {X:Cx} {O:List Nat} {i:Nat} {x:Str} {e:Expr} {f:XE} {p1 pb pos pos':Pos}
theorem Lq(hN:X.N.Nodup)(hi:X.N[i]?=some x)(hx:Jr X.env.scope x)(hv:PE X (.Name x p1) (Vr i))(he:VM X e f)(hiO:i∈O)
  (hs:swapsWith (.BinOp (.Name x p1) .Add e pb) (some (.Name x pos')) pos.line X.env=pure false:=by rfl) (hf:X.fn x=true\/X.env.scope.names.lookup x=some .local:=by first | exact .inl rfl | exact .inr rfl | assumption) :
  VS X O [i] (.Assign [.Name x pos'] (.BinOp (.Name x p1) .Add e pb) pos) (RY i f):=PS.imp (O5 hN hi hx (Q9 O9 hv he) hs hf) fun D Z H ⟨H0,fps,s,out,r,e,k⟩=>by
 unfold RY at e
 split at e
 ·rename_i m n hm hn
  split at e
  ·rename_i hl
   cases e
   obtain⟨v,hv,iv⟩:=r.is i _ hm
   obtain⟨p,xs,fq,rfl,hp,hxs,ef⟩:=iv.lst_inv
   refine⟨.ref p,hv,s,.lst n,r.env,hn,fun w H' fp sm i2 nd fr=>?_⟩
   obtain⟨q,ys,fq2,rfl,hq,hys,rfl⟩:=i2.lst_inv
   have l1:=hxs.len;have l2:=hys.len
   have sz:10000<=sizeLine:=by decide
   refine⟨p,q,xs,ys,rfl,rfl,sm _ _ hp,hq,by omega,fun l hl'=>?_⟩
   have s3:Same H' (upd H' l (.lst (xs++ys))):=fun b o z=>by rw[upd_ne (Zq z hl')];exact z
   have s13:Same H (upd H' l (.lst (xs++ys))):=sm.trans s3
   have hlH:H l=none:=Same.off sm hl'
   have f2H:∀b∈fq2,H b=none/\X9 (H' b):=fun b hb=>fr b (.tail _ hb)
   have nd2:fq2.Nodup:=(List.nodup_cons.mp nd).2
   have own:=r.own i hiO;have ndi:=r.nd i hiO
   rw[ef] at own ndi
   have domI:∀b∈fq,H b≠none:=fun b hb=>Yj (own b (.tail _ hb)).2
   have hlq:l∉fq++fq2:=fun z=>by
    rcases List.mem_append.mp z with z | z
    ·exact domI l z hlH
    ·have:=(f2H l z).2;rw[hl'] at this;exact this
   refine k (VJ fps s.length i (l::(fq++fq2))) _ _ ((r.grow s13).set (i:=i) (Is.lst upd_same (Iss.append (hxs.mono s13) (hys.mono s3))) (fun _=>⟨?_,fun b hb=>?_⟩) fun j hj _ b hb z=>?_) fun j hj=>?_
   ·refine List.nodup_cons.mpr ⟨hlq,List.nodup_append.mpr ⟨(List.nodup_cons.mp ndi).2,nd2,fun a ha b hb z=>?_⟩⟩
    subst z
    exact domI a ha (f2H a hb).1
   ·rcases List.mem_cons.mp hb with z | z
    ·subst z;exact⟨Same.off r.same hlH,by rw[upd_same];exact True.intro⟩
    ·rcases List.mem_append.mp z with z | z
     ·exact⟨(own b (.tail _ z)).1,Same.mut s13 (own b (.tail _ z)).2⟩
     ·exact⟨Same.off r.same (f2H b z).1,Same.mut s3 (f2H b z).2⟩
   ·rcases List.mem_cons.mp hb with y | y
    ·subst y;exact r.dom j b z hlH
    ·rcases List.mem_append.mp y with y | y
     ·exact r.dis i hiO j hj b (by rw[ef];exact .tail _ y) z
     ·exact r.dom j b z (f2H b y).1
   ·have:j≠i:=by simpa using hj
    exact⟨by rw[List.getElem?_set,if_neg (Ne.symm this)],.inl (ZN this)⟩
  ·cases e
 ·cases e
end
def nms:List Str:=["NoWeb","Apart","NoText","NoOrder","TooMany","NotSettled","NoTree","NoTotal","NoEnds","NoRow","NoName"]
def Ud(cx:Str):Str->Option Bool:=fun n=>if n = "NoOrder" then some (decide (cx = "NoOrder")) else none
def Jx:Str->Option Bool:=fun n=>if n = "NoOrder" then some true else none
structure Q14(K:PySem.W.Frag)(mg:Str->Option Value)(C Cb:Addr):Prop where
 no:PySem.W.nsIn K mainGlobals "NoOrder" = some (some (.ref C))
 mgo:mg "NoOrder" = some (.ref C)
 mgb:mg "PurseError" = some (.ref Cb)
 ex:PySem.W.excIn K C [.type "ValueError",.type "Exception",.type "BaseException",.type "object"] "ValueError.__new__" = true
 ec:PL K C
 kb:PySem.W.ktsIn K Cb "BaseException" = true
 bl:belowIn K C Cb=true
 cls:∀cx∈nms,∃D,mg cx=some (.ref D)/\PySem.W.kitOne K (.ref C) (.ref D)=some (decide (cx = "NoOrder"))
 ve:PySem.W.kitOne K (.ref C) (.type "ValueError")=some true
section
variable {X:Cx} {C Cb:Addr} {e:Expr} {f:XE} {cx:Str} {p p2 pos:Pos}
theorem XQ(Q:Q14 X.K X.mg C Cb)(hgi:Gl X "isinstance")(hm:X.mg "isinstance" = none)(he:VE X e f)(hcx:cx∈nms)(hgc:Gl X cx)(hdb:(cx==("__debug__" : Str))=false:=by decide)
  (hst:starEach [e,.Name cx p2] X.env=(false,eval e X.env)::starEach [.Name cx p2] X.env:=by rfl) (hst2:starEach [.Name cx p2] X.env=(false,eval (.Name cx p2) X.env)::starEach [] X.env:=by rfl) (hpl:(backTo pos (starEach [.Name cx p2] X.env)).any (·.1)=false:=by rfl):VM X (.Call (.Name "isinstance" p) [e,.Name cx p2] [] pos) (Yn (Ud cx) f):=by
 obtain⟨D,hD,hk⟩:=Q.cls cx hcx
 refine NZ hgi hm he (.own D) (Lm hgc hD hdb) (fun n b h=>?_) hst hst2 hpl
 unfold Ud at h
 split at h
 ·rename_i hn
  subst hn;cases h
  exact⟨C,Q.no,Q.ec,hk⟩
 ·cases h
theorem Je(Q:Q14 X.K X.mg C Cb)(hgi:Gl X "isinstance")(hm:X.mg "isinstance" = none)(he:VE X e f)(hgc:Gl X "ValueError")(hv:X.mg "ValueError" = none)
  (hst:starEach [e,.Name "ValueError" p2] X.env=(false,eval e X.env)::starEach [.Name "ValueError" p2] X.env:=by rfl) (hst2:starEach [.Name "ValueError" p2] X.env=(false,eval (.Name "ValueError" p2) X.env)::starEach [] X.env:=by rfl) (hpl:(backTo pos (starEach [.Name "ValueError" p2] X.env)).any (·.1)=false:=by rfl):VM X (.Call (.Name "isinstance" p) [e,.Name "ValueError" p2] [] pos) (Yn Jx f):=by
 refine NZ hgi hm he (.ty "ValueError") (Ln hgc hv (by decide +kernel)) (fun n b h=>?_) hst hst2 hpl
 unfold Jx at h
 split at h
 ·rename_i hn
  subst hn;cases h
  exact⟨C,Q.no,Q.ec,Q.ve⟩
 ·cases h
end
section
variable {X:Cx} {O W:List Nat} {C Cb:Addr} {k n i:Nat} {x nm:Str} {ps:List Str} {R:List PV->Option Str} {e:Expr} {es:List Expr} {fs:List XE} {p cp ep np hp pos:Pos} {b₀:Stmt} {suite:List Stmt} {f:XS} {Zk:List ExceptHandler}
theorem Lr(Q:Q14 X.K X.mg C Cb)(CX:CalX X.prog X.w X.K X.mg X.base x ps (spX X.K R n) k)(hR:∀ls m,R ls=some m->m = "NoOrder")(hr:Room k X.A)(hg:Gl X x)(ha:VA X.nox (e::es) fs)(hx:X.ex=[])(hst:X.stack=X.env::X.outer)(hfr:X.env.frame=some X.env.locals)
  (hN:X.N.Nodup) (hi:X.N[i]?=some nm) (hk:X.env.scope.names.lookup nm=some .local) (hgc:Gl X "PurseError")
  (hs:∀e,Nu (Cx.mark X e) O W (b₀::suite) f) (hiO:i∉O) (hsw:swapsWith (.Call (.Name x p) (e::es) [] cp) none ep.line X.env=pure false:=by rfl) (hn:fs.length=n:=by rfl)
  (hdb:(x==("__debug__" : Str))=false:=by decide) (he:starEach (e::es) X.env=(false,eval e X.env)::starEach es X.env:=by rfl) (hpl:(backTo cp (starEach es X.env)).any (·.1)=false:=by rfl) :
  VS X O (i::W) (.Try [.Expr (.Call (.Name x p) (e::es) [] cp) ep] (.ExceptHandler (some (.Name "PurseError" np)) (some nm) (b₀::suite) hp::Zk) [] [] pos) (NX R fs i f):=
 Jd CX hr hg ha hx hst hfr hN hi hk hgc Q.mgb Q.kb (fun ls m h=>by rw[hR ls m h];exact⟨C,Q.no,Q.ec.kt,Q.bl⟩) hs hiO hsw hn hdb (by decide) he hpl
end
end VX
namespace PW
open PySem L2 VL VX
noncomputable def Va:XS:=(Zm (Zo 3 (ZC []))
  (Zm (YV [3] (ZI [(Za 2)]) (.one 4) (Xt 3 (Zi Yt (Zf Zn [(Za 0),(Zi ZO (Za 1) (Za 4))]) (Zi ZO (Za 4) (eC (.int 1)))) (Za 4)))
  (YU (Za 3))))
noncomputable def Y0:List PV->Option PV:=X8 5 Va
noncomputable def Wv:XS:=(YU (eP (Zf Vk [(ZG 1 [0,2] (VG (Vq YT (Za 1) Uc (WH (Zi XN (Za 1) (Za 2))))) (.one 0) ZQ (Zi Yb (Zi Yb (Za 1) (Za 2)) (Za 0)))])))
noncomputable def Yo:List PV->Option PV:=X8 3 Wv
noncomputable def ZK:List PV->Option Str:=Io 2 (QG (Il (xB (Zi (Xq true) (Zf Xv [(Za 1)]) (TM YZ (Zf X5 [(Za 0)])))) (QF "NoOrder" (Za 1)) Ju) Vp Ju)
noncomputable def Y6:XS:=(Zm (UO (xB (Zi (Xq true) (Zf Xv [(Za 1)]) (TM YZ (Zf X5 [(Za 0)])))) Vp Z8)
  (YU (eP (Zf Xh [(ZG 1 [0,1] (ZI [(Zf X5 [(Za 0)])]) (.one 0) ZQ (Zi YJ (Zf Yo [(Za 1),(Za 2),(Za 0)]) (eC (.int 1))))]))))
noncomputable def Zt:List PV->Option PV:=X8 2 Y6
noncomputable def UV:XS:=(Zm (Zo 2 (ZC []))
  (Zm (YV [2] (ZI [(Zf X5 [(Za 0)])]) (.one 3) (Zm (Zo 4 (Vq VH (Za 1) Uc (WH (Zi XN (Za 1) (Za 3)))))
  (Yv 2 (eP (Zi YJ (Zf Vk [(ZG 1 [0,3] (VG (Za 4)) (.one 0) ZQ (Zi Yb (Zi Yb (Za 1) (Za 2)) (Za 0)))]) (eC (.int 1)))))))
  (YU (eP (Zf Xh [(Za 2)])))))
noncomputable def V3:List PV->Option PV:=X8 5 UV
noncomputable def V4:XS:=(Zm (Zo 1 (ZC [(eP (Yn (Ud "NoWeb") (Za 0))),(eP (Yn (Ud "Apart") (Za 0))),(eP (Yn (Ud "NoText") (Za 0))),(eP (Yn (Ud "NoOrder") (Za 0)))]))
  (Zm (Zo 1 (Zi ZJ (Za 1) (ZC [(Yn (Ud "TooMany") (Za 0)),(Yn (Ud "NotSettled") (Za 0)),(Yn (Ud "NoTree") (Za 0))])))
  (Zm (Zo 1 (Zi ZJ (Za 1) (ZC [(Yn (Ud "NoTotal") (Za 0)),(Yn (Ud "NoEnds") (Za 0)),(Yn (Ud "NoRow") (Za 0)),(Yn (Ud "NoName") (Za 0))])))
  (Zm (UO (OY (Qp (xB (Yn Jx (Za 0)))) (xB (Zi (Xq true) (Zi V2 (Za 1) (eC (.bl true))) (eC (.int 1))))) (YU (eP (TM Td (eC (.int 1))))) Z8)
  (YU (eP (Zi UU (Za 1) (eC (.bl true)))))))))
noncomputable def Wf:List PV->Option PV:=X8 2 V4
noncomputable def X4:XS:=(Zm (Zo 2 (Zf WF [(Za 1)]))
  (Zm (Zo 3 (eP (eC .non)))
  (Zm (NX ZK [(Za 0),(Za 2)] 4 (Zo 3 (eP (Za 4))))
  (YU (eP (TJ (SK true (Za 3)) (TJ (Zi (Xq false) (Zf Wf [(Za 3)]) (eC (.int 3))) (Zi (Xq false) (Za 2) (Za 1)))))))))
noncomputable def Yh:List PV->Option PV:=X8 5 X4
noncomputable def PM:XS:=(Zm (Zo 1 (eP (Zi ZO (eC (.int 1)) (Zi Yt (Zf Zn [(Za 0),(eC (.int 0))]) (eC (.int 7))))))
  (Zm (Zo 2 (Zf Yz [(Zf YD [(Za 0),(eC (.int 1)),(Za 1)]),(Za 1)]))
  (Zm (Zo 3 (Zf Y0 [(Za 0),(eC (.int 29)),(Za 1)]))
  (Zm (Zo 4 (Zf WF [(Za 3)]))
  (Zm (Zo 5 (Zf Zt [(Za 2),(Za 4)]))
  (Zm (UO (OY (Qp (xB (Zf Xz [(Za 5),(Za 1)]))) (OY (xB (Zi (Xq true) (Za 5) (Zf V3 [(Za 2),(Za 3)]))) (xB (Zi (Xq true) (Za 4) (Za 3))))) (YU (eP (eC (.bl false)))) Z8)
  (Zm (UO (OY (xB (Zi (Xq true) (Zf Vk [(Za 5)]) (Zi YJ (Zf W8 [(Za 2)]) (eC (.int 1))))) (xB (Zi (Xq true) (Zi Yb (Za 5) (Zi Yb (Za 3) (eC (.int 0)))) (TM Td (eC (.int 1)))))) (YU (eP (eC (.bl false)))) Z8)
  (Zm (Zo 6 (Zf Zt [(Za 2),(TM OA (Za 3))]))
  (Zm (UO (xB (Zi (Xq true) (ZG 1 [5,6] (ZI [(Za 1)]) (.one 0) ZQ (Zi ZO (Zi Yb (Za 1) (Za 0)) (Zi Yb (Za 2) (Za 0)))) (ZG 1 [2] (ZI [(Za 1)]) (.one 0) ZQ (Zi YJ (Zf Vk [(Zi Yb (Za 1) (Za 0))]) (eC (.int 2)))))) (YU (eP (eC (.bl false)))) Z8)
  (Zm (Zo 7 (eP (Zi Yt (Zf Zn [(Za 0),(eC (.int 36))]) (Za 1))))
  (Zm (Zo 8 (eP (Zi Yb (ZC [(Za 1),(TM Td (eC (.int 1))),(Zi ZO (Za 1) (eC (.int 6))),(Zi Yb (Za 3) (Zi YJ (Za 7) (eC (.int 1))))]) (Zi Yt (Zf Zn [(Za 0),(eC (.int 37))]) (eC (.int 4))))))
  (Zm (Zo 9 (ZC [(Zi ZJ (Vq YT (Za 3) Uc (WH (Za 7))) (Vq YT (Za 3) (WH (Zi ZO (Za 7) (eC (.int 1)))) Uc)),(Zi ZJ (Za 3) (ZC [(Zi Yb (Za 3) (Za 7))])),(Zi ZJ (Zi ZJ (Vq YT (Za 3) Uc (WH (Za 7))) (ZC [(Zi Yb (Za 3) (Za 7))])) (Vq YT (Za 3) (WH (Za 7)) Uc)),(ZC [])]))
  (Zm (RY 9 (ZC [(Zi ZJ (Za 3) (ZC [(Za 1)])),(Zi ZJ (ZC [(Za 1)]) (Za 3))]))
  (Zm (UO (xB (Zi (Xq true) (Za 8) (Zi Yb (Za 3) (Za 7)))) (Yv 9 (Zi ZJ (Zi ZJ (Vq YT (Za 3) Uc (WH (Za 7))) (ZC [(Za 8)])) (Vq YT (Za 3) (WH (Zi ZO (Za 7) (eC (.int 1)))) Uc))) Z8)
  (YU (eP (TJ (Zf TN [(ZG 1 [2] (VG (Za 9)) (.one 0) ZQ (Zf Yh [(Za 1),(Za 0)]))]) (Zi (Xq false) (Zf Zt [(Za 2),(Za 3)]) (Za 5)))))))))))))))))))
noncomputable def D_law:List PV->Option PV:=X8 10 PM
theorem Ut:∀ls m,ZK ls=some m->m = "NoOrder":=by
 intro ls m h;unfold ZK Io QG Il at h
 split at h
 ·rename_i c hc
  cases h
  obtain⟨b,_,e⟩:=Zd hc
  split at e
  ·unfold QF at e
   split at e
   ·split at e
    ·split at e
     ·cases e;rfl
     ·cases e
    ·cases e
   ·cases e
  ·cases e
 ·simp[Vp] at h
def Qd(i:Nat):Stmt:=PySem.Challenge.pw_purseweb_k14_purses_of_orders.main.body.getD i (.Pass ⟨0,0,0,0⟩)
section
variable {P:Program} {w:World} {K:PySem.W.Frag} {mg:Str->Option Value} {base:Heap}
abbrev Y1:Stmt:=Qd 25
theorem sc_l_square:ZE (["_law_times_here","_law_many","_law_rows","_law_one","_law_other"]:List Str) (["_law_times_here","_law_many"]:List Str) (Zh Y1):=⟨rfl,rfl,rfl,by decide +kernel,rfl,by decide +kernel,by decide +kernel⟩
theorem RZ(Df:Def K mg "_law_square" Y1)(B:Rb mg):WA P w K mg base "_law_square" (["_law_times_here","_law_many"]:List Str) (XW K Yz 2) 1:=
 Yy (O:=[2]) (k:=0) 5 Wt Df sc_l_square (fun _ _ _ _ _ _ us hl=>match us,hl with | [_,_],_=>rfl) rfl rfl (by decide) (fun fa cdv A outer s H E hr=>
  (Zg (Lc (["_law_house"]:List Str) (["_law_many"]:List Str) [1] (i:=2) sc_l_square.nd rfl rfl rfl (ZZ rfl B.range (Zb (Zc (pv 1)) Ze)) (by kernel_rfl) (fun _ _ _ _ _=>(Zv (i:=0) (show((["_law_house"]:List Str)++(["_law_many"]:List Str)).Nodup by decide +kernel) rfl (Or.inl rfl) (.inr rfl))) (fun _ _ _ _ _=>Y4) (fun _ _ _ _ _=>(KW (YX (Zb Zj Ze)) (Zc (pv 1)))))
  (Zg (PH (Sw PassesOwn.never rfl (SF (pv 0)) (Sv (n:=2) rfl (Y7 (Zv (i:=3) sc_l_square.nd rfl (Or.inl rfl)) (Y7 (Zv (i:=4) sc_l_square.nd rfl (Or.inl rfl)) UI))) (Zg (Sh (O4 (SS (Uz hr) (Zc (pv 0)) (Wo (Zb (Zc (pv 3)) (Zb (Zc (pv 4)) Ze)))) (O3 (Pd ix_list (pv 2) (Zc (pv 3)) (fun _ _=>rfl)) (Zc (pv 4)) Rn)))
  (Zl (Sh (O4 (SS (Uz hr) (Zc (pv 0)) (Wo (Zb (Zc (pv 3)) (Zb (Zc (pv 4)) Ze)))) (O3 (Pd ix_list (pv 2) (Zc (pv 4)) (fun _ _=>rfl)) (Zc (pv 3)) Rn)))))))
  (Zl (Yf (VE.pure (Wb Y3 VC rfl B.tuple (by decide +kernel) (Zb (XY (["_law_row"]:List Str) ([]:List Str) [] rfl (UN (Zc (pv 2))) (by kernel_rfl) (fun _ _ _ _ _=>(Zv (i:=0) (show((["_law_row"]:List Str)++([]:List Str)).Nodup by decide +kernel) rfl (Or.inl rfl) (.inr rfl))) (fun _ _ _ _ _=>Y4) (fun _ _ _ _ _=>(Wb Y3 VC rfl B.tuple (by decide +kernel) (Zb (Zc (pv 0)) Ze)))) Ze))))))))
abbrev Wg:Stmt:=Qd 20
theorem ON:ZE (["_law_script","_law_k"]:List Str) (["_law_script","_law_k"]:List Str) (Zh Wg):=⟨rfl,rfl,rfl,by decide +kernel,rfl,by decide +kernel,by decide +kernel⟩
theorem OO(Df:Def K mg "_law_cell" Wg)(B:Rb mg):WA P w K mg base "_law_cell" (["_law_script","_law_k"]:List Str) (XW K Zn 2) 1:=
 Yy (O:=[]) (k:=0) 2 Tv Df ON (fun _ _ _ _ _ _ us hl=>match us,hl with | [_,_],_=>rfl) rfl rfl (by decide) (fun fa cdv A outer s H E hr=>
  (Zl (Yf (VE.pure (ZF (VM.ve (YN (YC (Zc (pv 0)) (Y5 (Zc (pv 1))) (Y5 (Ya (Zc (pv 1)) Zj))) (YX (Zb Zj Ze)))) Zj)))))
abbrev XA:Stmt:=Qd 28
theorem sc_l_order:ZE (["_law_script","_law_at","_law_many","_law_order_here","_law_house"]:List Str) (["_law_script","_law_at","_law_many"]:List Str) (Zh XA):=⟨rfl,rfl,rfl,by decide +kernel,rfl,by decide +kernel,by decide +kernel⟩
theorem QK(Df:Def K mg "_law_order" XA)(B:Rb mg)(C_l_cell:WA P w K mg base "_law_cell" (["_law_script","_law_k"]:List Str) (XW K Zn 2) 1):WA P w K mg base "_law_order" (["_law_script","_law_at","_law_many"]:List Str) (XW K Y0 3) 2:=
 Yy (O:=[3]) (k:=1) 5 Va Df sc_l_order (fun _ _ _ _ _ _ us hl=>match us,hl with | [_,_,_],_=>rfl) rfl rfl (by decide) (fun fa cdv A outer s H E hr=>
  (Zg (Zr (i:=3) sc_l_order.nd rfl (Or.inl rfl) (Wp Xo))
  (Zg (XJ PassesOwn.never rfl (ZZ rfl B.range (Zb (Zc (pv 2)) Ze)) (Zv (i:=4) sc_l_order.nd rfl (Or.inl rfl)) (Zl (Sg (Wk (Vd PySem.F.plainAttrs_list PySem.F.slot_list_insert PySem.F.type_list_insert T8 (pv 3) (ZX (Xg (VM.ve (ZA C_l_cell (hr.mono (by decide)) rfl (Zb (Zc (pv 0)) (Zb (Ya (Zc (pv 1)) (Zc (pv 4))) Ze)))) (Ya (Zc (pv 4)) Zj)) (ZX (Zc (pv 4)) Xe)))))))
  (Zl (SQ (pv 3))))))
abbrev Yp:Stmt:=Qd 18
theorem TU:ZE (["web","order","house"]:List Str) (["web","order","house"]:List Str) (Zh Yp):=⟨rfl,rfl,rfl,by decide +kernel,rfl,by decide +kernel,by decide +kernel⟩
theorem TV(Df:Def K mg "ties_ahead" Yp)(B:Rb mg):WA P w K mg base "ties_ahead" (["web","order","house"]:List Str) (XW K Yo 3) 1:=
 Yy (O:=[]) (k:=0) 3 Wv Df TU (fun _ _ _ _ _ _ us hl=>match us,hl with | [_,_,_],_=>rfl) rfl rfl (by decide) (fun fa cdv A outer s H E hr=>
  (Zl (Yf (VE.pure (Zw (WV rfl) SM rfl B.sum (by decide +kernel) (Zb (XY (["other"]:List Str) (["web","house"]:List Str) [0,2] rfl (UN (YC (Zc (pv 1)) XZ (Y5 (RS (Zc (pv 1)) (Zc (pv 2)))))) (by kernel_rfl) (fun _ _ _ _ _=>(Zv (i:=0) (show((["other"]:List Str)++(["web","house"]:List Str)).Nodup by decide +kernel) rfl (Or.inl rfl) (.inr rfl))) (fun _ _ _ _ _=>Y4) (fun _ _ _ _ _=>(ZF (ZF (Zc (pv 1)) (Zc (pv 2))) (Zc (pv 0))))) Ze))))))
abbrev ZW:Stmt:=Qd 17
theorem WQ:ZE (["web","order"]:List Str) (["web","order"]:List Str) (Zh ZW):=⟨rfl,rfl,rfl,by decide +kernel,rfl,by decide +kernel,by decide +kernel⟩
theorem TB(Df:Def K mg "order_purse" ZW)(B:Rb mg)(C_ties_ahead:WA P w K mg base "ties_ahead" (["web","order","house"]:List Str) (XW K Yo 3) 1):WA P w K mg base "order_purse" (["web","order"]:List Str) (XW K Zt 2) 2:=
 Yy (O:=[]) (k:=1) 2 Y6 Df WQ (fun _ _ _ _ _ _ us hl=>match us,hl with | [_,_],_=>rfl) rfl rfl (by decide) (fun fa cdv A outer s H E hr=>
  (Zg (WI (VQ hr.units (VM.ve (Ry V0 Tw rfl B.sorted (by decide +kernel) (Zb (Zc (pv 1)) Ze))) (VM.ve (V1 rfl rfl B.list rfl B.range (Zw YG Wq rfl B.len (by decide +kernel) (Zb (Zc (pv 0)) Ze))))) (Zl (RP (W:=[]))) YM)
  (Zl (Yf (VE.pure (Wb Y3 VC rfl B.tuple (by decide +kernel) (Zb (XY (["house"]:List Str) (["web","order"]:List Str) [0,1] rfl (ZZ rfl B.range (Zb (Zw YG Wq rfl B.len (by decide +kernel) (Zb (Zc (pv 0)) Ze)) Ze)) (by kernel_rfl) (fun _ _ _ _ _=>(Zv (i:=0) (show((["house"]:List Str)++(["web","order"]:List Str)).Nodup by decide +kernel) rfl (Or.inl rfl) (.inr rfl))) (fun _ _ _ _ _=>Y4) (fun _ _ _ _ _=>(Xf (VM.ve (ZA C_ties_ahead (hr.mono (by decide)) rfl (Zb (Zc (pv 1)) (Zb (Zc (pv 2)) (Zb (Zc (pv 0)) Ze))))) Zj))) Ze)))))))
theorem UG{Ca Cb:Addr}(Df:Def K mg "order_purse" ZW)(B:Rb mg)(Q:VX.Q14 K mg Ca Cb):VX.CalX P w K mg base "order_purse" (["web","order"]:List Str) (VX.spX K ZK 2) 2:=
 VX.def_x (O:=[]) (k:=1) 2 (QG (Il (xB (Zi (Xq true) (Zf Xv [(Za 1)]) (TM YZ (Zf X5 [(Za 0)])))) (QF "NoOrder" (Za 1)) Ju) Vp Ju) Df WQ (fun _ _ _ _ _ _ us hl=>match us,hl with | [_,_],_=>rfl) rfl rfl (by decide) (fun fa cdv A outer s H E hr=>
  (NU (Im (VQ hr.units (VM.ve (Ry V0 Tw rfl B.sorted (by decide +kernel) (Zb (Zc (pv 1)) Ze))) (VM.ve (V1 rfl rfl B.list rfl B.range (Zw YG Wq rfl B.len (by decide +kernel) (Zb (Zc (pv 0)) Ze))))) (Ll (NS F.excBase_ValueError Q.ex rfl Q.mgo Q.no rfl Lk hr (Zc (pv 1)))) NT) (RP (W:=[])) NT))
abbrev YE:Stmt:=Qd 22
theorem sc_l_renamed:ZE (["_law_found","_law_cell_here","_law_many","_law_names","_law_house","_law_told","_law_one","_law_other","_law_pair"]:List Str) (["_law_found","_law_cell_here","_law_many"]:List Str) (Zh YE):=⟨rfl,rfl,rfl,by decide +kernel,rfl,by decide +kernel,by decide +kernel⟩
theorem S6(Df:Def K mg "_law_renamed" YE)(B:Rb mg):WA P w K mg base "_law_renamed" (["_law_found","_law_cell_here","_law_many"]:List Str) (XW K X3 3) 1:=
 Yy (O:=[3,5]) (k:=0) 9 X2 Df sc_l_renamed (fun _ _ _ _ _ _ us hl=>match us,hl with | [_,_,_],_=>rfl) rfl rfl (by decide) (fun fa cdv A outer s H E hr=>
  (Zg (Zr (i:=3) sc_l_renamed.nd rfl (Or.inl rfl) (Wp Xo))
  (Zg (XJ PassesOwn.never rfl (ZZ rfl B.range (Zb (Zc (pv 2)) Ze)) (Zv (i:=4) sc_l_renamed.nd rfl (Or.inl rfl)) (Zg (Sg (Wk (Vd PySem.F.plainAttrs_list PySem.F.slot_list_insert PySem.F.type_list_insert T8 (pv 3) (ZX (Xg (Zc (pv 1)) (Ya (Zc (pv 4)) Zj)) (ZX (Zc (pv 4)) Xe)))))
  (Zl (Zr (i:=1) sc_l_renamed.nd rfl (Or.inl rfl) (VE.pure (Xn (Zc (pv 1)) (Ya (Zc (pv 4)) Zj)))))))
  (Zg (Zr (i:=5) sc_l_renamed.nd rfl (Or.inl rfl) Tf)
  (Zg (PH (Sw PassesOwn.never rfl (SF (pv 0)) (Sv (n:=2) rfl (Y7 (Zv (i:=6) sc_l_renamed.nd rfl (Or.inl rfl)) (Y7 (Zv (i:=7) sc_l_renamed.nd rfl (Or.inl rfl)) UI))) (Zg (Zr (i:=8) sc_l_renamed.nd rfl (Or.inl rfl) (VE.pure (Wo (Zb (Zw (Uh rfl) SN rfl B.min (by decide +kernel) (Zb (ZF (Zc (pv 3)) (Zc (pv 6))) (Zb (ZF (Zc (pv 3)) (Zc (pv 7))) Ze))) (Zb (Zw (P3 rfl) M1 rfl B.max (by decide +kernel) (Zb (ZF (Zc (pv 3)) (Zc (pv 6))) (Zb (ZF (Zc (pv 3)) (Zc (pv 7))) Ze))) Ze)))))
  (Zl (UP (UK (Uz hr) (pv 5) (Zc (pv 8)) (SS (Uz hr) (Zc (pv 0)) (Wo (Zb (Zc (pv 6)) (Zb (Zc (pv 7)) Ze)))) rfl))))))
  (Zl (SQ (pv 5))))))))
abbrev Z2:Stmt:=Qd 23
theorem sc_l_read_times:ZE (["_law_rest","_law_many","_law_room","_law_most","_law_found","_law_met","_law_one","_law_other","_law_deep","_law_turn"]:List Str) (["_law_rest","_law_many","_law_room","_law_most"]:List Str) (Zh Z2):=⟨rfl,rfl,rfl,by decide +kernel,rfl,by decide +kernel,by decide +kernel⟩
theorem UH(Df:Def K mg "_law_read_times" Z2)(B:Rb mg):WA P w K mg base "_law_read_times" (["_law_rest","_law_many","_law_room","_law_most"]:List Str) (XW K Z1 4) 1:=
 Yy (O:=[4,5]) (k:=0) 10 YR Df sc_l_read_times (fun _ _ _ _ _ _ us hl=>match us,hl with | [_,_,_,_],_=>rfl) rfl rfl (by decide) (fun fa cdv A outer s H E hr=>
  (Zg (Zr (i:=4) sc_l_read_times.nd rfl (Or.inl rfl) Tf)
  (Zg (Zr (i:=5) sc_l_read_times.nd rfl (Or.inl rfl) (Wp (Yc (VE.pure Zj) Xo)))
  (Zg (XJ PassesOwn.never rfl (ZZ rfl B.range (Zb (Zc (pv 1)) Ze)) (Zv (i:=6) sc_l_read_times.nd rfl (Or.inl rfl)) (Zl (XJ PassesOwn.never rfl (WY rfl B.range (Zb (Ya (Zc (pv 6)) Zj) (Zb (Zc (pv 1)) Ze))) (Zv (i:=7) sc_l_read_times.nd rfl (Or.inl rfl)) (Zg (Zr (i:=8) sc_l_read_times.nd rfl (Or.inl rfl) (VE.pure (Zw (Uh rfl) SN rfl B.min (by decide +kernel) (Zb (KJ (Xg (Zc (pv 0)) Zj) (Ya Zj (Xg (Xn (Zc (pv 0)) Zj) (Zc (pv 3))))) (Zb (Zc (pv 2)) Ze)))))
  (Zg (Zr (i:=0) sc_l_read_times.nd rfl (Or.inl rfl) (VE.pure (ZF (YX (Zb (Xn (Zc (pv 0)) Zj) (Zb (Xn (Xn (Zc (pv 0)) Zj) (Zc (pv 3))) Ze))) (Xg (Zc (pv 0)) Zj))))
  (Zl (WI (Ic (Zc (pv 8)) Zj) (Zg (UP (UK (Uz hr) (pv 4) (Wo (Zb (Zc (pv 6)) (Zb (Zc (pv 7)) Ze))) (Zc (pv 8)) rfl))
  (Zl (Zr (i:=2) sc_l_read_times.nd rfl (Or.inl rfl) (VE.pure (Xf (Zc (pv 2)) (Zc (pv 8))))))) YM)))))))
  (Zg (XJ PassesOwn.never rfl (ZZ rfl B.range (Zb (Zc (pv 1)) Ze)) (Zv (i:=9) sc_l_read_times.nd rfl (Or.inl rfl)) (Zl (NC (O':=[5]) (Sw PassesOwn.never rfl (SF (pv 4)) (Sv (n:=2) rfl (Y7 (Zv (i:=6) sc_l_read_times.nd rfl (Or.inl rfl)) (Y7 (Zv (i:=7) sc_l_read_times.nd rfl (Or.inl rfl)) UI))) (Zg (WI (VW.vt (SI (LP hr.units (Zc (pv 6)) (Zc (pv 5))) (UL (RK hr.units (Zc (pv 7)) (Zc (pv 5)))))) (Zl (W4 (Wk (Vd PySem.F.plainAttrs_list PySem.F.slot_list_append PySem.F.type_list_append WU (pv 5) (ZX (VE.pure (Zc (pv 7))) Xe))))) YM)
  (Zl (WI (VW.vt (SI (LP hr.units (Zc (pv 7)) (Zc (pv 5))) (UL (RK hr.units (Zc (pv 6)) (Zc (pv 5)))))) (Zl (W4 (Wk (Vd PySem.F.plainAttrs_list PySem.F.slot_list_append PySem.F.type_list_append WU (pv 5) (ZX (VE.pure (Zc (pv 6))) Xe))))) YM)))) (by decide) (by intro j;simp;try omega))))
  (Zl (Ov (Pd ix_list (Qj (ZX O1 (ZX (pv 4) Xe))) (Wb P4 M2 rfl B.int (by decide +kernel) (Zb (RJ hr.units (Zw YG Wq rfl B.len (by decide +kernel) (Zb (Zc (pv 5)) Ze)) (Zc (pv 1))) Ze)) (fun _ _=>rfl)))))))))
abbrev XB:Stmt:=Qd 24
theorem sc_l_times:ZE (["_law_script","_law_at","_law_many","_law_first","_law_found","_law_room","_law_house","_law_cell_here","_law_deep","_law_k","_law_one","_law_other"]:List Str) (["_law_script","_law_at","_law_many"]:List Str) (Zh XB):=⟨rfl,rfl,rfl,by decide +kernel,rfl,by decide +kernel,by decide +kernel⟩
theorem QL(Df:Def K mg "_law_times" XB)(B:Rb mg)(C_l_cell:WA P w K mg base "_law_cell" (["_law_script","_law_k"]:List Str) (XW K Zn 2) 1)(C_l_read_times:WA P w K mg base "_law_read_times" (["_law_rest","_law_many","_law_room","_law_most"]:List Str) (XW K Z1 4) 1)(C_l_renamed:WA P w K mg base "_law_renamed" (["_law_found","_law_cell_here","_law_many"]:List Str) (XW K X3 3) 1):WA P w K mg base "_law_times" (["_law_script","_law_at","_law_many"]:List Str) (XW K YD 3) 2:=
 Yy (O:=[4]) (k:=1) 12 W9 Df sc_l_times (fun _ _ _ _ _ _ us hl=>match us,hl with | [_,_,_],_=>rfl) rfl rfl (by decide) (fun fa cdv A outer s H E hr=>
  (Zg (Zr (i:=3) sc_l_times.nd rfl (Or.inl rfl) (ZA C_l_cell (hr.mono (by decide)) rfl (Zb (Zc (pv 0)) (Zb (Zc (pv 1)) Ze))))
  (Zg (WI (VW.vt (SI (Ii hr.units (Xg (Zc (pv 3)) Zj) Zj) (UL (M0 (VM.ve (ZA C_l_read_times (hr.mono (by decide)) rfl (Zb (Xn (Zc (pv 3)) Zj) (Zb (Zc (pv 2)) (Zb Zj (Zb Zj Ze)))))))))) (Zl (Yf (ZA C_l_read_times (hr.mono (by decide)) rfl (Zb (Xn (Zc (pv 3)) Zj) (Zb (Zc (pv 2)) (Zb Zj (Zb Zj Ze))))))) YM)
  (Zg (Zr (i:=4) sc_l_times.nd rfl (Or.inl rfl) Tf)
  (Zg (Zr (i:=5) sc_l_times.nd rfl (Or.inl rfl) (VE.pure Zj))
  (Zg (XJ PassesOwn.never rfl (WY rfl B.range (Zb Zj (Zb (Zc (pv 2)) Ze))) (Zv (i:=6) sc_l_times.nd rfl (Or.inl rfl)) (Zg (Zr (i:=7) sc_l_times.nd rfl (Or.inl rfl) (ZA C_l_cell (hr.mono (by decide)) rfl (Zb (Zc (pv 0)) (Zb (Ya (Zc (pv 1)) (Zc (pv 6))) Ze))))
  (Zg (Zr (i:=8) sc_l_times.nd rfl (Or.inl rfl) (VE.pure (Zw (Uh rfl) SN rfl B.min (by decide +kernel) (Zb (ZF (YX (Zb Zj (Zb Zj (Zb Zj (Zb Zj (Zb Zj (Zb Zj Ze))))))) (Xg (Xn (Zc (pv 7)) (Zc (pv 6))) Zj)) (Zb (Xf (Zc (pv 5)) (Xf (Xf (Zc (pv 2)) Zj) (Zc (pv 6)))) Ze)))))
  (Zg (UP (UK (Uz hr) (pv 4) (Wo (Zb (Xg (Zc (pv 7)) (Zc (pv 6))) (Zb (Zc (pv 6)) Ze))) (Zc (pv 8)) rfl))
  (Zl (Zr (i:=5) sc_l_times.nd rfl (Or.inl rfl) (VE.pure (Xf (Zc (pv 5)) (Zc (pv 8))))))))))
  (Zg (Zr (i:=9) sc_l_times.nd rfl (Or.inl rfl) (VE.pure (Ya (Zc (pv 1)) Zj)))
  (Zg (XJ PassesOwn.never rfl (ZZ rfl B.range (Zb (Zc (pv 2)) Ze)) (Zv (i:=10) sc_l_times.nd rfl (Or.inl rfl)) (Zl (XJ PassesOwn.never rfl (WY rfl B.range (Zb (Ya (Zc (pv 10)) Zj) (Zb (Zc (pv 2)) Ze))) (Zv (i:=11) sc_l_times.nd rfl (Or.inl rfl)) (Zg (Zr (i:=8) sc_l_times.nd rfl (Or.inl rfl) (VE.pure (ZF (YX (Zb Zj (Zb Zj (Zb Zj (Zb Zj (Zb Zj (Zb Zj (Zb Zj (Zb Zj Ze))))))))) (Xg (VM.ve (ZA C_l_cell (hr.mono (by decide)) rfl (Zb (Zc (pv 0)) (Zb (Zc (pv 9)) Ze)))) Zj))))
  (Zg (Zr (i:=9) sc_l_times.nd rfl (Or.inl rfl) (VE.pure (Ya (Zc (pv 9)) Zj)))
  (Zl (WI (VW.vt (SI (Ou (Uz hr) (Wo (Zb (Zc (pv 10)) (Zb (Zc (pv 11)) Ze))) (Zc (pv 4))) (UL (NA JQ JR (KI _) (KI _) Zj (Zc (pv 8)) (Zc (pv 5)))))) (Zg (UP (UK (Uz hr) (pv 4) (Wo (Zb (Zc (pv 10)) (Zb (Zc (pv 11)) Ze))) (Zc (pv 8)) rfl))
  (Zl (Zr (i:=5) sc_l_times.nd rfl (Or.inl rfl) (VE.pure (Xf (Zc (pv 5)) (Zc (pv 8))))))) YM)))))))
  (Zl (Yf (ZA C_l_renamed (hr.mono (by decide)) rfl (Zb (Zc (pv 4)) (Zb (Xn (VM.ve (ZA C_l_cell (hr.mono (by decide)) rfl (Zb (Zc (pv 0)) (Zb (Zc (pv 1)) Ze)))) Zj) (Zb (Zc (pv 2)) Ze))))))))))))))
abbrev XC:Stmt:=Qd 21
theorem QM:ZE (["_law_thing"]:List Str) (["_law_thing"]:List Str) (Zh XC):=⟨rfl,rfl,rfl,by decide +kernel,rfl,by decide +kernel,by decide +kernel⟩
theorem QN(Df:Def K mg "_law_whole" XC)(B:Rb mg):WA P w K mg base "_law_whole" (["_law_thing"]:List Str) (XW K Xy 1) 1:=
 Yy (O:=[]) (k:=0) 1 Ur Df QM (fun _ _ _ _ _ _ us hl=>match us,hl with | [_],_=>rfl) rfl rfl (by decide) (fun fa cdv A outer s H E hr=>
  (Zl (Yf (VE.pure (Uo (Zw WE SO rfl B.isinstance (by decide +kernel) (Zb (Zc (pv 0)) (Zb (Np rfl B.int (by decide +kernel)) Ze))) (SJ (KN (Zw WE SO rfl B.isinstance (by decide +kernel) (Zb (Zc (pv 0)) (Zb (Np rfl B.bool (by decide +kernel)) Ze))))))))))
abbrev XD:Stmt:=Qd 27
theorem QO:ZE (["_law_found","_law_many"]:List Str) (["_law_found","_law_many"]:List Str) (Zh XD):=⟨rfl,rfl,rfl,by decide +kernel,rfl,by decide +kernel,by decide +kernel⟩
theorem QP(Df:Def K mg "_law_tuple" XD)(B:Rb mg)(C_l_whole:WA P w K mg base "_law_whole" (["_law_thing"]:List Str) (XW K Xy 1) 1):WA P w K mg base "_law_tuple" (["_law_found","_law_many"]:List Str) (XW K Xz 2) 2:=
 Yy (O:=[]) (k:=1) 2 Us Df QO (fun _ _ _ _ _ _ us hl=>match us,hl with | [_,_],_=>rfl) rfl rfl (by decide) (fun fa cdv A outer s H E hr=>
  (Zl (Yf (VE.pure (Uo (Zw WE SO rfl B.isinstance (by decide +kernel) (Zb (Zc (pv 0)) (Zb (Np rfl B.tuple (by decide +kernel)) Ze))) (Uo (RJ hr.units (Zw YG Wq rfl B.len (by decide +kernel) (Zb (Zc (pv 0)) Ze)) (Zc (pv 1))) (SJ (Zw (T7 rfl) No rfl B.all (by decide +kernel) (Zb (XY (["_law_number"]:List Str) ([]:List Str) [] rfl (KU (Zc (pv 0))) (by kernel_rfl) (fun _ _ _ _ _=>(Zv (i:=0) (show((["_law_number"]:List Str)++([]:List Str)).Nodup by decide +kernel) rfl (Or.inl rfl) (.inr rfl))) (fun _ _ _ _ _=>Y4) (fun _ _ _ _ _=>(VM.ve (ZA C_l_whole (hr.mono (by decide)) rfl (Zb (Zc (pv 0)) Ze))))) Ze)))))))))
abbrev Vb:Stmt:=Qd 29
theorem sc_l_due:ZE (["_law_web","_law_order_here","_law_found","_law_house","_law_ahead"]:List Str) (["_law_web","_law_order_here"]:List Str) (Zh Vb):=⟨rfl,rfl,rfl,by decide +kernel,rfl,by decide +kernel,by decide +kernel⟩
theorem N0(Df:Def K mg "_law_due" Vb)(B:Rb mg):WA P w K mg base "_law_due" (["_law_web","_law_order_here"]:List Str) (XW K V3 2) 1:=
 Yy (O:=[2]) (k:=0) 5 UV Df sc_l_due (fun _ _ _ _ _ _ us hl=>match us,hl with | [_,_],_=>rfl) rfl rfl (by decide) (fun fa cdv A outer s H E hr=>
  (Zg (Zr (i:=2) sc_l_due.nd rfl (Or.inl rfl) (Wp Xo))
  (Zg (XJ PassesOwn.never rfl (ZZ rfl B.range (Zb (Zw YG Wq rfl B.len (by decide +kernel) (Zb (Zc (pv 0)) Ze)) Ze)) (Zv (i:=3) sc_l_due.nd rfl (Or.inr rfl)) (Zg (Zr (i:=4) sc_l_due.nd rfl (Or.inl rfl) (Oq (Zc (pv 1)) XZ (Y5 (RS (Zc (pv 1)) (Zc (pv 3))))))
  (Zl (W4 (Wk (Vd PySem.F.plainAttrs_list PySem.F.slot_list_append PySem.F.type_list_append WU (pv 2) (ZX (VE.pure (Xf (Zw (WV rfl) SM rfl B.sum (by decide +kernel) (Zb (XY (["_law_other"]:List Str) (["_law_web","_law_house"]:List Str) [0,3] rfl (UN (Zc (pv 4))) (by kernel_rfl) (fun _ _ _ _ _=>(Zv (i:=0) (show((["_law_other"]:List Str)++(["_law_web","_law_house"]:List Str)).Nodup by decide +kernel) rfl (Or.inl rfl) (.inr rfl))) (fun _ _ _ _ _=>Y4) (fun _ _ _ _ _=>(ZF (ZF (Zc (pv 1)) (Zc (pv 2))) (Zc (pv 0))))) Ze)) Zj)) Xe)))))))
  (Zl (Yf (VE.pure (Wb Y3 VC rfl B.tuple (by decide +kernel) (Zb (Zc (pv 2)) Ze))))))))
abbrev XF:Stmt:=Qd 14
theorem sc_ties_of:ZE (["web","ties","a","row","b"]:List Str) (["web"]:List Str) (Zh XF):=⟨rfl,rfl,rfl,by decide +kernel,rfl,by decide +kernel,by decide +kernel⟩
theorem QQ(Df:Def K mg "ties_of" XF)(B:Rb mg):WA P w K mg base "ties_of" (["web"]:List Str) (XW K W7 1) 1:=
 Yy (O:=[1]) (k:=0) 5 W6 Df sc_ties_of (fun _ _ _ _ _ _ us hl=>match us,hl with | [_],_=>rfl) rfl rfl (by decide) (fun fa cdv A outer s H E hr=>
  (Zg (Zr (i:=1) sc_ties_of.nd rfl (Or.inl rfl) (Wp Xo))
  (Zg (XJ PassesOwn.never rfl (M5 false rfl B.enumerate (Zb (Zc (pv 0)) Ze)) (Sv (n:=2) rfl (Y7 (Zv (i:=2) sc_ties_of.nd rfl (Or.inr rfl)) (Y7 (Zv (i:=3) sc_ties_of.nd rfl (Or.inl rfl)) UI))) (Zl (XJ PassesOwn.never rfl (WY rfl B.range (Zb (Ya (Zc (pv 2)) Zj) (Zb (Zw YG Wq rfl B.len (by decide +kernel) (Zb (Zc (pv 0)) Ze)) Ze))) (Zv (i:=4) sc_ties_of.nd rfl (Or.inr rfl)) (Zl (Ot (Wk (Vd PySem.F.plainAttrs_list PySem.F.slot_list_extend PySem.F.type_list_extend Oa (pv 1) (ZX (M7 (["nth"]:List Str) (["a","b"]:List Str) [2,4] rfl (ZZ rfl B.range (Zb (ZF (Zc (pv 3)) (Zc (pv 4))) Ze)) (by kernel_rfl) (fun _ _ _ _ _=>(Zv (i:=0) (show((["nth"]:List Str)++(["a","b"]:List Str)).Nodup by decide +kernel) rfl (Or.inl rfl) (.inr rfl))) (fun _ _ _ _ _=>Y4) (fun _ _ _ _ _=>(VE.pure (Wo (Zb (Zc (pv 1)) (Zb (Zc (pv 2)) (Zb (Zc (pv 0)) Ze))))))) Xe))))))))
  (Zl (SQ (pv 1))))))
abbrev Vc:Stmt:=Qd 15
theorem N1:ZE (["web"]:List Str) (["web"]:List Str) (Zh Vc):=⟨rfl,rfl,rfl,by decide +kernel,rfl,by decide +kernel,by decide +kernel⟩
theorem N2(Df:Def K mg "loops" Vc)(B:Rb mg)(C_ties_of:WA P w K mg base "ties_of" (["web"]:List Str) (XW K W7 1) 1):WA P w K mg base "loops" (["web"]:List Str) (XW K W8 1) 2:=
 Yy (O:=[]) (k:=1) 1 SZ Df N1 (fun _ _ _ _ _ _ us hl=>match us,hl with | [_],_=>rfl) rfl rfl (by decide) (fun fa cdv A outer s H E hr=>
  (Zl (Yf (VE.pure (Ya (Xf (Zw YG Wq rfl B.len (by decide +kernel) (Zb (VM.ve (ZA C_ties_of (hr.mono (by decide)) rfl (Zb (Zc (pv 0)) Ze))) Ze)) (Zw YG Wq rfl B.len (by decide +kernel) (Zb (Zc (pv 0)) Ze))) Zj)))))
abbrev Wh:Stmt:=Qd 26
theorem sc_l_kind:ZE (["_law_e","_law_found"]:List Str) (["_law_e"]:List Str) (Zh Wh):=⟨rfl,rfl,rfl,by decide +kernel,rfl,by decide +kernel,by decide +kernel⟩
theorem OP(Df:Def K mg "_law_kind" Wh)(B:Rb mg){Ca Cb:Addr}(Q:VX.Q14 K mg Ca Cb):WA P w K mg base "_law_kind" (["_law_e"]:List Str) (XW K Wf 1) 1:=
 Yy (O:=[]) (k:=0) 2 V4 Df sc_l_kind (fun _ _ _ _ _ _ us hl=>match us,hl with | [_],_=>rfl) rfl rfl (by decide) (fun fa cdv A outer s H E hr=>
  (Zg (Zr (i:=1) sc_l_kind.nd rfl (Or.inl rfl) (Wp (Yc (VE.pure (VM.ve (XQ Q rfl B.isinstance (Zc (pv 0)) (by decide) rfl))) (Yc (VE.pure (VM.ve (XQ Q rfl B.isinstance (Zc (pv 0)) (by decide) rfl))) (Yc (VE.pure (VM.ve (XQ Q rfl B.isinstance (Zc (pv 0)) (by decide) rfl))) (Yc (VE.pure (VM.ve (XQ Q rfl B.isinstance (Zc (pv 0)) (by decide) rfl))) Xo))))))
  (Zg (Zr (i:=1) sc_l_kind.nd rfl (Or.inl rfl) (YN (Zc (pv 1)) (YX (Zb (VM.ve (XQ Q rfl B.isinstance (Zc (pv 0)) (by decide) rfl)) (Zb (VM.ve (XQ Q rfl B.isinstance (Zc (pv 0)) (by decide) rfl)) (Zb (VM.ve (XQ Q rfl B.isinstance (Zc (pv 0)) (by decide) rfl)) Ze))))))
  (Zg (Zr (i:=1) sc_l_kind.nd rfl (Or.inl rfl) (YN (Zc (pv 1)) (YX (Zb (VM.ve (XQ Q rfl B.isinstance (Zc (pv 0)) (by decide) rfl)) (Zb (VM.ve (XQ Q rfl B.isinstance (Zc (pv 0)) (by decide) rfl)) (Zb (VM.ve (XQ Q rfl B.isinstance (Zc (pv 0)) (by decide) rfl)) (Zb (VM.ve (XQ Q rfl B.isinstance (Zc (pv 0)) (by decide) rfl)) Ze)))))))
  (Zg (WI (VW.vt (Ps (Nm (Nl (VM.ve (Je Q rfl B.isinstance (Zc (pv 0)) rfl B.ValueError)))) (Qq (VQ hr.units (OM (Zc (pv 1)) Ru) Zj)))) (Zl (Yf (VE.pure (SL Zj)))) YM)
  (Zl (Yf (VE.pure (OL (Zc (pv 1)) Ru)))))))))
abbrev YF:Stmt:=Qd 30
theorem sc_l_refused:ZE (["_law_web","_law_some","_law_handed","_law_caught","_law_e"]:List Str) (["_law_web","_law_some"]:List Str) (Zh YF):=⟨rfl,rfl,rfl,by decide +kernel,rfl,by decide +kernel,by decide +kernel⟩
theorem S7(Df:Def K mg "_law_refused" YF)(B:Rb mg)(C_l_kind:WA P w K mg base "_law_kind" (["_law_e"]:List Str) (XW K Wf 1) 1){Ca Cb:Addr}(Q:VX.Q14 K mg Ca Cb)(X_order_purse:VX.CalX P w K mg base "order_purse" (["web","order"]:List Str) (VX.spX K ZK 2) 2):WA P w K mg base "_law_refused" (["_law_web","_law_some"]:List Str) (XW K Yh 2) 3:=
 Yy (O:=[]) (k:=2) 5 X4 Df sc_l_refused (fun _ _ _ _ _ _ us hl=>match us,hl with | [_,_],_=>rfl) rfl rfl (by decide) (fun fa cdv A outer s H E hr=>
  (Zg (Zr (i:=2) sc_l_refused.nd rfl (Or.inl rfl) (Sb Vu Rz rfl B.list (by decide +kernel) (Zb (Zc (pv 1)) Ze)))
  (Zg (Zr (i:=3) sc_l_refused.nd rfl (Or.inl rfl) (VE.pure KD))
  (Zg (Lr Q X_order_purse Ut (hr.mono (by decide)) rfl (Zb (Zc (pv 0)) (Zb (Zc (pv 2)) Ze)) rfl rfl rfl sc_l_refused.nd rfl rfl rfl (fun _=>(Zl (Zr (i:=3) sc_l_refused.nd rfl (Or.inl rfl) (VE.pure (Zc (pv 4)))))) (by decide))
  (Zl (Yf (VE.pure (Uo (MZ (Zc (pv 3))) (Uo (RJ hr.units (VM.ve (ZA C_l_kind (hr.mono (by decide)) rfl (Zb (Zc (pv 3)) Ze))) Zj) (SJ (RJ hr.units (Zc (pv 2)) (Zc (pv 1)))))))))))))
abbrev Sn:Stmt:=Qd 31
theorem sc_law:ZE (["_law_script","_law_many","_law_web","_law_order_here","_law_handed","_law_found","_law_other","_law_at","_law_strange","_law_wrong"]:List Str) (["_law_script"]:List Str) (Zh Sn):=⟨rfl,rfl,rfl,by decide +kernel,rfl,by decide +kernel,by decide +kernel⟩
theorem Jf{ff:Addr}{fd:FuncData}(Fn:Fun K "law" "law" Sn ff fd)(B:Rb mg)(C_l_cell:WA P w K mg base "_law_cell" (["_law_script","_law_k"]:List Str) (XW K Zn 2) 1)(C_l_square:WA P w K mg base "_law_square" (["_law_times_here","_law_many"]:List Str) (XW K Yz 2) 1)(C_l_times:WA P w K mg base "_law_times" (["_law_script","_law_at","_law_many"]:List Str) (XW K YD 3) 2)(C_l_order:WA P w K mg base "_law_order" (["_law_script","_law_at","_law_many"]:List Str) (XW K Y0 3) 2)(C_order_purse:WA P w K mg base "order_purse" (["web","order"]:List Str) (XW K Zt 2) 2)(C_l_due:WA P w K mg base "_law_due" (["_law_web","_law_order_here"]:List Str) (XW K V3 2) 1)(C_l_tuple:WA P w K mg base "_law_tuple" (["_law_found","_law_many"]:List Str) (XW K Xz 2) 2)(C_loops:WA P w K mg base "loops" (["web"]:List Str) (XW K W8 1) 2)(C_l_refused:WA P w K mg base "_law_refused" (["_law_web","_law_some"]:List Str) (XW K Yh 2) 3):Vt P w K mg base Pm 4 ff fd (["_law_script"]:List Str) (XW K D_law 1):=
 KY (O:=[9]) (k:=3) 10 PM Fn sc_law rfl rfl (by decide) (fun fa cdv A outer s H E hr=>
  (Zg (Zr (i:=1) sc_law.nd rfl (Or.inl rfl) (VE.pure (Ya Zj (Xg (VM.ve (ZA C_l_cell (hr.mono (by decide)) rfl (Zb (Zc (pv 0)) (Zb Zj Ze)))) Zj))))
  (Zg (Zr (i:=2) sc_law.nd rfl (Or.inr rfl) (ZA C_l_square (hr.mono (by decide)) rfl (Zb (VM.ve (ZA C_l_times (hr.mono (by decide)) rfl (Zb (Zc (pv 0)) (Zb Zj (Zb (Zc (pv 1)) Ze))))) (Zb (Zc (pv 1)) Ze))))
  (Zg (Zr (i:=3) sc_law.nd rfl (Or.inl rfl) (ZA C_l_order (hr.mono (by decide)) rfl (Zb (Zc (pv 0)) (Zb Zj (Zb (Zc (pv 1)) Ze)))))
  (Zg (Zr (i:=4) sc_law.nd rfl (Or.inl rfl) (Sb Vu Rz rfl B.list (by decide +kernel) (Zb (Zc (pv 3)) Ze)))
  (Zg (Zr (i:=5) sc_law.nd rfl (Or.inr rfl) (ZA C_order_purse (hr.mono (by decide)) rfl (Zb (Zc (pv 2)) (Zb (Zc (pv 4)) Ze))))
  (Zg (WI (VW.vt (Ps (Nm (Nl (VM.ve (ZA C_l_tuple (hr.mono (by decide)) rfl (Zb (Zc (pv 5)) (Zb (Zc (pv 1)) Ze)))))) (Ps (VQ hr.units (Zc (pv 5)) (VM.ve (ZA C_l_due (hr.mono (by decide)) rfl (Zb (Zc (pv 2)) (Zb (Zc (pv 3)) Ze))))) (Qq (VQ hr.units (Zc (pv 4)) (Zc (pv 3))))))) (Zl (Yf (VE.pure Ru))) YM)
  (Zg (WI (VW.vt (Ps (VQ hr.units (Zw (WV rfl) SM rfl B.sum (by decide +kernel) (Zb (Zc (pv 5)) Ze)) (Xf (VM.ve (ZA C_loops (hr.mono (by decide)) rfl (Zb (Zc (pv 2)) Ze))) Zj)) (Qq (VQ hr.units (ZF (Zc (pv 5)) (ZF (Zc (pv 3)) Zj)) (SL Zj))))) (Zl (Yf (VE.pure Ru))) YM)
  (Zg (Zr (i:=6) sc_law.nd rfl (Or.inr rfl) (ZA C_order_purse (hr.mono (by decide)) rfl (Zb (Zc (pv 2)) (Zb (VM.ve (K5 (Zc (pv 3)) (SL Zj))) Ze))))
  (Zg (WI (VQ hr.units (XY (["_law_house"]:List Str) (["_law_found","_law_other"]:List Str) [5,6] rfl (ZZ rfl B.range (Zb (Zc (pv 1)) Ze)) (by kernel_rfl) (fun _ _ _ _ _=>(Zv (i:=0) (show((["_law_house"]:List Str)++(["_law_found","_law_other"]:List Str)).Nodup by decide +kernel) rfl (Or.inl rfl) (.inr rfl))) (fun _ _ _ _ _=>Y4) (fun _ _ _ _ _=>(Ya (ZF (Zc (pv 1)) (Zc (pv 0))) (ZF (Zc (pv 2)) (Zc (pv 0)))))) (XY (["_law_house"]:List Str) (["_law_web"]:List Str) [2] rfl (ZZ rfl B.range (Zb (Zc (pv 1)) Ze)) (by kernel_rfl) (fun _ _ _ _ _=>(Zv (i:=0) (show((["_law_house"]:List Str)++(["_law_web"]:List Str)).Nodup by decide +kernel) rfl (Or.inl rfl) (.inr rfl))) (fun _ _ _ _ _=>Y4) (fun _ _ _ _ _=>(Xf (Zw (WV rfl) SM rfl B.sum (by decide +kernel) (Zb (ZF (Zc (pv 1)) (Zc (pv 0))) Ze)) Zj)))) (Zl (Yf (VE.pure Ru))) YM)
  (Zg (Zr (i:=7) sc_law.nd rfl (Or.inl rfl) (VE.pure (Xg (VM.ve (ZA C_l_cell (hr.mono (by decide)) rfl (Zb (Zc (pv 0)) (Zb Zj Ze)))) (Zc (pv 1)))))
  (Zg (Zr (i:=8) sc_law.nd rfl (Or.inl rfl) (VE.pure (ZF (YX (Zb (Zc (pv 1)) (Zb (SL Zj) (Zb (Ya (Zc (pv 1)) Zj) (Zb (ZF (Zc (pv 3)) (Xf (Zc (pv 7)) Zj)) Ze))))) (Xg (VM.ve (ZA C_l_cell (hr.mono (by decide)) rfl (Zb (Zc (pv 0)) (Zb Zj Ze)))) Zj))))
  (Zg (Zr (i:=9) sc_law.nd rfl (Or.inl rfl) (Wp (Yc (YN (YC (Zc (pv 3)) XZ (Y5 (Zc (pv 7)))) (YC (Zc (pv 3)) (Y5 (Ya (Zc (pv 7)) Zj)) XZ)) (Yc (YN (Zc (pv 3)) (YX (Zb (ZF (Zc (pv 3)) (Zc (pv 7))) Ze))) (Yc (YN (VM.ve (YN (YC (Zc (pv 3)) XZ (Y5 (Zc (pv 7)))) (YX (Zb (ZF (Zc (pv 3)) (Zc (pv 7))) Ze)))) (YC (Zc (pv 3)) (Y5 (Zc (pv 7))) XZ)) (Yc (Wp Xo) Xo))))))
  (Zg (Lq (i:=9) sc_law.nd rfl (Or.inl rfl) (pv 9) (Wp (Yc (YN (Zc (pv 3)) (YX (Zb (Zc (pv 1)) Ze))) (Yc (YN (YX (Zb (Zc (pv 1)) Ze)) (Zc (pv 3))) Xo))) (by decide))
  (Zg (WI (VQ hr.units (Zc (pv 8)) (ZF (Zc (pv 3)) (Zc (pv 7)))) (Zl (W4 (Wk (Vd PySem.F.plainAttrs_list PySem.F.slot_list_append PySem.F.type_list_append WU (pv 9) (ZX (YN (VM.ve (YN (YC (Zc (pv 3)) XZ (Y5 (Zc (pv 7)))) (YX (Zb (Zc (pv 8)) Ze)))) (YC (Zc (pv 3)) (Y5 (Ya (Zc (pv 7)) Zj)) XZ)) Xe))))) YM)
  (Zl (Yf (VE.pure (Uo (Zw (T7 rfl) No rfl B.all (by decide +kernel) (Zb (XY (["_law_some"]:List Str) (["_law_web"]:List Str) [2] rfl (UN (Zc (pv 9))) (by kernel_rfl) (fun _ _ _ _ _=>(Zv (i:=0) (show((["_law_some"]:List Str)++(["_law_web"]:List Str)).Nodup by decide +kernel) rfl (Or.inl rfl) (.inr rfl))) (fun _ _ _ _ _=>Y4) (fun _ _ _ _ _=>(VM.ve (ZA C_l_refused (hr.mono (by decide)) rfl (Zb (Zc (pv 1)) (Zb (Zc (pv 0)) Ze)))))) Ze)) (SJ (RJ hr.units (VM.ve (ZA C_order_purse (hr.mono (by decide)) rfl (Zb (Zc (pv 2)) (Zb (Zc (pv 3)) Ze)))) (Zc (pv 5)))))))))))))))))))))))
end
end PW
namespace PW
open L2 VL
theorem N3(l:List PV)(lo hi:Option Int):(Wz l lo hi).length<=l.length:=by
 unfold Wz;rw[List.length_take,List.length_drop];omega
theorem OQ(ns:List Int)(k:Nat):WT (Wz (iL ns) (some (k:Int)) (some ((k:Int)+1))++[PV.int 0]) 0=some (.int (Zy ns k)):=by
 have e1:((k:Int)+1)=((k+1:Nat):Int):=by omega
 rw[e1]
 refine UJ (j:=0) ?_
 unfold Wz;rw[HT.sIx_nat,HT.sIx_nat,List.length_map]
 by_cases h:k<ns.length
 ·rw[Nat.min_eq_left (by omega),Nat.min_eq_left (by omega),show k+1-k=1 by omega]
  rw[List.drop_eq_getElem_cons (by rw[List.length_map];exact h)]
  simp[Zy,List.getD_eq_getElem?_getD,List.getElem?_eq_getElem h]
 ·rw[Nat.min_eq_right (by omega),List.drop_eq_nil_of_le (by rw[List.length_map];omega)]
  simp[Zy,List.getD_eq_getElem?_getD,List.getElem?_eq_none (Nat.not_lt.mp h)]
theorem V5{ns:List Int}(h:ns.length<=63)(k:Nat):Zn [.cst (iL ns),.int (k:Int)]=some (.int (Zy ns k)):=by
 have hl:=N3 (iL ns) (some (k:Int)) (some ((k:Int)+1))
 rw[List.length_map] at hl
 have hp:Zp (Wz (iL ns) (some (k:Int)) (some ((k:Int)+1)))=true:=Up _ _ (Yi ns)
 have c:(Wz (iL ns) (some (k:Int)) (some ((k:Int)+1))).length+1<=10000:=by omega
 simp[Zn,Tv,X8,ZV,WH,YT,ZJ,hp,c,OQ]
theorem N4(i:Int):Xy [.int i]=some (.bl true):=by
 simp[Xy,Ur,X8,ZV]
theorem N5{l:List Int}(hl:l.length<=1000):Xz [pP l,.int (l.length:Int)]=some (.bl true):=by
 have hc:ZG 1 [] (Qu (Za 0)) (.one 0) ZQ (Zf Xy [Za 0]) [some (pP l),some (.int (l.length:Int))]=some (.lst (bL (l.map fun _=>true))):=by
  rw[YY l PV.int (fun _=>.bl true) (NM (by simp)) (by omega) (fun i hi=>⟨_,rfl,rfl,by simp[ZM,N4]⟩)]
  simp
 have ha:TN [.lst (bL (l.map fun _=>true))]=some (.bl true):=by
  rw[NH]
  simp
 simp[Xz,Us,X8,ZV,hc,ha,-List.map_map]
def Xk(W:List (List Int))(a b:Nat):List (List Int):=(List.range (Xa W a b).toNat).map fun(t:Nat)=>[(a:Int),(b:Int),(t:Int)]
def Vh(W:List (List Int))(a:Nat):List (List Int):=(List.range (W.length-(a+1))).flatMap fun j=>Xk W a (a+1+j)
def WR(W:List (List Int)):List (List Int):=(List.range W.length).flatMap (Vh W)
theorem Wi{α:Type}(f:Nat->List α)(i:Nat):(List.range (i+1)).flatMap f=(List.range i).flatMap f++f i:=by rw[List.range_succ,List.flatMap_append];simp
theorem QR{W:List (List Int)}(ok:YH W){a b:Nat}(ha:a<W.length)(hb:b<W.length):(Xk W a b).length<=9:=by
 have:=ok.hi a b ha hb
 unfold Xk;simp;omega
theorem OR{W:List (List Int)}(ok:YH W){a b:Nat}(ha:a<W.length)(hb:b<W.length)(t:Option PV):ZG 1 [2,4] (ZI [Zi Yb (Za 3) (Za 4)]) (.one 0) ZQ (eP (YL [Za 1,Za 2,Za 0])) [some (wP W),t,some (.int (a:Int)),some (pP (Zu W a)),some (.int (b:Int))]=some (.lst ((Xk W a b).map pP)):=by
 have hr:=ok.sq a ha;have b1:=ok.lo a b ha hb;have b2:=ok.hi a b ha hb
 rw[YY (List.range (Xa W a b).toNat) (fun(i:Nat)=>.int (i:Int)) (fun(t:Nat)=>pP [(a:Int),(b:Int),(t:Int)]) ?_ (by simp;omega) (fun i hi=>⟨_,rfl,rfl,by simp[ZM]⟩)]
 ·simp[Xk]
 ·exact Z0 (by simp[WN (show b<(Zu W a).length by omega)];show Xa W a b=max (Xa W a b) 0;omega) (by omega)
theorem QS{W:List (List Int)}(ok:YH W){a:Nat}(ha:a<W.length)(acc:List (List Int))(hacc:acc.length<=1000)(b0:Option PV) :
  ∃b',Xj (.one 4) (Ws 1 (ZG 1 [2,4] (ZI [Zi Yb (Za 3) (Za 4)]) (.one 0) ZQ (eP (YL [Za 1,Za 2,Za 0])))) (Xs ((a:Int)+1) (W.length-(a+1))) [some (wP W),some (.lst (acc.map pP)),some (.int (a:Int)),some (pP (Zu W a)),b0]
   = some (.nx [some (wP W),some (.lst ((acc++Vh W a).map pP)),some (.int (a:Int)),some (pP (Zu W a)),b'])/\(Vh W a).length<=63:=by
 have hf:=ok.few
 obtain⟨s',h1,b',h2,h3⟩:=ZR (T:=.one 4) (fb:=Ws 1 (ZG 1 [2,4] (ZI [Zi Yb (Za 3) (Za 4)]) (.one 0) ZQ (eP (YL [Za 1,Za 2,Za 0])))) (ls:=Xs ((a:Int)+1) (W.length-(a+1))) (s:=[some (wP W),some (.lst (acc.map pP)),some (.int (a:Int)),some (pP (Zu W a)),b0])
  (fun j st=>∃b',st=[some (wP W),some (.lst ((acc++(List.range j).flatMap fun j=>Xk W a (a+1+j)).map pP)),some (.int (a:Int)),some (pP (Zu W a)),b']/\((List.range j).flatMap fun j=>Xk W a (a+1+j)).length<=9*j)
  ⟨b0,by simp,by simp⟩ (fun j l st hl hJ=>by
   obtain⟨hj,rfl⟩:=VU hl
   obtain⟨b',rfl,hlen⟩:=hJ
   have hb:a+1+j<W.length:=by omega
   have e1:(a:Int)+1+(j:Int)=((a+1+j:Nat):Int):=by omega
   rw[e1]
   have hc:=OR ok ha hb (some (.lst ((acc++(List.range j).flatMap fun j=>Xk W a (a+1+j)).map pP)))
   have hl2:=QR ok ha hb
   have hg:(acc.length+((List.range j).flatMap fun j=>Xk W a (a+1+j)).length)+(Xk W a (a+1+j)).length<=10000:=by omega
   refine⟨_,_,rfl,?_,some (.int ((a+1+j:Nat):Int)),rfl,?_⟩
   ·refine(QC hc rfl (by rw[List.length_map,List.length_map,List.length_append];exact hg)).trans ?_
    simp[Wi]
   ·rw[Wi,List.length_append];omega)
 rw[VV] at h2 h3
 refine⟨b',?_,?_⟩
 ·rw[h1,h2];rfl
 ·have:Vh W a=(List.range (W.length-(a+1))).flatMap fun j=>Xk W a (a+1+j):=rfl
  rw[this];omega
theorem QT{W:List (List Int)}(ok:YH W):W7 [wP W]=some (.lst ((WR W).map pP))/\(WR W).length<=441:=by
 have hf:=ok.few
 have enumW:Wx (W.map pP)=(List.range W.length).map fun(i:Nat)=>.tup [.int (i:Int),pP (Zu W i)]:=by
  rw[RN,List.length_map]
  apply List.map_congr_left
  intro i hi;rw[NJ W i (List.mem_range.mp hi)]
 obtain⟨s',h1,x,y,z,h2,h3⟩:=ZR (T:=.many [2,3]) (fb:=YV [1] (Yu [Zi ZO (Za 2) (eC (.int 1)),Zf X5 [Za 0]]) (.one 4) (Ws 1 (ZG 1 [2,4] (ZI [Zi Yb (Za 3) (Za 4)]) (.one 0) ZQ (eP (YL [Za 1,Za 2,Za 0]))))) (ls:=Wx (W.map pP)) (s:=[some (wP W),some (.lst []),none,none,none])
  (fun i st=>∃x y z,st=[some (wP W),some (.lst (((List.range i).flatMap (Vh W)).map pP)),x,y,z]/\((List.range i).flatMap (Vh W)).length<=63*i)
  ⟨none,none,none,by simp,by simp⟩ (fun i l st hl hJ=>by
   obtain⟨x,y,z,rfl,hlen⟩:=hJ
   have hi:i<W.length:=by
    have:=(List.getElem?_eq_some_iff.mp hl).1
    rw[WZ,List.length_map] at this;exact this
   rw[enumW,List.getElem?_map,List.getElem?_range hi] at hl;cases hl
   obtain⟨b',e1,e2⟩:=QS ok hi ((List.range i).flatMap (Vh W)) (by omega) z
   refine⟨_,_,rfl,?_,some (.int (i:Int)),some (pP (Zu W i)),b',rfl,?_⟩
   ·have hr:Yu [Zi ZO (Za 2) (eC (.int 1)),Zf X5 [Za 0]] (ZH [1] [some (wP W),some (.lst (((List.range i).flatMap (Vh W)).map pP)),some (.int (i:Int)),some (pP (Zu W i)),z])=some (Xs ((i:Int)+1) (W.length-(i+1))):=by
     rw[W5 (i:=(i:Int)+1) (j:=(W.length:Int)) (by simp[ZH]) (by simp[ZH]) ⟨by omega,by omega⟩ ⟨by omega,by omega⟩]
     congr 2;omega
    show YV _ _ _ _ [some (wP W),_,some (.int (i:Int)),some (pP (Zu W i)),z]=_
    rw[Yg,hr];simp only[Option.bind_some];rw[e1,Wi]
   ·rw[Wi,List.length_append];omega)
 rw[WZ,List.length_map] at h2 h3
 refine⟨?_,by have:WR W=(List.range W.length).flatMap (Vh W):=rfl;rw[this];omega⟩
 have hs:X8 5 W6 [wP W]=some (.lst ((WR W).map pP)):=by
  unfold W6;simp only[X8,ZV,List.map_cons,List.map_nil,List.length_cons,List.length_nil,ZP,Z9,NE,Ld,Option.map_some,Option.bind_some];rw[Yg];simp only[Oz]
  have:(ZH [1] (([some (wP W)]++List.replicate (5-(0+1)) none:ZD).set 1 (some (.lst []))))=[some (wP W),none,none,none,none]:=rfl
  rw[this];simp only[YQ,List.getElem?_cons_zero,Option.join_some,Option.bind_some,K2,Option.map_some]
  show((Xj _ _ (Wx (W.map pP)) [some (wP W),some (.lst []),none,none,none]).bind _).bind X6=_
  rw[h1,h2];rfl
 exact hs
theorem N6{W:List (List Int)}(ok:YH W):W8 [wP W]=some (.int (((WR W).length:Int)-(W.length:Int)+1)):=by
 simp[W8,SZ,X8,ZV,(QT ok).1]
def tk(e:YB):List Z4:=[.inl (e.1:Int),.inl (e.2.1:Int)]
def dP(ts:List YB):PV:=.dT (ts.map tk) (ts.map fun e=>.int e.2.2)
theorem OS(ts:List YB):Zp (ts.map fun e=>PV.int e.2.2)=true:=Sk fun _ _=>rfl
theorem R0(a b:Int):To (.tup [.int a,.int b])=some [.inl a,.inl b]:=rfl
theorem QU{e:YB}{a b:Nat}(h:tk e=[.inl (a:Int),.inl (b:Int)]):e.1=a/\e.2.1=b:=SH h
theorem R1(ts:List YB):(ts.map tk).zip (ts.map fun e=>PV.int e.2.2)=ts.map fun e=>(tk e,PV.int e.2.2):=by
 induction ts with
 | nil=>rfl
 | cons e r ih=>rw[List.map_cons,List.map_cons,List.zip_cons_cons,ih];rfl
theorem Ls{n:Nat}{ts:List YB}(ok:DictOk n ts){a b:Nat}{t:Int}(h:(a,b,t)∈ts):XV (ts.map tk) (ts.map fun e=>PV.int e.2.2) [.inl (a:Int),.inl (b:Int)]=some (.int t):=by
 unfold XV;rw[R1];have nd:=ok.nd
 clear ok
 induction ts with
 | nil=>simp at h
 | cons e r ih=>
  rw[List.map_cons,List.find?_cons];rw[List.map_cons,List.nodup_cons] at nd
  rcases List.mem_cons.mp h with q | q
  ·subst q
   have:decide (tk (a,b,t)=[Sum.inl (a:Int),Sum.inl (b:Int)])=true:=decide_eq_true rfl
   simp only[this,Option.map_some]
  ·have:decide (tk e=[Sum.inl (a:Int),Sum.inl (b:Int)])=false:=decide_eq_false fun z=>by
    obtain⟨h1,h2⟩:=QU z
    exact nd.1 (List.mem_map.mpr ⟨_,q,by simp[h1,h2]⟩)
   simp only[this]
   exact ih q nd.2
theorem R3{n:Nat}{ts:List YB}(ok:DictOk n ts){a b:Nat}{t:Int}(h:(a,b,t)∈ts):XM (dP ts) (.tup [.int (a:Int),.int (b:Int)])=some (.int t):=by
 show(To (.tup [.int (a:Int),.int (b:Int)])).bind (fun k=>XV (ts.map tk) (ts.map fun e=>PV.int e.2.2) k)=_
 rw[R0];exact Ls ok h
theorem key_mem{ts:List YB}{a b:Nat}:[Sum.inl (a:Int),Sum.inl (b:Int)]∈ts.map tk↔∃t,(a,b,t)∈ts:=by
 rw[List.mem_map];constructor
 ·rintro⟨e,he,z⟩
  obtain⟨h1,h2⟩:=QU z
  exact⟨e.2.2,by rw[<-h1,<-h2];exact he⟩
 ·rintro⟨t,ht⟩;exact⟨_,ht,rfl⟩
def QV(ts:List YB)(a b:Nat):Prop:=∃t,(a,b,t)∈ts
def Ext(ts ts':List YB):Prop:=∀c d,QV ts c d->QV ts' c d
theorem Ext.refl(ts:List YB):Ext ts ts:=fun _ _ h=>h
theorem Ext.trans{a b c:List YB}(h:Ext a b)(g:Ext b c):Ext a c:=fun x y z=>g x y (h x y z)
theorem UW{n:Nat}{ts:List YB}{a b:Nat}{t:Int}(ok:DictOk n ts)(hab:a<b)(hb:b<n)(h1:1<=t)(h9:t<=9)(hl:ts.length<=10000) :
  ∃ts',M9 (dP ts) (.tup [.int (a:Int),.int (b:Int)]) (.int t)=some (dP ts')/\DictOk n ts'/\ts'.length<=ts.length+1/\QV ts' a b/\Ext ts ts':=by
 have c:(Zp (ts.map fun e=>PV.int e.2.2)&&ZL (.int t)&&decide ((ts.map tk).length<=10000))=true:=by
  rw[OS,List.length_map,decide_eq_true hl];rfl
 have e0:M9 (dP ts) (.tup [.int (a:Int),.int (b:Int)]) (.int t)=some (.dT (WK (ts.map tk) [.inl (a:Int),.inl (b:Int)]) (WM (ts.map tk) (ts.map fun e=>PV.int e.2.2) [.inl (a:Int),.inl (b:Int)] (.int t))):=by
  show(gd _).bind _=_
  rw[VY c,R0];rfl
 rw[e0]
 obtain⟨ts',p1,p2,p3⟩:=KC ok hab hb h1 h9
 by_cases hm:∃t',(a,b,t')∈ts
 ·refine⟨ts.map fun e=>if(e.1,e.2.1)=(a,b) then(e.1,e.2.1,t) else e,?_,⟨?_,?_⟩,by simp,?_,?_⟩
  ·unfold WK WM dP
   rw[if_pos (key_mem.mpr hm),if_pos (key_mem.mpr hm),R1,List.map_map,List.map_map,List.map_map]
   congr 2
   ·apply List.map_congr_left
    intro e _
    show tk e=tk (if(e.1,e.2.1)=(a,b) then(e.1,e.2.1,t) else e)
    split<;>rfl
   ·apply List.map_congr_left
    intro e _
    show(if tk e=[Sum.inl (a:Int),Sum.inl (b:Int)] then PV.int t else PV.int e.2.2)=PV.int (if(e.1,e.2.1)=(a,b) then((e.1,e.2.1,t):YB) else e).2.2
    by_cases q:(e.1,e.2.1)=(a,b)
    ·rw[if_pos q,if_pos (by have:=Prod.mk.inj q;show [Sum.inl (e.1:Int),Sum.inl (e.2.1:Int)]=_;rw[this.1,this.2])]
    ·rw[if_neg q,if_neg (fun z=>q (by obtain⟨h1,h2⟩:=QU z;rw[h1,h2]))]
  ·intro e he
   obtain⟨e',he',rfl⟩:=List.mem_map.mp he
   have:=ok.ok e' he'
   split
   ·exact⟨this.1,this.2.1,h1,h9⟩
   ·exact this
  ·rw[List.map_map]
   have e:((fun e:YB=>(e.1,e.2.1)) ∘ fun e:YB=>if(e.1,e.2.1)=(a,b) then(e.1,e.2.1,t) else e)=fun e:YB=>(e.1,e.2.1):=by
    funext e
    show((if(e.1,e.2.1)=(a,b) then((e.1,e.2.1,t):YB) else e).1,(if(e.1,e.2.1)=(a,b) then((e.1,e.2.1,t):YB) else e).2.1)=_
    split<;>rfl
   rw[e];exact ok.nd
  ·obtain⟨t',ht'⟩:=hm
   exact⟨t,List.mem_map.mpr ⟨(a,b,t'),ht',if_pos rfl⟩⟩
  ·rintro c d ⟨u,hu⟩
   by_cases q:(c,d)=(a,b)
   ·exact⟨t,List.mem_map.mpr ⟨(c,d,u),hu,if_pos q⟩⟩
   ·exact⟨u,List.mem_map.mpr ⟨(c,d,u),hu,if_neg q⟩⟩
 ·have hn:∀t',(a,b,t')∉ts:=fun t' h=>hm ⟨t',h⟩
  refine⟨ts++[(a,b,t)],?_,⟨?_,?_⟩,by simp,⟨t,by simp⟩,fun c d ⟨u,hu⟩=>⟨u,List.mem_append_left _ hu⟩⟩
  ·unfold WK WM dP
   rw[if_neg (fun z=>hm (key_mem.mp z)),if_neg (fun z=>hm (key_mem.mp z)),List.map_append,List.map_append];rfl
  ·intro e he
   rcases List.mem_append.mp he with q | q
   ·exact ok.ok e q
   ·rw[List.mem_singleton.mp q];exact⟨hab,hb,h1,h9⟩
  ·rw[List.map_append]
   refine SC ok.nd ?_
   rw[List.mem_map]
   rintro⟨e,he,q⟩
   have:=Prod.mk.inj q
   obtain⟨a',b',t'⟩:=e
   simp only at this
   rw[this.1,this.2] at he
   exact hn t' he
theorem V6{i:Nat}{fk fv:XE}{s:ZD}{d k v d':PV}(hv:fv s=some v)(hk:fk s=some k)(hd:(s[i]?).join=some d)(hp:M9 d k v=some d'):VL.sDPut i fk fv s=some (.nx (s.set i (some d'))):=by
 unfold VL.sDPut;rw[hv,hk];simp only[Option.bind_some,hd,hp,Option.map_some]
theorem S8(ts:List YB):Si (dP ts)=some (ts.map fun e=>.tup [.int (e.1:Int),.int (e.2.1:Int)]):=by
 show some ((ts.map tk).map Lb)=_
 rw[List.map_map];rfl
def Cl(ts:List YB)(P:Nat->Prop):Prop:=∀a b,QV ts a b->(P a↔P b)
def Hang(n:Nat)(ts:List YB):Prop:=∀P:Nat->Prop,Cl ts P->∀i j,i<n->j<n->(P i↔P j)
def Iq(W:List (List Int)):Prop:=∀P:Nat->Prop,(∀a b,a<W.length->b<W.length->0<Xa W a b->(P a↔P b))->∀i j,i<W.length->j<W.length->(P i↔P j)
theorem R4{n:Nat}{M:List (List Int)}{e:YB}(ok:MatOk n M)(h:e.1<e.2.1/\e.2.1<n/\1<=e.2.2/\e.2.2<=9)(i j:Nat):Xa (ZY M e) i j=if e.2.1=i/\e.1=j then e.2.2 else if e.1=i/\e.2.1=j then e.2.2 else Xa M i j:=by
 obtain⟨a,b,t⟩:=e
 simp only at h ⊢
 obtain⟨l1,r1⟩:=Wn (t:=t) (b:=b) ok.len ok.row (show a<n by omega)
 show Xa (Xb (Xb M a b t) b a t) i j=_
 rw[Vz l1 r1 (by omega) (by omega),Vz ok.len ok.row (by omega) (by omega)]
theorem Lu{n:Nat}{ts:List YB}(ok:DictOk n ts){a b:Nat}(h:QV ts a b):a<n/\b<n/\0<Xa (MQ n ts) a b:=by
 have keep:∀(l:List YB)(M:List (List Int)),(∀e∈l,e.1<e.2.1/\e.2.1<n/\1<=e.2.2/\e.2.2<=9)->MatOk n M->0<Xa M a b->0<Xa (l.foldl ZY M) a b:=by
  intro l
  induction l with
  | nil=>exact fun M _ _ h=>h
  | cons e r ih=>
   intro M hl hM hp
   have he:=hl e (by simp)
   refine ih _ (fun e' h'=>hl e' (by simp[h'])) (hM.step he) ?_
   rw[R4 hM he]
   split
   ·omega
   ·split
    ·omega
    ·exact hp
 have gen:∀(l:List YB)(M:List (List Int)),(∀e∈l,e.1<e.2.1/\e.2.1<n/\1<=e.2.2/\e.2.2<=9)->MatOk n M->QV l a b->0<Xa (l.foldl ZY M) a b:=by
  intro l
  induction l with
  | nil=>rintro M _ _ ⟨t,ht⟩;simp at ht
  | cons e r ih=>
   rintro M hl hM ⟨t,ht⟩
   have he:=hl e (by simp)
   rcases List.mem_cons.mp ht with q | q
   ·refine keep r _ (fun e' h'=>hl e' (by simp[h'])) (hM.step he) ?_
    rw[R4 hM he];subst q
    simp only at he
    split
    ·show 0<t;omega
    ·rw[if_pos ⟨rfl,rfl⟩];show 0<t;omega
   ·exact ih _ (fun e' h'=>hl e' (by simp[h'])) (hM.step he) ⟨t,q⟩
 obtain⟨t,ht⟩:=id h
 have:=ok.ok _ ht
 simp only at this
 exact⟨by omega,by omega,gen ts _ ok.ok (MatOk.zero n) h⟩
theorem Hang.conn{n:Nat}{ts:List YB}(h:Hang n ts)(ok:DictOk n ts):Iq (MQ n ts):=by
 intro P hP i j hi hj
 have hl:=(U9 ok).len
 refine h P (fun a b hab=>?_) i j (by omega) (by omega)
 obtain⟨ha,hb,hp⟩:=Lu ok hab
 exact hP a b (by omega) (by omega) hp
theorem R5:∀{l m:List Int},l.Nodup->(∀x∈l,x∈m)->l.length<=m.length
 | [],m,_,_=>Nat.zero_le _
 | x::r,m,nd,h=>by
  have hx:x∈m:=h x (by simp)
  have nd':=List.nodup_cons.mp nd
  have:=R5 (l:=r) (m:=m.erase x) nd'.2 fun y hy=>(List.mem_erase_of_ne (show y≠x from fun z=>nd'.1 (by rw[<-z];exact hy))).mpr (h y (by simp[hy]))
  rw[List.length_erase_of_mem hx] at this;have hp:=List.length_pos_of_mem hx
  rw[List.length_cons];omega
theorem Jg{n:Nat}{l:List Int}(nd:l.Nodup)(h:∀x∈l,∃k:Nat,k<n/\x=(k:Int))(hl:l.length=n){j:Nat}(hj:j<n):(j:Int)∈l:=by
 by_cases q:(j:Int)∈l
 ·exact q
 ·have:=R5 (l:=(j:Int)::l) (m:=(List.range n).map fun(k:Nat)=>(k:Int)) (List.nodup_cons.mpr ⟨q,nd⟩) (fun x hx=>by
   rcases List.mem_cons.mp hx with rfl | hx
   ·exact List.mem_map.mpr ⟨j,List.mem_range.mpr hj,rfl⟩
   ·obtain⟨k,hk,rfl⟩:=h x hx
    exact List.mem_map.mpr ⟨k,List.mem_range.mpr hk,rfl⟩)
  rw[List.length_cons,List.length_map,List.length_range] at this;omega
def rL(M:List (List Int)):List PV:=M.map fun r=>.lst (iL r)
theorem N7{M:List (List Int)}{a:Nat}(h:a<M.length):(rL M)[a]?=some (.lst (iL (Zu M a))):=by
 unfold rL
 rw[List.getElem?_map,U8 h];rfl
theorem N8{M:List (List Int)}{a b:Nat}{t:Int}:(rL M).set a (.lst ((iL (Zu M a)).set b (.int t)))=rL (Xb M a b t):=by
 unfold rL Xb;rw[List.map_set]
 show _=(List.map (fun r=>PV.lst (iL r)) M).set a (PV.lst (((Zu M a).set b t).map PV.int))
 rw[List.map_set]
theorem OT{n:Nat}{ts:List YB}(ok:DictOk n ts)(hn:n<=7):Yz [dP ts,.int (n:Int)]=some (wP (MQ n ts)):=by
 have hc:ZG 1 [1] (ZI [Za 1]) (.one 0) ZQ (Zi NB (ZC [eC (.int 0)]) (Za 1)) [some (dP ts),some (.int (n:Int)),none,none,none]=some (.lst (rL (List.replicate n (List.replicate n 0)))):=by
  rw[YY (List.range n) (fun(i:Nat)=>.int (i:Int)) (fun _=>.lst (iL (List.replicate n 0))) (Z0 (by simp) (by omega)) (by simp;omega) (fun i _=>⟨_,rfl,rfl,?_⟩)]
  ·unfold rL
   rw[List.map_const',List.length_range,List.map_replicate]
  ·have e:NB (.lst [.int 0]) (.int (n:Int))=some (.lst (iL (List.replicate n 0))):=by
    show(if Zp [PV.int 0]=true/\(-1000000:Int)<=(n:Int)/\(n:Int)<=1000000/\[PV.int 0].length*((n:Int)).toNat<=10000 then some (PV.lst (List.replicate ((n:Int)).toNat [PV.int 0]).flatten) else none)=_
    rw[if_pos ⟨rfl,by omega,by omega,by simp;omega⟩,Int.toNat_natCast,Ni]
    simp
   simp[ZM,e]
 have mat:∀i,MatOk n ((ts.take i).foldl ZY (List.replicate n (List.replicate n 0))):=fun i=>U9 (ts:=ts.take i) ⟨fun e he=>ok.ok e (List.mem_of_mem_take he),by rw[List.map_take];exact ok.nd.sublist (List.take_sublist _ _)⟩
 obtain⟨s',h1,x,y,h2⟩:=ZR (T:=.many [3,4]) (fb:=Zm (X1 2 (Za 3) (Za 4) (Zi XM (Za 0) (YL [Za 3,Za 4]))) (X1 2 (Za 4) (Za 3) (Zi XM (Za 0) (YL [Za 3,Za 4])))) (ls:=ts.map fun e=>.tup [.int (e.1:Int),.int (e.2.1:Int)]) (s:=[some (dP ts),some (.int (n:Int)),some (.lst (rL (List.replicate n (List.replicate n 0)))),none,none])
  (fun i st=>∃x y,st=[some (dP ts),some (.int (n:Int)),some (.lst (rL ((ts.take i).foldl ZY (List.replicate n (List.replicate n 0))))),x,y]) ⟨none,none,rfl⟩ (fun i l st hl hJ=>by
   obtain⟨x,y,rfl⟩:=hJ
   rw[List.getElem?_map] at hl
   cases he:ts[i]? with
   | none=>rw[he] at hl;cases hl
   | some e=>
    rw[he] at hl;cases hl
    obtain⟨a,b,t⟩:=e
    have hmem:(a,b,t)∈ts:=List.mem_of_getElem? he
    obtain⟨hab,hbn,t1,t9⟩:=ok.ok _ hmem
    simp only at hab hbn t1 t9
    have mi:=mat i;have hg:=R3 ok hmem
    refine⟨_,_,rfl,?_,some (.int (a:Int)),some (.int (b:Int)),rfl⟩
    show Zm _ _ [some (dP ts),some (.int (n:Int)),some (.lst (rL ((ts.take i).foldl ZY (List.replicate n (List.replicate n 0))))),some (.int (a:Int)),some (.int (b:Int))]=_
    have sh:=Wn (t:=t) (b:=b) mi.len mi.row (show a<n by omega)
    have lenM:(rL ((ts.take i).foldl ZY (List.replicate n (List.replicate n 0)))).length=n:=by unfold rL;rw[List.length_map];exact mi.len
    have lenM2:(rL (Xb ((ts.take i).foldl ZY (List.replicate n (List.replicate n 0))) a b t)).length=n:=by unfold rL;rw[List.length_map];exact sh.1
    rw[ZP,Tu (l:=.int t) (a:=(a:Int)) (b:=(b:Int)) (j:=a) (c:=b) (m:=rL ((ts.take i).foldl ZY (List.replicate n (List.replicate n 0)))) (n:=iL (Zu ((ts.take i).foldl ZY (List.replicate n (List.replicate n 0))) a)) (by simp[hg]) rfl rfl rfl (UT (by rw[lenM];omega)) (N7 (by rw[mi.len];omega)) (Yi _) rfl (UT (by rw[List.length_map,mi.row a (by omega)];omega))]
    simp only[Option.bind_some,N8]
    show X1 _ _ _ _ [some (dP ts),some (.int (n:Int)),some (.lst (rL (Xb ((ts.take i).foldl ZY (List.replicate n (List.replicate n 0))) a b t))),some (.int (a:Int)),some (.int (b:Int))]=_
    rw[Tu (l:=.int t) (a:=(b:Int)) (b:=(a:Int)) (j:=b) (c:=a) (m:=rL (Xb ((ts.take i).foldl ZY (List.replicate n (List.replicate n 0))) a b t)) (n:=iL (Zu (Xb ((ts.take i).foldl ZY (List.replicate n (List.replicate n 0))) a b t) b)) (by simp[hg]) rfl rfl rfl (UT (by rw[lenM2];omega)) (N7 (by rw[sh.1];omega)) (Yi _) rfl (UT (by rw[List.length_map,sh.2 b (by omega)];omega)),N8]
    have e5:(ts.take (i+1)).foldl ZY (List.replicate n (List.replicate n 0))=ZY ((ts.take i).foldl ZY (List.replicate n (List.replicate n 0))) (a,b,t):=Qn _ _ he
    rw[e5];rfl)
 rw[List.length_map,List.take_length] at h2
 have hsq:(ts.foldl ZY (List.replicate n (List.replicate n 0)))=MQ n ts:=rfl
 rw[hsq] at h2
 have hc2:ZG 1 [] (VG (Za 2)) (.one 0) ZQ (Zf Xh [Za 0]) [some (dP ts),some (.int (n:Int)),some (.lst (rL (MQ n ts))),x,y]=some (.lst ((MQ n ts).map pP)):=by
  rw[YY (MQ n ts) (fun r=>.lst (iL r)) pP (by simp[rL]) (by rw[(U9 ok).len];omega) (fun r _=>⟨_,rfl,rfl,by simp[ZM]⟩)]
 show X8 5 Wt [dP ts,.int (n:Int)]=_
 unfold Wt;simp only[X8,ZV,List.map_cons,List.map_nil,List.length_cons,List.length_nil,ZP,Z9]
 show(((ZG 1 [1] (ZI [Za 1]) (.one 0) ZQ (Zi NB (ZC [eC (.int 0)]) (Za 1)) [some (dP ts),some (.int (n:Int)),none,none,none]).map _).bind _).bind X6=_
 rw[hc];simp only[Option.map_some,Option.bind_some]
 show((Tq 0 _ _ [some (dP ts),some (.int (n:Int)),some (.lst (rL (List.replicate n (List.replicate n 0)))),none,none]).bind _).bind X6=_
 unfold Tq
 show(((Si (dP ts)).bind fun ls=>Xj _ _ ls [some (dP ts),some (.int (n:Int)),some (.lst (rL (List.replicate n (List.replicate n 0)))),none,none]).bind _).bind X6=_
 rw[S8];simp only[Option.bind_some];rw[h1,h2];simp[hc2]
theorem N9(l:List Int)(k:Nat)(x:Int):(iL l).take k++PV.int x::(iL l).drop k=iL (l.take k++x::l.drop k):=by
 show(l.map PV.int).take k++PV.int x::(l.map PV.int).drop k=(l.take k++x::l.drop k).map PV.int
 rw[List.map_append,List.map_cons,List.map_take,List.map_drop]
theorem QW{n:Nat}{ts:List YB}(ok:DictOk n ts)(hn:n<=7)(hl:ts.length<=1000)(c:Int):∃ts',X3 [dP ts,.int c,.int (n:Int)]=some (dP ts')/\DictOk n ts'/\ts'.length<=ts.length/\(Hang n ts->Hang n ts'):=by
 obtain⟨s1,h1,c1,x1,l1,e1,nk⟩:=ZR (T:=.one 4) (fb:=Zm (Xt 3 (Zi Yt (Za 1) (Zi ZO (Za 4) (eC (.int 1)))) (Za 4)) (Zo 1 (eP (Zi XI (Za 1) (Zi ZO (Za 4) (eC (.int 1))))))) (ls:=Xr n) (s:=[some (dP ts),some (.int c),some (.int (n:Int)),some (.lst []),none,none,none,none,none])
  (fun i st=>∃(c':Int) (x:Option PV) (l:List Int),st=[some (dP ts),some (.int c'),some (.int (n:Int)),some (.lst (iL l)),x,none,none,none,none]/\NamesOk i l) ⟨c,none,[],rfl,NamesOk.nil⟩ (fun i l st hl hJ=>by
   obtain⟨hi,rfl⟩:=Wd hl
   obtain⟨c',x,nl,rfl,nk⟩:=hJ
   have hd:0<(i:Int)+1:=by omega
   have hm0:=Int.emod_nonneg c' (show(i:Int)+1≠0 by omega)
   have hm1:=Int.emod_lt_of_pos c' hd
   refine⟨_,_,rfl,?_,c'/((i:Int)+1),some (.int (i:Int)),nl.take (c'%((i:Int)+1)).toNat++(i:Int)::nl.drop (c'%((i:Int)+1)).toNat,rfl,nk.ins _⟩
   show Zm _ _ [some (dP ts),some (.int c'),some (.int (n:Int)),some (.lst (iL nl)),some (.int (i:Int)),none,none,none,none]=_
   rw[ZP,Tt (k:=c'%((i:Int)+1)) (l:=.int (i:Int)) (m:=iL nl) (by simp[hd]) rfl rfl (Yi nl) rfl hm0 (by omega) (by rw[List.length_map,nk.len];omega),N9]
   have hcd:UZ c' ((i:Int)+1):=Uq hd (by omega)
   simp[hcd])
 have nkn:=nk;rw[We] at nkn
 obtain⟨s2,h2,x6,x7,x8,ts',e2,ok',hle,hall⟩:=ZR (T:=.many [6,7]) (fb:=Zm (Zo 8 (eP (YL [Zf Ww [Zi Yb (Za 3) (Za 6),Zi Yb (Za 3) (Za 7)],Zf Sc [Zi Yb (Za 3) (Za 6),Zi Yb (Za 3) (Za 7)]]))) (VL.sDPut 5 (Za 8) (Zi XM (Za 0) (YL [Za 6,Za 7])))) (ls:=ts.map fun e=>.tup [.int (e.1:Int),.int (e.2.1:Int)])
  (s:=[some (dP ts),some (.int c1),some (.int (n:Int)),some (.lst (iL l1)),x1,some (dP []),none,none,none])
  (fun i st=>∃(x6 x7 x8:Option PV) (ts':List YB),st=[some (dP ts),some (.int c1),some (.int (n:Int)),some (.lst (iL l1)),x1,some (dP ts'),x6,x7,x8]/\DictOk n ts'/\ts'.length<=i/\∀(j:Nat)(e:YB),j<i->ts[j]?=some e->QV ts' (Zy l1 e.1).toNat (Zy l1 e.2.1).toNat\/QV ts' (Zy l1 e.2.1).toNat (Zy l1 e.1).toNat) ⟨none,none,none,[],rfl,DictOk.nil n,Nat.le_refl _,fun j e hj _=>by omega⟩ (fun i l st hl' hJ=>by
   obtain⟨x6,x7,x8,ts',rfl,ok',hle,hall⟩:=hJ
   rw[List.getElem?_map] at hl'
   cases he:ts[i]? with
   | none=>rw[he] at hl';cases hl'
   | some e=>
    rw[he] at hl'
    cases hl'
    obtain⟨a,b,t⟩:=e
    have hil:=(List.getElem?_eq_some_iff.mp he).1
    have hmem:(a,b,t)∈ts:=List.mem_of_getElem? he
    obtain⟨hab,hbn,t1,t9⟩:=ok.ok _ hmem
    simp only at hab hbn t1 t9
    have hg:=R3 ok hmem;rw[We] at nk
    have na:=nk.at (x:=a) (by omega)
    have nb:=nk.at (x:=b) (by omega)
    have ne:=nk.ne (x:=a) (y:=b) (by omega) (by omega) (by omega)
    -- the pair
    obtain⟨p,q,ep,eq,hpq,hqn⟩:∃p q:Nat,(if Zy l1 b<Zy l1 a then Zy l1 b else Zy l1 a)=(p:Int)/\(if Zy l1 b>Zy l1 a then Zy l1 b else Zy l1 a)=(q:Int)/\p<q/\q<n:=by
     refine⟨(if Zy l1 b<Zy l1 a then Zy l1 b else Zy l1 a).toNat,(if Zy l1 b>Zy l1 a then Zy l1 b else Zy l1 a).toNat,?_,?_,?_,?_⟩<;>split<;>(try split)<;>omega
    obtain⟨ts2,pe,ok2,hle2,hh2,hx2⟩:=UW (t:=t) ok' hpq hqn t1 t9 (by omega)
    have ia:=WN (l:=l1) (k:=a) (by rw[nk.len];omega)
    have ib:=WN (l:=l1) (k:=b) (by rw[nk.len];omega)
    refine⟨_,_,rfl,?_,some (.int (a:Int)),some (.int (b:Int)),some (.tup [.int (p:Int),.int (q:Int)]),ts2,rfl,ok2,by omega,fun j e hj hje=>by
     by_cases hji:j<i
     ·exact(hall j e hji hje).imp (hx2 _ _) (hx2 _ _)
     ·have hj':j=i:=by omega
      subst hj'
      rw[he] at hje;cases hje
      show QV ts2 (Zy l1 a).toNat (Zy l1 b).toNat\/QV ts2 (Zy l1 b).toNat (Zy l1 a).toNat
      by_cases hlt:Zy l1 b<Zy l1 a
      ·rw[if_pos hlt] at ep
       rw[if_neg (by omega)] at eq
       exact .inr (by rw[ep,eq];exact hh2)
      ·rw[if_neg hlt] at ep
       rw[if_pos (by omega)] at eq
       exact .inl (by rw[ep,eq];exact hh2)⟩
    show Zm _ _ [some (dP ts),some (.int c1),some (.int (n:Int)),some (.lst (iL l1)),x1,some (dP ts'),some (.int (a:Int)),some (.int (b:Int)),x8]=_
    have hset:Zo 8 (eP (YL [Zf Ww [Zi Yb (Za 3) (Za 6),Zi Yb (Za 3) (Za 7)],Zf Sc [Zi Yb (Za 3) (Za 6),Zi Yb (Za 3) (Za 7)]])) [some (dP ts),some (.int c1),some (.int (n:Int)),some (.lst (iL l1)),x1,some (dP ts'),some (.int (a:Int)),some (.int (b:Int)),x8]=some (.nx [some (dP ts),some (.int c1),some (.int (n:Int)),some (.lst (iL l1)),x1,some (dP ts'),some (.int (a:Int)),some (.int (b:Int)),some (.tup [.int (p:Int),.int (q:Int)])]):=by
     simp[ia,ib,ep,eq]
    rw[ZP,hset];simp only[Option.bind_some]
    rw[V6 (v:=.int t) (k:=.tup [.int (p:Int),.int (q:Int)]) (d:=dP ts') (by simp[hg]) rfl rfl pe]
    rfl)
 rw[List.length_map] at hle hall
 refine⟨ts',?_,ok',hle,fun hg P hP i j hi hj=>?_⟩
 rotate_left
 ·have sur:∀k,k<n->∃x,x<n/\(Zy l1 x).toNat=k:=fun k hk=>by
   have hm:=Jg nkn.nd (fun x hx=>⟨x.toNat,by have:=nkn.lo x hx;have:=nkn.hi x hx;omega,by have:=nkn.lo x hx;omega⟩) nkn.len hk
   obtain⟨x,hx,ex⟩:=List.getElem_of_mem hm
   refine⟨x,by rw[<-nkn.len];exact hx,?_⟩
   unfold Zy
   rw[List.getD_eq_getElem?_getD,List.getElem?_eq_getElem hx,ex];rfl
  obtain⟨x,hx,rfl⟩:=sur i hi
  obtain⟨y,hy,rfl⟩:=sur j hj
  refine hg (fun k=>P (Zy l1 k).toNat) (fun a b hab=>?_) x y hx hy
  obtain⟨t,ht⟩:=hab
  obtain⟨k,hk,ek⟩:=List.getElem_of_mem ht
  rcases hall k (a,b,t) hk (by rw[List.getElem?_eq_getElem hk,ek]) with q | q
  ·exact hP _ _ q
  ·exact(hP _ _ q).symm
 show X8 9 X2 [dP ts,.int c,.int (n:Int)]=_
 unfold X2;simp only[X8,ZV,List.map_cons,List.map_nil,List.length_cons,List.length_nil,ZP,Z9]
 have hr:ZI [Za 2] (ZH [3,5] [some (dP ts),some (.int c),some (.int (n:Int)),some (.lst []),none,none,none,none,none])=some (Xr n):=Z0 (by simp[ZH]) (by omega)
 show((YV [3,5] (ZI [Za 2]) (.one 4) _ [some (dP ts),some (.int c),some (.int (n:Int)),some (.lst []),none,none,none,none,none]).bind _).bind X6=_
 rw[Yg,hr];simp only[Option.bind_some]
 rw[show(Xj (.one 4) (Zm (Xt 3 (Zi Yt (Za 1) (Zi ZO (Za 4) (eC (.int 1)))) (Za 4)) (Zo 1 (eP (Zi XI (Za 1) (Zi ZO (Za 4) (eC (.int 1))))))) (Xr n) [some (dP ts),some (.int c),some (.int (n:Int)),some (.lst []),none,none,none,none,none])=some (.nx s1) from h1,e1]
 show((Tq 0 _ _ [some (dP ts),some (.int c1),some (.int (n:Int)),some (.lst (iL l1)),x1,some (dP []),none,none,none]).bind _).bind X6=_
 unfold Tq
 show(((Si (dP ts)).bind fun ls=>Xj _ _ ls [some (dP ts),some (.int c1),some (.int (n:Int)),some (.lst (iL l1)),x1,some (dP []),none,none,none]).bind _).bind X6=_
 rw[S8];simp only[Option.bind_some];rw[h2,e2];rfl
theorem Ma{r m:Int}(h1:1<=m)(h9:m<=9):0<=r%2*(1+r/2%m)/\r%2*(1+r/2%m)<=9:=by
 have a1:=Int.emod_nonneg (r/2) (show m≠0 by omega)
 have a2:=Int.emod_lt_of_pos (r/2) (show 0<m by omega)
 have a3:r%2=0\/r%2=1:=by omega
 rcases a3 with e | e<;>rw[e]<;>omega
theorem Hn{x y:PV}(c:Int):WT [x,y] (c%2)=some (if c%2=0 then x else y):=by
 have h:c%2=0\/c%2=1:=by omega
 rcases h with h | h<;>rw[h]<;>rfl
theorem Ir(neg:Bool)(a:Int)(l:List Int):RD neg (.int a) (.lst (iL l))=some (.bl (if neg then !decide (a∈l) else decide (a∈l))):=by
 unfold RD
 have c:((iL l).all fun z=>Xi 8 z (.int a))=true:=by
  rw[List.all_map,List.all_eq_true]
  intro x _;rfl
 show(some (iL l)).bind _=_
 simp only[Option.bind_some,if_pos c]
 have:decide (PV.int a∈iL l)=decide (a∈l):=decide_eq_decide.mpr (by
  rw[List.mem_map];constructor
  ·rintro⟨x,hx,e⟩;cases e;exact hx
  ·intro h;exact⟨a,h,rfl⟩)
 rw[this]
noncomputable def LU:XS:=(Zm (Zo 8 (eP (Zf Ww [(Zi MW (Zi Yt (Za 0) (eC (.int 2))) (Zi ZO (eC (.int 1)) (Zi Yt (Zi XI (Za 0) (eC (.int 2))) (Za 3)))),(Za 2)])))
  (Zm (Zo 0 (eP (Zi Yb (ZC [(Zi XI (Za 0) (eC (.int 2))),(Zi XI (Zi XI (Za 0) (eC (.int 2))) (Za 3))]) (Zi Yt (Za 0) (eC (.int 2))))))
  (UO (xB (Zi Ia (Za 8) (eC (.int 0)))) (Zm (VL.sDPut 4 (YL [(Za 6),(Za 7)]) (Za 8))
  (Zo 2 (eP (Zi YJ (Za 2) (Za 8))))) Z8)))
def Xl(n:Nat)(most:Int)(ts:List YB)(Zk room:Int)(x6 x7 x8:Option Int)(x9:Option Int)(met:List Int):ZD:=
 [some (.int Zk),some (.int (n:Int)),some (.int room),some (.int most),some (dP ts),some (.lst (iL met)),x6.map PV.int,x7.map PV.int,x8.map PV.int,x9.map PV.int]
theorem Jh{n:Nat}{most:Int}{ts:List YB}{Zk room:Int}{a b:Nat}{x8 x9:Option Int}{met:List Int}(h1:1<=most)(h9:most<=9)(ok:DictOk n ts)(hl:ts.length<=1000)(hab:a<b)(hb:b<n) :
  ∃ts' rest' room' x8',LU (Xl n most ts Zk room (some (a:Int)) (some (b:Int)) x8 x9 met)=some (.nx (Xl n most ts' rest' room' (some (a:Int)) (some (b:Int)) (some x8') x9 met))/\DictOk n ts'/\ts'.length<=ts.length+1:=by
 obtain⟨d0,d9⟩:=Ma (r:=Zk) h1 h9
 have cm:CMul (Zk%2) (1+Zk/2%most):=K3 (by omega) (by omega)
 have cd:UZ Zk 2:=Uq (by omega) (by omega)
 have cd2:UZ (Zk/2) most:=Uq (by omega) (by omega)
 have hm:0<most:=by omega
 generalize hdp:(if room<Zk%2*(1+Zk/2%most) then room else Zk%2*(1+Zk/2%most))=dp
 have hdp9:dp<=9:=by rw[<-hdp];split<;>omega
 generalize hrs:(if Zk%2=0 then Zk/2 else Zk/2/most)=rs
 have hif:(if Zk%2=0 then PV.int (Zk/2) else PV.int (Zk/2/most))=PV.int rs:=by rw[<-hrs];split<;>rfl
 have first:(Zm (Zo 8 (eP (Zf Ww [(Zi MW (Zi Yt (Za 0) (eC (.int 2))) (Zi ZO (eC (.int 1)) (Zi Yt (Zi XI (Za 0) (eC (.int 2))) (Za 3)))),(Za 2)]))) (Zo 0 (eP (Zi Yb (ZC [(Zi XI (Za 0) (eC (.int 2))),(Zi XI (Zi XI (Za 0) (eC (.int 2))) (Za 3))]) (Zi Yt (Za 0) (eC (.int 2)))))))
   (Xl n most ts Zk room (some (a:Int)) (some (b:Int)) x8 x9 met)=some (.nx (Xl n most ts rs room (some (a:Int)) (some (b:Int)) (some dp) x9 met)):=by
  simp[Xl,cm,cd,cd2,hm,Hn,hif,hdp]
 have split3:∀(f g h:XS)(s s1:ZD),Zm f g s=some (.nx s1)->Zm f (Zm g h) s=h s1:=fun f g h s s1 e=>by
  simp only[ZP] at e ⊢
  cases q:f s with
  | none=>rw[q] at e;cases e
  | some o=>
   rw[q] at e
   cases o with
   | nx s2=>
    simp only[Option.bind_some] at e ⊢
    rw[e];rfl
   | _=>cases e
 by_cases hpos:0<dp
 ·obtain⟨ts2,pe,ok2,hle2,_,_⟩:=UW (t:=dp) ok hab hb (by omega) hdp9 (by omega)
  refine⟨ts2,rs,room-dp,dp,?_,ok2,hle2⟩
  unfold LU;rw[split3 _ _ _ _ _ first]
  have hput:=V6 (i:=4) (fk:=YL [Za 6,Za 7]) (fv:=Za 8) (s:=Xl n most ts rs room (some (a:Int)) (some (b:Int)) (some dp) x9 met) (v:=.int dp) (k:=.tup [.int (a:Int),.int (b:Int)]) (d:=dP ts) rfl (by simp[Xl]) rfl pe
  have ht:xB (Zi Ia (Za 8) (eC (.int 0))) (Xl n most ts rs room (some (a:Int)) (some (b:Int)) (some dp) x9 met)=some true:=by simp[Xl,hpos]
  rw[Xu,ht];simp only[Option.bind_some,if_true];rw[ZP,hput];simp[Xl]
 ·refine⟨ts,rs,room,dp,?_,ok,by omega⟩
  unfold LU;rw[split3 _ _ _ _ _ first]
  have ht:xB (Zi Ia (Za 8) (eC (.int 0))) (Xl n most ts rs room (some (a:Int)) (some (b:Int)) (some dp) x9 met)=some false:=by simp[Xl,hpos]
  rw[Xu,ht]
  simp
theorem Mb{n:Nat}{most:Int}{a:Nat}{ts:List YB}{Zk room:Int}{x7 x8 x9:Option Int}{met:List Int}(h1:1<=most)(h9:most<=9)(ok:DictOk n ts)(hl:ts.length<=100)(ha:a<n)(hn:n<=7) :
  ∃ts' rest' room' y7 y8,Xj (.one 7) LU (Xs ((a:Int)+1) (n-(a+1))) (Xl n most ts Zk room (some (a:Int)) x7 x8 x9 met)=some (.nx (Xl n most ts' rest' room' (some (a:Int)) y7 y8 x9 met))/\DictOk n ts'/\ts'.length<=ts.length+7:=by
 obtain⟨s',h,ts',rest',room',y7,y8,e,ok',hle⟩:=ZR (T:=.one 7) (fb:=LU) (ls:=Xs ((a:Int)+1) (n-(a+1))) (s:=Xl n most ts Zk room (some (a:Int)) x7 x8 x9 met)
  (fun j st=>∃ts' rest' room' y7 y8,st=Xl n most ts' rest' room' (some (a:Int)) y7 y8 x9 met/\DictOk n ts'/\ts'.length<=ts.length+j) ⟨ts,Zk,room,x7,x8,rfl,ok,by omega⟩ (fun j l st hl' hJ=>by
   obtain⟨hj,rfl⟩:=VU hl'
   obtain⟨ts',rest',room',y7,y8,rfl,ok',hle⟩:=hJ
   have e1:(a:Int)+1+(j:Int)=((a+1+j:Nat):Int):=by omega
   rw[e1]
   obtain⟨ts2,r2,m2,z8,e2,ok2,hle2⟩:=Jh (Zk:=rest') (room:=room') (x8:=y8) (x9:=x9) (met:=met) h1 h9 ok' (by omega) (show a<a+1+j by omega) (by omega)
   exact⟨_,_,rfl,e2,ts2,r2,m2,some ((a+1+j:Nat):Int),some z8,rfl,ok2,by omega⟩)
 rw[VV] at hle
 exact⟨ts',rest',room',y7,y8,by rw[h,e],ok',by omega⟩
theorem Mc{n:Nat}{most:Int}{Zk room:Int}{met:List Int}(h1:1<=most)(h9:most<=9)(hn:n<=7) :
  ∃ts' rest' room' y6 y7 y8,Xj (.one 6) (YV [4,5] (Yu [Zi ZO (Za 6) (eC (.int 1)),Za 1]) (.one 7) LU) (Xr n) (Xl n most [] Zk room none none none none met)=some (.nx (Xl n most ts' rest' room' y6 y7 y8 none met))/\DictOk n ts'/\ts'.length<=49:=by
 obtain⟨s',h,ts',rest',room',y6,y7,y8,e,ok',hle⟩:=ZR (T:=.one 6) (fb:=YV [4,5] (Yu [Zi ZO (Za 6) (eC (.int 1)),Za 1]) (.one 7) LU) (ls:=Xr n) (s:=Xl n most [] Zk room none none none none met)
  (fun i st=>∃ts' rest' room' y6 y7 y8,st=Xl n most ts' rest' room' y6 y7 y8 none met/\DictOk n ts'/\ts'.length<=7*i) ⟨[],Zk,room,none,none,none,rfl,DictOk.nil n,by simp⟩ (fun i l st hl' hJ=>by
   obtain⟨hi,rfl⟩:=Wd hl'
   obtain⟨ts',rest',room',y6,y7,y8,rfl,ok',hle⟩:=hJ
   obtain⟨ts2,r2,m2,z7,z8,e2,ok2,hle2⟩:=Mb (Zk:=rest') (room:=room') (x7:=y7) (x8:=y8) (x9:=none) (met:=met) h1 h9 ok' (by omega) hi hn
   refine⟨_,_,rfl,?_,ts2,r2,m2,some (i:Int),z7,z8,rfl,ok2,by omega⟩
   have hr:Yu [Zi ZO (Za 6) (eC (.int 1)),Za 1] (ZH [4,5] (Xl n most ts' rest' room' (some (i:Int)) y7 y8 none met))=some (Xs ((i:Int)+1) (n-(i+1))):=by
    rw[W5 (i:=(i:Int)+1) (j:=(n:Int)) (by simp[ZH,Xl]) (by simp[ZH,Xl]) ⟨by omega,by omega⟩ ⟨by omega,by omega⟩]
    congr 2;omega
   show YV _ _ _ _ (Xl n most ts' rest' room' (some (i:Int)) y7 y8 none met)=_
   rw[Yg,hr]
   exact e2)
 rw[We] at hle
 exact⟨ts',rest',room',y6,y7,y8,by rw[h,e],ok',by omega⟩
noncomputable def QX:XS:=(Zm (UO (Vj (xB (Zi (RD false) (Za 6) (Za 5))) (xB (Zi (RD true) (Za 7) (Za 5)))) (Yv 5 (eP (Za 7))) Z8)
  (UO (Vj (xB (Zi (RD false) (Za 7) (Za 5))) (xB (Zi (RD true) (Za 6) (Za 5)))) (Yv 5 (eP (Za 6))) Z8))
structure MetOk(n:Nat)(ts:List YB)(met:List Int):Prop where
 nd:met.Nodup
 ok:∀m∈met,∃k:Nat,k<n/\m=(k:Int)/\∀P:Nat->Prop,Cl ts P->(P k↔P 0)
theorem MetOk.add{n:Nat}{ts:List YB}{met:List Int}{a b:Nat}(h:MetOk n ts met)(hab:QV ts a b\/QV ts b a)(hb:b<n)(ha:(a:Int)∈met)(hnb:(b:Int)∉met):MetOk n ts (met++[(b:Int)]):=by
 refine⟨?_,fun m hm=>?_⟩
 ·rw[List.nodup_append]
  refine⟨h.nd,by simp,fun x hx y hy z=>?_⟩
  rw[List.mem_singleton.mp hy] at z
  exact hnb (z▸hx)
 ·rcases List.mem_append.mp hm with hm | hm
  ·exact h.ok m hm
  ·refine⟨b,hb,List.mem_singleton.mp hm,fun P hP=>?_⟩
   obtain⟨k,hk,e,q⟩:=h.ok _ ha
   have:a=k:=by omega
   subst this
   rcases hab with z | z
   ·exact(hP _ _ z).symm.trans (q P hP)
   ·exact(hP _ _ z).trans (q P hP)
theorem MetOk.hang{n:Nat}{ts:List YB}{met:List Int}(h:MetOk n ts met)(hl:met.length=n):Hang n ts:=by
 have all:∀P,Cl ts P->∀i,i<n->(P i↔P 0):=fun P hP i hi=>by
  have hm:=Jg h.nd (fun x hx=>by obtain⟨k,hk,e,_⟩:=h.ok x hx;exact⟨k,hk,e⟩) hl hi
  obtain⟨k,hk,e,q⟩:=h.ok _ hm
  have:i=k:=by omega
  subst this
  exact q P hP
 exact fun P hP i j hi hj=>(all P hP i hi).trans (all P hP j hj).symm
theorem R6{n:Nat}{most:Int}{ts:List YB}{Zk room:Int}{a b:Int}{x8 x9:Option Int}{met:List Int}(hl:met.length<=5000)(f g:Nat)(va vb:Int)(hf:∀met,(Xl n most ts Zk room (some a) (some b) x8 x9 met)[f]?=some (some (.int va)))(hg:∀met,(Xl n most ts Zk room (some a) (some b) x8 x9 met)[g]?=some (some (.int vb))) :
  ∃met',UO (Vj (xB (Zi (RD false) (Za f) (Za 5))) (xB (Zi (RD true) (Za g) (Za 5)))) (Yv 5 (eP (Za g))) Z8 (Xl n most ts Zk room (some a) (some b) x8 x9 met)=some (.nx (Xl n most ts Zk room (some a) (some b) x8 x9 met'))/\met'.length<=met.length+1/\(met'=met\/(va∈met/\vb∉met/\met'=met++[vb])):=by
 have h5:(Xl n most ts Zk room (some a) (some b) x8 x9 met)[5]?=some (some (.lst (iL met))):=rfl
 have t:Vj (xB (Zi (RD false) (Za f) (Za 5))) (xB (Zi (RD true) (Za g) (Za 5))) (Xl n most ts Zk room (some a) (some b) x8 x9 met)=some (decide (va∈met)&&!decide (vb∈met)):=by
  simp only[RM,X7,Yl,YQ,hf,hg,h5,Option.join_some,Option.bind_some,Ir,K0]
  by_cases h:va∈met<;>simp[h]
 rw[Xu,t];simp only[Option.bind_some]
 split
 ·rename_i hc
  refine⟨met++[vb],?_,by simp,.inr ⟨by simp at hc;exact hc.1,by simp at hc;exact hc.2,rfl⟩⟩
  rw[Vo (l:=.int vb) (m:=iL met) (by simp only[Vn,YQ,hg,Option.join_some,Option.bind_some,Oy,if_true]) rfl (by rw[List.length_map];omega)]
  simp[Xl]
 ·exact⟨met,rfl,by omega,.inl rfl⟩
theorem Lv{n:Nat}{most:Int}{ts:List YB}{Zk room:Int}{a b:Int}{x8 x9:Option Int}{met:List Int}(hl:met.length<=4000) :
  ∃met',QX (Xl n most ts Zk room (some a) (some b) x8 x9 met)=some (.nx (Xl n most ts Zk room (some a) (some b) x8 x9 met'))/\met'.length<=met.length+2/\(∀a' b':Nat,a=a'->b=b'->QV ts a' b'->a'<n->b'<n->MetOk n ts met->MetOk n ts met'):=by
 obtain⟨m1,e1,l1,o1⟩:=R6 (n:=n) (most:=most) (ts:=ts) (Zk:=Zk) (room:=room) (a:=a) (b:=b) (x8:=x8) (x9:=x9) (met:=met) (by omega) 6 7 a b (fun _=>rfl) (fun _=>rfl)
 obtain⟨m2,e2,l2,o2⟩:=R6 (n:=n) (most:=most) (ts:=ts) (Zk:=Zk) (room:=room) (a:=a) (b:=b) (x8:=x8) (x9:=x9) (met:=m1) (by omega) 7 6 b a (fun _=>rfl) (fun _=>rfl)
 refine⟨m2,?_,by omega,fun a' b' ha hb hab han hbn mk=>?_⟩
 rotate_left
 ·subst ha hb
  have k1:MetOk n ts m1:=by
   rcases o1 with rfl | ⟨u,v,rfl⟩
   ·exact mk
   ·exact mk.add (.inl hab) hbn u v
  rcases o2 with rfl | ⟨u,v,rfl⟩
  ·exact k1
  ·exact k1.add (.inr hab) han u v
 unfold QX;rw[ZP,e1];exact e2
theorem OU{n:Nat}{most:Int}{ts:List YB}{Zk room:Int}{x6 x7 x8 x9:Option Int}{met:List Int}:QB [4,5] (.nx (Xl n most ts Zk room x6 x7 x8 x9 met)) = .nx (Xl n most ts Zk room x6 x7 x8 x9 met):=by
 cases x6<;>cases x7<;>cases x8<;>cases x9<;>rfl
theorem Md{n:Nat}{most:Int}{ts:List YB}{Zk room:Int}{x6 x7 x8 x9:Option Int}{met:List Int}(hl:met.length<=2000)(ht:ts.length<=49)(ok:DictOk n ts)(mk:MetOk n ts met) :
  ∃y6 y7 met',Vm [4,5] 4 (.many [6,7]) QX (Xl n most ts Zk room x6 x7 x8 x9 met)=some (.nx (Xl n most ts Zk room y6 y7 x8 x9 met'))/\met'.length<=met.length+98/\MetOk n ts met':=by
 obtain⟨s',h,y6,y7,met',e,hle,mk'⟩:=ZR (T:=.many [6,7]) (fb:=QX) (ls:=ts.map fun e=>.tup [.int (e.1:Int),.int (e.2.1:Int)]) (s:=Xl n most ts Zk room x6 x7 x8 x9 met)
  (fun j st=>∃y6 y7 met',st=Xl n most ts Zk room y6 y7 x8 x9 met'/\met'.length<=met.length+2*j/\MetOk n ts met') ⟨x6,x7,met,rfl,by omega,mk⟩ (fun j l st hl' hJ=>by
   obtain⟨y6,y7,met',rfl,hle,mk'⟩:=hJ
   rw[List.getElem?_map] at hl'
   cases he:ts[j]? with
   | none=>rw[he] at hl';cases hl'
   | some e=>
    rw[he] at hl'
    cases hl'
    have hj:=(List.getElem?_eq_some_iff.mp he).1
    have hmem:=List.mem_of_getElem? he
    have hoe:=ok.ok e hmem
    obtain⟨m2,e2,l2,o2⟩:=Lv (n:=n) (most:=most) (ts:=ts) (Zk:=Zk) (room:=room) (a:=(e.1:Int)) (b:=(e.2.1:Int)) (x8:=x8) (x9:=x9) (met:=met') (by omega)
    exact⟨_,_,rfl,e2,some (e.1:Int),some (e.2.1:Int),m2,rfl,by omega,o2 e.1 e.2.1 rfl rfl ⟨e.2.2,hmem⟩ (by omega) (by omega) mk'⟩)
 rw[List.length_map] at hle
 refine⟨y6,y7,met',?_,by omega,mk'⟩
 unfold Vm
 show((Si (dP ts)).bind fun ls=>(Xj _ _ ls _).map (QB [4,5]))=_
 rw[S8];simp only[Option.bind_some];rw[h,e,Option.map_some,OU]
theorem Lw{n:Nat}{most:Int}{ts:List YB}{Zk room:Int}{x6 x7 x8:Option Int}(ht:ts.length<=49)(hn:n<=7)(ok:DictOk n ts)(hn1:1<=n) :
  ∃y6 y7 y9 met',Xj (.one 9) (Vm [4,5] 4 (.many [6,7]) QX) (Xr n) (Xl n most ts Zk room x6 x7 x8 none [0])=some (.nx (Xl n most ts Zk room y6 y7 x8 y9 met'))/\MetOk n ts met':=by
 obtain⟨s',h,y6,y7,y9,met',e,hle,mk⟩:=ZR (T:=.one 9) (fb:=Vm [4,5] 4 (.many [6,7]) QX) (ls:=Xr n) (s:=Xl n most ts Zk room x6 x7 x8 none [0])
  (fun i st=>∃y6 y7 y9 met',st=Xl n most ts Zk room y6 y7 x8 y9 met'/\met'.length<=1+98*i/\MetOk n ts met') ⟨x6,x7,none,[0],rfl,by simp,⟨by simp,fun m hm=>⟨0,by omega,List.mem_singleton.mp hm,fun P _=>Iff.rfl⟩⟩⟩ (fun i l st hl' hJ=>by
   obtain⟨hi,rfl⟩:=Wd hl'
   obtain⟨y6,y7,y9,met',rfl,hle,mk⟩:=hJ
   obtain⟨z6,z7,m2,e2,l2,mk2⟩:=Md (n:=n) (most:=most) (ts:=ts) (Zk:=Zk) (room:=room) (x6:=y6) (x7:=y7) (x8:=x8) (x9:=some (i:Int)) (met:=met') (by omega) ht ok mk
   exact⟨_,_,rfl,e2,z6,z7,some (i:Int),m2,rfl,by omega,mk2⟩)
 exact⟨y6,y7,y9,met',by rw[h,e],mk⟩
theorem TW{n:Nat}{most Zk room:Int}(h1:1<=most)(h9:most<=9)(hn:n<=7)(hn1:1<=n):∃r,Z1 [.int Zk,.int (n:Int),.int room,.int most]=some r/\(r = .non\/∃ts,r=dP ts/\DictOk n ts/\ts.length<=49/\Hang n ts):=by
 obtain⟨ts,rest',room',y6,y7,y8,e1,ok,hle⟩:=Mc (n:=n) (Zk:=Zk) (room:=room) (met:=[0]) h1 h9 hn
 obtain⟨z6,z7,z9,met,e2,mk⟩:=Lw (n:=n) (most:=most) (ts:=ts) (Zk:=rest') (room:=room') (x6:=y6) (x7:=y7) (x8:=y8) hle hn ok hn1
 refine⟨if met.length=n then dP ts else .non,?_,?_⟩
 ·show X8 10 YR [.int Zk,.int (n:Int),.int room,.int most]=_
  have r1:ZI [Za 1] (ZH [4,5] (Xl n most [] Zk room none none none none [0]))=some (Xr n):=Z0 (by simp[ZH,Xl]) (by omega)
  have r2:ZI [Za 1] (ZH [4,5] (Xl n most ts rest' room' y6 y7 y8 none [0]))=some (Xr n):=Z0 (by simp[ZH,Xl]) (by omega)
  unfold YR;simp only[X8,ZV,List.map_cons,List.map_nil,List.length_cons,List.length_nil,ZP,Z9]
  show((YV [4,5] (ZI [Za 1]) (.one 6) (YV [4,5] (Yu [Zi ZO (Za 6) (eC (.int 1)),Za 1]) (.one 7) LU) (Xl n most [] Zk room none none none none [0])).bind _).bind X6=_
  rw[Yg,r1];simp only[Option.bind_some];rw[e1];simp only[Option.bind_some]
  show((YV [4,5] (ZI [Za 1]) (.one 9) (Vm [4,5] 4 (.many [6,7]) QX) (Xl n most ts rest' room' y6 y7 y8 none [0])).bind _).bind X6=_
  rw[Yg,r2];simp only[Option.bind_some];rw[e2];simp only[Option.bind_some];unfold SV
  by_cases h:met.length=n
  ·simp[Xl,h]
  ·have h':¬((met.length:Int)=(n:Int)):=by omega
   simp[Xl,h,h']
 ·by_cases h:met.length=n
  ·rw[if_pos h];exact .inr ⟨ts,rfl,ok,hle,mk.hang h⟩
  ·rw[if_neg h];exact .inl rfl
theorem Ho(c:Int):∃v:Int,1<=v/\v<=9/\WT [PV.int 1,PV.int 1,PV.int 1,PV.int 2,PV.int 3,PV.int 9] (c%6)=some (.int v):=by
 have h:c%6=0\/c%6=1\/c%6=2\/c%6=3\/c%6=4\/c%6=5:=by omega
 rcases h with h | h | h | h | h | h<;>rw[h]
 ·exact⟨1,by decide,by decide,rfl⟩
 ·exact⟨1,by decide,by decide,rfl⟩
 ·exact⟨1,by decide,by decide,rfl⟩
 ·exact⟨2,by decide,by decide,rfl⟩
 ·exact⟨3,by decide,by decide,rfl⟩
 ·exact⟨9,by decide,by decide,rfl⟩
theorem Hq(c:Int):∃v:Int,0<=v/\v<=9/\WT [PV.int 0,PV.int 0,PV.int 0,PV.int 1,PV.int 1,PV.int 2,PV.int 4,PV.int 9] (c%8)=some (.int v):=by
 have h:c%8=0\/c%8=1\/c%8=2\/c%8=3\/c%8=4\/c%8=5\/c%8=6\/c%8=7:=by omega
 rcases h with h | h | h | h | h | h | h | h<;>rw[h]
 ·exact⟨0,by decide,by decide,rfl⟩
 ·exact⟨0,by decide,by decide,rfl⟩
 ·exact⟨0,by decide,by decide,rfl⟩
 ·exact⟨1,by decide,by decide,rfl⟩
 ·exact⟨1,by decide,by decide,rfl⟩
 ·exact⟨2,by decide,by decide,rfl⟩
 ·exact⟨4,by decide,by decide,rfl⟩
 ·exact⟨9,by decide,by decide,rfl⟩
theorem Ji(ts:List YB)(a b:Int):∃c,IK (dP ts) (.tup [.int a,.int b])=some c:=⟨_,rfl⟩
def YW(ns:List Int)(at0 n:Nat)(first:Int)(ts:List YB)(room:Int)(x6 x7 x8 x9 x10 x11:Option Int):ZD:=
 [some (.cst (iL ns)),some (.int (at0:Int)),some (.int (n:Int)),some (.int first),some (dP ts),some (.int room),x6.map PV.int,x7.map PV.int,x8.map PV.int,x9.map PV.int,x10.map PV.int,x11.map PV.int]
noncomputable def Iu:XS:=(Zm (Zo 7 (Zf Zn [(Za 0),(Zi ZO (Za 1) (Za 6))]))
  (Zm (Zo 8 (eP (Zf Ww [(Zi Yb (ZC [(eC (.int 1)),(eC (.int 1)),(eC (.int 1)),(eC (.int 2)),(eC (.int 3)),(eC (.int 9))]) (Zi Yt (Zi XI (Za 7) (Za 6)) (eC (.int 6)))),(Zi YJ (Za 5) (Zi YJ (Zi YJ (Za 2) (eC (.int 1))) (Za 6)))])))
  (Zm (VL.sDPut 4 (YL [(Zi Yt (Za 7) (Za 6)),(Za 6)]) (Za 8))
  (Zo 5 (eP (Zi YJ (Za 5) (Za 8)))))))
theorem Iv{f g h k:XS}{s s1 s2 s3:ZD}(e1:f s=some (.nx s1))(e2:g s1=some (.nx s2))(e3:h s2=some (.nx s3)):Zm f (Zm g (Zm h k)) s=k s3:=by
 simp only[ZP,e1,e2,e3,Option.bind_some]
theorem Y2{f g:XS}{s s1:ZD}(e1:f s=some (.nx s1)):Zm f g s=g s1:=by
 simp only[ZP,e1,Option.bind_some]
theorem Jj{ns:List Int}{at0 n:Nat}{first:Int}{ts:List YB}{room:Int}{x7 x8 x9 x10 x11:Option Int}{h:Nat}(hns:ns.length<=63)(ok:DictOk n ts)(hl:ts.length<=1000)(h1:1<=h)(hh:h<n)(hn:n<=7)(hr:(n:Int)-(h:Int)<=room) :
  ∃ts' room' y7 y8,Iu (YW ns at0 n first ts room (some (h:Int)) x7 x8 x9 x10 x11)=some (.nx (YW ns at0 n first ts' room' (some (h:Int)) (some y7) (some y8) x9 x10 x11))/\DictOk n ts'/\ts'.length<=ts.length+1/\(n:Int)-((h:Int)+1)<=room'/\Ext ts ts'/\∃c,c<h/\QV ts' c h:=by
 generalize hc:Zy ns (at0+h)=c
 have e1:Zo 7 (Zf Zn [(Za 0),(Zi ZO (Za 1) (Za 6))]) (YW ns at0 n first ts room (some (h:Int)) x7 x8 x9 x10 x11)=some (.nx (YW ns at0 n first ts room (some (h:Int)) (some c) x8 x9 x10 x11)):=by
  have z:(at0:Int)+(h:Int)=((at0+h:Nat):Int):=by omega
  have q:=V5 hns (at0+h)
  rw[hc] at q
  have q:Zn [PV.cst (ns.map PV.int),PV.int ((at0:Int)+(h:Int))]=some (PV.int c):=by rw[z];exact q
  simp[YW,q]
 obtain⟨v,v1,v9,ev⟩:=Ho (c/(h:Int))
 have cd:UZ c (h:Int):=Uq (by omega) (by omega)
 have hp:(0:Int)<(h:Int):=by omega
 generalize hd:(if room-((n:Int)-1-(h:Int))<v then room-((n:Int)-1-(h:Int)) else v)=dp
 have d1:1<=dp:=by rw[<-hd];split<;>omega
 have d9:dp<=9:=by rw[<-hd];split<;>omega
 have dr:dp<=room-((n:Int)-1-(h:Int)):=by rw[<-hd];split<;>omega
 have e2:Zo 8 (eP (Zf Ww [(Zi Yb (ZC [(eC (.int 1)),(eC (.int 1)),(eC (.int 1)),(eC (.int 2)),(eC (.int 3)),(eC (.int 9))]) (Zi Yt (Zi XI (Za 7) (Za 6)) (eC (.int 6)))),(Zi YJ (Za 5) (Zi YJ (Zi YJ (Za 2) (eC (.int 1))) (Za 6)))])) (YW ns at0 n first ts room (some (h:Int)) (some c) x8 x9 x10 x11)=some (.nx (YW ns at0 n first ts room (some (h:Int)) (some c) (some dp) x9 x10 x11)):=by
  simp[YW,cd,ev,hd]
 have m0:=Int.emod_nonneg c (show(h:Int)≠0 by omega)
 have m1:=Int.emod_lt_of_pos c hp
 obtain⟨ts2,pe,ok2,hle2,hh2,hx2⟩:=UW (a:=(c%(h:Int)).toNat) (b:=h) (t:=dp) ok (by omega) hh d1 d9 (by omega)
 have hcast:(((c%(h:Int)).toNat:Nat):Int)=c%(h:Int):=by omega
 rw[hcast] at pe
 have e3:VL.sDPut 4 (YL [(Zi Yt (Za 7) (Za 6)),(Za 6)]) (Za 8) (YW ns at0 n first ts room (some (h:Int)) (some c) (some dp) x9 x10 x11)=some (.nx (YW ns at0 n first ts2 room (some (h:Int)) (some c) (some dp) x9 x10 x11)):=by
  rw[V6 (v:=.int dp) (k:=.tup [.int (c%(h:Int)),.int (h:Int)]) (d:=dP ts) rfl (by simp[YW,show 0<h by omega]) rfl pe]
  rfl
 refine⟨ts2,room-dp,c,dp,?_,ok2,hle2,by omega,hx2,(c%(h:Int)).toNat,by omega,hh2⟩
 unfold Iu;rw[Iv e1 e2 e3];simp[YW]
noncomputable def Jy:XS:=(Zm (Zo 8 (eP (Zi Yb (ZC [(eC (.int 0)),(eC (.int 0)),(eC (.int 0)),(eC (.int 1)),(eC (.int 1)),(eC (.int 2)),(eC (.int 4)),(eC (.int 9))]) (Zi Yt (Zf Zn [(Za 0),(Za 9)]) (eC (.int 8))))))
  (Zm (Zo 9 (eP (Zi ZO (Za 9) (eC (.int 1)))))
  (UO (Vj (xB (Qz true (YL [(Za 10),(Za 11)]) (Za 4))) (xB (LQ IE IF (eC (.int 0)) (Za 8) (Za 5)))) (Zm (VL.sDPut 4 (YL [(Za 10),(Za 11)]) (Za 8))
  (Zo 5 (eP (Zi YJ (Za 5) (Za 8))))) Z8)))
theorem Iw{f g h:XS}{s s1 s2:ZD}(e1:f s=some (.nx s1))(e2:g s1=some (.nx s2)):Zm f (Zm g h) s=h s2:=by
 simp only[ZP,e1,e2,Option.bind_some]
theorem Jk{ns:List Int}{at0 n:Nat}{first:Int}{ts:List YB}{room:Int}{x6 x7 x8:Option Int}{k a b:Nat}(hns:ns.length<=63)(ok:DictOk n ts)(hl:ts.length<=1000)(hab:a<b)(hb:b<n) :
  ∃ts' room' y8,Jy (YW ns at0 n first ts room x6 x7 x8 (some (k:Int)) (some (a:Int)) (some (b:Int)))=some (.nx (YW ns at0 n first ts' room' x6 x7 (some y8) (some ((k+1:Nat):Int)) (some (a:Int)) (some (b:Int))))/\DictOk n ts'/\ts'.length<=ts.length+1/\Ext ts ts':=by
 obtain⟨v,v0,v9,ev⟩:=Hq (Zy ns k)
 have e1:Zo 8 (eP (Zi Yb (ZC [(eC (.int 0)),(eC (.int 0)),(eC (.int 0)),(eC (.int 1)),(eC (.int 1)),(eC (.int 2)),(eC (.int 4)),(eC (.int 9))]) (Zi Yt (Zf Zn [(Za 0),(Za 9)]) (eC (.int 8))))) (YW ns at0 n first ts room x6 x7 x8 (some (k:Int)) (some (a:Int)) (some (b:Int)))=some (.nx (YW ns at0 n first ts room x6 x7 (some v) (some (k:Int)) (some (a:Int)) (some (b:Int)))):=by
  have q:Zn [PV.cst (ns.map PV.int),PV.int (k:Int)]=some (PV.int (Zy ns k)):=V5 hns k
  simp[YW,q,ev]
 have e2:Zo 9 (eP (Zi ZO (Za 9) (eC (.int 1)))) (YW ns at0 n first ts room x6 x7 (some v) (some (k:Int)) (some (a:Int)) (some (b:Int)))=some (.nx (YW ns at0 n first ts room x6 x7 (some v) (some ((k+1:Nat):Int)) (some (a:Int)) (some (b:Int)))):=by
  simp[YW]
 obtain⟨cc,ec⟩:=Ji ts (a:Int) (b:Int)
 unfold Jy;rw[Iw e1 e2]
 have tst:∃q:Bool,Vj (xB (Qz true (YL [(Za 10),(Za 11)]) (Za 4))) (xB (LQ IE IF (eC (.int 0)) (Za 8) (Za 5))) (YW ns at0 n first ts room x6 x7 (some v) (some ((k+1:Nat):Int)) (some (a:Int)) (some (b:Int)))=some q/\(q=true->0<v):=by
  have t1:xB (Qz true (YL [(Za 10),(Za 11)]) (Za 4)) (YW ns at0 n first ts room x6 x7 (some v) (some ((k+1:Nat):Int)) (some (a:Int)) (some (b:Int)))=some !cc:=by
   simp[YW,Qz,ec]
  have t2:xB (LQ IE IF (eC (.int 0)) (Za 8) (Za 5)) (YW ns at0 n first ts room x6 x7 (some v) (some ((k+1:Nat):Int)) (some (a:Int)) (some (b:Int)))=some (decide (0<v)&&decide (v<=room)):=by
   by_cases hv:0<v
   ·simp[YW,LQ,hv]
   ·simp[YW,LQ,hv]
  rw[RM,t1,t2]
  cases cc with
  | true=>exact⟨false,rfl,fun z=>by cases z⟩
  | false=>exact⟨_,rfl,fun z=>by
    rw[Bool.and_eq_true] at z
    exact of_decide_eq_true z.1⟩
 obtain⟨q,eq,hq⟩:=tst
 rw[Xu,eq];simp only[Option.bind_some]
 cases q with
 | false=>exact⟨ts,room,v,rfl,ok,by omega,Ext.refl ts⟩
 | true=>
  have hv:=hq rfl
  obtain⟨ts2,pe,ok2,hle2,_,hx2⟩:=UW (t:=v) ok hab hb (by omega) v9 (by omega)
  refine⟨ts2,room-v,v,?_,ok2,hle2,hx2⟩
  rw[if_pos rfl]
  have e3:VL.sDPut 4 (YL [(Za 10),(Za 11)]) (Za 8) (YW ns at0 n first ts room x6 x7 (some v) (some ((k+1:Nat):Int)) (some (a:Int)) (some (b:Int)))=some (.nx (YW ns at0 n first ts2 room x6 x7 (some v) (some ((k+1:Nat):Int)) (some (a:Int)) (some (b:Int)))):=by
   rw[V6 (v:=.int v) (k:=.tup [.int (a:Int),.int (b:Int)]) (d:=dP ts) rfl (by simp[YW]) rfl pe]
   rfl
  rw[Y2 e3];simp[YW]
theorem Me{ns:List Int}{at0 n:Nat}(hns:ns.length<=63)(h1:1<=n)(hn:n<=7):∃ts,YD [.cst (iL ns),.int (at0:Int),.int (n:Int)]=some (dP ts)/\DictOk n ts/\Hang n ts:=by
 generalize hf:Zy ns at0=first
 have hcell:Zn [PV.cst (ns.map PV.int),PV.int (at0:Int)]=some (PV.int first):=by rw[<-hf];exact V5 hns at0
 obtain⟨r,er,alt⟩:=TW (n:=n) (most:=9) (Zk:=first/2) (room:=30) (by omega) (by omega) hn h1
 have cd2:UZ first 2:=Uq (by omega) (by omega)
 -- the first test
 have hstart:Zo 3 (Zf Zn [(Za 0),(Za 1)]) [some (.cst (iL ns)),some (.int (at0:Int)),some (.int (n:Int)),none,none,none,none,none,none,none,none,none]=some (.nx [some (.cst (iL ns)),some (.int (at0:Int)),some (.int (n:Int)),some (.int first),none,none,none,none,none,none,none,none]):=by
  simp[hcell]
 have htest:Vj (xB (Zi (Xq false) (Zi Yt (Za 3) (eC (.int 2))) (eC (.int 1)))) (xB (SK true (Zf Z1 [(Zi XI (Za 3) (eC (.int 2))),(Za 2),(eC (.int 30)),(eC (.int 9))]))) [some (.cst (iL ns)),some (.int (at0:Int)),some (.int (n:Int)),some (.int first),none,none,none,none,none,none,none,none]=some (decide (first%2=1)&&!Tc r):=by
  have eb:KO true r=some (.bl (!Tc r)):=by cases r<;>rfl
  by_cases h:first%2=1
  ·simp[h,cd2,er,eb]
  ·simp[h]
 show ∃ts,X8 12 W9 [.cst (iL ns),.int (at0:Int),.int (n:Int)]=some (dP ts)/\DictOk n ts/\Hang n ts
 unfold W9;simp only[X8,ZV,List.map_cons,List.map_nil,List.length_cons,List.length_nil]
 show ∃ts,(Zm (Zo 3 (Zf Zn [(Za 0),(Za 1)])) _ [some (.cst (iL ns)),some (.int (at0:Int)),some (.int (n:Int)),none,none,none,none,none,none,none,none,none]).bind X6=some (dP ts)/\DictOk n ts/\Hang n ts
 rw[Y2 hstart,ZP,Xu,htest];simp only[Option.bind_some]
 by_cases hc:(decide (first%2=1)&&!Tc r)=true
 ·rw[if_pos hc]
  rw[Bool.and_eq_true] at hc
  rcases alt with rfl | ⟨ts,rfl,ok,_,hg⟩
  ·exact absurd hc.2 (by decide)
  ·exact⟨ts,by simp[cd2,er],ok,hg⟩
 ·rw[if_neg hc]
  simp only[Ox,Option.bind_some]
  -- the dict,the room
  have e45:∀g:XS,Zm (Zo 4 (eC (.dT [] []))) (Zm (Zo 5 (eP (eC (.int 30)))) g) [some (.cst (iL ns)),some (.int (at0:Int)),some (.int (n:Int)),some (.int first),none,none,none,none,none,none,none,none]=g (YW ns at0 n first [] 30 none none none none none none):=fun g=>by
   rw[Iw (s1:=[some (.cst (iL ns)),some (.int (at0:Int)),some (.int (n:Int)),some (.int first),some (dP []),none,none,none,none,none,none,none]) (s2:=YW ns at0 n first [] 30 none none none none none none) (by simp;rfl) (by simp[YW])]
  rw[e45]
  -- the first loop
  obtain⟨s1,l1,ts1,room1,y6,y7,y8,es1,ok1,hle1,_,tree⟩:=ZR (T:=.one 6) (fb:=Iu) (ls:=Xs 1 (n-1)) (s:=YW ns at0 n first [] 30 none none none none none none)
   (fun i st=>∃ts room y6 y7 y8,st=YW ns at0 n first ts room y6 y7 y8 none none none/\DictOk n ts/\ts.length<=i/\(n:Int)-((i:Int)+1)<=room/\∀h,1<=h->h<=i->∃c,c<h/\QV ts c h) ⟨[],30,none,none,none,rfl,DictOk.nil n,Nat.le_refl _,by omega,fun h h1 h2=>by omega⟩ (fun i l st hl' hJ=>by
    obtain⟨hi,rfl⟩:=VU hl'
    obtain⟨ts,room,y6,y7,y8,rfl,ok,hle,hroom,tree⟩:=hJ
    have z:(1:Int)+(i:Int)=((i+1:Nat):Int):=by omega
    rw[z]
    obtain⟨ts2,room2,z7,z8,e2,ok2,hle2,hr2,hx2,hc2⟩:=Jj (at0:=at0) (first:=first) (room:=room) (x7:=y7) (x8:=y8) (x9:=none) (x10:=none) (x11:=none) (h:=i+1) hns ok (by omega) (by omega) (by omega) hn (by omega)
    exact⟨_,_,rfl,e2,ts2,room2,some ((i+1:Nat):Int),some z7,some z8,rfl,ok2,by omega,by omega,fun h h1 h2=>by
     by_cases q:h<=i
     ·obtain⟨c,a,b⟩:=tree h h1 q
      exact⟨c,a,hx2 _ _ b⟩
     ·have:h=i+1:=by omega
      subst this
      exact hc2⟩)
  rw[VV] at hle1 tree
  have r1:Yu [eC (.int 1),Za 2] (ZH [4] (YW ns at0 n first [] 30 none none none none none none))=some (Xs 1 (n-1)):=by
   rw[W5 (i:=1) (j:=(n:Int)) rfl (by simp[ZH,YW]) ⟨by omega,by omega⟩ ⟨by omega,by omega⟩]
   congr 2;omega
  have f1:YV [4] (Yu [eC (.int 1),Za 2]) (.one 6) Iu (YW ns at0 n first [] 30 none none none none none none)=some (.nx (YW ns at0 n first ts1 room1 y6 y7 y8 none none none)):=by
   rw[Yg,r1]
   exact l1.trans (by rw[es1])
  have e9:Zo 9 (eP (Zi ZO (Za 1) (eC (.int 7)))) (YW ns at0 n first ts1 room1 y6 y7 y8 none none none)=some (.nx (YW ns at0 n first ts1 room1 y6 y7 y8 (some ((at0+7:Nat):Int)) none none)):=by simp[YW]
  -- the second loops
  have inner:∀(a:Nat)(ts:List YB)(room:Int)(x8:Option Int)(k:Nat)(x11:Option Int),a<n->DictOk n ts->ts.length<=500->∃ts' room' y8 k' y11,Xj (.one 11) Jy (Xs ((a:Int)+1) (n-(a+1))) (YW ns at0 n first ts room y6 y7 x8 (some (k:Int)) (some (a:Int)) x11)=some (.nx (YW ns at0 n first ts' room' y6 y7 y8 (some ((k':Nat):Int)) (some (a:Int)) y11))/\DictOk n ts'/\ts'.length<=ts.length+7/\Ext ts ts':=by
   intro a ts room x8 k x11 ha ok hl
   obtain⟨s',h,ts',room',z8,k',z11,e,ok',hle,hx⟩:=ZR (T:=.one 11) (fb:=Jy) (ls:=Xs ((a:Int)+1) (n-(a+1))) (s:=YW ns at0 n first ts room y6 y7 x8 (some (k:Int)) (some (a:Int)) x11)
    (fun j st=>∃ts' room' z8 k' z11,st=YW ns at0 n first ts' room' y6 y7 z8 (some ((k':Nat):Int)) (some (a:Int)) z11/\DictOk n ts'/\ts'.length<=ts.length+j/\Ext ts ts') ⟨ts,room,x8,k,x11,rfl,ok,by omega,Ext.refl ts⟩ (fun j l st hl' hJ=>by
     obtain⟨hj,rfl⟩:=VU hl'
     obtain⟨ts',room',z8,k',z11,rfl,ok',hle,hx⟩:=hJ
     have z:(a:Int)+1+(j:Int)=((a+1+j:Nat):Int):=by omega
     rw[z]
     obtain⟨ts2,room2,w8,e2,ok2,hle2,hx2⟩:=Jk (at0:=at0) (first:=first) (room:=room') (x6:=y6) (x7:=y7) (x8:=z8) (k:=k') hns ok' (by omega) (show a<a+1+j by omega) (by omega)
     exact⟨_,_,rfl,e2,ts2,room2,some w8,k'+1,some ((a+1+j:Nat):Int),rfl,ok2,by omega,hx.trans hx2⟩)
   rw[VV] at hle
   exact⟨ts',room',z8,k',z11,by rw[h,e],ok',by omega,hx⟩
  obtain⟨s2,l2,ts2,room2,w8,w9,w10,w11,es2,ok2,hle2,hx2⟩:=ZR (T:=.one 10) (fb:=YV [4] (Yu [Zi ZO (Za 10) (eC (.int 1)),Za 2]) (.one 11) Jy) (ls:=Xr n) (s:=YW ns at0 n first ts1 room1 y6 y7 y8 (some ((at0+7:Nat):Int)) none none)
   (fun i st=>∃ts room w8 k w10 w11,st=YW ns at0 n first ts room y6 y7 w8 (some ((k:Nat):Int)) w10 w11/\DictOk n ts/\ts.length<=7+7*i/\Ext ts1 ts) ⟨ts1,room1,y8,at0+7,none,none,rfl,ok1,by omega,Ext.refl ts1⟩ (fun i l st hl' hJ=>by
    obtain⟨hi,rfl⟩:=Wd hl'
    obtain⟨ts,room,w8,k,w10,w11,rfl,ok,hle,hx⟩:=hJ
    obtain⟨ts',room',z8,k',z11,e2,ok',hle',hx'⟩:=inner i ts room w8 k w11 hi ok (by omega)
    refine⟨_,_,rfl,?_,ts',room',z8,k',some (i:Int),z11,rfl,ok',by omega,hx.trans hx'⟩
    have hr:Yu [Zi ZO (Za 10) (eC (.int 1)),Za 2] (ZH [4] (YW ns at0 n first ts room y6 y7 w8 (some (k:Int)) (some (i:Int)) w11))=some (Xs ((i:Int)+1) (n-(i+1))):=by
     rw[W5 (i:=(i:Int)+1) (j:=(n:Int)) (by simp[ZH,YW]) (by simp[ZH,YW]) ⟨by omega,by omega⟩ ⟨by omega,by omega⟩]
     congr 2;omega
    show YV _ _ _ _ (YW ns at0 n first ts room y6 y7 w8 (some (k:Int)) (some (i:Int)) w11)=_
    rw[Yg,hr]
    exact e2)
  rw[We] at hle2
  have r2:ZI [Za 2] (ZH [4] (YW ns at0 n first ts1 room1 y6 y7 y8 (some ((at0+7:Nat):Int)) none none))=some (Xr n):=Z0 (by simp[ZH,YW]) (by omega)
  have f2:YV [4] (ZI [Za 2]) (.one 10) (YV [4] (Yu [Zi ZO (Za 10) (eC (.int 1)),Za 2]) (.one 11) Jy) (YW ns at0 n first ts1 room1 y6 y7 y8 (some ((at0+7:Nat):Int)) none none)=some (.nx (YW ns at0 n first ts2 room2 y6 y7 w8 (some ((w9:Nat):Int)) w10 w11)):=by
   rw[Yg,r2]
   exact l2.trans (by rw[es2])
  have hg:Hang n ts2:=by
   have all:∀P,Cl ts2 P->∀i,i<n->(P i↔P 0):=by
    intro P hP i
    induction i using Nat.strongRecOn with
    | _ i ih=>
     intro hi
     by_cases h0:i=0
     ·subst h0;exact Iff.rfl
     ·obtain⟨c,hc,hb⟩:=tree i (by omega) (by omega)
      exact(hP _ _ (hx2 _ _ hb)).symm.trans (ih c hc (by omega))
   exact fun P hP i j hi hj=>(all P hP i hi).trans (all P hP j hj).symm
  obtain⟨ts',eR,okR,_,hgR⟩:=QW ok2 hn (by omega) (first/7)
  have cd7:UZ first 7:=Uq (by omega) (by omega)
  refine⟨ts',?_,okR,hgR hg⟩
  refine Eq.trans (congrArg (fun o=>Option.bind o X6) (Iv (f:=YV [4] (Yu [eC (.int 1),Za 2]) (.one 6) Iu) f1 e9 f2)) ?_
  simp[YW,hcell,cd7,eR]
theorem Mf{ns:List Int}{at0 n:Nat}(hns:ns.length<=63)(h1:1<=n)(hn:n<=7):∃ts W,YD [.cst (iL ns),.int (at0:Int),.int (n:Int)]=some (dP ts)/\Yz [dP ts,.int (n:Int)]=some (wP W)/\YH W/\W.length=n/\Iq W:=by
 obtain⟨ts,e,ok,hg⟩:=Me (at0:=at0) hns h1 hn
 exact⟨ts,MQ n ts,e,OT ok hn,(U9 ok).web h1 hn,(U9 ok).len,hg.conn ok⟩
theorem Jl{ns:List Int}{at0 n:Nat}(hns:ns.length<=63)(h1:1<=n)(hn:n<=7):∃ts W,YD [.cst (iL ns),.int (at0:Int),.int (n:Int)]=some (dP ts)/\Yz [dP ts,.int (n:Int)]=some (wP W)/\YH W/\W.length=n:=by
 obtain⟨ts,W,a,b,c,d,_⟩:=Mf (at0:=at0) hns h1 hn
 exact⟨ts,W,a,b,c,d⟩
theorem S9{W:List (List Int)}(ok:YH W){i:Nat}(hi:i<W.length):(Zu W i).sum=((List.range W.length).map fun j=>Xa W i j).sum:=by
 rw[<-MR (Zu W i),ok.sq i hi];rfl
theorem QY{W:List (List Int)}(ok:YH W):((WR W).length:Int)=((List.range W.length).map fun a=>((List.range (W.length-(a+1))).map fun j=>Xa W a (a+1+j)).sum).sum:=by
 have len_flat:∀(f:Nat->List (List Int))(n:Nat),(((List.range n).flatMap f).length:Int)=((List.range n).map fun i=>((f i).length:Int)).sum:=by
  intro f n
  induction n with
  | zero=>rfl
  | succ n ih=>rw[Wi,List.length_append,YI,<-ih];omega
 unfold WR;rw[len_flat]
 apply Xw
 intro a ha;unfold Vh;rw[len_flat]
 apply Xw
 intro j hj
 have:=ok.lo a (a+1+j) ha (by omega)
 unfold Xk
 rw[List.length_map,List.length_range];omega
theorem Mg{W:List (List Int)}(ok:YH W):((List.range W.length).map fun i=>(Zu W i).sum).sum=2*((WR W).length:Int):=by
 rw[QY ok,<-Nh (fun i j=>Xa W i j) W.length (fun i j hi hj=>ok.sym i j hi hj) (fun i hi=>ok.dia i hi)]
 apply Xw
 intro i hi
 exact S9 ok hi
theorem Uu{n m:Nat}{ix:List Nat}{fi:XL}{ft:XT}{fe:XE}{s:ZD}(g:Nat->Int)(hfi:fi s=some (Xr m))(hm:m<=1000)(h:∀i:Nat,i<m->∃s1,WG (.one 0) (.int (i:Int)) (ZM n ix s)=some s1/\ft s1=some true/\fe s1=some (.int (g i))) :
  ZG n ix fi (.one 0) ft fe s=some (.lst (iL ((List.range m).map g))):=by
 rw[YY (List.range m) (fun(i:Nat)=>.int (i:Int)) (fun i=>.int (g i)) hfi (by simp;omega) (fun i hi=>h i (List.mem_range.mp hi))]
 simp
theorem Pp{l:List Int}{h i:Nat}{v:Int}(hi:i<l.length):Zy (l.set h v) i=if i=h then v else Zy l i:=by
 unfold Zy;rw[List.getD_eq_getElem?_getD,List.getD_eq_getElem?_getD,List.getElem?_set]
 by_cases e:h=i
 ·subst e
  rw[if_pos rfl,if_pos rfl,if_pos hi];rfl
 ·rw[if_neg e,if_neg (Ne.symm e)]
theorem QZ(l:List Int)(k:Nat):Wz (iL l) none (some (k:Int))=iL (l.take k):=by
 unfold Wz;rw[HT.sIx_none,HT.sIx_nat,List.length_map,List.drop_zero,Nat.sub_zero,<-List.map_take]
 congr 1
 by_cases h:k<=l.length
 ·rw[Nat.min_eq_left h]
 ·rw[Nat.min_eq_right (by omega),List.take_of_length_le (Nat.le_refl _),List.take_of_length_le (by omega)]
theorem Jm(l:List Int)(k:Nat):Wz (iL l) (some (k:Int)) none=iL (l.drop k):=by
 unfold Wz;rw[HT.sIx_none,HT.sIx_nat,List.length_map,<-List.map_drop,<-List.map_take]
 congr 1
 by_cases h:k<=l.length
 ·rw[Nat.min_eq_left h,List.take_of_length_le (by rw[List.length_drop];omega)]
 ·rw[Nat.min_eq_right (by omega),List.drop_eq_nil_of_le (Nat.le_refl _),List.drop_eq_nil_of_le (by omega)];simp
theorem R7{l m:List Int}(h:l.Perm m):l.sum=m.sum:=by
 induction h with
 | nil=>rfl
 | cons x _ ih=>rw[List.sum_cons,List.sum_cons,ih]
 | swap x y l=>rw[List.sum_cons,List.sum_cons,List.sum_cons,List.sum_cons];omega
 | trans _ _ a b=>exact a.trans b
theorem TC{n:Nat}{ix:List Nat}{fi:XL}{ft:XT}{fe:XE}{s:ZD}{l:List Int}(g:Int->Int)(hfi:fi s=some (iL l))(hm:l.length<=1000)(h:∀x:Int,x∈l->∃s1,WG (.one 0) (.int x) (ZM n ix s)=some s1/\ft s1=some true/\fe s1=some (.int (g x))) :
  ZG n ix fi (.one 0) ft fe s=some (.lst (iL (l.map g))):=by
 rw[YY l (fun(x:Int)=>.int x) (fun x=>.int (g x)) hfi (by omega) (fun x hx=>h x hx)]
 simp
theorem So{n:Nat}{o:List Int}(nk:NamesOk n o){x:Int}(hx:x∈o):∃k:Nat,k<n/\x=(k:Int):=⟨x.toNat,by have:=nk.lo x hx;have:=nk.hi x hx;omega,by have:=nk.lo x hx;omega⟩
theorem XG{n:Nat}{o:List Int}(nk:NamesOk n o){j:Nat}(hj:j<n):(j:Int)∈o:=Jg nk.nd (fun _ hx=>So nk hx) nk.len hj
theorem V7{n:Nat}{o:List Int}(nk:NamesOk n o):Xd o=(List.range n).map fun(i:Nat)=>(i:Int):=by
 refine(RO ?_ ?_).symm
 ·have nd:((List.range n).map fun(i:Nat)=>(i:Int)).Nodup:=by
   refine List.Pairwise.map _ (fun a b h=>?_) (List.nodup_range (n:=n))
   omega
  rw[List.perm_iff_count];intro a;rw[nd.count,nk.nd.count]
  congr 1
  refine propext ⟨fun h=>?_,fun h=>?_⟩
  ·obtain⟨k,hk,rfl⟩:=List.mem_map.mp h
   exact XG nk (List.mem_range.mp hk)
  ·obtain⟨k,hk,rfl⟩:=So nk h
   exact List.mem_map.mpr ⟨k,List.mem_range.mpr hk,rfl⟩
 ·refine List.Pairwise.map _ (fun a b h=>?_) (List.pairwise_lt_range (n:=n))
  omega
theorem Mh{ns:List Int}{at0 n:Nat}(hns:ns.length<=63)(hn:n<=7):∃o,Y0 [.cst (iL ns),.int (at0:Int),.int (n:Int)]=some (.lst (iL o))/\NamesOk n o:=by
 obtain⟨s1,h1,x1,o,e1,nk⟩:=ZR (T:=.one 4) (fb:=Xt 3 (Zi Yt (Zf Zn [(Za 0),(Zi ZO (Za 1) (Za 4))]) (Zi ZO (Za 4) (eC (.int 1)))) (Za 4)) (ls:=Xr n) (s:=[some (.cst (iL ns)),some (.int (at0:Int)),some (.int (n:Int)),some (.lst []),none])
  (fun i st=>∃(x:Option PV) (l:List Int),st=[some (.cst (iL ns)),some (.int (at0:Int)),some (.int (n:Int)),some (.lst (iL l)),x]/\NamesOk i l) ⟨none,[],rfl,NamesOk.nil⟩ (fun i l st hl hJ=>by
   obtain⟨hi,rfl⟩:=Wd hl
   obtain⟨x,nl,rfl,nk⟩:=hJ
   generalize hc:Zy ns (at0+i)=c'
   have q:Zn [PV.cst (ns.map PV.int),PV.int ((at0:Int)+(i:Int))]=some (PV.int c'):=by
    have:=V5 hns (at0+i)
    rw[hc,show((at0+i:Nat):Int)=(at0:Int)+(i:Int) by omega] at this;exact this
   have hd:0<(i:Int)+1:=by omega
   have hm0:=Int.emod_nonneg c' (show(i:Int)+1≠0 by omega)
   have hm1:=Int.emod_lt_of_pos c' hd
   refine⟨_,_,rfl,?_,some (.int (i:Int)),nl.take (c'%((i:Int)+1)).toNat++(i:Int)::nl.drop (c'%((i:Int)+1)).toNat,rfl,nk.ins _⟩
   show Xt 3 _ _ [some (.cst (iL ns)),some (.int (at0:Int)),some (.int (n:Int)),some (.lst (iL nl)),some (.int (i:Int))]=_
   rw[Tt (k:=c'%((i:Int)+1)) (l:=.int (i:Int)) (m:=iL nl) (by simp[hd,q]) rfl rfl (Yi nl) rfl hm0 (by omega) (by rw[List.length_map,nk.len];omega),N9]
   simp)
 rw[We] at nk;subst e1
 have r1:ZI [(Za 2)] (ZH [3] [some (.cst (iL ns)),some (.int (at0:Int)),some (.int (n:Int)),some (.lst []),none])=some (Xr n):=Z0 (by simp[ZH]) (by omega)
 refine⟨o,?_,nk⟩
 show X8 5 Va [.cst (iL ns),.int (at0:Int),.int (n:Int)]=_
 unfold Va;simp only[X8,ZV,List.map_cons,List.map_nil,List.length_cons,List.length_nil]
 have e0:Zo 3 (ZC []) [some (.cst (iL ns)),some (.int (at0:Int)),some (.int (n:Int)),none,none]=some (.nx [some (.cst (iL ns)),some (.int (at0:Int)),some (.int (n:Int)),some (.lst []),none]):=by simp
 show(Zm (Zo 3 (ZC [])) _ [some (.cst (iL ns)),some (.int (at0:Int)),some (.int (n:Int)),none,none]).bind X6=_
 rw[Y2 e0,ZP,Yg,r1];simp only[Option.bind_some];rw[h1]
 simp
def ZB(W:List (List Int))(o:List Int)(h:Nat):Int:=((o.take ((UE (h:Int) o).getD 0)).map fun x=>Xa W h x.toNat).sum
theorem Ra{n:Nat}{r:List Int}(hr:r.length=n){x:Int}(h0:0<=x)(h1:x<n):WT (iL r) x=some (.int (Zy r x.toNat)):=by
 have:=WN (l:=r) (k:=x.toNat) (by omega)
 rw[show((x.toNat:Nat):Int)=x by omega] at this;exact this
theorem R8(o:List Int)(h:Int):XN (.lst (iL o)) (.int h)=(UE h o).map fun(j:Nat)=>PV.int (j:Int):=by
 show(Ys (iL o)).bind _=_
 rw[Z6];rfl
theorem Q0{n:Nat}{W:List (List Int)}{o:List Int}{h j:Nat}{s:ZD}{a b c:Nat}(ok:YH W)(hW:W.length=n)(nk:NamesOk n o)(hh:h<n)(hj:UE (h:Int) o=some j)
  (ho:s[b]?=some (some (.lst (iL o)))) (hw:s[a]?=some (some (wP W))) (hc:s[c]?=some (some (.int (h:Int)))) :
  ZG 1 [a,c] (VG (Vq YT (Za b) Uc (WH (Zi XN (Za b) (Za c))))) (.one 0) ZQ (Zi Yb (Zi Yb (Za 1) (Za 2)) (Za 0)) s=some (.lst (iL ((o.take j).map fun x=>Xa W h x.toNat))):=by
 have hf:=ok.few;have hl:=nk.len
 refine TC (l:=o.take j) (fun x=>Xa W h x.toNat) ?_ (by rw[List.length_take];omega) fun x hx=>⟨[some (.int x),some (wP W),some (.int (h:Int))],?_,rfl,?_⟩
 ·simp only[NK,UQ,YQ,ho,hc,Option.join_some,Option.bind_some,UR,WH,Yl,R8,hj,Option.map_some,YT,QZ,NL]
 ·simp[ZM,WG,hw,hc]
 ·have hm:=List.mem_of_mem_take hx
  have h0:=nk.lo x hm;have h1:=nk.hi x hm
  have e:WT (iL (Zu W h)) x=some (.int (Xa W h x.toNat)):=Ra (ok.sq h (by omega)) h0 (by omega)
  simp[SW (show h<W.length by omega),e]
theorem Mi{n:Nat}{W:List (List Int)}{o:List Int}{h:Nat}(ok:YH W)(hW:W.length=n)(nk:NamesOk n o)(hh:h<n):Yo [wP W,.lst (iL o),.int (h:Int)]=some (.int (ZB W o h)):=by
 obtain⟨j,hj⟩:=S2 (XG nk hh)
 have c:=Q0 (s:=[some (wP W),some (.lst (iL o)),some (.int (h:Int))]) (a:=0) (b:=1) (c:=2) ok hW nk hh hj rfl rfl rfl
 have e:ZB W o h=((o.take j).map fun x=>Xa W h x.toNat).sum:=by unfold ZB;rw[hj];rfl
 rw[e]
 generalize (o.take j).map (fun x=>Xa W h x.toNat)=L at c
 simp[Yo,Wv,X8,ZV,c]
def XU(W:List (List Int))(o:List Int)(n:Nat):List Int:=(List.range n).map fun h=>ZB W o h-1
theorem Sq{o:List Int}(h:o.length<64):Xv [.lst (iL o)]=some (.lst (iL (Xd o))):=by
 show(Ys (iL o)).bind _=_
 rw[Z6];simp only[Option.bind_some];rw[if_pos h]
theorem WS{n:Nat}{W:List (List Int)}{o:List Int}(ok:YH W)(hW:W.length=n)(nk:NamesOk n o):Zt [wP W,.lst (iL o)]=some (pP (XU W o n)):=by
 have hf:=ok.few;have hl:=nk.len
 have gs:=Sq (o:=o) (by omega)
 rw[V7 nk] at gs
 have gr:YZ (.int (n:Int))=some (.lst (iL ((List.range n).map fun(i:Nat)=>(i:Int)))):=by
  unfold YZ
  simp only
  rw[if_pos ⟨by omega,by omega⟩,Int.toNat_natCast]
 have c:ZG 1 [0,1] (ZI [(Zf X5 [(Za 0)])]) (.one 0) ZQ (Zi YJ (Zf Yo [(Za 1),(Za 2),(Za 0)]) (eC (.int 1))) [some (wP W),some (.lst (iL o))]=some (.lst (iL (XU W o n))):=by
  refine Uu (fun h=>ZB W o h-1) (Z0 (by simp[hW]) (by omega)) (by omega) fun i hi=>⟨_,rfl,rfl,?_⟩
  simp[ZM,Mi ok hW nk hi]
 generalize hr:(List.range n).map (fun(i:Nat)=>(i:Int))=rl at gs gr
 have e1:UO (xB (Zi (Xq true) (Zf Xv [(Za 1)]) (TM YZ (Zf X5 [(Za 0)])))) Vp Z8 [some (wP W),some (.lst (iL o))]=some (.nx [some (wP W),some (.lst (iL o))]):=by
  simp[gs,gr,hW]
 show X8 2 Y6 [wP W,.lst (iL o)]=_
 unfold Y6
 show(Zm _ _ [some (wP W),some (.lst (iL o))]).bind X6=_
 rw[Y2 e1];simp[c]
end PW
namespace PW
open L2 VL VX
theorem Lx:Wf [.exc "NoOrder"]=some (.int 3):=by
 have t:∀cx:PySem.Str,Yn (Ud cx) (Za 0) [some (.exc "NoOrder"),none]=some (.bl (decide (cx = "NoOrder"))):=fun cx=>by
  simp[Yn,Ud]
 have t':∀(cx:PySem.Str)(x:Option PV),Yn (Ud cx) (Za 0) [some (.exc "NoOrder"),x]=some (.bl (decide (cx = "NoOrder"))):=fun cx x=>by
  simp[Yn,Ud]
 have v':∀(x:Option PV),Yn Jx (Za 0) [some (.exc "NoOrder"),x]=some (.bl true):=fun x=>by
  simp[Yn,Jx]
 have e1:Zo 1 (ZC [(eP (Yn (Ud "NoWeb") (Za 0))),(eP (Yn (Ud "Apart") (Za 0))),(eP (Yn (Ud "NoText") (Za 0))),(eP (Yn (Ud "NoOrder") (Za 0)))]) [some (.exc "NoOrder"),none]=some (.nx [some (.exc "NoOrder"),some (.lst (bL [false,false,false,true]))]):=by
  rw[Z9];simp only[ZC,Ub,Vn,t',Option.bind_some,ZL,if_true,Option.map_some];rfl
 have e2:Zo 1 (Zi ZJ (Za 1) (ZC [(Yn (Ud "TooMany") (Za 0)),(Yn (Ud "NotSettled") (Za 0)),(Yn (Ud "NoTree") (Za 0))])) [some (.exc "NoOrder"),some (.lst (bL [false,false,false,true]))]=some (.nx [some (.exc "NoOrder"),some (.lst (bL [false,false,false,true,false,false,false]))]):=by
  rw[Z9,Yl];simp only[ZC,Ub,t',Option.bind_some,Option.map_some,YQ];rfl
 have e3:Zo 1 (Zi ZJ (Za 1) (ZC [(Yn (Ud "NoTotal") (Za 0)),(Yn (Ud "NoEnds") (Za 0)),(Yn (Ud "NoRow") (Za 0)),(Yn (Ud "NoName") (Za 0))])) [some (.exc "NoOrder"),some (.lst (bL [false,false,false,true,false,false,false]))]=some (.nx [some (.exc "NoOrder"),some (.lst (bL [false,false,false,true,false,false,false,false,false,false,false]))]):=by
  rw[Z9,Yl];simp only[ZC,Ub,t',Option.bind_some,Option.map_some,YQ];rfl
 have c:Zi V2 (Za 1) (eC (.bl true)) [some (.exc "NoOrder"),some (.lst (bL [false,false,false,true,false,false,false,false,false,false,false]))]=some (.int 1):=rfl
 have x:Zi UU (Za 1) (eC (.bl true)) [some (.exc "NoOrder"),some (.lst (bL [false,false,false,true,false,false,false,false,false,false,false]))]=some (.int 3):=rfl
 have e4:UO (OY (Qp (xB (Yn Jx (Za 0)))) (xB (Zi (Xq true) (Zi V2 (Za 1) (eC (.bl true))) (eC (.int 1))))) (YU (eP (TM Td (eC (.int 1))))) Z8 [some (.exc "NoOrder"),some (.lst (bL [false,false,false,true,false,false,false,false,false,false,false]))]=some (.nx [some (.exc "NoOrder"),some (.lst (bL [false,false,false,true,false,false,false,false,false,false,false]))]):=by
  rw[Xu,Lf,NF,X7,v'];simp only[Option.bind_some,La,Option.map_some,Bool.not_true,Bool.false_eq_true,if_false];rw[X7,Yl,c]
  simp
 show X8 2 V4 _=_
 unfold V4
 show(Zm _ _ [some (.exc "NoOrder"),none]).bind X6=_
 rw[Y2 e1,Y2 e2,Y2 e3,Y2 e4,VR,Vn,x];rfl
theorem Q1{W:List (List Int)}{l:List Int}(hW:W.length<=7)(hl:l.length<64)(hs:∀i∈l,i.natAbs.log2<1920)(hne:Xd l≠(List.range W.length).map fun(i:Nat)=>(i:Int)):Yh [wP W,.lst (iL l)]=some (.bl true):=by
 have gs:=Sq (o:=l) hl
 have gr:YZ (.int (W.length:Int))=some (.lst (iL ((List.range W.length).map fun(i:Nat)=>(i:Int)))):=by
  unfold YZ
  simp only
  rw[if_pos ⟨by omega,by omega⟩,Int.toNat_natCast]
 have hR:ZK [wP W,.lst (iL l)]=some ("NoOrder" : PySem.Str):=by
  have hc:xB (Zi (Xq true) (Zf Xv [(Za 1)]) (TM YZ (Zf X5 [(Za 0)]))) [some (wP W),some (.lst (iL l))]=some true:=by
   have a1:Zf Xv [(Za 1)] [some (wP W),some (.lst (iL l))]=some (.lst (iL (Xd l))):=by rw[Ym];exact gs
   have a2:TM YZ (Zf X5 [(Za 0)]) [some (wP W),some (.lst (iL l))]=some (.lst (iL ((List.range W.length).map fun(i:Nat)=>(i:Int)))):=by
    show YZ (.int (((W.map pP).length:Nat):Int))=_
    rw[List.length_map];exact gr
   rw[X7,Yl,a1,a2];simp only[Option.bind_some]
   generalize (List.range W.length).map (fun(i:Nat)=>(i:Int))=r at hne
   generalize Xd l=m at hne
   have inj:∀a b:List Int,PV.lst (iL a)=PV.lst (iL b)->a=b:=fun a b h=>by
    have h':=PV.lst.inj h
    have:Ys (iL a)=Ys (iL b):=by rw[h']
    rw[Z6,Z6] at this
    exact Option.some.inj this
   have hd:decide (PV.lst (iL m)=PV.lst (iL r))=false:=decide_eq_false fun z=>hne (inj m r z)
   unfold Xq;rw[if_pos (SY 6 m r)];simp[hd]
   try exact fun z=>hne (inj m r (by rw[z]))
  have hm:QF "NoOrder" (Za 1) [some (wP W),some (.lst (iL l))]=some ("NoOrder" : PySem.Str):=by
   unfold QF
   show(match Ys (iL l) with | some is=>_ | none=>none)=_
   rw[Z6]
   simp only
   rw[if_pos ⟨by omega,hs⟩]
  unfold ZK Io
  show QG _ _ _ [some (wP W),some (.lst (iL l))]=_
  unfold QG Il;rw[hc];simp only[Option.bind_some,if_true];rw[hm]
 have e1:Zo 2 (Zf WF [(Za 1)]) [some (wP W),some (.lst (iL l)),none,none,none]=some (.nx [some (wP W),some (.lst (iL l)),some (.lst (iL l)),none,none]):=by simp
 have e2:Zo 3 (eP (eC .non)) [some (wP W),some (.lst (iL l)),some (.lst (iL l)),none,none]=some (.nx [some (wP W),some (.lst (iL l)),some (.lst (iL l)),some .non,none]):=rfl
 have e3:NX ZK [(Za 0),(Za 2)] 4 (Zo 3 (eP (Za 4))) [some (wP W),some (.lst (iL l)),some (.lst (iL l)),some .non,none]=some (.nx [some (wP W),some (.lst (iL l)),some (.lst (iL l)),some (.exc "NoOrder"),none]):=by
  unfold NX
  show(ZK [wP W,.lst (iL l)]).bind _=_
  rw[hR];rfl
 have a1:SK true (Za 3) [some (wP W),some (.lst (iL l)),some (.lst (iL l)),some (.exc "NoOrder"),none]=some (.bl true):=rfl
 have a2:Zi (Xq false) (Zf Wf [(Za 3)]) (eC (.int 3)) [some (wP W),some (.lst (iL l)),some (.lst (iL l)),some (.exc "NoOrder"),none]=some (.bl true):=by
  have:Zf Wf [(Za 3)] [some (wP W),some (.lst (iL l)),some (.lst (iL l)),some (.exc "NoOrder"),none]=some (.int 3):=by
   rw[Ym];exact Lx
  rw[Yl,this]
  simp
 have a3:Zi (Xq false) (Za 2) (Za 1) [some (wP W),some (.lst (iL l)),some (.lst (iL l)),some (.exc "NoOrder"),none]=some (.bl true):=by
  show Xq false (.lst (iL l)) (.lst (iL l))=_
  unfold Xq;rw[if_pos (SY 6 l l)]
  simp
 show X8 5 X4 _=_
 unfold X4
 show(Zm _ _ [some (wP W),some (.lst (iL l)),none,none,none]).bind X6=_
 rw[Y2 e1,Y2 e2,Y2 e3,VR,Vn,Ts,X7,a1];simp only[Option.bind_some,La,if_true];rw[Ts,X7,a2];simp only[Option.bind_some,La,if_true];rw[a3];rfl
theorem Jn{n:Nat}{W:List (List Int)}{o:List Int}(ok:YH W)(hW:W.length=n)(nk:NamesOk n o):V3 [wP W,.lst (iL o)]=some (pP (XU W o n)):=by
 have hf:=ok.few;have hl:=nk.len
 let S:Nat->Option PV->Option PV->ZD:=fun i x y=>[some (wP W),some (.lst (iL o)),some (.lst (iL ((List.range i).map fun h=>ZB W o h-1))),x,y]
 obtain⟨s',f,x,y,hs⟩:=ZR (T:=.one 3) (fb:=Zm (Zo 4 (Vq VH (Za 1) Uc (WH (Zi XN (Za 1) (Za 3)))))
  (Yv 2 (eP (Zi YJ (Zf Vk [(ZG 1 [0,3] (VG (Za 4)) (.one 0) ZQ (Zi Yb (Zi Yb (Za 1) (Za 2)) (Za 0)))]) (eC (.int 1)))))) (ls:=Xr n) (s:=S 0 none none)
  (fun i st=>∃x y,st=S i x y) ⟨none,none,rfl⟩ (by
   rintro i l st hl' ⟨x,y,rfl⟩
   obtain⟨hi,rfl⟩:=Wd hl'
   obtain⟨j,hj⟩:=S2 (XG nk hi)
   refine⟨S i (some (.int (i:Int))) y,S (i+1) (some (.int (i:Int))) (some (.lst (iL (o.take j)))),rfl,?_,_,_,rfl⟩
   have b1:Zo 4 (Vq VH (Za 1) Uc (WH (Zi XN (Za 1) (Za 3)))) (S i (some (.int (i:Int))) y)=some (.nx (S i (some (.int (i:Int))) (some (.lst (iL (o.take j)))))):=by
    rw[Z9]
    have:Vq VH (Za 1) Uc (WH (Zi XN (Za 1) (Za 3))) (S i (some (.int (i:Int))) y)=some (.lst (iL (o.take j))):=by
     have g:Zi XN (Za 1) (Za 3) (S i (some (.int (i:Int))) y)=some (.int (j:Int)):=by
      show XN (.lst (iL o)) (.int (i:Int))=_
      rw[R8,hj];rfl
     simp only[UQ,YQ,UR,WH,g,Option.bind_some]
     show(VH (.lst (iL o)) none (some (j:Int)))=_
     unfold VH;simp[QZ]
    rw[this];rfl
   rw[Y2 b1]
   have k:ZG 1 [0,3] (VG (Za 4)) (.one 0) ZQ (Zi Yb (Zi Yb (Za 1) (Za 2)) (Za 0)) (S i (some (.int (i:Int))) (some (.lst (iL (o.take j)))))=some (.lst (iL ((o.take j).map fun x=>Xa W i x.toNat))):=by
    refine TC (l:=o.take j) (fun x=>Xa W i x.toNat) rfl (by rw[List.length_take];omega) fun x hx=>⟨[some (.int x),some (wP W),some (.int (i:Int))],rfl,rfl,?_⟩
    have hm:=List.mem_of_mem_take hx;have h0:=nk.lo x hm;have h1:=nk.hi x hm
    have e:WT (iL (Zu W i)) x=some (.int (Xa W i x.toNat)):=Ra (ok.sq i (by omega)) h0 (by omega)
    simp[SW (show i<W.length by omega),e]
   have ea:ZB W o i=((o.take j).map fun x=>Xa W i x.toNat).sum:=by unfold ZB;rw[hj];rfl
   have v:eP (Zi YJ (Zf Vk [(ZG 1 [0,3] (VG (Za 4)) (.one 0) ZQ (Zi Yb (Zi Yb (Za 1) (Za 2)) (Za 0)))]) (eC (.int 1))) (S i (some (.int (i:Int))) (some (.lst (iL (o.take j)))))=some (.int (ZB W o i-1)):=by
    rw[ea]
    generalize (o.take j).map (fun x=>Xa W i x.toNat)=L at k
    rw[Vn,Yl,Ym,ZT,k]
    simp
   rw[Vo (m:=iL ((List.range i).map fun h=>ZB W o h-1)) (l:=.int (ZB W o i-1)) v rfl (by simp;omega)]
   simp[S,List.range_succ])
 rw[We] at hs
 have e1:Zo 2 (ZC []) [some (wP W),some (.lst (iL o)),none,none,none]=some (.nx (S 0 none none)):=rfl
 show X8 5 UV _=_
 unfold UV
 show(Zm _ _ [some (wP W),some (.lst (iL o)),none,none,none]).bind X6=_
 rw[Y2 e1,ZP,Yg,Z0 (n:=n) (by simp[ZH,S,hW]) (by omega)]
 simp only[Option.bind_some];rw[f,hs]
 have gt:Zf Xh [(Za 2)] (S n x y)=some (pP (XU W o n)):=by
  rw[Ym]
  show Xh [.lst (iL (XU W o n))]=_
  generalize XU W o n=L
  simp
 show(YU (eP (Zf Xh [(Za 2)])) (S n x y)).bind X6=_
 rw[VR,Vn,gt]
 generalize XU W o n=L
 simp
theorem Sr{n:Nat}{l:List Int}(h:l.length≠n\/(∃x∈l,x<0\/(n:Int)<=x)\/¬l.Nodup):Xd l≠(List.range n).map fun(i:Nat)=>(i:Int):=fun e=>by
 have p:=Wu l;rw[e] at p
 rcases h with h | ⟨x,hx,h⟩ | h
 ·exact h (by have:=p.length_eq;simp at this;exact this.symm)
 ·have:=p.mem_iff.mpr hx
  obtain⟨i,hi,rfl⟩:=List.mem_map.mp this
  have:=List.mem_range.mp hi
  omega
 ·exact h (p.nodup_iff.mp (List.Pairwise.map _ (fun a b z=>by omega) List.nodup_range))
theorem Ly{o:List Int}{k:Nat}(hk:k<o.length)(x:Int):o.take k++[x]++o.drop (k+1)=o.set k x:=by
 rw[List.set_eq_take_append_cons_drop,if_pos hk]
 simp
theorem Ix{n:Nat}{o:List Int}(nk:NamesOk n o){k m:Nat}(hk:k<n)(hm:m<n)(hne:o[m]?≠o[k]?):¬(o.set k (Zy o m)).Nodup:=fun nd=>by
 have hl:=nk.len
 have hmk:m≠k:=fun z=>hne (by rw[z])
 have a:(o.set k (Zy o m))[k]?=some (Zy o m):=by rw[List.getElem?_set_self (by omega)]
 have b:(o.set k (Zy o m))[m]?=some (Zy o m):=by
  rw[List.getElem?_set_ne (Ne.symm hmk),List.getElem?_eq_getElem (by omega)];unfold Zy
  rw[List.getD_eq_getElem?_getD,List.getElem?_eq_getElem (by omega)];rfl
 have:=(List.getElem?_inj (by rw[List.length_set];omega) nd).mp (a.trans b.symm)
 exact hmk this.symm
theorem Q2{n:Nat}{W:List (List Int)}{x:Int}{r:List Int}(nk:NamesOk n (x::r)):ZB W (x::r) x.toNat=0:=by
 have h0:=nk.lo x (by simp)
 unfold ZB
 have:UE ((x.toNat:Nat):Int) (x::r)=some 0:=by
  unfold UE;rw[if_pos (by omega)]
 rw[this];rfl
theorem Ss{n:Nat}{o:List Int}(nk:NamesOk n o):NamesOk n o.reverse:=⟨by rw[List.length_reverse];exact nk.len,(List.reverse_perm o).nodup_iff.mpr nk.nd,fun x h=>nk.lo x (List.mem_reverse.mp h),fun x h=>nk.hi x (List.mem_reverse.mp h)⟩
theorem V8{h:Int}:∀{o:List Int},h∈o->∃A B,o=A++h::B/\h∉A/\UE h o=some A.length
 | x::r,hm=>by
  by_cases e:x=h
  ·subst e;exact⟨[],r,rfl,by simp,by unfold UE;rw[if_pos rfl];rfl⟩
  ·have hr:h∈r:=by
    rcases List.mem_cons.mp hm with z | z
    ·exact absurd z.symm e
    ·exact z
   obtain⟨A,B,q,hA,hi⟩:=V8 hr
   refine⟨x::A,B,by rw[q];rfl,fun z=>?_,?_⟩
   ·rcases List.mem_cons.mp z with z | z
    ·exact e z.symm
    ·exact hA z
   ·unfold UE;rw[if_neg e,hi];rfl
theorem OV{n:Nat}{W:List (List Int)}{o:List Int}(ok:YH W)(hW:W.length=n)(nk:NamesOk n o){h:Nat}(hh:h<n):ZB W o h+ZB W o.reverse h=(Zu W h).sum:=by
 obtain⟨A,B,q,hA,hi⟩:=V8 (XG nk hh)
 obtain⟨A',B',q',hA',hi'⟩:=V8 (XG (Ss nk) hh)
 have hrev:o.reverse=B.reverse++(h:Int)::A.reverse:=by rw[q];simp
 have hB:(h:Int)∉B:=fun z=>by
  have:=nk.nd
  rw[q,List.nodup_append] at this
  exact(List.nodup_cons.mp this.2.1).1 z
 have hi2:UE (h:Int) o.reverse=some B.length:=by
  have gen:∀(P:List Int)(R:List Int),(h:Int)∉P->UE (h:Int) (P++(h:Int)::R)=some P.length:=by
   intro P R
   induction P with
   | nil=>intro _;show UE _ ((h:Int)::R)=_;unfold UE;rw[if_pos rfl];rfl
   | cons x P ih=>
    intro hx
    show UE _ (x::(P++(h:Int)::R))=_
    unfold UE
    rw[if_neg (fun z=>hx (by rw[z];simp)),ih (fun z=>hx (by simp[z]))];rfl
  rw[hrev,gen _ _ (fun z=>hB (List.mem_reverse.mp z)),List.length_reverse]
 have e1:ZB W o h=(A.map fun x=>Xa W h x.toNat).sum:=by
  unfold ZB;rw[hi];show((o.take A.length).map _).sum=_;rw[q];simp
 have e2:ZB W o.reverse h=(B.map fun x=>Xa W h x.toNat).sum:=by
  unfold ZB;rw[hi2]
  show((o.reverse.take B.length).map _).sum=_
  rw[hrev]
  have:(B.reverse++(h:Int)::A.reverse).take B.length=B.reverse:=by
   rw[<-List.length_reverse (as:=B),List.take_left]
  rw[this,List.map_reverse]
  exact R7 (List.reverse_perm _)
 have perm:o.Perm ((List.range n).map fun(i:Nat)=>(i:Int)):=by
  have:=Wu o
  rw[V7 nk] at this;exact this.symm
 have s1:(o.map fun x=>Xa W h x.toNat).sum=(Zu W h).sum:=by
  rw[R7 (perm.map _),List.map_map,S9 ok (by omega),hW];rfl
 rw[q] at s1;simp only[List.map_append,List.map_cons,List.sum_append,List.sum_cons,Int.toNat_natCast,ok.dia h (by omega)] at s1;rw[e1,e2];omega
end PW
namespace PW
open L2 VL
def nL(l:List Nat):List Int:=l.map fun(i:Nat)=>(i:Int)
def Z3(W:List (List Int))(h:Nat)(F:List Nat):Int:=(F.map fun o=>Xa W h o).sum
end PW
namespace PW
def sN:Nat->(Nat->Int)->Int
 | 0,_=>0
 | n+1,f=>sN n f+f n
theorem YS{f g:Nat->Int}:∀{n:Nat},(∀i,i<n->f i=g i)->sN n f=sN n g
 | 0,_=>rfl
 | n+1,h=>by
  show sN n f+f n=sN n g+g n
  rw[YS fun i hi=>h i (by omega),h n (by omega)]
theorem PN{f:Nat->Int}{n:Nat}(h:∀i,i<n->f i=0):sN n f=0:=by
 rw[YS (g:=fun _=>0) h]
 clear h
 induction n with
 | zero=>rfl
 | succ n ih=>show sN n _+0=0;rw[ih];rfl
theorem Mj(f g:Nat->Int):∀n,sN n (fun i=>f i+g i)=sN n f+sN n g
 | 0=>rfl
 | n+1=>by
  show sN n _+(f n+g n)=(sN n f+f n)+(sN n g+g n)
  rw[Mj f g n];omega
theorem PP{f:Nat->Int}{k:Nat}:∀{n:Nat},k<n->(∀i,i<n->i≠k->f i=0)->sN n f=f k
 | 0,h,_=>by omega
 | n+1,h,z=>by
  show sN n f+f n=f k
  by_cases q:k=n
  ·subst q
   rw[PN fun i hi=>z i (by omega) (by omega)];omega
  ·rw[PP (n:=n) (by omega) fun i hi=>z i (by omega),z n (by omega) (by omega)];omega
theorem UX(f:Nat->Int)(n:Nat):((List.range n).map f).sum=sN n f:=by
 induction n with
 | zero=>rfl
 | succ n ih=>rw[List.range_succ,List.map_append,List.sum_append,ih];simp[sN]
abbrev Mt:=Nat->Nat->Int
def HG(i:Nat)(A:Mt):Mt:=fun r c=>A (if r<i then r else r+1) (c+1)
open L2 VL
def Uv(w:Nat)(f:Nat->Int):List Int:=(List.range w).map f
theorem V9{n:Nat}{f:Nat->Int}:∀{l:List Nat},l.Nodup->(∀x∈l,x<n)->(l.map f).sum=sN n (fun g=>if g∈l then f g else 0)
 | [],_,_=>by rw[PN fun i _=>by simp];rfl
 | a::r,nd,lt=>by
  rw[List.nodup_cons] at nd;rw[List.map_cons,List.sum_cons,V9 nd.2 fun x hx=>lt x (List.mem_cons_of_mem _ hx)]
  have:f a=sN n (fun g=>if g=a then f a else 0):=by
   rw[PP (k:=a) (lt a List.mem_cons_self) fun i _ hi=>if_neg hi,if_pos rfl]
  rw[this,<-Mj]
  refine YS fun g hg=>?_
  by_cases q:g=a
  ·subst q
   rw[if_pos List.mem_cons_self,if_pos rfl,if_neg nd.1];omega
  ·by_cases q2:g∈r
   ·rw[if_pos (List.mem_cons_of_mem _ q2),if_neg q,if_pos q2];omega
   ·rw[if_neg (fun z=>(List.mem_cons.mp z).elim q q2),if_neg q,if_neg q2];rfl
def Jo(W:List (List Int)):Int:=sN W.length (fun a=>sN W.length (fun b=>Xa W a b))
theorem UB(W:List (List Int))(h x:Nat)(l:List Nat):Z3 W h (l++[x])=Z3 W h l+Xa W h x:=by
 unfold Z3;rw[List.map_append,List.sum_append];simp
theorem OW{W:List (List Int)}(ok:YH W){G:List Nat}(lt:∀x∈G,x<W.length):∀k,k<=G.length->2*sN k (fun j=>Z3 W (G.getD j 0) (G.take j))=((G.take k).map fun a=>Z3 W a (G.take k)).sum:=by
 intro k
 induction k with
 | zero=>intro _;rfl
 | succ k ih=>
  intro hk
  have e:=ih (by omega)
  have hx:G[k]?=some (G.getD k 0):=by rw[List.getD_eq_getElem?_getD,List.getElem?_eq_getElem (by omega)];rfl
  generalize G.getD k 0=x at hx
  have hxl:x<W.length:=lt x (List.mem_of_getElem? hx)
  have ht:G.take (k+1)=G.take k++[x]:=by rw[List.take_succ,hx];rfl
  have hgx:G.getD k 0=x:=by rw[List.getD_eq_getElem?_getD,hx];rfl
  show 2*(sN k (fun j=>Z3 W (G.getD j 0) (G.take j))+Z3 W (G.getD k 0) (G.take k))=_
  rw[Int.mul_add,e,hgx,ht,List.map_append,List.sum_append]
  have lt':∀a∈G.take k,a<W.length:=fun a ha=>lt a (List.mem_of_mem_take ha)
  generalize G.take k=P at lt' ⊢
  have e1:(P.map fun a=>Z3 W a (P++[x])).sum=(P.map fun a=>Z3 W a P).sum+Z3 W x P:=by
   have:∀Q:List Nat,(∀a∈Q,a<W.length)->(Q.map fun a=>Z3 W a (P++[x])).sum=(Q.map fun a=>Z3 W a P).sum+Z3 W x Q:=by
    intro Q
    induction Q with
    | nil=>intro _;rfl
    | cons a r ih2=>
     intro hQ;rw[List.map_cons,List.map_cons,List.sum_cons,List.sum_cons,ih2 fun y hy=>hQ y (List.mem_cons_of_mem _ hy),UB]
     have:Z3 W x (a::r)=Xa W x a+Z3 W x r:=by unfold Z3;rw[List.map_cons,List.sum_cons]
     rw[this,ok.sym a x (hQ a List.mem_cons_self) hxl];omega
   exact this P lt'
  rw[e1];simp only[List.map_cons,List.map_nil,List.sum_cons,List.sum_nil]
  rw[UB,ok.dia x hxl];omega
theorem Q3{W:List (List Int)}(ok:YH W){G:List Nat}(nd:G.Nodup)(lt:∀x∈G,x<W.length)(all:∀h,h<W.length->h∈G):2*sN G.length (fun j=>Z3 W (G.getD j 0) (G.take j))=Jo W:=by
 rw[OW ok lt G.length (Nat.le_refl _),List.take_length,V9 (n:=W.length) nd lt]
 refine YS fun a ha=>?_
 rw[if_pos (all a ha)];unfold Z3;rw[V9 (n:=W.length) nd lt]
 exact YS fun b hb=>if_pos (all b hb)
theorem OX{n:Nat}{G:List Nat}(nd:G.Nodup)(lt:∀x∈G,x<n)(all:∀h,h<n->h∈G):G.length=n:=by
 have h1:=V9 (n:=n) (f:=fun _=>1) nd lt
 rw[YS (g:=fun _=>1) fun i hi=>if_pos (all i hi)] at h1
 have h2:∀n,sN n (fun _=>(1:Int))=(n:Int):=fun n=>by
  induction n with
  | zero=>rfl
  | succ n ih=>show sN n _+1=_;rw[ih];omega
 have h3:∀l:List Nat,(l.map fun _=>(1:Int)).sum=(l.length:Int):=fun l=>by
  induction l with
  | nil=>rfl
  | cons a r ih=>rw[List.map_cons,List.sum_cons,ih,List.length_cons];omega
 rw[h2,h3] at h1;omega
theorem Q4{n:Nat}{G:List Nat}(nd:G.Nodup)(lt:∀x∈G,x<n)(all:∀h,h<n->h∈G)(f:Nat->Int):sN n f=sN n (fun j=>f (G.getD j 0)):=by
 have h1:=V9 (n:=n) (f:=f) nd lt
 rw[YS (g:=f) fun i hi=>if_pos (all i hi)] at h1;rw[<-h1,<-UX];have hl:=OX nd lt all
 congr 1
 refine List.ext_getElem (by simp[hl]) fun i h1 h2=>?_
 simp at h1
 simp[List.getD_eq_getElem?_getD,List.getElem?_eq_getElem h1]
end PW
namespace PW
open L2 VL VX
theorem Lz{n:Nat}{W:List (List Int)}{o:List Int}(ok:YH W)(hW:W.length=n)(nk:NamesOk n o):(XU W o n).sum=((WR W).length:Int)-(n:Int):=by
 subst hW
 generalize hG:o.map Int.toNat=G
 have hl:=nk.len
 have nd:G.Nodup:=by
  rw[<-hG];unfold List.Nodup;rw[List.pairwise_map]
  refine List.Pairwise.imp_of_mem (fun{a b} ha hb hne z=>hne ?_) nk.nd
  have:=nk.lo a ha
  have:=nk.lo b hb
  omega
 have lt:∀x∈G,x<W.length:=fun x hx=>by
  rw[<-hG] at hx
  obtain⟨y,hy,rfl⟩:=List.mem_map.mp hx
  have:=nk.lo y hy
  have:=nk.hi y hy
  omega
 have all:∀h,h<W.length->h∈G:=fun h hh=>by
  rw[<-hG]
  exact List.mem_map.mpr ⟨(h:Int),XG nk hh,by simp⟩
 have lG:G.length=W.length:=by rw[<-hG,List.length_map];exact hl
 have t:=Q3 ok nd lt all
 have pk:=Q4 nd lt all (fun h=>ZB W o h)
 have same:sN W.length (fun j=>ZB W o (G.getD j 0))=sN G.length (fun j=>Z3 W (G.getD j 0) (G.take j)):=by
  rw[lG]
  refine YS fun j hj=>?_
  have hjo:j<o.length:=by omega
  have gj:G.getD j 0=(o[j]).toNat:=by
   rw[<-hG,List.getD_eq_getElem?_getD,List.getElem?_map,List.getElem?_eq_getElem hjo];rfl
  have h0:=nk.lo o[j] (List.getElem_mem hjo)
  have hx:(((o[j]).toNat:Nat):Int)=o[j]:=by omega
  have hi:UE (((o[j]).toNat:Nat):Int) o=some j:=by
   rw[hx]
   obtain⟨A,B,q,hA,hi⟩:=V8 (List.getElem_mem hjo)
   have hAl:A.length<o.length:=by rw[q];simp
   have a:o[A.length]?=some o[j]:=by
    have:(A++o[j]::B)[A.length]?=some o[j]:=by rw[List.getElem?_append_right (Nat.le_refl _)];simp
    rw[<-q] at this;exact this
   have:=(List.getElem?_inj hAl nk.nd).mp (a.trans (List.getElem?_eq_getElem hjo).symm)
   rw[hi,this]
  unfold ZB Z3;rw[gj,hi,<-hG,<-List.map_take,List.map_map];rfl
 have s1:(XU W o W.length).sum=sN W.length (fun h=>ZB W o h)-(W.length:Int):=by
  unfold XU;rw[UX]
  have:∀m:Nat,sN m (fun h=>ZB W o h-1)=sN m (fun h=>ZB W o h)-(m:Int):=by
   intro m
   induction m with
   | zero=>rfl
   | succ m ih=>
    show sN m (fun h=>ZB W o h-1)+(ZB W o m-1)=sN m (fun h=>ZB W o h)+ZB W o m-((m+1:Nat):Int)
    rw[ih];omega
  exact this _
 have s2:Jo W=2*((WR W).length:Int):=by
  rw[<-Mg ok,UX];unfold Jo
  exact YS fun a ha=>by rw[S9 ok ha,UX]
 rw[s1,pk,same];omega
theorem R9{a b:XE}{s:ZD}{l m:List Int}(ha:a s=some (.lst (iL l)))(hb:b s=some (.lst (iL m)))(h:l.length+m.length<=10000):Zi ZJ a b s=some (.lst (iL (l++m))):=by
 rw[Yl,ha,hb]
 show ZJ (.lst (iL l)) (.lst (iL m))=_
 unfold ZJ
 simp only
 rw[if_pos ⟨by simpa using h,Yi l,Yi m⟩,<-List.map_append]
theorem Jp{s:ZD}{i j:Nat}{o:List Int}{k:Nat}(h:s[i]?=some (some (.lst (iL o))))(hk:s[j]?=some (some (.int (k:Int)))):Vq YT (Za i) Uc (WH (Za j)) s=some (.lst (iL (o.take k))):=by
 simp only[UQ,YQ,h,hk,Option.join_some,Option.bind_some,UR,WH,YT,QZ,NL]
theorem Jq{s:ZD}{i:Nat}{f:XE}{o:List Int}{k:Nat}(h:s[i]?=some (some (.lst (iL o))))(hk:f s=some (.int (k:Int))):Vq YT (Za i) (WH f) Uc s=some (.lst (iL (o.drop k))):=by
 simp only[UQ,YQ,h,hk,Option.join_some,Option.bind_some,UR,WH,YT,Jm,NL]
def sQ(ns:List Int)(n:Nat)(W:List (List Int))(o F:List Int)(x6 x7 x8 x9:Option PV):ZD:=[some (.cst (iL ns)),some (.int (n:Int)),some (wP W),some (.lst (iL o)),some (.lst (iL o)),some (pP F),x6,x7,x8,x9]
theorem law_true:∀ns:List Int,ns.length<=63->D_law [.cst (iL ns)]=some (.bl true):=by
 intro ns hns
 have cell:∀k:Nat,Zn [PV.cst (ns.map PV.int),PV.int (k:Int)]=some (PV.int (Zy ns k)):=fun k=>V5 hns k
 have c0:Zn [PV.cst (ns.map PV.int),PV.int 0]=some (PV.int (Zy ns 0)):=cell 0
 have c36:Zn [PV.cst (ns.map PV.int),PV.int 36]=some (PV.int (Zy ns 36)):=cell 36
 have c37:Zn [PV.cst (ns.map PV.int),PV.int 37]=some (PV.int (Zy ns 37)):=cell 37
 obtain⟨n,hn1,hn7,en⟩:∃n:Nat,1<=n/\n<=7/\1+Zy ns 0%7=(n:Int):=⟨(1+Zy ns 0%7).toNat,by omega,by omega,by omega⟩
 obtain⟨ts,W,et,ew,ok,hW⟩:=Jl (at0:=1) hns hn1 hn7
 have et':YD [PV.cst (ns.map PV.int),PV.int 1,PV.int (n:Int)]=some (dP ts):=et
 obtain⟨o,eo,nk⟩:=Mh (ns:=ns) (at0:=29) (n:=n) hns hn7
 have eo':Y0 [PV.cst (ns.map PV.int),PV.int 29,PV.int (n:Int)]=some (.lst (o.map PV.int)):=eo
 have hl:=nk.len;have op:=WS ok hW nk
 have op2:=WS ok hW (Ss nk)
 have du:=Jn ok hW nk;have lo:=N6 ok;rw[hW] at lo;have sm:=Lz ok hW nk
 have lF:(XU W o n).length=n:=by simp[XU]
 have lF2:(XU W o.reverse n).length=n:=by simp[XU]
 have ntF:∀i,i<n->Zy (XU W o n) i=ZB W o i-1:=fun i hi=>by
  unfold XU Zy;rw[List.getD_eq_getElem?_getD,List.getElem?_map,List.getElem?_range hi];rfl
 have ntF2:∀i,i<n->Zy (XU W o.reverse n) i=ZB W o.reverse i-1:=fun i hi=>by
  unfold XU Zy;rw[List.getD_eq_getElem?_getD,List.getElem?_map,List.getElem?_range hi];rfl
 have bw:∀i,i<n->Zy (XU W o n) i+Zy (XU W o.reverse n) i=(Zu W i).sum-2:=fun i hi=>by
  rw[ntF i hi,ntF2 i hi,<-OV ok hW nk hi];omega
 obtain⟨x0,r0,ho⟩:∃x r,o=x::r:=by
  cases o with
  | nil=>simp at hl;omega
  | cons x r=>exact⟨x,r,rfl⟩
 have hx0:=nk.lo x0 (by rw[ho];simp)
 have hx1:=nk.hi x0 (by rw[ho];simp)
 have fst:Zy (XU W o n) x0.toNat = -1:=by
  rw[ntF _ (by omega)]
  have:=Q2 (W:=W) (n:=n) (x:=x0) (r:=r0) (by rw[<-ho];exact nk)
  rw[<-ho] at this;omega
 generalize hF:XU W o n=F at op du sm lF ntF bw fst
 generalize hF2:XU W o.reverse n=F2 at op2 lF2 ntF2 bw
 have tu:=N5 (l:=F) (by omega)
 rw[lF] at tu
 have e1:Zo 1 (eP (Zi ZO (eC (.int 1)) (Zi Yt (Zf Zn [(Za 0),(eC (.int 0))]) (eC (.int 7))))) [some (.cst (iL ns)),none,none,none,none,none,none,none,none,none]=some (.nx [some (.cst (iL ns)),some (.int (n:Int)),none,none,none,none,none,none,none,none]):=by
  simp[c0,en]
 have e2:Zo 2 (Zf Yz [(Zf YD [(Za 0),(eC (.int 1)),(Za 1)]),(Za 1)]) [some (.cst (iL ns)),some (.int (n:Int)),none,none,none,none,none,none,none,none]=some (.nx [some (.cst (iL ns)),some (.int (n:Int)),some (wP W),none,none,none,none,none,none,none]):=by
  simp[et',ew]
 have e3:Zo 3 (Zf Y0 [(Za 0),(eC (.int 29)),(Za 1)]) [some (.cst (iL ns)),some (.int (n:Int)),some (wP W),none,none,none,none,none,none,none]=some (.nx [some (.cst (iL ns)),some (.int (n:Int)),some (wP W),some (.lst (iL o)),none,none,none,none,none,none]):=by
  rw[Z9,Ym]
  show(Y0 [PV.cst (ns.map PV.int),PV.int 29,PV.int (n:Int)]).map _=_
  rw[eo'];rfl
 have e4:Zo 4 (Zf WF [(Za 3)]) [some (.cst (iL ns)),some (.int (n:Int)),some (wP W),some (.lst (iL o)),none,none,none,none,none,none]=some (.nx [some (.cst (iL ns)),some (.int (n:Int)),some (wP W),some (.lst (iL o)),some (.lst (iL o)),none,none,none,none,none]):=by simp
 have e5:Zo 5 (Zf Zt [(Za 2),(Za 4)]) [some (.cst (iL ns)),some (.int (n:Int)),some (wP W),some (.lst (iL o)),some (.lst (iL o)),none,none,none,none,none]=some (.nx (sQ ns n W o F none none none none)):=by
  rw[Z9,Ym]
  show(Zt [wP W,.lst (iL o)]).map _=_
  rw[op];rfl
 have e6:UO (OY (Qp (xB (Zf Xz [(Za 5),(Za 1)]))) (OY (xB (Zi (Xq true) (Za 5) (Zf V3 [(Za 2),(Za 3)]))) (xB (Zi (Xq true) (Za 4) (Za 3))))) (YU (eP (eC (.bl false)))) Z8 (sQ ns n W o F none none none none)=some (.nx (sQ ns n W o F none none none none)):=by
  simp[sQ,tu,du]
 have e7:UO (OY (xB (Zi (Xq true) (Zf Vk [(Za 5)]) (Zi YJ (Zf W8 [(Za 2)]) (eC (.int 1))))) (xB (Zi (Xq true) (Zi Yb (Za 5) (Zi Yb (Za 3) (eC (.int 0)))) (TM Td (eC (.int 1)))))) (YU (eP (eC (.bl false)))) Z8 (sQ ns n W o F none none none none)=some (.nx (sQ ns n W o F none none none none)):=by
  have a0:WT (iL o) 0=some (.int x0):=UJ (xs:=iL o) (j:=0) (by rw[ho];rfl)
  have a1:WT (iL F) x0=some (.int (-1)):=by
   rw[Ra lF hx0 hx1,fst]
  have hs:F.sum=((WR W).length:Int)-(n:Int)+1-1:=by omega
  simp[sQ,lo,a0,a1,hs,Td]
 have e8:Zo 6 (Zf Zt [(Za 2),(TM OA (Za 3))]) (sQ ns n W o F none none none none)=some (.nx (sQ ns n W o F (some (pP F2)) none none none)):=by
  have g:TM OA (Za 3) (sQ ns n W o F none none none none)=some (.lst (iL o.reverse)):=by
   show OA (.lst (iL o))=_
   unfold OA
   simp only
   rw[if_pos (Yi o),<-List.map_reverse]
  rw[Z9,Ym,ZT,ZT,g]
  show(Zt [wP W,.lst (iL o.reverse)]).map _=_
  rw[op2];rfl
 have e9:UO (xB (Zi (Xq true) (ZG 1 [5,6] (ZI [(Za 1)]) (.one 0) ZQ (Zi ZO (Zi Yb (Za 1) (Za 0)) (Zi Yb (Za 2) (Za 0)))) (ZG 1 [2] (ZI [(Za 1)]) (.one 0) ZQ (Zi YJ (Zf Vk [(Zi Yb (Za 1) (Za 0))]) (eC (.int 2)))))) (YU (eP (eC (.bl false)))) Z8 (sQ ns n W o F (some (pP F2)) none none none)=some (.nx (sQ ns n W o F (some (pP F2)) none none none)):=by
  have k1:ZG 1 [5,6] (ZI [(Za 1)]) (.one 0) ZQ (Zi ZO (Zi Yb (Za 1) (Za 0)) (Zi Yb (Za 2) (Za 0))) (sQ ns n W o F (some (pP F2)) none none none)=some (.lst (iL ((List.range n).map fun i=>(Zu W i).sum-2))):=by
   refine Uu (fun i=>(Zu W i).sum-2) (Z0 (by simp[sQ]) (by omega)) (by omega) fun i hi=>⟨[some (.int (i:Int)),some (pP F),some (pP F2)],rfl,rfl,?_⟩
   simp[WN (show i<F.length by omega),WN (show i<F2.length by omega),bw i hi]
  have k2:ZG 1 [2] (ZI [(Za 1)]) (.one 0) ZQ (Zi YJ (Zf Vk [(Zi Yb (Za 1) (Za 0))]) (eC (.int 2))) (sQ ns n W o F (some (pP F2)) none none none)=some (.lst (iL ((List.range n).map fun i=>(Zu W i).sum-2))):=by
   refine Uu (fun i=>(Zu W i).sum-2) (Z0 (by simp[sQ]) (by omega)) (by omega) fun i hi=>⟨[some (.int (i:Int)),some (wP W)],rfl,rfl,?_⟩
   simp[SW (show i<W.length by omega)]
  rw[Xu,X7,Yl,k1,k2]
  generalize (List.range n).map (fun i=>(Zu W i).sum-2)=L
  simp
 obtain⟨a,ha,ea⟩:∃a:Nat,a<n/\Zy ns 36%(n:Int)=(a:Int):=⟨(Zy ns 36%(n:Int)).toNat,by
  have p:=Int.emod_nonneg (Zy ns 36) (show(n:Int)≠0 by omega)
  have q:=Int.emod_lt_of_pos (Zy ns 36) (show(0:Int)<n by omega)
  omega,by
  have p:=Int.emod_nonneg (Zy ns 36) (show(n:Int)≠0 by omega)
  omega⟩
 have e10:Zo 7 (eP (Zi Yt (Zf Zn [(Za 0),(eC (.int 36))]) (Za 1))) (sQ ns n W o F (some (pP F2)) none none none)=some (.nx (sQ ns n W o F (some (pP F2)) (some (.int (a:Int))) none none)):=by
  simp[sQ,c36,ea,show 0<n by omega]
 obtain⟨m,hm,em⟩:∃m:Nat,m<n/\WT (iL o) ((a:Int)-1)=some (.int (Zy o m)):=by
  by_cases q:a=0
  ·refine⟨n-1,by omega,?_⟩
   subst q
   have ix:Qb (iL o).length ((((0:Nat):Int))-1)=some (n-1):=by
    unfold Qb;rw[if_neg (by omega),List.length_map,hl,if_pos (by omega)]
    congr 1;omega
   unfold WT;rw[ix]
   exact NG (by omega)
  ·refine⟨a-1,by omega,?_⟩
   rw[show(a:Int)-1=((a-1:Nat):Int) by omega]
   exact WN (by omega)
 have om:∀i,i<n->0<=Zy o i/\Zy o i<(n:Int):=fun i hi=>by
  have hmem:Zy o i∈o:=by
   unfold Zy;rw[List.getD_eq_getElem?_getD,List.getElem?_eq_getElem (by omega)]
   exact List.getElem_mem (by omega)
  exact⟨nk.lo _ hmem,nk.hi _ hmem⟩
 obtain⟨v,ev,hv⟩:∃v:Int,WT [PV.int (n:Int),PV.int (-1),PV.int ((n:Int)+6),PV.int (Zy o m)] (Zy ns 37%4)=some (.int v)/\((v<0\/(n:Int)<=v)\/v=Zy o m)/\v.natAbs<1000:=by
  have hq:=om m hm
  have h:Zy ns 37%4=0\/Zy ns 37%4=1\/Zy ns 37%4=2\/Zy ns 37%4=3:=by omega
  rcases h with h | h | h | h<;>rw[h]
  ·exact⟨_,rfl,.inl (.inr (by omega)),by omega⟩
  ·exact⟨_,rfl,.inl (.inl (by omega)),by omega⟩
  ·exact⟨_,rfl,.inl (.inr (by omega)),by omega⟩
  ·exact⟨_,rfl,.inr rfl,by omega⟩
 have e11:Zo 8 (eP (Zi Yb (ZC [(Za 1),(TM Td (eC (.int 1))),(Zi ZO (Za 1) (eC (.int 6))),(Zi Yb (Za 3) (Zi YJ (Za 7) (eC (.int 1))))]) (Zi Yt (Zf Zn [(Za 0),(eC (.int 37))]) (eC (.int 4))))) (sQ ns n W o F (some (pP F2)) (some (.int (a:Int))) none none)=some (.nx (sQ ns n W o F (some (pP F2)) (some (.int (a:Int))) (some (.int v)) none)):=by
  simp[sQ,c37,em,ev,Td]
 let T:Option PV->ZD:=fun x=>sQ ns n W o F (some (pP F2)) (some (.int (a:Int))) (some (.int v)) x
 have at7:∀x,(Za 7) (T x)=some (.int (a:Int)):=fun _=>rfl
 have ixa:∀x,Zi Yb (Za 3) (Za 7) (T x)=some (.int (Zy o a)):=fun x=>by
  show WT (iL o) (a:Int)=_
  exact WN (by omega)
 have one:∀x,ZC [(Zi Yb (Za 3) (Za 7))] (T x)=some (.lst (iL [Zy o a])):=fun x=>by
  show(Ub [(Zi Yb (Za 3) (Za 7))] (T x)).map PV.lst=_
  rw[ZT,ixa];rfl
 have v3:∀x,Za 3 (T x)=some (.lst (iL o)):=fun _=>rfl
 have pl1:∀x,Zi ZO (Za 7) (eC (.int 1)) (T x)=some (.int ((a+1:Nat):Int)):=fun x=>by
  show some (PV.int ((a:Int)+1))=_
  congr 2
 have lt:(o.take a).length=a:=by rw[List.length_take];omega
 have ld:∀k,k<=n->(o.drop k).length=n-k:=fun k _=>by rw[List.length_drop,hl]
 have w1:∀x,Zi ZJ (Vq YT (Za 3) Uc (WH (Za 7))) (Vq YT (Za 3) (WH (Zi ZO (Za 7) (eC (.int 1)))) Uc) (T x)=some (.lst (iL (o.take a++o.drop (a+1)))):=fun x=>R9 (Jp rfl rfl) (Jq rfl (pl1 x)) (by rw[lt,ld _ (by omega)];omega)
 have w2:∀x,Zi ZJ (Za 3) (ZC [(Zi Yb (Za 3) (Za 7))]) (T x)=some (.lst (iL (o++[Zy o a]))):=fun x=>R9 (v3 x) (one x) (by simp;omega)
 have w3:∀x,Zi ZJ (Zi ZJ (Vq YT (Za 3) Uc (WH (Za 7))) (ZC [(Zi Yb (Za 3) (Za 7))])) (Vq YT (Za 3) (WH (Za 7)) Uc) (T x)=some (.lst (iL (o.take a++[Zy o a]++o.drop a))):=fun x=>R9 (R9 (Jp rfl rfl) (one x) (by rw[lt];simp;omega)) (Jq rfl (at7 x)) (by rw[List.length_append,lt,ld _ (by omega)];simp;omega)
 have lv:∀(x:Option PV)(j:Nat)(z:Int),Za j (T x)=some (.int z)->ZC [(Za j)] (T x)=some (.lst (iL [z])):=fun x j z h=>by
  show(Ub [(Za j)] (T x)).map PV.lst=_
  rw[ZT,h];rfl
 have w5:∀x,Zi ZJ (Za 3) (ZC [(Za 1)]) (T x)=some (.lst (iL (o++[(n:Int)]))):=fun x=>R9 (v3 x) (lv x 1 n rfl) (by simp;omega)
 have w6:∀x,Zi ZJ (ZC [(Za 1)]) (Za 3) (T x)=some (.lst (iL ([(n:Int)]++o))):=fun x=>R9 (lv x 1 n rfl) (v3 x) (by simp;omega)
 have w7:∀x,Zi ZJ (Zi ZJ (Vq YT (Za 3) Uc (WH (Za 7))) (ZC [(Za 8)])) (Vq YT (Za 3) (WH (Zi ZO (Za 7) (eC (.int 1)))) Uc) (T x)=some (.lst (iL (o.take a++[v]++o.drop (a+1)))):=fun x=>R9 (R9 (Jp rfl rfl) (lv x 8 v rfl) (by rw[lt];simp;omega)) (Jq rfl (pl1 x)) (by rw[List.length_append,lt,ld _ (by omega)];simp;omega)
 have e12:Zo 9 (ZC [(Zi ZJ (Vq YT (Za 3) Uc (WH (Za 7))) (Vq YT (Za 3) (WH (Zi ZO (Za 7) (eC (.int 1)))) Uc)),(Zi ZJ (Za 3) (ZC [(Zi Yb (Za 3) (Za 7))])),(Zi ZJ (Zi ZJ (Vq YT (Za 3) Uc (WH (Za 7))) (ZC [(Zi Yb (Za 3) (Za 7))])) (Vq YT (Za 3) (WH (Za 7)) Uc)),(ZC [])]) (T none)=some (.nx (T (some (.lst (rL [o.take a++o.drop (a+1),o++[Zy o a],o.take a++[Zy o a]++o.drop a,[]]))))):=by
  rw[Z9]
  show((Ub _ (T none)).map PV.lst).map _=_
  rw[ZT,ZT,ZT,ZT,w1,w2,w3];rfl
 have e13:RY 9 (ZC [(Zi ZJ (Za 3) (ZC [(Za 1)])),(Zi ZJ (ZC [(Za 1)]) (Za 3))]) (T (some (.lst (rL [o.take a++o.drop (a+1),o++[Zy o a],o.take a++[Zy o a]++o.drop a,[]]))))=some (.nx (T (some (.lst (rL [o.take a++o.drop (a+1),o++[Zy o a],o.take a++[Zy o a]++o.drop a,[],o++[(n:Int)],[(n:Int)]++o]))))):=by
  have g:ZC [(Zi ZJ (Za 3) (ZC [(Za 1)])),(Zi ZJ (ZC [(Za 1)]) (Za 3))] (T (some (.lst (rL [o.take a++o.drop (a+1),o++[Zy o a],o.take a++[Zy o a]++o.drop a,[]]))))=some (.lst (rL [o++[(n:Int)],[(n:Int)]++o])):=by
   show(Ub _ _).map PV.lst=_
   rw[ZT,ZT,w5,w6];rfl
  unfold RY;rw[g];rfl
 obtain⟨WL,hWL,e14⟩:∃WL:List (List Int),(WL.length<=100/\∀l∈WL,l.length<64/\(∀i∈l,i.natAbs.log2<1920)/\Xd l≠(List.range n).map fun(i:Nat)=>(i:Int))/\
   UO (xB (Zi (Xq true) (Za 8) (Zi Yb (Za 3) (Za 7)))) (Yv 9 (Zi ZJ (Zi ZJ (Vq YT (Za 3) Uc (WH (Za 7))) (ZC [(Za 8)])) (Vq YT (Za 3) (WH (Zi ZO (Za 7) (eC (.int 1)))) Uc))) Z8 (T (some (.lst (rL [o.take a++o.drop (a+1),o++[Zy o a],o.take a++[Zy o a]++o.drop a,[],o++[(n:Int)],[(n:Int)]++o]))))=some (.nx (T (some (.lst (rL WL))))):=by
  have small:∀l:List Int,(∀i∈l,i∈o\/i=(n:Int)\/i=v)->∀i∈l,i.natAbs.log2<1920:=fun l h i hi=>by
   have hb:i.natAbs<1000:=by
    rcases h i hi with z | z | z
    ·have:=nk.lo i z;have:=nk.hi i z;omega
    ·omega
    ·rw[z];exact hv.2
   exact Nat.lt_of_le_of_lt (Nat.log2_le_self _) (by omega)
  have oa:Zy o a∈o:=by
   unfold Zy;rw[List.getD_eq_getElem?_getD,List.getElem?_eq_getElem (by omega)]
   exact List.getElem_mem (by omega)
  have six:∀l∈[o.take a++o.drop (a+1),o++[Zy o a],o.take a++[Zy o a]++o.drop a,[],o++[(n:Int)],[(n:Int)]++o],l.length<64/\(∀i∈l,i.natAbs.log2<1920)/\Xd l≠(List.range n).map fun(i:Nat)=>(i:Int):=by
   intro l hl'
   have len:l.length≠n/\l.length<64:=by
    simp only[List.mem_cons,List.not_mem_nil,or_false] at hl'
    rcases hl' with rfl | rfl | rfl | rfl | rfl | rfl<;>simp[hl]<;>omega
   have mem:∀i∈l,i∈o\/i=(n:Int)\/i=v:=fun i hi=>by
    simp only[List.mem_cons,List.not_mem_nil,or_false] at hl'
    rcases hl' with rfl | rfl | rfl | rfl | rfl | rfl
    ·rcases List.mem_append.mp hi with z | z
     ·exact .inl (List.mem_of_mem_take z)
     ·exact .inl (List.mem_of_mem_drop z)
    ·rcases List.mem_append.mp hi with z | z
     ·exact .inl z
     ·rw[List.mem_singleton.mp z];exact .inl oa
    ·rcases List.mem_append.mp hi with z | z
     ·rcases List.mem_append.mp z with z | z
      ·exact .inl (List.mem_of_mem_take z)
      ·rw[List.mem_singleton.mp z];exact .inl oa
     ·exact .inl (List.mem_of_mem_drop z)
    ·simp at hi
    ·rcases List.mem_append.mp hi with z | z
     ·exact .inl z
     ·exact .inr (.inl (List.mem_singleton.mp z))
    ·rcases List.mem_append.mp hi with z | z
     ·exact .inr (.inl (List.mem_singleton.mp z))
     ·exact .inl z
   exact⟨len.2,small l mem,Sr (.inl len.1)⟩
  by_cases q:v=Zy o a
  ·refine⟨_,⟨by simp,six⟩,?_⟩
   have t:xB (Zi (Xq true) (Za 8) (Zi Yb (Za 3) (Za 7))) (T (some (.lst (rL [o.take a++o.drop (a+1),o++[Zy o a],o.take a++[Zy o a]++o.drop a,[],o++[(n:Int)],[(n:Int)]++o]))))=some false:=by
    rw[X7,Yl,ixa]
    show(Xq true (.int v) (.int (Zy o a))).bind _=_
    rw[q];simp
   rw[Xu,t];rfl
  ·have seven:(o.take a++[v]++o.drop (a+1)).length<64/\(∀i∈o.take a++[v]++o.drop (a+1),i.natAbs.log2<1920)/\Xd (o.take a++[v]++o.drop (a+1))≠(List.range n).map fun(i:Nat)=>(i:Int):=by
    rw[Ly (by omega)]
    refine⟨by rw[List.length_set];omega,small _ fun i hi=>?_,Sr ?_⟩
    ·rcases List.mem_or_eq_of_mem_set hi with z | z
     ·exact .inl z
     ·exact .inr (.inr z)
    ·rcases hv.1 with z | z
     ·refine .inr (.inl ⟨v,?_,z⟩)
      exact List.mem_iff_getElem?.mpr ⟨a,by rw[List.getElem?_set_self (by omega)]⟩
     ·refine .inr (.inr ?_)
      rw[z]
      refine Ix nk ha hm fun w=>q ?_
      rw[z];unfold Zy;rw[List.getD_eq_getElem?_getD,List.getD_eq_getElem?_getD,w]
   refine⟨[o.take a++o.drop (a+1),o++[Zy o a],o.take a++[Zy o a]++o.drop a,[],o++[(n:Int)],[(n:Int)]++o,o.take a++[v]++o.drop (a+1)],⟨by simp,fun l hl'=>?_⟩,?_⟩
   ·rw[show [o.take a++o.drop (a+1),o++[Zy o a],o.take a++[Zy o a]++o.drop a,[],o++[(n:Int)],[(n:Int)]++o,o.take a++[v]++o.drop (a+1)]=[o.take a++o.drop (a+1),o++[Zy o a],o.take a++[Zy o a]++o.drop a,[],o++[(n:Int)],[(n:Int)]++o]++[o.take a++[v]++o.drop (a+1)] from rfl] at hl'
    rcases List.mem_append.mp hl' with z | z
    ·exact six l z
    ·rw[List.mem_singleton.mp z];exact seven
   ·have t:xB (Zi (Xq true) (Za 8) (Zi Yb (Za 3) (Za 7))) (T (some (.lst (rL [o.take a++o.drop (a+1),o++[Zy o a],o.take a++[Zy o a]++o.drop a,[],o++[(n:Int)],[(n:Int)]++o]))))=some true:=by
     rw[X7,Yl,ixa]
     show(Xq true (.int v) (.int (Zy o a))).bind _=_
     simp[q]
    rw[Xu,t];simp only[Option.bind_some,if_true]
    rw[Vo (m:=rL [o.take a++o.drop (a+1),o++[Zy o a],o.take a++[Zy o a]++o.drop a,[],o++[(n:Int)],[(n:Int)]++o]) (w7 _) rfl (by simp[rL])]
    rfl
 have e15:eP (TJ (Zf TN [(ZG 1 [2] (VG (Za 9)) (.one 0) ZQ (Zf Yh [(Za 1),(Za 0)]))]) (Zi (Xq false) (Zf Zt [(Za 2),(Za 3)]) (Za 5))) (T (some (.lst (rL WL))))=some (.bl true):=by
  have k:ZG 1 [2] (VG (Za 9)) (.one 0) ZQ (Zf Yh [(Za 1),(Za 0)]) (T (some (.lst (rL WL))))=some (.lst ((WL.map fun _=>true).map PV.bl)):=by
   rw[YY WL (fun l=>.lst (iL l)) (fun _=>.bl true) rfl (by omega) fun l hl'=>⟨[some (.lst (iL l)),some (wP W)],rfl,rfl,?_⟩]
   ·rw[List.map_map];rfl
   ·obtain⟨q1,q2,q3⟩:=hWL.2 l hl'
    exact Q1 (by omega) q1 q2 (by rw[hW];exact q3)
  have a1:Zf TN [(ZG 1 [2] (VG (Za 9)) (.one 0) ZQ (Zf Yh [(Za 1),(Za 0)]))] (T (some (.lst (rL WL))))=some (.bl true):=by
   rw[Ym,ZT,k]
   show TN [.lst ((WL.map fun _=>true).map PV.bl)]=_
   rw[NH];simp
  have a2:Zi (Xq false) (Zf Zt [(Za 2),(Za 3)]) (Za 5) (T (some (.lst (rL WL))))=some (.bl true):=by
   rw[Yl,Ym]
   show((Zt [wP W,.lst (iL o)]).bind fun x=>Xq false x (pP F))=_
   rw[op]
   simp
  rw[Vn,Ts,X7,a1];simp only[Option.bind_some,La,if_true]
  rw[a2];rfl
 show X8 10 PM [.cst (iL ns)]=_
 unfold PM
 show(Zm _ _ [some (.cst (iL ns)),none,none,none,none,none,none,none,none,none]).bind X6=_
 rw[Y2 e1,Y2 e2,Y2 e3,Y2 e4,Y2 e5,Y2 e6,Y2 e7,Y2 e8,Y2 e9,Y2 e10,Y2 e11,Y2 e12,Y2 e13,Y2 e14];rw[VR,e15];rfl
end PW
namespace PW
open PySem L2 VL
theorem all_mk{P:Program}{w:World}{K:PySem.W.Frag}{h:Heap}{mg:Str->Option Value}{fa f0 f1 f2 f3 f4 f5 f6 f7 f8 f9 f10 f11 f12 f13 f14 f15:Addr}(X:K.In h)(G:h.Ns mainGlobals mg)(hfa:mg "law" = some (.ref fa))
  {od0 an0 od1 an1 od2 an2 od3 an3 od4 an4 od5 an5 od6 an6 od7 an7 od8 an8 od9 an9 od10 an10 od11 an11 od12 an12 od13 an13 od14 an14 od15 an15:Option Addr} {sl0 sl1 sl2 sl3 sl4 sl5 sl6 sl7 sl8 sl9 sl10 sl11 sl12 sl13 sl14 sl15:Array (Option Value)} {oc0 kV0 dc0 pm0 cd0 ct0 oc1 kV1 dc1 pm1 cd1 ct1 oc2 kV2 dc2 pm2 cd2 ct2 oc3 kV3 dc3 pm3 cd3 ct3 oc4 kV4 dc4 pm4 cd4 ct4 oc5 kV5 dc5 pm5 cd5 ct5 oc6 kV6 dc6 pm6 cd6 ct6 oc7 kV7 dc7 pm7 cd7 ct7 oc8 kV8 dc8 pm8 cd8 ct8 oc9 kV9 dc9 pm9 cd9 ct9 oc10 kV10 dc10 pm10 cd10 ct10 oc11 kV11 dc11 pm11 cd11 ct11 oc12 kV12 dc12 pm12 cd12 ct12 oc13 kV13 dc13 pm13 cd13 ct13 oc14 kV14 dc14 pm14 cd14 ct14 oc15 kV15 dc15 pm15 cd15 ct15:Value}
  (a0:PySem.W.nsIn K mainGlobals "_law_square" = some (some (.ref f0))) (l0:K.lookup f0=some ⟨oc0,od0,.func (PySem.W.fnOf "_law_square" "_law_square" (Zz Y1) (Zs Y1) (Zh Y1) .none kV0 dc0 pm0 an0 cd0 ct0),sl0⟩) (c0:PySem.W.codeIn K cd0 "_law_square" = true) (k0:PySem.W.keepIn K (.ref f0)=true)
  (a1:PySem.W.nsIn K mainGlobals "_law_cell" = some (some (.ref f1))) (l1:K.lookup f1=some ⟨oc1,od1,.func (PySem.W.fnOf "_law_cell" "_law_cell" (Zz Wg) (Zs Wg) (Zh Wg) .none kV1 dc1 pm1 an1 cd1 ct1),sl1⟩) (c1:PySem.W.codeIn K cd1 "_law_cell" = true) (k1:PySem.W.keepIn K (.ref f1)=true)
  (a2:PySem.W.nsIn K mainGlobals "_law_order" = some (some (.ref f2))) (l2:K.lookup f2=some ⟨oc2,od2,.func (PySem.W.fnOf "_law_order" "_law_order" (Zz XA) (Zs XA) (Zh XA) .none kV2 dc2 pm2 an2 cd2 ct2),sl2⟩) (c2:PySem.W.codeIn K cd2 "_law_order" = true) (k2:PySem.W.keepIn K (.ref f2)=true)
  (a3:PySem.W.nsIn K mainGlobals "ties_ahead" = some (some (.ref f3))) (l3:K.lookup f3=some ⟨oc3,od3,.func (PySem.W.fnOf "ties_ahead" "ties_ahead" (Zz Yp) (Zs Yp) (Zh Yp) .none kV3 dc3 pm3 an3 cd3 ct3),sl3⟩) (c3:PySem.W.codeIn K cd3 "ties_ahead" = true) (k3:PySem.W.keepIn K (.ref f3)=true)
  (a4:PySem.W.nsIn K mainGlobals "order_purse" = some (some (.ref f4))) (l4:K.lookup f4=some ⟨oc4,od4,.func (PySem.W.fnOf "order_purse" "order_purse" (Zz ZW) (Zs ZW) (Zh ZW) .none kV4 dc4 pm4 an4 cd4 ct4),sl4⟩) (c4:PySem.W.codeIn K cd4 "order_purse" = true) (k4:PySem.W.keepIn K (.ref f4)=true)
  (a5:PySem.W.nsIn K mainGlobals "_law_renamed" = some (some (.ref f5))) (l5:K.lookup f5=some ⟨oc5,od5,.func (PySem.W.fnOf "_law_renamed" "_law_renamed" (Zz YE) (Zs YE) (Zh YE) .none kV5 dc5 pm5 an5 cd5 ct5),sl5⟩) (c5:PySem.W.codeIn K cd5 "_law_renamed" = true) (k5:PySem.W.keepIn K (.ref f5)=true)
  (a6:PySem.W.nsIn K mainGlobals "_law_read_times" = some (some (.ref f6))) (l6:K.lookup f6=some ⟨oc6,od6,.func (PySem.W.fnOf "_law_read_times" "_law_read_times" (Zz Z2) (Zs Z2) (Zh Z2) .none kV6 dc6 pm6 an6 cd6 ct6),sl6⟩) (c6:PySem.W.codeIn K cd6 "_law_read_times" = true) (k6:PySem.W.keepIn K (.ref f6)=true)
  (a7:PySem.W.nsIn K mainGlobals "_law_times" = some (some (.ref f7))) (l7:K.lookup f7=some ⟨oc7,od7,.func (PySem.W.fnOf "_law_times" "_law_times" (Zz XB) (Zs XB) (Zh XB) .none kV7 dc7 pm7 an7 cd7 ct7),sl7⟩) (c7:PySem.W.codeIn K cd7 "_law_times" = true) (k7:PySem.W.keepIn K (.ref f7)=true)
  (a8:PySem.W.nsIn K mainGlobals "_law_whole" = some (some (.ref f8))) (l8:K.lookup f8=some ⟨oc8,od8,.func (PySem.W.fnOf "_law_whole" "_law_whole" (Zz XC) (Zs XC) (Zh XC) .none kV8 dc8 pm8 an8 cd8 ct8),sl8⟩) (c8:PySem.W.codeIn K cd8 "_law_whole" = true) (k8:PySem.W.keepIn K (.ref f8)=true)
  (a9:PySem.W.nsIn K mainGlobals "_law_tuple" = some (some (.ref f9))) (l9:K.lookup f9=some ⟨oc9,od9,.func (PySem.W.fnOf "_law_tuple" "_law_tuple" (Zz XD) (Zs XD) (Zh XD) .none kV9 dc9 pm9 an9 cd9 ct9),sl9⟩) (c9:PySem.W.codeIn K cd9 "_law_tuple" = true) (k9:PySem.W.keepIn K (.ref f9)=true)
  (a10:PySem.W.nsIn K mainGlobals "_law_due" = some (some (.ref f10))) (l10:K.lookup f10=some ⟨oc10,od10,.func (PySem.W.fnOf "_law_due" "_law_due" (Zz Vb) (Zs Vb) (Zh Vb) .none kV10 dc10 pm10 an10 cd10 ct10),sl10⟩) (c10:PySem.W.codeIn K cd10 "_law_due" = true) (k10:PySem.W.keepIn K (.ref f10)=true)
  (a11:PySem.W.nsIn K mainGlobals "ties_of" = some (some (.ref f11))) (l11:K.lookup f11=some ⟨oc11,od11,.func (PySem.W.fnOf "ties_of" "ties_of" (Zz XF) (Zs XF) (Zh XF) .none kV11 dc11 pm11 an11 cd11 ct11),sl11⟩) (c11:PySem.W.codeIn K cd11 "ties_of" = true) (k11:PySem.W.keepIn K (.ref f11)=true)
  (a12:PySem.W.nsIn K mainGlobals "loops" = some (some (.ref f12))) (l12:K.lookup f12=some ⟨oc12,od12,.func (PySem.W.fnOf "loops" "loops" (Zz Vc) (Zs Vc) (Zh Vc) .none kV12 dc12 pm12 an12 cd12 ct12),sl12⟩) (c12:PySem.W.codeIn K cd12 "loops" = true) (k12:PySem.W.keepIn K (.ref f12)=true)
  (a13:PySem.W.nsIn K mainGlobals "_law_kind" = some (some (.ref f13))) (l13:K.lookup f13=some ⟨oc13,od13,.func (PySem.W.fnOf "_law_kind" "_law_kind" (Zz Wh) (Zs Wh) (Zh Wh) .none kV13 dc13 pm13 an13 cd13 ct13),sl13⟩) (c13:PySem.W.codeIn K cd13 "_law_kind" = true) (k13:PySem.W.keepIn K (.ref f13)=true)
  (a14:PySem.W.nsIn K mainGlobals "_law_refused" = some (some (.ref f14))) (l14:K.lookup f14=some ⟨oc14,od14,.func (PySem.W.fnOf "_law_refused" "_law_refused" (Zz YF) (Zs YF) (Zh YF) .none kV14 dc14 pm14 an14 cd14 ct14),sl14⟩) (c14:PySem.W.codeIn K cd14 "_law_refused" = true) (k14:PySem.W.keepIn K (.ref f14)=true)
  (a15:PySem.W.nsIn K mainGlobals "law" = some (some (.ref f15))) (l15:K.lookup f15=some ⟨oc15,od15,.func (PySem.W.fnOf "law" "law" (Zz Sn) (Zs Sn) (Zh Sn) .none kV15 dc15 pm15 an15 cd15 ct15),sl15⟩) (c15:PySem.W.codeIn K cd15 "law" = true) (k15:PySem.W.keepIn K (.ref f15)=true)
  (z0:PySem.W.nsIn K mainGlobals "len" = some none)
  (z1:PySem.W.nsIn K mainGlobals "sum" = some none)
  (z2:PySem.W.nsIn K mainGlobals "range" = some none)
  (z3:PySem.W.nsIn K mainGlobals "enumerate" = some none)
  (z4:PySem.W.nsIn K mainGlobals "zip" = some none)
  (z5:PySem.W.nsIn K mainGlobals "tuple" = some none)
  (z6:PySem.W.nsIn K mainGlobals "list" = some none)
  (z7:PySem.W.nsIn K mainGlobals "all" = some none)
  (z8:PySem.W.nsIn K mainGlobals "any" = some none)
  (z9:PySem.W.nsIn K mainGlobals "isinstance" = some none)
  (z10:PySem.W.nsIn K mainGlobals "int" = some none)
  (z11:PySem.W.nsIn K mainGlobals "bool" = some none)
  (z12:PySem.W.nsIn K mainGlobals "str" = some none)
  (z13:PySem.W.nsIn K mainGlobals "min" = some none)
  (z14:PySem.W.nsIn K mainGlobals "max" = some none)
  (z15:PySem.W.nsIn K mainGlobals "sorted" = some none)
  (z16:PySem.W.nsIn K mainGlobals "abs" = some none)
  (z17:PySem.W.nsIn K mainGlobals "ValueError" = some none)
  (z18:PySem.W.nsIn K mainGlobals "reversed" = some none)
  {CNoWeb CApart CNoText CNoOrder CTooMany CNotSettled CNoTree CNoTotal CNoEnds CNoRow CNoName Cb:Addr}
  (qNoOrder:PySem.W.nsIn K mainGlobals "NoOrder" = some (some (.ref CNoOrder))) (tNoOrder:PySem.W.kitOne K (.ref CNoOrder) (.ref CNoOrder)=some true)
  (qNoWeb:PySem.W.nsIn K mainGlobals "NoWeb" = some (some (.ref CNoWeb))) (tNoWeb:PySem.W.kitOne K (.ref CNoOrder) (.ref CNoWeb)=some false)
  (qApart:PySem.W.nsIn K mainGlobals "Apart" = some (some (.ref CApart))) (tApart:PySem.W.kitOne K (.ref CNoOrder) (.ref CApart)=some false)
  (qNoText:PySem.W.nsIn K mainGlobals "NoText" = some (some (.ref CNoText))) (tNoText:PySem.W.kitOne K (.ref CNoOrder) (.ref CNoText)=some false)
  (qTooMany:PySem.W.nsIn K mainGlobals "TooMany" = some (some (.ref CTooMany))) (tTooMany:PySem.W.kitOne K (.ref CNoOrder) (.ref CTooMany)=some false)
  (qNotSettled:PySem.W.nsIn K mainGlobals "NotSettled" = some (some (.ref CNotSettled))) (tNotSettled:PySem.W.kitOne K (.ref CNoOrder) (.ref CNotSettled)=some false)
  (qNoTree:PySem.W.nsIn K mainGlobals "NoTree" = some (some (.ref CNoTree))) (tNoTree:PySem.W.kitOne K (.ref CNoOrder) (.ref CNoTree)=some false)
  (qNoTotal:PySem.W.nsIn K mainGlobals "NoTotal" = some (some (.ref CNoTotal))) (tNoTotal:PySem.W.kitOne K (.ref CNoOrder) (.ref CNoTotal)=some false)
  (qNoEnds:PySem.W.nsIn K mainGlobals "NoEnds" = some (some (.ref CNoEnds))) (tNoEnds:PySem.W.kitOne K (.ref CNoOrder) (.ref CNoEnds)=some false)
  (qNoRow:PySem.W.nsIn K mainGlobals "NoRow" = some (some (.ref CNoRow))) (tNoRow:PySem.W.kitOne K (.ref CNoOrder) (.ref CNoRow)=some false)
  (qNoName:PySem.W.nsIn K mainGlobals "NoName" = some (some (.ref CNoName))) (tNoName:PySem.W.kitOne K (.ref CNoOrder) (.ref CNoName)=some false)
  (qB:PySem.W.nsIn K mainGlobals "PurseError" = some (some (.ref Cb))) (x0:PySem.W.excIn K CNoOrder [.type "ValueError",.type "Exception",.type "BaseException",.type "object"] "ValueError.__new__" = true) (x1:PySem.W.ktsIn K CNoOrder "BaseException" = true) (x2:PySem.W.ktsIn K Cb "BaseException" = true) (x3:VX.belowIn K CNoOrder Cb=true)
  (x4:PySem.W.findIn K (.ref CNoOrder) "__getattribute__" = some (some (.builtin "BaseException.__getattribute__"))) (x5:PySem.W.findIn K (.ref CNoOrder) "__getattr__" = some none) (x6:PySem.W.findIn K (.ref CNoOrder) "__class__" = some (some (.builtin "object.__class__"))) (x7:PySem.W.mroIn K CNoOrder (.type "object")=some true) (x8:PySem.W.kitOne K (.ref CNoOrder) (.type "ValueError")=some true)
  : ∃fd:FuncData,(∀(s:Shared)(u:Value),BindsTo s fd ⟨[u],[]⟩ [("_law_script",u)])/\∀base:Heap,K.In base->base.Ns mainGlobals mg->Vt P w K mg base Pm 4 fa fd ["_law_script"] (XW K D_law 1):=by
 have B:Rb mg:=⟨PySem.W.mg_none_of X G z0,PySem.W.mg_none_of X G z1,PySem.W.mg_none_of X G z2,PySem.W.mg_none_of X G z3,PySem.W.mg_none_of X G z4,PySem.W.mg_none_of X G z5,PySem.W.mg_none_of X G z6,PySem.W.mg_none_of X G z7,PySem.W.mg_none_of X G z8,PySem.W.mg_none_of X G z9,PySem.W.mg_none_of X G z10,PySem.W.mg_none_of X G z11,PySem.W.mg_none_of X G z12,PySem.W.mg_none_of X G z13,PySem.W.mg_none_of X G z14,PySem.W.mg_none_of X G z15,PySem.W.mg_none_of X G z16,PySem.W.mg_none_of X G z17,PySem.W.mg_none_of X G z18⟩
 have Q:VX.Q14 K mg CNoOrder Cb:=⟨qNoOrder,PySem.W.mg_of X G qNoOrder,PySem.W.mg_of X G qB,x0,⟨x4,x5,x6,x7,x1⟩,x2,x3,fun cx hc=>by
  unfold VX.nms at hc;simp only[List.mem_cons,List.not_mem_nil,or_false] at hc
  rcases hc with rfl | rfl | rfl | rfl | rfl | rfl | rfl | rfl | rfl | rfl | rfl
  ·exact⟨CNoWeb,PySem.W.mg_of X G qNoWeb,tNoWeb⟩
  ·exact⟨CApart,PySem.W.mg_of X G qApart,tApart⟩
  ·exact⟨CNoText,PySem.W.mg_of X G qNoText,tNoText⟩
  ·exact⟨CNoOrder,PySem.W.mg_of X G qNoOrder,tNoOrder⟩
  ·exact⟨CTooMany,PySem.W.mg_of X G qTooMany,tTooMany⟩
  ·exact⟨CNotSettled,PySem.W.mg_of X G qNotSettled,tNotSettled⟩
  ·exact⟨CNoTree,PySem.W.mg_of X G qNoTree,tNoTree⟩
  ·exact⟨CNoTotal,PySem.W.mg_of X G qNoTotal,tNoTotal⟩
  ·exact⟨CNoEnds,PySem.W.mg_of X G qNoEnds,tNoEnds⟩
  ·exact⟨CNoRow,PySem.W.mg_of X G qNoRow,tNoRow⟩
  ·exact⟨CNoName,PySem.W.mg_of X G qNoName,tNoName⟩,x8⟩
 have d0:Def K mg "_law_square" Y1:=Yr X G a0 l0 c0 k0
 have d1:Def K mg "_law_cell" Wg:=Yr X G a1 l1 c1 k1
 have d2:Def K mg "_law_order" XA:=Yr X G a2 l2 c2 k2
 have d3:Def K mg "ties_ahead" Yp:=Yr X G a3 l3 c3 k3
 have d4:Def K mg "order_purse" ZW:=Yr X G a4 l4 c4 k4
 have d5:Def K mg "_law_renamed" YE:=Yr X G a5 l5 c5 k5
 have d6:Def K mg "_law_read_times" Z2:=Yr X G a6 l6 c6 k6
 have d7:Def K mg "_law_times" XB:=Yr X G a7 l7 c7 k7
 have d8:Def K mg "_law_whole" XC:=Yr X G a8 l8 c8 k8
 have d9:Def K mg "_law_tuple" XD:=Yr X G a9 l9 c9 k9
 have d10:Def K mg "_law_due" Vb:=Yr X G a10 l10 c10 k10
 have d11:Def K mg "ties_of" XF:=Yr X G a11 l11 c11 k11
 have d12:Def K mg "loops" Vc:=Yr X G a12 l12 c12 k12
 have d13:Def K mg "_law_kind" Wh:=Yr X G a13 l13 c13 k13
 have d14:Def K mg "_law_refused" YF:=Yr X G a14 l14 c14 k14
 have d15:Def K mg "law" Sn:=Yr X G a15 l15 c15 k15
 refine ND d15 hfa (fun _ _ _ _ _ _ _=>rfl) fun base f fd _ _ F=>?_
 have C_l_square:=RZ (P:=P) (w:=w) (base:=base) d0 B
 have C_l_cell:=OO (P:=P) (w:=w) (base:=base) d1 B
 have C_l_order:=QK (P:=P) (w:=w) (base:=base) d2 B C_l_cell
 have C_ties_ahead:=TV (P:=P) (w:=w) (base:=base) d3 B
 have C_order_purse:=TB (P:=P) (w:=w) (base:=base) d4 B C_ties_ahead
 have X_order_purse:=UG (P:=P) (w:=w) (base:=base) d4 B Q
 have C_l_renamed:=S6 (P:=P) (w:=w) (base:=base) d5 B
 have C_l_read_times:=UH (P:=P) (w:=w) (base:=base) d6 B
 have C_l_times:=QL (P:=P) (w:=w) (base:=base) d7 B C_l_cell C_l_read_times C_l_renamed
 have C_l_whole:=QN (P:=P) (w:=w) (base:=base) d8 B
 have C_l_tuple:=QP (P:=P) (w:=w) (base:=base) d9 B C_l_whole
 have C_l_due:=N0 (P:=P) (w:=w) (base:=base) d10 B
 have C_ties_of:=QQ (P:=P) (w:=w) (base:=base) d11 B
 have C_loops:=N2 (P:=P) (w:=w) (base:=base) d12 B C_ties_of
 have C_l_kind:=OP (P:=P) (w:=w) (base:=base) d13 B  Q
 have C_l_refused:=S7 (P:=P) (w:=w) (base:=base) d14 B C_l_kind Q X_order_purse
 exact Jf F B C_l_cell C_l_square C_l_times C_l_order C_order_purse C_l_due C_l_tuple C_loops C_l_refused
end PW
def PySem.W.Fast.tw12154506163015409567:Unit:=()
def PySem.W.Fast.tw13245905290147129124:Unit:=()
def PySem.W.Fast.tw15890917349883871911:Unit:=()
def PySem.W.Fast.tw14823563523265766664:Unit:=()
def PySem.W.Fast.tw15093858893818114825:Unit:=()
def PySem.W.Fast.tw10634876715795305775:Unit:=()
def PySem.W.Fast.tw8117015853568107258:Unit:=()
def PySem.W.Fast.tw16764235064862359059:Unit:=()
def PySem.W.Fast.tw16830375912993382603:Unit:=()
def PySem.W.Fast.tw2578229032067340859:Unit:=()
def PySem.W.Fast.tw5692329512176920887:Unit:=()
def PySem.W.Fast.tw2938033846911891498:Unit:=()
def PySem.W.Fast.tw8094490612166720716:Unit:=()
def PySem.W.Fast.tw13437681661545812233:Unit:=()
def PySem.W.Fast.tw2195744086094522251:Unit:=()
def PySem.W.Fast.tw6508199543758055658:Unit:=()
def PySem.W.Fast.tw8114401987957863492:Unit:=()
def PySem.W.Fast.tw5413632571664832449:Unit:=()
def PySem.W.Fast.tw14519233731130534333:Unit:=()
def PySem.W.Fast.tw10120978809888159627:Unit:=()
def PySem.W.Fast.tw209365184760547431:Unit:=()
def PySem.W.Fast.tw296171214383374241:Unit:=()
def PySem.W.Fast.tw3047227821700169724:Unit:=()
def PySem.W.Fast.tw8754481855099109467:Unit:=()
def PySem.W.Fast.tw13075566583821704518:Unit:=()
def PySem.W.Fast.tw11539222256299486467:Unit:=()
open PySem PySem.W PyProof.Rows
set_option maxRecDepth 100000 in
set_option maxHeartbeats 0 in
theorem PySem.Challenge.cw_purseweb_k14_purses_of_orders_holds : PySem.Challenge.rw_purseweb_k14_purses_of_orders.Holds := by
 w_on;o_law;k_head;(case hw=>w_witness2)
 k_fill
 refine VL.law_walk (l:=PySem.Challenge.rw_purseweb_k14_purses_of_orders) (D:=PW.D_law) (x:="_law_script") 4 rfl rfl ⟨rfl,by decide,by decide,rfl⟩ PW.law_true (fun w h Y=>PySem.W.kIn_of Y) ?F
 case F=>
  intro w mg fa h KX G hmg
  refine' PW.all_mk KX G hmg ?a0 ?l0 ?c0 ?k0 ?a1 ?l1 ?c1 ?k1 ?a2 ?l2 ?c2 ?k2 ?a3 ?l3 ?c3 ?k3 ?a4 ?l4 ?c4 ?k4 ?a5 ?l5 ?c5 ?k5 ?a6 ?l6 ?c6 ?k6 ?a7 ?l7 ?c7 ?k7 ?a8 ?l8 ?c8 ?k8 ?a9 ?l9 ?c9 ?k9 ?a10 ?l10 ?c10 ?k10 ?a11 ?l11 ?c11 ?k11 ?a12 ?l12 ?c12 ?k12 ?a13 ?l13 ?c13 ?k13 ?a14 ?l14 ?c14 ?k14 ?a15 ?l15 ?c15 ?k15 ?z0 ?z1 ?z2 ?z3 ?z4 ?z5 ?z6 ?z7 ?z8 ?z9 ?z10 ?z11 ?z12 ?z13 ?z14 ?z15 ?z16 ?z17 ?z18 ?qNoOrder ?tNoOrder ?qNoWeb ?tNoWeb ?qApart ?tApart ?qNoText ?tNoText ?qTooMany ?tTooMany ?qNotSettled ?tNotSettled ?qNoTree ?tNoTree ?qNoTotal ?tNoTotal ?qNoEnds ?tNoEnds ?qNoRow ?tNoRow ?qNoName ?tNoName ?qB ?x0 ?x1 ?x2 ?x3 ?x4 ?x5 ?x6 ?x7 ?x8
  (case a0=>k_is)
  (case l0=>k_is)
  (case c0=>k_is)
  (case k0=>k_is)
  (case a1=>k_is)
  (case l1=>k_is)
  (case c1=>k_is)
  (case k1=>k_is)
  (case a2=>k_is)
  (case l2=>k_is)
  (case c2=>k_is)
  (case k2=>k_is)
  (case a3=>k_is)
  (case l3=>k_is)
  (case c3=>k_is)
  (case k3=>k_is)
  (case a4=>k_is)
  (case l4=>k_is)
  (case c4=>k_is)
  (case k4=>k_is)
  (case a5=>k_is)
  (case l5=>k_is)
  (case c5=>k_is)
  (case k5=>k_is)
  (case a6=>k_is)
  (case l6=>k_is)
  (case c6=>k_is)
  (case k6=>k_is)
  (case a7=>k_is)
  (case l7=>k_is)
  (case c7=>k_is)
  (case k7=>k_is)
  (case a8=>k_is)
  (case l8=>k_is)
  (case c8=>k_is)
  (case k8=>k_is)
  (case a9=>k_is)
  (case l9=>k_is)
  (case c9=>k_is)
  (case k9=>k_is)
  (case a10=>k_is)
  (case l10=>k_is)
  (case c10=>k_is)
  (case k10=>k_is)
  (case a11=>k_is)
  (case l11=>k_is)
  (case c11=>k_is)
  (case k11=>k_is)
  (case a12=>k_is)
  (case l12=>k_is)
  (case c12=>k_is)
  (case k12=>k_is)
  (case a13=>k_is)
  (case l13=>k_is)
  (case c13=>k_is)
  (case k13=>k_is)
  (case a14=>k_is)
  (case l14=>k_is)
  (case c14=>k_is)
  (case k14=>k_is)
  (case a15=>k_is)
  (case l15=>k_is)
  (case c15=>k_is)
  (case k15=>k_is)
  (case z0=>k_is)
  (case z1=>k_is)
  (case z2=>k_is)
  (case z3=>k_is)
  (case z4=>k_is)
  (case z5=>k_is)
  (case z6=>k_is)
  (case z7=>k_is)
  (case z8=>k_is)
  (case z9=>k_is)
  (case z10=>k_is)
  (case z11=>k_is)
  (case z12=>k_is)
  (case z13=>k_is)
  (case z14=>k_is)
  (case z15=>k_is)
  (case z16=>k_is)
  (case z17=>k_is)
  (case z18=>k_is)
  (case qNoOrder=>k_is)
  (case tNoOrder=>kernel_rfl)
  (case qNoWeb=>k_is)
  (case tNoWeb=>kernel_rfl)
  (case qApart=>k_is)
  (case tApart=>kernel_rfl)
  (case qNoText=>k_is)
  (case tNoText=>kernel_rfl)
  (case qTooMany=>k_is)
  (case tTooMany=>kernel_rfl)
  (case qNotSettled=>k_is)
  (case tNotSettled=>kernel_rfl)
  (case qNoTree=>k_is)
  (case tNoTree=>kernel_rfl)
  (case qNoTotal=>k_is)
  (case tNoTotal=>kernel_rfl)
  (case qNoEnds=>k_is)
  (case tNoEnds=>kernel_rfl)
  (case qNoRow=>k_is)
  (case tNoRow=>kernel_rfl)
  (case qNoName=>k_is)
  (case tNoName=>kernel_rfl)
  (case qB=>k_is)
  (case x0=>k_exc)
  (case x1=>kernel_rfl)
  (case x2=>kernel_rfl)
  (case x3=>kernel_rfl)
  (case x4=>k_is)
  (case x5=>k_is)
  (case x6=>k_is)
  (case x7=>k_is)
  (case x8=>kernel_rfl)
