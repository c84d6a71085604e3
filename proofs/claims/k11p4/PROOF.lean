import PyProof.Rows.All
import Wide.All
import OpenK.AllK
import Wide.FinOn
import Lean
import PyProof.EqAt
import PyProof.EqKinds
import PyProof.TupleCall
import PyProof.NeKinds
import PyProof.ListMulRoad
import PyProof.WalkInts
import PyProof.ListRange
import KE.KRevIter
import PySem.Challenge.RW_purseweb_k11_a_house_lends
set_option Elab.async false
set_option linter.all false
set_option maxRecDepth 100000
namespace L2
open PySem PySem.Spec PyProof.Rows
abbrev ZR:=Sum Int Str
def Ul:ZR->Value->Bool
 | .inl k,v=>Value.isInt k v
 | .inr x,v=>Value.isStrOf x v
def L7(w:World):ZR->Int
 | .inl k=>hashInt k
 | .inr x=>hashStr w x
theorem ZI:∀{k:ZR}{v:Value},Ul k v=true->(∃i t,k=Sum.inl i/\v=Value.int i t)\/(∃x t,k=Sum.inr x/\v=Value.str x t)
 | .inl i,v,h=>by
  obtain⟨t,e⟩:=Value.isInt_shape (k:=i) (v:=v) h
  exact .inl ⟨i,t,rfl,e⟩
 | .inr x,v,h=>by
  obtain⟨t,e⟩:=Value.isStrOf_shape (x:=x) (v:=v) h
  exact .inr ⟨x,t,rfl,e⟩
theorem RX(i:Int)(t:Tok):Ul (.inl i) (.int i t)=true:=by simp[Ul,Value.isInt]
theorem RY(x:Str)(t:Tok):Ul (.inr x) (.str x t)=true:=by simp[Ul,Value.isStrOf]
theorem NP(a b:Int):decide ((Sum.inl a:ZR)=Sum.inl b)=(a==b):=by
 by_cases e:a=b
 ·subst e;simp
 ·have h:¬(Sum.inl a:ZR)=Sum.inl b:=fun q=>e (Sum.inl.inj q)
  rw[decide_eq_false h]
  exact(beq_eq_false_iff_ne.mpr e).symm
theorem NQ(a b:Str):decide ((Sum.inr a:ZR)=Sum.inr b)=decide (a=b):=by
 by_cases e:a=b
 ·subst e;simp
 ·have h:¬(Sum.inr a:ZR)=Sum.inr b:=fun q=>e (Sum.inr.inj q)
  rw[decide_eq_false h,decide_eq_false e]
theorem NR(a:Int)(b:Str):decide ((Sum.inl a:ZR)=Sum.inr b)=false:=decide_eq_false (fun q=>nomatch q)
theorem NS(a:Str)(b:Int):decide ((Sum.inr a:ZR)=Sum.inl b)=false:=decide_eq_false (fun q=>nomatch q)
def ZS(prog:Program)(w:World):PySem.KeyKind prog w ZR where
 is:=Ul
 hash:=L7 w
 inj:=fun v a b ha hb=>by
  rcases ZI ha with⟨i,t,rfl,rfl⟩ | ⟨x,t,rfl,rfl⟩
  ·rcases ZI hb with⟨j,u,rfl,e⟩ | ⟨y,u,rfl,e⟩
   ·injection e with e1 _;rw[e1]
   ·exact nomatch e
  ·rcases ZI hb with⟨j,u,rfl,e⟩ | ⟨y,u,rfl,e⟩
   ·exact nomatch e
   ·injection e with e1 _;rw[e1]
 byValue:=fun k v h=>by
  rcases ZI h with⟨i,t,rfl,rfl⟩ | ⟨x,t,rfl,rfl⟩<;>rfl
 pyHash:=fun hv h=>by
  rcases ZI hv with⟨i,t,rfl,rfl⟩ | ⟨x,t,rfl,rfl⟩
  ·exact wpAny_pyHash_int h
  ·exact wpAny_pyHash_str h
 eqBool:=fun hu hv h=>by
  rcases ZI hu with⟨i,t,rfl,rfl⟩ | ⟨x,t,rfl,rfl⟩
  ·rcases ZI hv with⟨j,u,rfl,rfl⟩ | ⟨y,u,rfl,rfl⟩
   ·rw[NP] at h;exact wpAny_eqBool_int h
   ·rw[NR] at h;exact SeqAt.EqAt.int_str i t y u _ _ _ _ h
  ·rcases ZI hv with⟨j,u,rfl,rfl⟩ | ⟨y,u,rfl,rfl⟩
   ·rw[NS] at h;exact SeqAt.EqAt.str_int x t j u _ _ _ _ h
   ·rw[NQ] at h;exact wpAny_eqBool_str h
 «strs»:=fun k x t v h=>by
  rcases ZI h with⟨i,u,rfl,e⟩ | ⟨y,u,rfl,e⟩
  ·exact nomatch e
  ·injection e with e1 _
   subst e1
   cases v<;>rfl
theorem Tq(prog:Program)(w:World)(i:Int)(t:Tok):(ZS prog w).is (.inl i) (.int i t)=true:=RX i t
theorem Tr(prog:Program)(w:World)(x:Str)(t:Tok):(ZS prog w).is (.inr x) (.str x t)=true:=RY x t
inductive V where
 | non | bl (b:Bool) | int (i:Int) | str (x:Str) | byt (b:Array UInt8) | flt (b:UInt64) | ref (a:Addr) | ty (n:String)
 deriving DecidableEq
def RelV:V->Value->Prop
 | .non,u=>u=Value.none
 | .bl b,u=>u=Value.bool b
 | .int i,u=>∃t,u=Value.int i t
 | .str x,u=>∃t,u=Value.str x t
 | .byt b,u=>∃t,u=Value.bytes b t
 | .flt b,u=>∃t,u=Value.float b t
 | .ref a,u=>u=Value.ref a
 | .ty n,u=>u=Value.type n
abbrev Vals:List V->List Value->Prop:=Paired RelV
theorem Vals.length{xs:List V}{us:List Value}(r:Vals xs us):xs.length=us.length:=Paired.length r
theorem Vals.get:∀{xs:List V}{us:List Value}{i:Nat}{x:V},Vals xs us->xs[i]?=some x->∃u,us[i]?=some u/\RelV x u
 | _,_,_,_,.nil,e=>by simp at e
 | _,_,0,_,.cons r _,e=>by simp at e;subst e;exact⟨_,rfl,r⟩
 | _,_,i+1,x,.cons _ t,e=>by
  obtain⟨u,h1,h2⟩:=Vals.get (i:=i) (x:=x) t (by simpa using e)
  exact⟨u,by simpa using h1,h2⟩
theorem Vals.set{x:V}{u:Value}(r:RelV x u):∀{xs:List V}{us:List Value}(i:Nat),Vals xs us->Vals (xs.set i x) (us.set i u)
 | _,_,_,.nil=>.nil
 | _,_,0,.cons _ t=>.cons r t
 | _,_,i+1,.cons q t=>.cons q (Vals.set r i t)
theorem Vals.append:∀{xs ys:List V}{us ws:List Value},Vals xs us->Vals ys ws->Vals (xs++ys) (us++ws)
 | _,_,_,_,.nil,s=>s
 | _,_,_,_,.cons r t,s=>.cons r (Vals.append t s)
theorem Vals.take:∀{xs:List V}{us:List Value}(n:Nat),Vals xs us->Vals (xs.take n) (us.take n)
 | _,_,0,_=>.nil
 | _,_,_+1,.nil=>.nil
 | _,_,n+1,.cons r t=>.cons r (Vals.take n t)
theorem Vals.drop:∀{xs:List V}{us:List Value}(n:Nat),Vals xs us->Vals (xs.drop n) (us.drop n)
 | _,_,0,r=>r
 | _,_,_+1,.nil=>.nil
 | _,_,n+1,.cons _ t=>Vals.drop n t
def RelO:Option V->Option Value->Prop
 | some v,some u=>RelV v u
 | none,none=>True
 | _,_=>False
def KV{κ:Type}:List (κ×V)->List (κ×Value)->Prop:=Paired fun(p:κ×V) (q:κ×Value)=>p.1=q.1/\RelV p.2 q.2
def kV:ZR->V
 | .inl i=>.int i
 | .inr x=>.str x
inductive HO where
 /-- a list -/
 | lst (xs:List V)
 /-- a tuple (never changes) -/
 | tup (xs:List V)
 /-- a dict whose keys are ints and texts;one whose keys are tuples of ints and texts (the empty one is both) -/
 | dK (kvs:List (ZR×V)) | dT (kvs:List (List ZR×V))
 /-- a set of ints: its members,its size -/
 | set (S:Int->Bool) (n:Nat)
 /-- an instance of the class at C,its dict at dx,its attributes -/
 | ins (C dx:Addr) (fs:List (Str×V))
 /-- the dict of the instance at x -/
 | own (x:Addr)
 /-- the dict of an exception -/
 | xd (fs:List (Str×V))
 /-- a bound method,f of x -/
 | met (f x:Addr)
 /-- a range object lo,lo+1,.. below hi -/
 | rng (lo hi:Int)
 /-- a thing that is known to the object (the script;a dict while a loop walks it): read,never written while it is so -/
 | frz (o:Obj) (u:HO)
 /-- a code object's table -/
 | tbl (ps:Array Value)
 /-- any other thing,by what is true of its one object (a def of one's own: SetO a S n:=HO.ext fun h=>..) -/
 | ext (φ:Heap->Prop)
abbrev Hp:=Addr->Option HO
def upd(H:Hp)(a:Addr)(o:HO):Hp:=fun b=>if b=a then some o else H b
theorem upd_same{H:Hp}{a:Addr}{o:HO}:upd H a o a=some o:=by unfold upd;rw[if_pos rfl]
theorem upd_ne{H:Hp}{a b:Addr}{o:HO}(h:b≠a):upd H a o b=H b:=by unfold upd;rw[if_neg h]
theorem M6{H:Hp}{a b:Addr}{o u:HO}(h:H a=some o)(h':H b=some u)(d:o≠u):a≠b:=by
 intro e;subst e;rw[h] at h';exact d (Option.some.inj h')
theorem Zq{H:Hp}{a b:Addr}{o:HO}(h:H a=some o)(h':H b=none):a≠b:=by
 intro e;subst e;rw[h] at h';cases h'
section
variable (P:Program) (w:World)
def ObjOk(H:Hp)(h:Heap)(a:Addr):HO->Prop
 | .lst xs=>xs.length<=sizeLine/\∃(its:List Value) (n:Nat),Vals xs its/\h.get? a=some { cls:=.type "list",data:=.seq its.toArray n }
 | .tup xs=>xs.length<=sizeLine/\∃its:List Value,Vals xs its/\IsTup h a its.toArray
 | .dK kvs=>kvs.length<=sizeLine/\(a==sysModules)=false/\∃vs,KV kvs vs/\h.DictOf (ZS P w) a vs
 | .dT kvs=>kvs.length<=sizeLine/\(a==sysModules)=false/\∃xs:List (List ZR×Addr×Value),
   Paired (fun(p:List ZR×V) (q:List ZR×Addr×Value)=>p.1=q.1/\H q.2.1=some (.tup (p.1.map kV))/\RelV p.2 q.2.2) kvs xs/\
   ∃o es ep,h.get? a=some o/\o.ExactDict/\o.data = .dict es ep/\es.toList=xs.map (entryOfKey (tupleKind (ZS P w)))/\(xs.map (·.1)).Nodup
 | .set S n=>h.SetOf (intKind P w) a S n
 | .ins C dx fs=>H dx=some (.own a)/\fs.length<=1000/\dx≠a/\h.get? a=some (PySem.W.instObj C dx)/\
   ∃mA,h.Ns1 dx mA/\(∀f,RelO (fs.lookup f) (mA f))/\PySem.Within mA (fs.map (·.1))
 | .own _=>∃o,h.get? a=some o
 | .xd fs=>∃mA,h.Ns1 a mA/\∀f,RelO (fs.lookup f) (mA f)
 | .rng lo hi=>∃t u v,h.get? a=some { cls:=.type "range",data:=.fields #[.int lo t,.int hi u,.int 1 v] }
 | .frz o u=>h.get? a=some o/\ObjOk H h a u
 | .tbl ps=>h.get? a=some { cls:=.none,data:=.fields ps }
 | .met f x=>h.get? a=some (PySem.W.methodObj (.ref f) (.ref x))
 | .ext φ=>φ h/\(∃o,h.get? a=some o)/\∀h1 h2:Heap,φ h1->(∀o,h1.get? a=some o->h2.get? a=some o)->φ h2
def HOk(H:Hp)(h:Heap):Prop:=∀a o,H a=some o->ObjOk P w H h a o
end
section
variable {P:Program} {w:World} {H H':Hp} {h h':Heap} {a:Addr} {o:HO}
theorem ObjOk.lt(x:ObjOk P w H h a o):a<h.objs.size:=by
 cases o with
 | lst xs=>obtain⟨_,_,_,_,e⟩:=x;exact Heap.lt_size e
 | tup xs=>obtain⟨_,_,_,p⟩:=x;exact p.lt
 | dK kvs=>obtain⟨_,_,_,_,o,_,_,e,_⟩:=x;exact Heap.lt_size e
 | dT kvs=>obtain⟨_,_,_,_,o,_,_,e,_⟩:=x;exact Heap.lt_size e
 | set S n=>obtain⟨o,_,_,_,e,_⟩:=x;exact Heap.lt_size e
 | ins C dx fs=>obtain⟨_,_,_,e,_⟩:=x;exact Heap.lt_size e
 | own y=>obtain⟨_,e⟩:=x;exact Heap.lt_size e
 | xd fs=>obtain⟨_,⟨_,_,_,e,_⟩,_⟩:=x;exact Heap.lt_size e
 | rng lo hi=>obtain⟨_,_,_,e⟩:=x;exact Heap.lt_size e
 | frz ob u=>obtain⟨e,_⟩:=x;exact Heap.lt_size e
 | tbl ps=>exact Heap.lt_size (show h.get? a=some _ from x)
 | met f y=>exact Heap.lt_size (show h.get? a=some _ from x)
 | ext φ=>obtain⟨_,⟨_,e⟩,_⟩:=x;exact Heap.lt_size e
theorem Paired.mapP{α β:Type}{F G:α->β->Prop}:∀{l₁:List α}{l₂:List β},Paired F l₁ l₂->(∀a b,F a b->G a b)->Paired G l₁ l₂
 | _,_,.nil,_=>.nil
 | _,_,.cons r t,f=>.cons (f _ _ r) (Paired.mapP t f)
theorem ObjOk.stay(x:ObjOk P w H h a o)(k:∀b u,(b=a\/H b=some (.own a))->h.get? b=some u->h'.get? b=some u)
  (ho:∀b,H b=some (.own a)->H' b=some (.own a)) (ht:∀b xs,H b=some (.tup xs)->H' b=some (.tup xs)):ObjOk P w H' h' a o:=by
 induction o with
 | lst xs=>obtain⟨z,its,n,r,e⟩:=x;exact⟨z,its,n,r,k _ _ (.inl rfl) e⟩
 | tup xs=>obtain⟨z,its,r,ob,e,c⟩:=x;exact⟨z,its,r,ob,k _ _ (.inl rfl) e,c⟩
 | dK kvs=>obtain⟨z,y,vs,r,ob,es,ep,e,c⟩:=x;exact⟨z,y,vs,r,ob,es,ep,k _ _ (.inl rfl) e,c⟩
 | dT kvs=>
  obtain⟨z,y,xs,r,ob,es,ep,e,c⟩:=x
  exact⟨z,y,xs,Paired.mapP r fun p q z=>⟨z.1,ht _ _ z.2.1,z.2.2⟩,ob,es,ep,k _ _ (.inl rfl) e,c⟩
 | set S n=>obtain⟨ob,es,ep,t,e,c⟩:=x;exact⟨ob,es,ep,t,k _ _ (.inl rfl) e,c⟩
 | ins C dx fs=>
  obtain⟨d,z,ne,e,mA,⟨od,es,ep,e2,c⟩,r⟩:=x
  exact⟨ho _ d,z,ne,k _ _ (.inl rfl) e,mA,⟨od,es,ep,k _ _ (.inr d) e2,c⟩,r⟩
 | own y=>obtain⟨ob,e⟩:=x;exact⟨ob,k _ _ (.inl rfl) e⟩
 | xd fs=>obtain⟨mA,⟨od,es,ep,e,c⟩,r⟩:=x;exact⟨mA,⟨od,es,ep,k _ _ (.inl rfl) e,c⟩,r⟩
 | rng lo hi=>obtain⟨t,u,v,e⟩:=x;exact⟨t,u,v,k _ _ (.inl rfl) e⟩
 | frz ob u ih=>obtain⟨e,q⟩:=x;exact⟨k _ _ (.inl rfl) e,ih q⟩
 | tbl ps=>
  have e:h.get? a=some { cls:=.none,data:=.fields ps }:=x
  show h'.get? a=some { cls:=.none,data:=.fields ps }
  exact k a _ (.inl rfl) e
 | met f y=>
  have e:h.get? a=some (PySem.W.methodObj (.ref f) (.ref y)):=x
  show h'.get? a=some (PySem.W.methodObj (.ref f) (.ref y))
  exact k a _ (.inl rfl) e
 | ext φ=>obtain⟨p,⟨o,e⟩,st⟩:=x;exact⟨st _ _ p fun o q=>k _ _ (.inl rfl) q,⟨o,k _ _ (.inl rfl) e⟩,st⟩
theorem HOk.lt(x:HOk P w H h)(e:H a=some o):a<h.objs.size:=(x a o e).lt
theorem HOk.fresh(x:HOk P w H h)(e:h.objs.size<=a):H a=none:=by
 cases q:H a with
 | none=>rfl
 | some u=>exact absurd (Nat.lt_of_lt_of_le (x.lt q) e) (Nat.lt_irrefl _)
theorem HOk.kept(x:HOk P w H h)(k:∀b u,h.get? b=some u->h'.get? b=some u):HOk P w H h':=fun a o e=>
 (x a o e).stay (fun b u _ q=>k b u q) (fun _ q=>q) fun _ _ q=>q
theorem HOk.laid(x:HOk P w H h)(k:∀b u,h.get? b=some u->h'.get? b=some u)(hp:h.objs.size<=a)(new:ObjOk P w (upd H a o) h' a o):HOk P w (upd H a o) h':=fun b u e=>by
 have hn:=x.fresh hp
 by_cases hb:b=a
 ·subst hb;rw[upd_same] at e;cases e;exact new
 ·rw[upd_ne hb] at e
  exact(x b u e).stay (fun c v _ q=>k c v q) (fun c q=>by rw[upd_ne (Zq q hn)];exact q) fun c xs q=>by rw[upd_ne (Zq q hn)];exact q
end
def Rd(H:Hp)(a:Addr)(u:HO):Prop:=H a=some u\/∃o,H a=some (.frz o u)
theorem Rd.ok{P:Program}{w:World}{H:Hp}{h:Heap}{a:Addr}{u:HO}(r:Rd H a u)(x:HOk P w H h):ObjOk P w H h a u:=by
 rcases r with r | ⟨o,r⟩
 ·exact x a u r
 ·obtain⟨_,q⟩:=x a _ r
  exact q
def Xb:Option HO->Prop
 | some (.lst _)=>True
 | some (.dK _)=>True
 | some (.dT _)=>True
 | some (.set _ _)=>True
 | some (.ins _ _ _)=>True
 | some (.ext _)=>True
 | _=>False
section
variable {P:Program} {w:World} {H:Hp} {h h':Heap} {x e:Addr} {o':HO}
theorem HOk.write(ok:HOk P w H h)(mu:Xb (H x))(he:e=x\/H e=some (.own x))(k:∀b u,b≠e->h.get? b=some u->h'.get? b=some u)(heo:∃u,h'.get? e=some u)
  (new:ObjOk P w (upd H x o') h' x o'):HOk P w (upd H x o') h':=fun b u q=>by
 have nown:∀c y,H c=some (.own y)->c≠x:=fun c y r z=>by subst z;rw[r] at mu;exact mu
 have ntup:∀c xs,H c=some (.tup xs)->c≠x:=fun c xs r z=>by subst z;rw[r] at mu;exact mu
 by_cases hb:b=x
 ·subst hb;rw[upd_same] at q;cases q;exact new
 ·rw[upd_ne hb] at q
  by_cases hbe:b=e
  ·have q':H b=some (.own x):=by
    rcases he with z | z
    ·exact absurd (hbe.trans z) hb
    ·rw[hbe];exact z
   rw[q] at q';cases q'
   obtain⟨v,hv⟩:=heo
   exact⟨v,by rw[hbe];exact hv⟩
  ·refine(ok b u q).stay (fun c v hc r=>k c v ?_ r) (fun c r=>by rw[upd_ne (nown c b r)];exact r) fun c xs r=>by rw[upd_ne (ntup c xs r)];exact r
   rcases hc with rfl | hc
   ·exact hbe
   ·rintro rfl
    rcases he with z | z
    ·exact nown c b hc z
    ·rw[hc] at z;cases z;exact hb rfl
end
structure Un(fs ex:List Addr)(H H':Hp)(h h':Heap):Prop where
 keep:∀b o,h.get? b=some o->H b=none->b∉fs->b∉ex->h'.get? b=some o
 slot:∀b o,h.get? b=some o->H b=none->b∈fs->b∉ex->∃sl,h'.get? b=some { o with slots:=sl }
 free:∀b o,h.get? b=some o->H b=none->b∉ex->H' b=none
 there:∀b o,h.get? b=some o->b∉ex->∃o',h'.get? b=some o'
 tups:∀b xs,H b=some (.tup xs)->H' b=some (.tup xs)
 frzs:∀b o u,H b=some (.frz o u)->H' b=some (.frz o u)
 tbls:∀b ps,H b=some (.tbl ps)->∃more,H' b=some (.tbl (ps++more))
section
variable {fs fs' ex ex':List Addr} {H H1 H2:Hp} {h h1 h2 h':Heap} {a x e:Addr} {o:HO}
theorem Un.any(u:Un fs ex H H1 h h1){b:Addr}{ob:Obj}(q:h.get? b=some ob)(n:H b=none)(hx:b∉ex):∃sl,h1.get? b=some { ob with slots:=sl }:=by
 by_cases hb:b∈fs
 ·exact u.slot b ob q n hb hx
 ·exact⟨ob.slots,u.keep b ob q n hb hx⟩
theorem Un.kept(k:∀b u,h.get? b=some u->h'.get? b=some u):Un fs ex H H h h':=
 ⟨fun b ob q _ _ _=>k b ob q,fun b ob q _ _ _=>⟨ob.slots,k b ob q⟩,fun _ _ _ n _=>n,fun b ob q _=>⟨ob,k b ob q⟩,fun _ _ q=>q,fun _ _ _ q=>q,fun _ ps q=>⟨#[],by rw[q];simp⟩⟩
theorem Un.refl:Un fs ex H H h h:=Un.kept fun _ _ q=>q
theorem Un.laid(k:∀b u,h.get? b=some u->h'.get? b=some u)(hp:h.objs.size<=a)(hn:H a=none):Un fs ex H (upd H a o) h h' where
 keep:=fun b u q _ _ _=>k b u q
 slot:=fun b u q _ _ _=>⟨u.slots,k b u q⟩
 free:=fun b u q n _=>by rw[upd_ne (Nat.ne_of_lt (Nat.lt_of_lt_of_le (Heap.lt_size q) hp))];exact n
 there:=fun b u q _=>⟨u,k b u q⟩
 tups:=fun b xs q=>by rw[upd_ne (Zq q hn)];exact q
 frzs:=fun b u xs q=>by rw[upd_ne (Zq q hn)];exact q
 tbls:=fun b ps q=>⟨#[],by rw[upd_ne (Zq q hn),q];simp⟩
theorem Un.write(mu:Xb (H x))(he:e=x\/H e=some (.own x))(k:∀b u,b≠e->h.get? b=some u->h'.get? b=some u)(heo:∃u,h'.get? e=some u):Un fs ex H (upd H x o) h h':=by
 have hx:∀b,H b=none->b≠x:=fun b n z=>by subst z;rw[n] at mu;exact mu
 have hb:∀b,H b=none->b≠e:=fun b n z=>by
  subst z
  rcases he with r | r
  ·exact hx b n r
  ·rw[n] at r;cases r
 have hm:∀b u,H b=some u->¬Xb (some u)->b≠x:=fun b u q nm z=>by subst z;rw[q] at mu;exact nm mu
 refine⟨fun b u q n _ _=>k b u (hb b n) q,fun b u q n _ _=>⟨u.slots,k b u (hb b n) q⟩,fun b u q n _=>by rw[upd_ne (hx b n)];exact n,fun b u q _=>?_,
  fun b xs q=>by rw[upd_ne (hm b _ q fun z=>z)];exact q,fun b u xs q=>by rw[upd_ne (hm b _ q fun z=>z)];exact q,fun b ps q=>⟨#[],by rw[upd_ne (hm b _ q fun z=>z),q];simp⟩⟩
 by_cases hbe:b=e
 ·subst hbe;exact heo
 ·exact⟨u,k b u hbe q⟩
end
def LX(h:Heap)(H:Hp):List Addr:=(List.range h.objs.size).filter fun a=>(H a).isSome
def UO(h:Heap)(H:Hp):Heap:=PySem.W.hideAll h (LX h H)
theorem RZ(h:Heap)(H:Hp):(UO h H).objs.size=h.objs.size:=PySem.W.hideAll_size _ _
theorem QN{h:Heap}{H:Hp}{b:Addr}{o:Obj}(e:h.get? b=some o)(n:H b=none):(UO h H).get? b=some o:=
 PySem.W.hideAll_get _ e fun hm=>by
  have q:(H b).isSome=true:=(List.mem_filter.mp hm).2
  rw[n] at q;simp at q
theorem Oc{h:Heap}{H:Hp}{b:Addr}{o:Obj}(e:(UO h H).get? b=some o):h.get? b=some o/\H b=none:=by
 have e':h.get? b=some o:=PySem.W.of_hideAll (LX h H) e
 refine⟨e',?_⟩
 cases q:H b with
 | none=>rfl
 | some x=>
  have hm:b∈LX h H:=List.mem_filter.mpr ⟨List.mem_range.mpr (Heap.lt_size e'),by simp[q]⟩
  have z:(UO h H).get? b=none:=PySem.W.hideAll_none (LX h H) hm
  rw[z] at e;cases e
def Od(g h:Heap)(L:Addr):List (Addr×Obj):=(List.range h.objs.size).filterMap fun a=>if a=L\/(g.get? a).isSome=true then none else(h.get? a).map fun o=>(a,o)
def Zj(g h:Heap)(L d:Addr):List (Addr×Obj):=(Od g h L).filter fun p=>decide (p.1≠d)
structure Mod(K:PySem.W.Frag)(mg:Str->Option Value)(base:Heap):Prop where
 kin:K.In base
 glob:base.Ns mainGlobals mg
 blt:∃mb,base.Ns builtinsNs mb/\∀x:Str,x≠"__name__"->mb x=bootBuiltins x
 nolimit:base.NoLimit
structure Cx where
 prog:Program
 w:World
 K:PySem.W.Frag
 mg:Str->Option Value
 base:Heap
 A:Around
 N:List Str
 s₀:Shared
 H₀:Hp
 env:Env
 outer:List Env
 stack:List Env
 ex:List Addr
 fn:Str->Bool
 calm:Bool
 pn:List (Addr×Obj)
 xe:Value->Shared->Prop
def Rb(l:List Env):List Addr:=l.filterMap (·.frame)
abbrev Cx.fs(X:Cx):List Addr:=Rb X.outer
def L8(sc:Scope)(x:Str):Prop:=sc.names.lookup x=some .local\/sc.names.lookup x=some .cell\/sc.names.lookup x=some .free
def M7(sc:Scope)(x:Str):Prop:=sc.names.lookup x=some .local\/sc.names.lookup x=some .cell
def L9(env:Env)(h:Heap)(m:Str->Option Value)(x:Str)(u:Value):Prop:=
 (env.kindOf x=some .local/\m x=some u)\/((env.kindOf x=some .cell\/env.kindOf x=some .free)/\∃c,env.cells.lookup x=some c/\h.IsCell c (some u))
structure Cx.Ok(X:Cx):Prop where
 mod:Mod X.K X.mg X.base
 kind:X.env.scope.kind = .function
 glob:X.env.globals=mainGlobals
 blt:X.env.builtins=builtinsNs
 above:X.s₀.heap.objs.size<=X.env.locals
 inj:∀x y c,X.env.cells.lookup x=some c->X.env.cells.lookup y=some c->x=y
 has:∀x,(X.env.kindOf x=some .cell\/X.env.kindOf x=some .free)->∃c,X.env.cells.lookup x=some c
 cab:∀x c,X.fn x=true->X.env.cells.lookup x=some c->X.s₀.heap.objs.size<=c
 hd:X.calm=true->X.A.handled=none
 frames:X.A.frames=some X.stack
 stk:X.stack=X.outer\/(X.stack=X.env::X.outer/\X.env.frame=some X.env.locals)
 exf:∀b∈X.ex,b≠X.env.locals/\∀x c,X.env.cells.lookup x=some c->c≠b
 bs:∀b o,X.base.get? b=some o->X.s₀.heap.get? b=some o/\X.H₀ b=none
 bsz:X.base.objs.size<=X.s₀.heap.objs.size
 noex:∀b o,X.base.get? b=some o->b∉X.ex
 exfs:∀b∈X.ex,b∉X.fs
 funs:X.s₀.heap.FunFrames X.base X.outer
 frf:∀b∈X.fs,X.H₀ b=none
structure Inv(X:Cx)(pins:List (Addr×Obj))(Z:List (Option V))(H:Hp)(s:Shared):Prop where
 ok:X.Ok
 os:s.os=X.s₀.os
 bare:AllBare s.gens
 base:Un X.fs X.ex X.H₀ H X.s₀.heap s.heap
 loc:∃m,s.heap.Ns X.env.locals m/\∀(i:Nat)(x:Str)(v:V),X.N[i]?=some x->Z[i]?=some (some v)->L8 X.env.scope x->∃u,RelV v u/\L9 X.env s.heap m x u
 cell:∀x c,X.env.cells.lookup x=some c->∃v,s.heap.IsCell c v
 free:H X.env.locals=none
 freeC:∀x c,X.env.cells.lookup x=some c->H c=none
 pin:∀p∈X.pn++pins,s.heap.get? p.1=some p.2/\H p.1=none/\p.1≠X.env.locals/\p.1∉X.fs/\∀v,p.2.data≠.cell v
 hok:HOk X.prog X.w H s.heap
 len:Z.length=X.N.length
section
variable {X:Cx} {pins:List (Addr×Obj)} {Z:List (Option V)} {H H':Hp} {s:Shared} {h':Heap}
theorem Cx.Ok.nofr(ok:X.Ok){b:Addr}{o:Obj}(e:X.base.get? b=some o):b∉X.fs:=fun hb=>by
 have:=(ok.funs.mem hb).1
 rw[e] at this;cases this
theorem Inv.bs(I:Inv X pins Z H s):∀b o,X.base.get? b=some o->s.heap.get? b=some o/\H b=none:=fun b o e=>
 ⟨I.base.keep b o (I.ok.bs b o e).1 (I.ok.bs b o e).2 (I.ok.nofr e) (I.ok.noex b o e),I.base.free b o (I.ok.bs b o e).1 (I.ok.bs b o e).2 (I.ok.noex b o e)⟩
theorem Inv.bk(I:Inv X pins Z H s):∀b o,X.base.get? b=some o->s.heap.get? b=some o:=fun b o e=>(I.bs b o e).1
theorem Inv.mod(I:Inv X pins Z H s):Mod X.K X.mg X.base:=I.ok.mod
theorem Inv.kIn(I:Inv X pins Z H s):X.K.In s.heap:=I.ok.mod.kin.keeps I.bk
theorem Inv.fr(I:Inv X pins Z H s):∃m,Fr X.base X.env.locals s.heap m:=
 let⟨m,hn,_⟩:=I.loc
 ⟨m,hn,I.bk,Nat.le_trans I.ok.bsz I.ok.above⟩
theorem Inv.lt(I:Inv X pins Z H s):X.env.locals<s.heap.objs.size:=let⟨_,hn,_⟩:=I.loc;hn.lt
theorem Inv.sz(I:Inv X pins Z H s):X.s₀.heap.objs.size<=s.heap.objs.size:=Nat.le_trans I.ok.above (Nat.le_of_lt I.lt)
theorem Inv.nofs(I:Inv X pins Z H s){a:Addr}(h:s.heap.objs.size<=a):a∉X.fs:=fun hb=>by
 obtain⟨_,o,ho,_⟩:=I.ok.funs.mem hb
 exact absurd (Nat.lt_of_lt_of_le (Heap.lt_size ho) (Nat.le_trans I.sz h)) (Nat.lt_irrefl _)
theorem Inv.cne(I:Inv X pins Z H s):∀x c,X.env.cells.lookup x=some c->c≠X.env.locals:=fun x c e z=>by
 obtain⟨v,o,ho,hd⟩:=I.cell x c e
 obtain⟨m,⟨o',es,ep,ho',hd',_⟩,_⟩:=I.loc
 rw[z,ho'] at ho;cases ho;rw[hd'] at hd;cases hd
theorem Inv.funs(I:Inv X pins Z H s):s.heap.FunFrames X.base X.outer:=by
 have all:∀(l:List Env),(∀b∈Rb l,b∈X.fs)->X.s₀.heap.FunFrames X.base l->s.heap.FunFrames X.base l:=by
  intro l
  induction l with
  | nil=>intro _ _;trivial
  | cons env r ih=>
   intro hs hl
   obtain⟨hk,⟨L,o,hf,hn,ho,hd⟩,hr⟩:=hl
   have hL:L∈X.fs:=hs L (by unfold Rb;rw[List.filterMap_cons,hf];exact List.mem_cons_self)
   obtain⟨sl,e⟩:=I.base.slot L o ho (I.ok.frf L hL) hL fun z=>I.ok.exfs L z hL
   exact⟨hk,⟨L,_,hf,hn,e,hd⟩,ih (fun b hb=>hs b (by unfold Rb;rw[List.filterMap_cons,hf];exact List.mem_cons_of_mem _ hb)) hr⟩
 exact all X.outer (fun _ hb=>hb) I.ok.funs
theorem Inv.stack(I:Inv X pins Z H s):s.heap.FunFrames X.base X.stack:=by
 rcases I.ok.stk with e | ⟨e,hf⟩
 ·rw[e];exact I.funs
 ·rw[e]
  obtain⟨m,hn,_⟩:=I.loc
  refine .cons (by rw[I.ok.kind];decide) hf hn ?_ I.funs
  exact Heap.get?_none_of_le (Nat.le_trans I.ok.bsz I.ok.above)
theorem Inv.stkSub(I:Inv X pins Z H s):∀b∈Rb X.stack,b∈X.env.locals::X.fs:=fun b hb=>by
 rcases I.ok.stk with e | ⟨e,hf⟩
 ·rw[e] at hb;exact List.mem_cons_of_mem _ hb
 ·rw[e] at hb
  unfold Rb at hb;rw[List.filterMap_cons,hf] at hb;exact hb
theorem Inv.stkFree(I:Inv X pins Z H s):∀b∈Rb X.stack,H b=none:=fun b hb=>by
 rcases List.mem_cons.mp (I.stkSub b hb) with e | hb
 ·rw[e];exact I.free
 ·obtain⟨_,o,ho,_⟩:=I.ok.funs.mem hb
  exact I.base.free b o ho (I.ok.frf b hb) fun z=>I.ok.exfs b z hb
theorem Inv.step{g':Array GenState}{t':Nat}{d':Drawn}{ch:List Addr}(I:Inv X pins Z H s)
  (hch:∀b∈ch,(b∈X.ex\/X.s₀.heap.objs.size<=b)/\b≠X.env.locals/\(∀x c,X.env.cells.lookup x=some c->c≠b)/\∀p∈X.pn++pins,p.1≠b)
  (keep:∀b o,b≠X.env.locals->b∉X.fs->b∉ch->s.heap.get? b=some o->H b=none->h'.get? b=some o)
  (slot:∀b o,b≠X.env.locals->b∈X.fs->b∉ch->s.heap.get? b=some o->H b=none->∃sl,h'.get? b=some { o with slots:=sl }) (free:∀b o,b∉ch->s.heap.get? b=some o->H b=none->H' b=none)
  (there:∀b o,b∉ch->s.heap.get? b=some o->∃o',h'.get? b=some o')
  (tups:∀b xs,H b=some (.tup xs)->H' b=some (.tup xs)) (frzs:∀b o u,H b=some (.frz o u)->H' b=some (.frz o u)) (tbls:∀b ps,H b=some (.tbl ps)->∃more,H' b=some (.tbl (ps++more)))
  (ns:∀m,s.heap.Ns X.env.locals m->h'.Ns X.env.locals m) (hok:HOk X.prog X.w H' h') (hg:AllBare g') :
  Inv X pins Z H' { s with heap:=h',gens:=g',drawn:=d',toks:=t' }:=by
 have neL:∀b o,X.s₀.heap.get? b=some o->b≠X.env.locals:=fun b o e=>Nat.ne_of_lt (Nat.lt_of_lt_of_le (Heap.lt_size e) I.ok.above)
 have neC:∀b o,X.s₀.heap.get? b=some o->b∉X.ex->b∉ch:=fun b o e hx hb=>by
  rcases(hch b hb).1 with z | z
  ·exact hx z
  ·exact absurd (Nat.lt_of_lt_of_le (Heap.lt_size e) z) (Nat.lt_irrefl _)
 have cellK:∀x c,X.env.cells.lookup x=some c->∀v,s.heap.IsCell c v->h'.IsCell c v:=fun x c e v ⟨o,ho,hd⟩=>by
  have nch:c∉ch:=fun z=>(hch c z).2.2.1 x c e rfl
  by_cases hc:c∈X.fs
  ·obtain⟨sl,q⟩:=slot c o (I.cne x c e) hc nch ho (I.freeC x c e)
   exact⟨_,q,hd⟩
  ·exact⟨o,keep c o (I.cne x c e) hc nch ho (I.freeC x c e),hd⟩
 refine⟨I.ok,I.os,hg,⟨fun b o e n hb hx=>?_,fun b o e n hb hx=>?_,fun b o e n hx=>?_,fun b o e hx=>?_,fun b xs e=>tups b xs (I.base.tups b xs e),fun b o xs e=>frzs b o xs (I.base.frzs b o xs e),fun b ps e=>?_⟩,?_,fun x c e=>?_,?_,fun x c e=>?_,fun p hp=>?_,hok,I.len⟩
 ·exact keep b o (neL b o e) hb (neC b o e hx) (I.base.keep b o e n hb hx) (I.base.free b o e n hx)
 ·obtain⟨sl,e1⟩:=I.base.slot b o e n hb hx
  obtain⟨sl',e2⟩:=slot b _ (neL b o e) hb (neC b o e hx) e1 (I.base.free b o e n hx)
  exact⟨sl',e2⟩
 ·obtain⟨o',e1⟩:=I.base.there b o e hx
  exact free b o' (neC b o e hx) e1 (I.base.free b o e n hx)
 ·obtain⟨o',e1⟩:=I.base.there b o e hx
  exact there b o' (neC b o e hx) e1
 ·obtain⟨m1,e1⟩:=I.base.tbls b ps e
  obtain⟨m2,e2⟩:=tbls b _ e1
  exact⟨m1++m2,by rw[e2,Array.append_assoc]⟩
 ·obtain⟨m,hn,hl⟩:=I.loc
  refine⟨m,ns m hn,fun i x v e1 e2 e3=>?_⟩
  obtain⟨u,r,l⟩:=hl i x v e1 e2 e3
  refine⟨u,r,?_⟩
  rcases l with l | ⟨k,c,e,z⟩
  ·exact .inl l
  ·exact .inr ⟨k,c,e,cellK x c e _ z⟩
 ·obtain⟨v,z⟩:=I.cell x c e
  exact⟨v,cellK x c e v z⟩
 ·obtain⟨m,⟨o,_,_,ho,_⟩,_⟩:=I.loc
  exact free _ o (fun z=>(hch _ z).2.1 rfl) ho I.free
 ·obtain⟨v,o,ho,hd⟩:=I.cell x c e
  exact free c o (fun z=>(hch c z).2.2.1 x c e rfl) ho (I.freeC x c e)
 ·obtain⟨e,n,ne,nf,d⟩:=I.pin p hp
  have nch:p.1∉ch:=fun z=>(hch p.1 z).2.2.2 p hp rfl
  exact⟨keep p.1 p.2 ne nf nch e n,free p.1 p.2 nch e n,ne,nf,d⟩
theorem Inv.un{t':Nat}(I:Inv X pins Z H s)(u:Un X.fs [] H H' s.heap h')(hok:HOk X.prog X.w H' h'):Inv X pins Z H' { s with heap:=h',toks:=t' }:=by
 obtain⟨m,⟨o,es,ep,ho,r⟩,_⟩:=id I.loc
 obtain⟨sl,hL⟩:=u.any ho I.free (by simp)
 exact I.step (g':=s.gens) (d':=s.drawn) (ch:=[]) (fun _ z=>nomatch z) (fun b o _ hb _ e n=>u.keep b o e n hb (by simp)) (fun b o _ hb _ e n=>u.slot b o e n hb (by simp)) (fun b o _ e n=>u.free b o e n (by simp)) (fun b o _ e=>u.there b o e (by simp)) u.tups u.frzs u.tbls (fun m' hm=>by
  obtain⟨o',es',ep',ho',r'⟩:=hm
  rw[ho] at ho';cases ho'
  exact⟨_,es',ep',hL,r'⟩) hok I.bare
theorem Inv.call{g':Array GenState}{t':Nat}{d':Drawn}{ch:List Addr}(I:Inv X pins Z H s)(u:Un (Rb X.stack) ch H H' s.heap h')(hok:HOk X.prog X.w H' h')(hg:AllBare g')
  (hch:∀b∈ch,(b∈X.ex\/X.s₀.heap.objs.size<=b)/\b≠X.env.locals/\(∀x c,X.env.cells.lookup x=some c->c≠b)/\∀p∈X.pn++pins,p.1≠b) :
  Inv X pins Z H' { s with heap:=h',gens:=g',drawn:=d',toks:=t' }:=by
 obtain⟨m,⟨o,es,ep,ho,r⟩,_⟩:=id I.loc
 obtain⟨sl,hL⟩:=u.any ho I.free fun z=>(hch _ z).2.1 rfl
 exact I.step (ch:=ch) hch (fun b o hL hb hc e n=>u.keep b o e n (fun z=>(List.mem_cons.mp (I.stkSub b z)).elim hL hb) hc) (fun b o _ _ hc e n=>u.any e n hc) (fun b o hc e n=>u.free b o e n hc) (fun b o hc e=>u.there b o e hc) u.tups u.frzs u.tbls (fun m' hm=>by
  obtain⟨o',es',ep',ho',r'⟩:=hm
  rw[ho] at ho';cases ho'
  exact⟨_,es',ep',hL,r'⟩) hok hg
theorem Inv.turned{t':Nat}{it:Addr}(I:Inv X pins Z H s)(k:∀b o,b≠it->s.heap.get? b=some o->h'.get? b=some o)(hn:H it=none)(hL:it≠X.env.locals)
  (h1:it∈X.ex\/X.s₀.heap.objs.size<=it) (h2:∀x c,X.env.cells.lookup x=some c->c≠it) (h3:∀p∈X.pn++pins,p.1≠it):Inv X pins Z H { s with heap:=h',toks:=t' }:=by
 have nit:∀b u,H b=some u->b≠it:=fun b u e z=>by rw[z,hn] at e;cases e
 refine I.step (g':=s.gens) (d':=s.drawn) (ch:=[it]) (fun b hb=>?_) (fun b o _ _ hc e _=>k b o (fun z=>hc (by simp[z])) e) (fun b o _ _ hc e _=>⟨o.slots,k b o (fun z=>hc (by simp[z])) e⟩) (fun _ _ _ _ n=>n)
  (fun b o hc e=>⟨o,k b o (fun z=>hc (by simp[z])) e⟩) (fun _ _ e=>e) (fun _ _ _ e=>e) (fun b ps e=>⟨#[],by rw[e];simp⟩) (fun m hm=>?_) (fun b u e=>?_) I.bare
 ·have e:b=it:=by simpa using hb
  subst e
  exact⟨h1,hL,h2,h3⟩
 ·obtain⟨o,es,ep,ho,r⟩:=hm
  exact⟨o,es,ep,k _ o (Ne.symm hL) ho,r⟩
 ·refine(I.hok b u e).stay (fun c v hc q=>k c v ?_ q) (fun _ q=>q) fun _ _ q=>q
  rcases hc with z | z
  ·rw[z];exact nit b u e
  ·exact nit c _ z
theorem Inv.tok(I:Inv X pins Z H s)(t:Nat):Inv X pins Z H { s with toks:=t }:=I.un (h':=s.heap) (t':=t) Un.refl I.hok
theorem Inv.kept{t':Nat}(I:Inv X pins Z H s)(k:∀b u,s.heap.get? b=some u->h'.get? b=some u):Inv X pins Z H { s with heap:=h',toks:=t' }:=I.un (Un.kept k) (I.hok.kept k)
theorem Inv.laid{a:Addr}{o:HO}{t':Nat}(I:Inv X pins Z H s)(k:∀b u,s.heap.get? b=some u->h'.get? b=some u)(hp:s.heap.objs.size<=a)(new:ObjOk X.prog X.w (upd H a o) h' a o) :
  Inv X pins Z (upd H a o) { s with heap:=h',toks:=t' }:=I.un (Un.laid k hp (I.hok.fresh hp)) (I.hok.laid k hp new)
theorem Inv.write{x e:Addr}{o:HO}{t':Nat}(I:Inv X pins Z H s)(mu:Xb (H x))(he:e=x\/H e=some (.own x))(k:∀b u,b≠e->s.heap.get? b=some u->h'.get? b=some u)(heo:∃u,h'.get? e=some u)
  (new:ObjOk X.prog X.w (upd H x o) h' x o):Inv X pins Z (upd H x o) { s with heap:=h',toks:=t' }:=I.un (Un.write mu he k heo) (I.hok.write mu he k heo new)
theorem Inv.weak{Z':List (Option V)}(I:Inv X pins Z H s)(hl:Z'.length=Z.length)(w:∀(i:Nat) v,Z'[i]?=some (some v)->Z[i]?=some (some v)):Inv X pins Z' H s:=
 ⟨I.ok,I.os,I.bare,I.base,let⟨m,hn,hl'⟩:=I.loc;⟨m,hn,fun i x v e1 e2 e3=>hl' i x v e1 (w i v e2) e3⟩,I.cell,I.free,I.freeC,I.pin,I.hok,hl.trans I.len⟩
theorem Inv.pins_of{pins':List (Addr×Obj)}(I:Inv X pins Z H s)(h:∀p∈pins',s.heap.get? p.1=some p.2/\H p.1=none/\p.1≠X.env.locals/\p.1∉X.fs/\∀v,p.2.data≠.cell v):Inv X pins' Z H s:=
 ⟨I.ok,I.os,I.bare,I.base,I.loc,I.cell,I.free,I.freeC,fun p hp=>(List.mem_append.mp hp).elim (fun z=>I.pin p (List.mem_append_left _ z)) (h p),I.hok,I.len⟩
theorem Ts{N:List Str}(hN:N.Nodup){i j:Nat}{x:Str}(a:N[i]?=some x)(b:N[j]?=some x):i=j:=by
 obtain⟨h1,e1⟩:=List.getElem?_eq_some_iff.mp a
 obtain⟨h2,e2⟩:=List.getElem?_eq_some_iff.mp b
 exact(List.getElem_inj hN).mp (e1.trans e2.symm)
theorem R0{M:Model}{A:Around}{E:Value->Shared->Prop}{i:Nat}{x:Str}{v:V}{u:Value}{Q:Unit->Shared->Prop}(I:Inv X pins Z H s)(hN:X.N.Nodup)(hi:X.N[i]?=some x)(hx:M7 X.env.scope x)(r:RelV v u)
  (h:∀s',Inv X pins (Z.set i (some v)) H s'->(∃a,Heap.SameBut a s.heap s'.heap/\(a=X.env.locals\/X.env.cells.lookup x=some a))->Q () s') (hf:X.fn x=true\/X.env.scope.names.lookup x=some .local:=by first | exact .inl rfl | exact .inr rfl | assumption):wpAny M A (storeName X.env x u) Q E s:=by
 obtain⟨m,hn,hl⟩:=id I.loc
 have hcls:(X.env.scope.kind==.class || (X.env.scope.kind==.module&&X.env.locals != X.env.globals))=false:=by rw[I.ok.kind];rfl
 have hiZ:i<Z.length:=by rw[I.len];exact(List.getElem?_eq_some_iff.mp hi).1
 have cne:=I.cne
 have tracked:∀{a:Addr}{h':Heap},(∃o,s.heap.get? a=some o/\H a=none)->Heap.SameBut a s.heap h'->HOk X.prog X.w H h':=fun{a h'} ha hs b ob e=>by
  obtain⟨_,_,hfree⟩:=ha
  refine(I.hok b ob e).stay (fun c w' hc q=>(hs.2 c ?_).trans q) (fun _ q=>q) fun _ _ q=>q
  rintro rfl
  rcases hc with rfl | hc
  ·rw[hfree] at e;cases e
  ·rw[hfree] at hc;cases hc
 rcases hx with hk | hk
 ·refine wpAny_storeName_local hk hn (fun h' hn' hs=>?_) hcls
  obtain⟨oL,_,_,hoL,_⟩:=id hn
  refine h _ ⟨I.ok,I.os,I.bare,⟨fun b o e n hb hx=>?_,fun b o e n hb hx=>?_,I.base.free,fun b o e hx=>?_,I.base.tups,I.base.frzs,I.base.tbls⟩,⟨_,hn',fun j y v' e1 e2 e3=>?_⟩,fun y c e=>?_,I.free,I.freeC,fun p hp=>?_,tracked ⟨oL,hoL,I.free⟩ hs,by simpa using I.len⟩ ⟨_,hs,.inl rfl⟩
  ·exact(hs.2 b (Nat.ne_of_lt (Nat.lt_of_lt_of_le (Heap.lt_size e) I.ok.above))).trans (I.base.keep b o e n hb hx)
  ·obtain⟨sl,e1⟩:=I.base.slot b o e n hb hx
   exact⟨sl,(hs.2 b (Nat.ne_of_lt (Nat.lt_of_lt_of_le (Heap.lt_size e) I.ok.above))).trans e1⟩
  ·obtain⟨o',e1⟩:=I.base.there b o e hx
   exact⟨o',(hs.2 b (Nat.ne_of_lt (Nat.lt_of_lt_of_le (Heap.lt_size e) I.ok.above))).trans e1⟩
  ·by_cases hj:j=i
   ·subst hj
    rw[hi] at e1;cases e1;rw[List.getElem?_set_self hiZ] at e2;cases e2
    exact⟨u,r,.inl ⟨hk,by simp⟩⟩
   ·rw[List.getElem?_set_ne (Ne.symm hj)] at e2
    obtain⟨u',r',q⟩:=hl j y v' e1 e2 e3
    refine⟨u',r',?_⟩
    rcases q with⟨k,e⟩ | ⟨k,c,e,z⟩
    ·refine .inl ⟨k,?_⟩
     have:y≠x:=fun e=>hj (Ts hN e1 (e▸hi))
     simp[this,e]
    ·exact .inr ⟨k,c,e,z.sameBut hs (cne y c e)⟩
  ·obtain⟨w',z⟩:=I.cell y c e
   exact⟨w',z.sameBut hs (cne y c e)⟩
  ·obtain⟨e,n,ne,nf,d⟩:=I.pin p hp
   exact⟨(hs.2 p.1 ne).trans e,n,ne,nf,d⟩
 ·have hfn:X.fn x=true:=by
   rcases hf with z | z
   ·exact z
   ·rw[z] at hk;cases hk
  obtain⟨c,hc⟩:=I.ok.has x (.inl hk)
  obtain⟨w',z⟩:=I.cell x c hc
  refine wpAny_storeName_cell I.ok.kind hk hc z (fun h' hc' hs=>?_)
  obtain⟨oc,hoc,hocd⟩:=id z
  refine h { s with heap:=h' } ⟨I.ok,I.os,I.bare,⟨fun b o e n hb hx=>?_,fun b o e n hb hx=>?_,I.base.free,fun b o e hx=>?_,I.base.tups,I.base.frzs,I.base.tbls⟩,⟨m,hn.sameBut hs (Ne.symm (cne x c hc)),fun j y v' e1 e2 e3=>?_⟩,fun y c' e=>?_,I.free,I.freeC,fun p hp=>?_,tracked ⟨oc,hoc,I.freeC x c hc⟩ hs,by simpa using I.len⟩ ⟨c,hs,.inr hc⟩
  ·exact(hs.2 b (Nat.ne_of_lt (Nat.lt_of_lt_of_le (Heap.lt_size e) (I.ok.cab x c hfn hc)))).trans (I.base.keep b o e n hb hx)
  ·obtain⟨sl,e1⟩:=I.base.slot b o e n hb hx
   exact⟨sl,(hs.2 b (Nat.ne_of_lt (Nat.lt_of_lt_of_le (Heap.lt_size e) (I.ok.cab x c hfn hc)))).trans e1⟩
  ·obtain⟨o',e1⟩:=I.base.there b o e hx
   exact⟨o',(hs.2 b (Nat.ne_of_lt (Nat.lt_of_lt_of_le (Heap.lt_size e) (I.ok.cab x c hfn hc)))).trans e1⟩
  ·by_cases hj:j=i
   ·subst hj
    rw[hi] at e1;cases e1;rw[List.getElem?_set_self hiZ] at e2;cases e2
    exact⟨u,r,.inr ⟨.inl hk,c,hc,hc'⟩⟩
   ·rw[List.getElem?_set_ne (Ne.symm hj)] at e2
    obtain⟨u',r',q⟩:=hl j y v' e1 e2 e3
    refine⟨u',r',?_⟩
    rcases q with q | ⟨k,c',e,z'⟩
    ·exact .inl q
    ·refine .inr ⟨k,c',e,z'.sameBut hs ?_⟩
     rintro rfl
     exact hj (Ts hN e1 (I.ok.inj _ _ _ e hc▸hi))
  ·by_cases hcc:c'=c
   ·subst hcc;exact⟨_,hc'⟩
   ·obtain⟨w2,z2⟩:=I.cell y c' e
    exact⟨w2,z2.sameBut hs hcc⟩
  ·obtain⟨e,n,ne,nf,d⟩:=I.pin p hp
   refine⟨(hs.2 p.1 ?_).trans e,n,ne,nf,d⟩
   intro q;rw[q,hoc] at e
   have q':oc=p.2:=Option.some.inj e
   exact d w' (by rw[<-q'];exact hocd)
theorem Vq{M:Model}{A:Around}{E:Value->Shared->Prop}{i:Nat}{x:Str}{v:V}{u:Value}{Q:Unit->Shared->Prop}(I:Inv X pins Z H s)(hN:X.N.Nodup)(hi:X.N[i]?=some x)(hx:M7 X.env.scope x)(r:RelV v u)
  (h:∀s',Inv X pins (Z.set i (some v)) H s'->Q () s') (hf:X.fn x=true\/X.env.scope.names.lookup x=some .local:=by first | exact .inl rfl | exact .inr rfl | assumption):wpAny M A (storeName X.env x u) Q E s:=
 R0 I hN hi hx r (fun s' I' _=>h s' I') hf
theorem Inv.call'{s':Shared}{ch:List Addr}(I:Inv X pins Z H s)(ho:s'.os=s.os)(u:Un (Rb X.stack) ch H H' s.heap s'.heap)(hok:HOk X.prog X.w H' s'.heap)(hg:AllBare s'.gens)
  (hch:∀b∈ch,(b∈X.ex\/X.s₀.heap.objs.size<=b)/\b≠X.env.locals/\(∀x c,X.env.cells.lookup x=some c->c≠b)/\∀p∈X.pn++pins,p.1≠b):Inv X pins Z H' s':=by
 obtain⟨h',g',d',t',o'⟩:=s'
 have e:o'=s.os:=ho
 subst e
 exact I.call (g':=g') (t':=t') (d':=d') u hok hg hch
end
abbrev XK:=Value->Option Addr->Hp->Prop
abbrev St:=List (Option V)
abbrev VK:=V->Hp->Prop
abbrev TE:=St->Hp->VK->Prop
abbrev TT:=St->Hp->(Bool->Hp->Prop)->Prop
abbrev TA:=St->Hp->(List V->Hp->Prop)->Prop
structure X2 where
 nx:St->Hp->Prop
 rt:VK
 bk:St->Hp->Prop:=fun _ _=>False
 ct:St->Hp->Prop:=fun _ _=>False
abbrev TS:=X2->St->Hp->Prop
def EP(X:Cx)(pins:List (Addr×Obj))(Z:St)(Q:VK)(u:Value)(s':Shared):Prop:=∃v H',Inv X pins Z H' s'/\RelV v u/\Q v H'
def TP(X:Cx)(pins:List (Addr×Obj))(Z:St)(Q:Bool->Hp->Prop)(b:Bool)(s':Shared):Prop:=∃H',Inv X pins Z H' s'/\Q b H'
def AP(X:Cx)(pins:List (Addr×Obj))(Z:St)(Q:List V->Hp->Prop)(us:List Value)(s':Shared):Prop:=∃vs H',Inv X pins Z H' s'/\Vals vs us/\Q vs H'
def SP(X:Cx)(pins:List (Addr×Obj))(D:X2)(f:Flow)(s':Shared):Prop:=
 match f with
 | .next=>∃Z' H',Inv X pins Z' H' s'/\D.nx Z' H'
 | .brk=>∃Z' H',Inv X pins Z' H' s'/\D.bk Z' H'
 | .cont=>∃Z' H',Inv X pins Z' H' s'/\D.ct Z' H'
 | .ret u=>∃v Z' H',Inv X pins Z' H' s'/\RelV v u/\D.rt v H'
def PE(X:Cx)(e:Expr)(t:TE):Prop:=
 ∀(pins:List (Addr×Obj))(s:Shared)(Z:St)(H:Hp)(Q:VK),Inv X pins Z H s->t Z H Q->wpAny (model X.prog X.w) X.A (eval e X.env) (EP X pins Z Q) X.xe s
def PT(X:Cx)(e:Expr)(t:TT):Prop:=
 ∀(pins:List (Addr×Obj))(s:Shared)(Z:St)(H:Hp)(Q:Bool->Hp->Prop),Inv X pins Z H s->t Z H Q->wpAny (model X.prog X.w) X.A (isTrue e X.env (eval e X.env)) (TP X pins Z Q) X.xe s
def PW(X:Cx)(e:Expr)(t:TT):Prop:=
 ∀(whole:Sem Value)(pins:List (Addr×Obj))(s:Shared)(Z:St)(H:Hp)(Q:Bool->Hp->Prop),Inv X pins Z H s->t Z H Q->wpAny (model X.prog X.w) X.A (isTrue e X.env whole) (TP X pins Z Q) X.xe s
theorem PW.pt{X:Cx}{e:Expr}{t:TT}(h:PW X e t):PT X e t:=h _
def PA(X:Cx)(es:List Expr)(t:TA):Prop:=
 ∀(pos:Pos)(pins:List (Addr×Obj))(s:Shared)(Z:St)(H:Hp)(Q:List V->Hp->Prop),Inv X pins Z H s->t Z H Q->wpAny (model X.prog X.w) X.A (spliced (backTo pos (starEach es X.env))) (AP X pins Z Q) X.xe s
def PS(X:Cx)(st:Stmt)(t:TS):Prop:=
 ∀(pins:List (Addr×Obj))(s:Shared)(Z:St)(H:Hp)(D:X2),Inv X pins Z H s->t D Z H->wpAny (model X.prog X.w) X.A (exec st X.env) (SP X pins D) X.xe s
def PSs(X:Cx)(st:List Stmt)(t:TS):Prop:=
 ∀(pins:List (Addr×Obj))(s:Shared)(Z:St)(H:Hp)(D:X2),Inv X pins Z H s->t D Z H->wpAny (model X.prog X.w) X.A (execs st X.env) (SP X pins D) X.xe s
theorem ZV{α:Type}{t:Sem α}{Q Q':α->Shared->Prop}{M:Model}{A:Around}{E:Value->Shared->Prop}{s:Shared}(h:wpAny M A t Q E s)(hQ:∀a s,Q a s->Q' a s):wpAny M A t Q' E s:=wpAny_mono h hQ fun _ _ x=>x
section
variable {X:Cx}
theorem bin{a b:Expr}{ta tb:TE}(ha:PE X a ta)(hb:PE X b tb){pins:List (Addr×Obj)}{s:Shared}{Z:St}{H:Hp}{R:V->V->Hp->Prop}(I:Inv X pins Z H s)(h:ta Z H fun x H1=>tb Z H1 fun y H2=>R x y H2)
  {α:Type} {Q:α->Shared->Prop} {f:Value->Value->Sem α}
  (hf:∀v u s2 x y H2,Inv X pins Z H2 s2->RelV x v->RelV y u->R x y H2->wpAny (model X.prog X.w) X.A (f v u) Q X.xe s2) :
  wpAny (model X.prog X.w) X.A (eval a X.env) (fun v s₁=>wpAny (model X.prog X.w) X.A (eval b X.env) (fun u s₂=>wpAny (model X.prog X.w) X.A (f v u) Q X.xe s₂) X.xe s₁) X.xe s:=by
 refine ZV (ha pins s Z H _ I h) fun v s1 ⟨x,H1,I1,r1,q1⟩=>?_
 refine ZV (hb pins s1 Z H1 _ I1 q1) fun u s2 ⟨y,H2,I2,r2,q2⟩=>?_
 exact hf v u s2 x y H2 I2 r1 r2 q2
def Wu(i:Nat):TE:=fun Z H Q=>∃v,Z[i]?=some (some v)/\Q v H
def tC(v:V):TE:=fun _ H Q=>Q v H
theorem NT{i:Nat}{x:Str}{pos:Pos}(hN:X.N[i]?=some x)(hv:L8 X.env.scope x)(hd:(x==("__debug__" : Str))=false:=by decide)(hcd:(x==("__classdict__" : Str))=false:=by decide):PE X (.Name x pos) (Wu i):=by
 intro pins s Z H Q I h
 obtain⟨v,e,h⟩:=h
 obtain⟨m,hn,hl⟩:=I.loc
 obtain⟨u,r,l⟩:=hl i x v hN e hv
 have fin:EP X pins Z Q u s:=⟨v,H,I,r,h⟩
 rcases l with⟨hk,hm⟩ | ⟨hk,c,hc,hcell⟩
 ·exact wpAny_Name (wpAny_loadName_local I.ok.kind hk hn hm fin) hd
 ·rcases hk with hk | hk
  ·exact wpAny_Name (wpAny_loadName_cell I.ok.kind hk hc hcell fin) hd
  ·exact wpAny_Name (wpAny_loadName_free I.ok.kind hk hc hcell fin hcd) hd
theorem NU{i j pos}:PE X (.Constant (.int i) j pos) (tC (.int i)):=fun _ _ _ H _ I h=>wpAny_Constant_int ⟨.int i,H,I.tok _,⟨_,rfl⟩,h⟩
theorem M8{b j pos}:PE X (.Constant (.bool b) j pos) (tC (.bl b)):=fun _ _ _ H _ I h=>Constant_bool ⟨.bl b,H,I,rfl,h⟩
theorem NV{j pos}:PE X (.Constant .none j pos) (tC .non):=fun _ _ _ H _ I h=>Constant_none ⟨.non,H,I,rfl,h⟩
def Gl(X:Cx)(x:Str):Prop:=X.env.kindOf x=some .globalImplicit
theorem Oe{E:Value->Shared->Prop}{pins:List (Addr×Obj)}{s:Shared}{Z:St}{H:Hp}{x:Str}{u:Value}{pos:Pos}{Q:Value->Shared->Prop}(I:Inv X pins Z H s)(hg:Gl X x)(hm:X.mg x=some u)(h:Q u s)
  (hd:(x==("__debug__" : Str))=false:=by decide):wpAny (model X.prog X.w) X.A (eval (.Name x pos) X.env) Q E s:=
 Calls.Name_function_global I.ok.kind hg (Calls.loadGlobal_global (by rw[I.ok.glob];exact I.mod.glob.keeps I.bk) hm h) hd
theorem Wv{E:Value->Shared->Prop}{pins:List (Addr×Obj)}{s:Shared}{Z:St}{H:Hp}{x:Str}{u:Value}{pos:Pos}{Q:Value->Shared->Prop}(I:Inv X pins Z H s)(hg:Gl X x)(hm:X.mg x=none)(hv:bootBuiltins x=some u)(h:Q u s)
  (hn:x≠"__name__":=by decide) (hd:(x==("__debug__" : Str))=false:=by decide):wpAny (model X.prog X.w) X.A (eval (.Name x pos) X.env) Q E s:=by
 obtain⟨mb,h1,h2⟩:=I.mod.blt
 exact Calls.Name_function_global I.ok.kind hg (Calls.loadGlobal_builtin (by rw[I.ok.glob];exact I.mod.glob.keeps I.bk) hm (by rw[I.ok.blt];exact h1.keeps I.bk) ((h2 x hn).trans hv) h) hd
theorem Of{x:Str}{v:V}{u:Value}{pos:Pos}(hg:Gl X x)(hm:X.mg x=none)(hv:bootBuiltins x=some u)(r:RelV v u)(hn:x≠"__name__":=by decide)(hd:(x==("__debug__" : Str))=false:=by decide):PE X (.Name x pos) (tC v):=
 fun _ _ _ H _ I h=>Wv I hg hm hv ⟨v,H,I,r,h⟩ hn hd
variable {a b:Expr} {ta tb:TE} {pos:Pos}
def PC(X:Cx)(op:CmpOp)(a b:Expr)(t:TE):Prop:=
 ∀(pins:List (Addr×Obj))(s:Shared)(Z:St)(H:Hp)(Q:VK),Inv X pins Z H s->t Z H Q->
  wpAny (model X.prog X.w) X.A (eval a X.env) (fun v s₁=>wpAny (model X.prog X.w) X.A (eval b X.env) (fun u s₂=>wpAny (model X.prog X.w) X.A (compareOp op v u) (EP X pins Z Q) X.xe s₂) X.xe s₁) X.xe s
theorem QO(b:Expr){op:CmpOp}(h:op≠.In)(h2:op≠.NotIn):behindInMarks op b=false:=by
 have e1:(op==CmpOp.In)=false:=by cases op<;>first | rfl | exact absurd rfl h
 have e2:(op==CmpOp.NotIn)=false:=by cases op<;>first | rfl | exact absurd rfl h2
 cases b<;>simp[behindInMarks,e1,e2]
def Nu(ta:TE):TE:=fun Z H Q=>ta Z H fun x H1=>Q (.bl (!decide (x = .non))) H1
theorem RelV.none_iff{x:V}{v:Value}(r:RelV x v):(v==Value.none)=decide (x = .non):=by
 cases x with
 | non=>cases r;rfl
 | bl _=>cases r;rfl
 | int _=>obtain⟨t,rfl⟩:=r;rfl
 | str _=>obtain⟨t,rfl⟩:=r;rfl
 | byt _=>obtain⟨t,rfl⟩:=r;rfl
 | flt _=>obtain⟨t,rfl⟩:=r;rfl
 | ref _=>cases r;rfl
 | ty _=>cases r;rfl
theorem Og{j pos'}(ha:PE X a ta):PC X .IsNot a (.Constant .none j pos') (Nu ta):=by
 intro pins s Z H Q I h
 refine ZV (ha pins s Z H _ I h) fun v s1 ⟨x,H1,I1,r1,q1⟩=>?_
 exact Constant_none (isnot_none_gen ⟨.bl _,H1,I1,by rw[r1.none_iff];rfl,q1⟩)
def tB(t:TE):TT:=fun Z H Q=>t Z H fun x H1=>∃c,x = .bl c/\Q c H1
theorem QP{op:CmpOp}{t:TE}(h:PC X op a b t)(h1:behindInMarks op b=false:=by first | exact QO _ (by decide) (by decide) | rfl):PT X (.Compare a [op] [b] pos) (tB t):=by
 intro pins s Z H Q I hw
 refine wpAny_isTrue_Compare1 (ZV (h pins s Z H _ I hw) fun v s1 h1=>ZV h1 fun u s2 h2=>ZV h2 fun c s3 ⟨x,H1,I1,r1,q1⟩=>?_) h1
 obtain⟨d,rfl,q⟩:=q1
 cases r1
 exact wpAny_truthy_bool ⟨H1,I1,q⟩
theorem NW{e:Expr}{t:TE}(h:PE X e t)(he:∀whole,isTrue e X.env whole=(do let v <-whole;standAt e.pos;holding [v] (truthy v)):=by intro _;rfl):PT X e (tB t):=by
 intro pins s Z H Q I hw
 refine isTrue_plain (ZV (h pins s Z H _ I hw) fun v s1 ⟨x,H1,I1,r1,q1⟩=>?_) (he _)
 obtain⟨d,rfl,q⟩:=q1
 cases r1
 exact wpAny_truthy_bool ⟨H1,I1,q⟩
variable {tA tB':TT} {Zj:List Expr}
def M9(t u:TT):TT:=fun Z H Q=>t Z H fun c H1=>if c=true then u Z H1 Q else Q false H1
def Ky(t u:TT):TT:=fun Z H Q=>t Z H fun c H1=>if c=true then Q true H1 else u Z H1 Q
def Ka(t:TT):TT:=fun Z H Q=>t Z H fun c H1=>Q (!c) H1
theorem Oh(ha:PT X a tA):PW X (.BoolOp .And [a] pos) tA:=by
 intro wh pins s Z H Q I h
 refine isTrue_and (ZV (ha pins s Z H Q I h) fun c s1 e=>?_)
 cases c with
 | true=>exact isTrue_and_nil e
 | false=>exact e
theorem NX(ha:PT X a tA):PW X (.BoolOp .Or [a] pos) tA:=by
 intro wh pins s Z H Q I h
 refine isTrue_or (ZV (ha pins s Z H Q I h) fun c s1 e=>?_)
 cases c with
 | false=>exact isTrue_or_nil e
 | true=>exact e
theorem NY(ha:PT X a tA)(hb:PW X (.BoolOp .And (b::Zj) pos) tB'):PW X (.BoolOp .And (a::b::Zj) pos) (M9 tA tB'):=by
 intro wh pins s Z H Q I h
 refine isTrue_and (ZV (ha pins s Z H _ I h) fun c s1 ⟨H1,I1,q1⟩=>?_)
 cases c with
 | true=>exact hb wh pins s1 Z H1 Q I1 q1
 | false=>exact⟨H1,I1,q1⟩
theorem La(ha:PT X a tA)(hb:PW X (.BoolOp .Or (b::Zj) pos) tB'):PW X (.BoolOp .Or (a::b::Zj) pos) (Ky tA tB'):=by
 intro wh pins s Z H Q I h
 refine isTrue_or (ZV (ha pins s Z H _ I h) fun c s1 ⟨H1,I1,q1⟩=>?_)
 cases c with
 | true=>exact⟨H1,I1,q1⟩
 | false=>exact hb wh pins s1 Z H1 Q I1 q1
theorem NZ(ha:PT X a tA):PT X (.UnaryOp .Not a pos) (Ka tA):=by
 intro pins s Z H Q I h
 exact isTrue_not (ha pins s Z H (fun c H1=>Q (!c) H1) I h)
def Lb(ta tb:TE):TE:=fun Z H Q=>ta Z H fun x H1=>∃c,x = .bl c/\if c=true then tb Z H1 Q else Q (.bl false) H1
def Lc(ta:TE):TE:=fun Z H Q=>ta Z H fun x H1=>∃c,x = .bl c/\Q (.bl (!c)) H1
theorem N0{op}{t:TE}(h:PE X a t):PE X (.BoolOp op [a] pos) t:=fun pins s Z H Q I hw=>BoolOp_one (h pins s Z H Q I hw)
theorem N1(ha:PE X a ta)(hb:PE X (.BoolOp .And (b::Zj) pos) tb):PE X (.BoolOp .And (a::b::Zj) pos) (Lb ta tb):=by
 intro pins s Z H Q I h
 refine BoolOp_and (ZV (ha pins s Z H _ I h) fun v s1 ⟨x,H1,I1,r1,q1⟩=>?_)
 obtain⟨c,rfl,q1⟩:=q1
 cases r1
 refine wpAny_truthy_bool ?_
 cases c with
 | true=>exact hb pins s1 Z H1 Q I1 q1
 | false=>exact⟨.bl false,H1,I1,rfl,q1⟩
theorem N2(ha:PE X a ta):PE X (.UnaryOp .Not a pos) (Lc ta):=by
 intro pins s Z H Q I h
 refine UnaryOp_ (ZV (ha pins s Z H _ I h) fun v s1 ⟨x,H1,I1,r1,q1⟩=>?_)
 obtain⟨c,rfl,q1⟩:=q1
 cases r1
 exact not_of (wpAny_truthy_bool ⟨.bl (!c),H1,I1,rfl,q1⟩)
def KF(t:TT)(ta tb:TE):TE:=fun Z H Q=>t Z H fun c H1=>if c=true then ta Z H1 Q else tb Z H1 Q
theorem QQ{c:Expr}(hc:PT X c tA)(ha:PE X a ta)(hb:PE X b tb):PE X (.IfExp c a b pos) (KF tA ta tb):=by
 intro pins s Z H Q I h
 refine wpAny_IfExp (ZV (hc pins s Z H _ I h) fun d s1 ⟨H1,I1,q1⟩=>?_)
 cases d with
 | true=>exact ha pins s1 Z H1 Q I1 q1
 | false=>exact hb pins s1 Z H1 Q I1 q1
end
def SqL(K:PySem.W.Frag)(H:Hp)(a:Addr)(xs:List V):Prop:=
 Rd H a (.lst xs)\/
  ∃(o:Obj) (its:Array Value) (n:Nat),K.lookup a=some o/\o.cls = .type "list"/\o.dict=none/\o.data = .seq its n/\its.size<=sizeLine/\Vals xs its.toList
def SqT(K:PySem.W.Frag)(H:Hp)(a:Addr)(xs:List V):Prop:=
 Rd H a (.tup xs)\/
  ∃(o:Obj) (its:Array Value) (n:Nat),K.lookup a=some o/\o.cls = .type "tuple"/\o.data = .seq its n/\its.size<=sizeLine/\Vals xs its.toList
def Kb:Value->Option V
 | .none=>some .non
 | .bool b=>some (.bl b)
 | .int i _=>some (.int i)
 | .str x _=>some (.str x)
 | .bytes b _=>some (.byt b)
 | .float b _=>some (.flt b)
 | .ref a=>some (.ref a)
 | .type n=>some (.ty n)
 | _=>none
theorem RelV.abs{x:V}{u:Value}(r:RelV x u):Kb u=some x:=by
 cases x with
 | non=>cases r;rfl
 | bl _=>cases r;rfl
 | int _=>obtain⟨t,rfl⟩:=r;rfl
 | str _=>obtain⟨t,rfl⟩:=r;rfl
 | byt _=>obtain⟨t,rfl⟩:=r;rfl
 | flt _=>obtain⟨t,rfl⟩:=r;rfl
 | ref _=>cases r;rfl
 | ty _=>cases r;rfl
theorem RelV.inj{x y:V}{u:Value}(r:RelV x u)(q:RelV y u):x=y:=Option.some.inj (r.abs.symm.trans q.abs)
theorem Vals.inj:∀{xs ys:List V}{us:List Value},Vals xs us->Vals ys us->xs=ys
 | _,_,_,.nil,.nil=>rfl
 | _,_,_,.cons r t,.cons r' t'=>by rw[r.inj r',Vals.inj t t']
section
variable {X:Cx} {pins:List (Addr×Obj)} {Z:St} {H:Hp} {s:Shared} {a:Addr} {xs ys:List V}
theorem SqL.of{K:PySem.W.Frag}(h:H a=some (.lst xs)):SqL K H a xs:=.inl (.inl h)
theorem SqT.of{K:PySem.W.Frag}(h:H a=some (.tup xs)):SqT K H a xs:=.inl (.inl h)
theorem Inv.list(I:Inv X pins Z H s)(h:SqL X.K H a xs):∃its:List Value,Vals xs its/\PlainL s.heap a its.toArray/\xs.length<=sizeLine:=by
 rcases h with h | ⟨o,its,n,hk,hc,hd,hs,hz,r⟩
 ·obtain⟨z,its,n,r,e⟩:=h.ok I.hok
  exact⟨its,r,⟨_,n,e,rfl,rfl,rfl⟩,z⟩
 ·refine⟨its.toList,r,⟨o,n,I.kIn a o hk,hc,hd,by simpa using hs⟩,?_⟩
  have e:=r.length;simp only[Array.length_toList] at e;omega
theorem Inv.tuple(I:Inv X pins Z H s)(h:SqT X.K H a xs):∃its:List Value,Vals xs its/\IsTup s.heap a its.toArray/\xs.length<=sizeLine:=by
 rcases h with h | ⟨o,its,n,hk,hc,hs,hz,r⟩
 ·obtain⟨z,its,r,p⟩:=h.ok I.hok
  exact⟨its,r,p,z⟩
 ·refine⟨its.toList,r,⟨o,I.kIn a o hk,hc,n,by simpa using hs⟩,?_⟩
  have e:=r.length;simp only[Array.length_toList] at e;omega
theorem Inv.list_inj(I:Inv X pins Z H s)(h:SqL X.K H a xs)(h':SqL X.K H a ys):xs=ys:=by
 obtain⟨its,r,⟨o,n,e,_,_,d⟩,_⟩:=I.list h
 obtain⟨its',r',⟨o',n',e',_,_,d'⟩,_⟩:=I.list h'
 rw[e] at e';cases e'
 rw[d] at d'
 injection d' with d1 _
 have:its=its':=by simpa using congrArg Array.toList d1
 subst this
 exact r.inj r'
theorem Inv.tuple_inj(I:Inv X pins Z H s)(h:SqT X.K H a xs)(h':SqT X.K H a ys):xs=ys:=by
 obtain⟨its,r,⟨o,e,_,n,d⟩,_⟩:=I.tuple h
 obtain⟨its',r',⟨o',e',_,n',d'⟩,_⟩:=I.tuple h'
 rw[e] at e';cases e'
 rw[d] at d'
 injection d' with d1 _
 have:its=its':=by simpa using congrArg Array.toList d1
 subst this
 exact r.inj r'
end
abbrev Cx.wish(X:Cx)(E:Value->Shared->Prop):Cx:={ X with xe:=E }
abbrev Cx.nox(X:Cx):Cx:=X.wish fun _ _=>False
theorem Cx.Ok.wish{X:Cx}(ok:X.Ok)(E:Value->Shared->Prop):(X.wish E).Ok:=
 ⟨ok.mod,ok.kind,ok.glob,ok.blt,ok.above,ok.inj,ok.has,ok.cab,ok.hd,ok.frames,ok.stk,ok.exf,ok.bs,ok.bsz,ok.noex,ok.exfs,ok.funs,ok.frf⟩
theorem Cx.Ok.unwish{X:Cx}{E:Value->Shared->Prop}(ok:(X.wish E).Ok):X.Ok:=
 ⟨ok.mod,ok.kind,ok.glob,ok.blt,ok.above,ok.inj,ok.has,ok.cab,ok.hd,ok.frames,ok.stk,ok.exf,ok.bs,ok.bsz,ok.noex,ok.exfs,ok.funs,ok.frf⟩
section
variable {X:Cx} {pins:List (Addr×Obj)} {Z:St} {H:Hp} {s:Shared} {E:Value->Shared->Prop}
theorem Inv.wish(I:Inv X pins Z H s)(E:Value->Shared->Prop):Inv (X.wish E) pins Z H s:=⟨I.ok.wish E,I.os,I.bare,I.base,I.loc,I.cell,I.free,I.freeC,I.pin,I.hok,I.len⟩
theorem Inv.unwish(I:Inv (X.wish E) pins Z H s):Inv X pins Z H s:=⟨I.ok.unwish,I.os,I.bare,I.base,I.loc,I.cell,I.free,I.freeC,I.pin,I.hok,I.len⟩
theorem SP.unwish{D:X2}{f:Flow}{s':Shared}(h:SP (X.wish E) pins D f s'):SP X pins D f s':=by
 cases f with
 | next=>obtain⟨Z',H',I,q⟩:=h;exact⟨Z',H',I.unwish,q⟩
 | brk=>obtain⟨Z',H',I,q⟩:=h;exact⟨Z',H',I.unwish,q⟩
 | cont=>obtain⟨Z',H',I,q⟩:=h;exact⟨Z',H',I.unwish,q⟩
 | ret u=>obtain⟨v,Z',H',I,r,q⟩:=h;exact⟨v,Z',H',I.unwish,r,q⟩
theorem PSs.nox{st:List Stmt}{t:TS}(h:PSs X.nox st t):PSs X st t:=fun pins s Z H D I hw=>
 wpAny_mono (h pins s Z H D (I.wish _) hw) (fun _ _ q=>q.unwish) fun _ _ z=>False.elim z
end
section
variable {X:Cx} {st:Stmt} {Zj:List Stmt} {t u:TS} {e:Expr} {te:TE} {pos:Pos}
def Nv:TS:=fun D Z H=>D.nx Z H
def Kc(t u:TS):TS:=fun D Z H=>t { D with nx:=u D } Z H
theorem Oi:PSs X [] Nv:=fun _ _ Z H _ I h=>wpAny_execs_nil ⟨Z,H,I,h⟩
theorem QR(h1:PS X st t)(h2:PSs X Zj u):PSs X (st::Zj) (Kc t u):=by
 intro pins s Z H D I h
 refine wpAny_execs_cons (ZV (h1 pins s Z H { D with nx:=u D } I h) fun f s1 q=>?_)
 cases f with
 | next=>
  obtain⟨Z',H',I',q⟩:=q
  exact h2 pins s1 Z' H' D I' q
 | ret v=>exact q
 | brk=>exact q
 | cont=>exact q
theorem Oj(h1:PS X st t):PSs X [st] t:=by
 intro pins s Z H D I h
 refine wpAny_execs_cons (ZV (h1 pins s Z H D I h) fun f s1 q=>?_)
 cases f with
 | next=>exact wpAny_execs_nil q
 | ret v=>exact q
 | brk=>exact q
 | cont=>exact q
theorem Inv.quiet{pins:List (Addr×Obj)}{Z:St}{H:Hp}{s:Shared}(I:Inv X pins Z H s):interactive X.env=false:=by simp[interactive,I.ok.kind]
def QS(te:TE):TS:=fun D Z H=>te Z H fun _ H1=>D.nx Z H1
theorem UP(he:PE X e te)(hs:swapsWith e none pos.line X.env=pure false:=by rfl):PS X (.Expr e pos) (QS te):=by
 intro pins s Z H D I h
 exact wpAny_Expr_any (ZV (he pins s Z H _ I h) fun v s1 ⟨x,H1,I1,r1,q1⟩=>⟨Z,H1,I1,q1⟩) I.quiet hs
def Kd(te:TE):TS:=fun D Z H=>te Z H D.rt
theorem Sd(he:PE X e te):PS X (.Return (some e) pos) (Kd te):=by
 intro pins s Z H D I h
 exact wpAny_Return_some (ZV (he pins s Z H _ I h) fun v s1 ⟨x,H1,I1,r1,q1⟩=>⟨x,Z,H1,I1,r1,q1⟩)
def Ke(c:TT)(t u:TS):TS:=fun D Z H=>c Z H fun b H1=>if b=true then t D Z H1 else u D Z H1
theorem Ld{c:Expr}{a b:List Stmt}{tc:TT}(hc:PT X c tc)(ha:PSs X a t)(hb:PSs X b u):PS X (.If c a b pos) (Ke tc t u):=by
 intro pins s Z H D I h
 refine wpAny_If (ZV (hc pins s Z H _ I h) fun d s1 ⟨H1,I1,q1⟩=>?_)
 cases d with
 | true=>exact ha pins s1 Z H1 D I1 q1
 | false=>exact hb pins s1 Z H1 D I1 q1
end
abbrev TG:=V->St->Hp->(St->Hp->Prop)->Prop
abbrev Nw:=List V->St->Hp->(St->Hp->Prop)->Prop
def PG(X:Cx)(target:Expr)(t:TG):Prop:=
 ∀(pins:List (Addr×Obj))(s:Shared)(Z:St)(H:Hp)(v:V)(u:Value)(Q:St->Hp->Prop),Inv X pins Z H s->RelV v u->t v Z H Q->
  wpAny (model X.prog X.w) X.A (assign target X.env u) (fun _ s'=>∃Z' H',Inv X pins Z' H' s'/\Q Z' H') X.xe s
def LY(X:Cx)(ts:List Expr)(t:Nw):Prop:=
 ∀(pins:List (Addr×Obj))(s:Shared)(Z:St)(H:Hp)(vs:List V)(us:List Value)(Q:St->Hp->Prop),Inv X pins Z H s->Vals vs us->t vs Z H Q->
  wpAny (model X.prog X.w) X.A (assignInOrder ((assignEach ts X.env).map (·.2)) us) (fun _ s'=>∃Z' H',Inv X pins Z' H' s'/\Q Z' H') X.xe s
abbrev N3:=V->V->V->Hp->(Hp->Prop)->Prop
def Lf(X:Cx)(t:N3):Prop:=
 ∀(pins:List (Addr×Obj))(s:Shared)(Z:St)(H:Hp)(o i v:V)(ov iv u:Value)(Q:Hp->Prop),Inv X pins Z H s->RelV o ov->RelV i iv->RelV v u->t o i v H Q->
  wpAny (model X.prog X.w) X.A (setItem ov iv u) (fun _ s'=>∃H',Inv X pins Z H' s'/\Q H') X.xe s
section
variable {X:Cx} {pos:Pos}
def W5(i:Nat):TG:=fun v Z H Q=>Q (Z.set i (some v)) H
theorem Zs{i:Nat}{x:Str}(hN:X.N.Nodup)(hi:X.N[i]?=some x)(hx:M7 X.env.scope x)(hf:X.fn x=true\/X.env.scope.names.lookup x=some .local:=by first | exact .inl rfl | exact .inr rfl | assumption):PG X (.Name x pos) (W5 i):=by
 intro pins s Z H v u Q I r h
 exact wpAny_assign_Name (Vq I hN hi hx r (fun s' I'=>⟨_,H,I',h⟩) hf)
def Lg:Nw:=fun vs Z H Q=>vs=[]/\Q Z H
def Nx(t:TG)(u:Nw):Nw:=fun vs Z H Q=>∃v r,vs=v::r/\t v Z H fun Z' H'=>u r Z' H' Q
theorem X3:LY X [] Lg:=by
 intro pins s Z H vs us Q I r h
 obtain⟨e,h⟩:=h
 subst e;cases r
 exact assignInOrder_nil ⟨Z,H,I,h⟩
theorem Z4{e:Expr}{es:List Expr}{t:TG}{u:Nw}(h1:PG X e t)(h2:LY X es u)
  (hs:(assignEach (e::es) X.env).map (·.2)=assign e X.env::(assignEach es X.env).map (·.2):=by rfl):LY X (e::es) (Nx t u):=by
 intro pins s Z H vs us Q I r h
 obtain⟨v,vr,e1,h⟩:=h
 subst e1
 cases r with
 | cons r rr=>
  rw[hs]
  refine assignInOrder_cons (ZV (h1 pins s Z H _ _ _ I r h) fun _ s1 ⟨Z1,H1,I1,q1⟩=>?_)
  exact h2 pins s1 Z1 H1 _ _ Q I1 rr q1
def Lh(K:PySem.W.Frag)(n:Nat)(t:Nw):TG:=fun v Z H Q=>∃a xs,v = .ref a/\SqT K H a xs/\xs.length=n/\t xs Z H Q
theorem Vr{es:List Expr}{k:Nat}{t:Nw}{n:Nat}(hc:X.calm=true)(h:LY X es t)
  (hn:(assignEach es X.env).length=n:=by rfl) (hst:(assignEach es X.env).findIdx? (·.1)=none:=by rfl):PG X (.Tuple es k pos) (Lh X.K n t):=by
 intro pins s Z H v u Q I r hw
 obtain⟨a,xs,e1,hq,hl,hw⟩:=hw
 subst e1;cases r
 obtain⟨its,rv,ht,hz⟩:=I.tuple hq
 refine assign_Tuple_tuple (I.ok.hd hc) ht (by simp[hn,<-hl,rv.length]) hst fun h' hx=>?_
 have I1:Inv X pins Z H { s with heap:=h' }:=I.kept (t':=s.toks) fun b o e=>hx b o (Nat.ne_of_lt (Heap.lt_size e)) e
 exact h pins _ Z H xs _ Q I1 (by simpa using rv) hw
def N4(to ti:TE)(t:N3):TG:=fun v Z H Q=>to Z H fun o H1=>ti Z H1 fun i H2=>t o i v H2 fun H3=>Q Z H3
theorem Se{o i:Expr}{to ti:TE}{t:N3}(ho:PE X o to)(hi:PE X i ti)(hs:Lf X t)
  (ha:∀v,assign (.Subscript o i pos) X.env v=(do
   let ov <-holding [v] (eval o X.env)
   let iv <-holding [v,ov] (eval i X.env)
   standAt pos
   holding [v,ov,iv] (setItem ov iv v)
   release [v,ov,iv] []):=by intro _;rfl):PG X (.Subscript o i pos) (N4 to ti t):=by
 intro pins s Z H v u Q I r h;rw[ha]
 refine wpAny_bind (wpAny_holding (ZV (ho pins s Z H _ I h) fun ov s1 ⟨x,H1,I1,r1,q1⟩=>?_))
 refine wpAny_bind (wpAny_holding (ZV (hi pins s1 Z H1 _ I1 q1) fun iv s2 ⟨y,H2,I2,r2,q2⟩=>?_))
 refine wpAny_bind (wpAny_standAt (wpAny_bind (wpAny_holding (ZV (hs pins s2 Z H2 x y v ov iv u _ I2 r1 r2 r q2) fun _ s3 ⟨H3,I3,q3⟩=>?_))))
 exact wpAny_release ⟨Z,H3,I3,q3⟩
def Sf(te:TE)(g:TG):TS:=fun D Z H=>te Z H fun x H1=>g x Z H1 D.nx
theorem Sg{tg e:Expr}{te:TE}{g:TG}(he:PE X e te)(hg:PG X tg g)(hs:swapsWithSole [tg] e pos.line X.env=pure false:=by rfl)(hw:swappedStores [tg] e X.env=pure none:=by rfl)
  (h1:(assignEach [tg] X.env).map (·.2)=[assign tg X.env]:=by rfl):PS X (.Assign [tg] e pos) (Sf te g):=by
 intro pins s Z H D I h
 refine wpAny_Assign_stores (ZV (he pins s Z H _ I h) fun v s1 ⟨x,H1,I1,r1,q1⟩=>?_) hs hw
 rw[h1]
 exact ZV (hg pins s1 Z H1 x v _ I1 r1 q1) fun _ s2 q=>q
theorem N5{i:Nat}{x:Str}{e:Expr}{te:TE}{pos':Pos}(hN:X.N.Nodup)(hi:X.N[i]?=some x)(hx:M7 X.env.scope x)(he:PE X e te)(hs:swapsWith e (some (.Name x pos')) pos.line X.env=pure false:=by rfl)(hf:X.fn x=true\/X.env.scope.names.lookup x=some .local:=by first | exact .inl rfl | exact .inr rfl | assumption) :
  PS X (.Assign [.Name x pos'] e pos) (Sf te (W5 i)):=by
 intro pins s Z H D I h
 refine wpAny_Assign_Name (ZV (he pins s Z H _ I h) fun v s1 ⟨y,H1,I1,r1,q1⟩=>?_) hs
 exact Vq I1 hN hi hx r1 (fun s2 I2=>⟨_,H1,I2,q1⟩) hf
end
structure It where
 go:Nat->Hp->Prop
 yld:Nat->Hp->V->Hp->Prop
 stop:Nat->Hp->Prop
def Vd(X:Cx)(pins:List (Addr×Obj))(H:Hp)(b:Addr):Prop:=
 H b=none/\b≠X.env.locals/\b∉X.fs/\(b∈X.ex\/X.s₀.heap.objs.size<=b)/\(∀x c,X.env.cells.lookup x=some c->c≠b)/\∀p∈X.pn++pins,p.1≠b
theorem Inv.fpOk{X:Cx}{pins:List (Addr×Obj)}{Z:St}{H H':Hp}{s:Shared}{b:Addr}(I:Inv X pins Z H s)(hb:s.heap.objs.size<=b)(hn:H' b=none):Vd X pins H' b:=by
 refine⟨hn,Nat.ne_of_gt (Nat.lt_of_lt_of_le I.lt hb),I.nofs hb,.inr (Nat.le_trans I.sz hb),fun x c e z=>?_,fun p hp z=>?_⟩
 ·obtain⟨v,q⟩:=I.cell x c e
  exact absurd (Nat.lt_of_lt_of_le q.lt (by rw[z];exact hb)) (Nat.lt_irrefl _)
 ·exact absurd (Nat.lt_of_lt_of_le (Heap.lt_size (I.pin p hp).1) (by rw[z];exact hb)) (Nat.lt_irrefl _)
structure Sh(P:Program)(w:World)(K:PySem.W.Frag)(tg:Expr)(J:It)(fp:List Addr)(it:Addr)(tn:Nat->Heap->Prop):Prop where
 mem:it∈fp
 obj:∀i h,tn i h->∀b∈fp,∃o,h.get? b=some o/\∀v,o.data≠.cell v
 keep:∀i h h',tn i h->(∀b∈fp,∀o,h.get? b=some o->h'.get? b=some o)->tn i h'
 item:∀(X:Cx),X.prog=P->X.w=w->X.K=K->X.calm=true->∀(i:Nat)(pins:List (Addr×Obj))(s:Shared)(Z:St)(H:Hp)(E:Value->Shared->Prop),Inv X pins Z H s->(∀b∈fp,Vd X pins H b)->tn i s.heap->J.go i H->
  wpAny (model P w) X.A (pyNext (.ref it)) (fun r s1=>∃u,r=some u/\
   wpAny (model P w) X.A (letOwnedTupleGo tg (.ref it) u) (fun _ s2=>∃x H',Inv X pins Z H' s2/\RelV x u/\J.yld i H x H'/\tn (i+1) s2.heap/\∀b∈fp,H' b=none) E s1) E s
 done:∀(X:Cx),X.prog=P->X.w=w->X.K=K->X.calm=true->∀(i:Nat)(pins:List (Addr×Obj))(s:Shared)(Z:St)(H:Hp)(E:Value->Shared->Prop),Inv X pins Z H s->(∀b∈fp,Vd X pins H b)->tn i s.heap->J.stop i H->
  wpAny (model P w) X.A (pyNext (.ref it)) (fun r s1=>r=none/\Inv X pins Z H s1) E s
 self:∀(A:Around)(i:Nat)(s:Shared)(Q:Value->Shared->Prop)(E:Value->Shared->Prop),tn i s.heap->Q (.ref it) s->wpAny (model P w) A (pyIter (.ref it)) Q E s
abbrev TI:=St->Hp->(It->Hp->Prop)->Prop
def Kf(X:Cx)(pins:List (Addr×Obj))(Z:St)(tg:Expr)(R:It->Hp->Prop)(itv:Value)(s2:Shared):Prop:=
 ∃(it:Addr) (fp:List Addr) (tn:Nat->Heap->Prop) (J:It) (H':Hp),itv = .ref it/\Inv X pins Z H' s2/\Sh X.prog X.w X.K tg J fp it tn/\tn 0 s2.heap/\(∀b∈fp,Vd X pins H' b)/\R J H'
def PI(X:Cx)(tg iter:Expr)(wi:TI):Prop:=
 ∀(pins:List (Addr×Obj))(s:Shared)(Z:St)(H:Hp)(R:It->Hp->Prop),Inv X pins Z H s->wi Z H R->
  wpAny (model X.prog X.w) X.A (eval iter X.env) (fun v s1=>wpAny (model X.prog X.w) X.A (pyIter v) (Kf X pins Z tg R) X.xe s1) X.xe s
theorem Rc{M:Model}{A:Around}{E:Value->Shared->Prop}{s:Shared}{tg:Expr}{it:Addr}{u:Value}{o:Obj}{n:String}{vs:Array Value}{Q:Unit->Shared->Prop}(ho:s.heap.get? it=some o)(hc:o.cls = .type n)(hd:o.data = .fields vs)
    (hn:["enumerate","zip","dict_itemiterator","dict_reverseitemiterator","odict_iterator","itertools.zip_longest","itertools.pairwise"].contains n=false) (hQ:Q () s):wpAny M A (letOwnedTupleGo tg (.ref it) u) Q E s:=by
  unfold letOwnedTupleGo
  cases tg<;>first
    | exact wpAny_pure hQ
    | (cases u<;>first
        | exact wpAny_pure hQ
        | (refine wpAny_bind (wpAny_load ho ?_)
           rw[hc,hd]
           show wpAny M A (if(["enumerate","zip","dict_itemiterator","dict_reverseitemiterator","odict_iterator","itertools.zip_longest","itertools.pairwise"].contains n&&vs[0]?==some (rawInt _))=true then _ else _) Q E s
           rw[if_neg (by intro h;rw[hn,Bool.false_and] at h;cases h)]
           exact wpAny_pure hQ))
def Kg(K:PySem.W.Frag)(a:Addr):It:=
 ⟨fun i H=>∃xs x,SqL K H a xs/\xs[i]?=some x,fun i H x H'=>H'=H/\∀xs,SqL K H a xs->xs[i]?=some x,fun i H=>∃xs,SqL K H a xs/\xs.length<=i⟩
def Kz(K:PySem.W.Frag)(a:Addr):It:=
 ⟨fun i H=>∃xs x,SqT K H a xs/\xs[i]?=some x,fun i H x H'=>H'=H/\∀xs,SqT K H a xs->xs[i]?=some x,fun i H=>∃xs,SqT K H a xs/\xs.length<=i⟩
def Li(lo:Int)(n:Nat):It:=⟨fun i _=>i<n,fun i H x H'=>H'=H/\x = .int (lo+i),fun i _=>n<=i⟩
theorem R1{P:Program}{w:World}{K:PySem.W.Frag}{tg:Expr}(a it:Addr):Sh P w K tg (Kg K a) [it] it (fun i h=>h.IsListIter it a i) where
 mem:=by simp
 obj:=fun i h st b hb=>by
  have e:b=it:=by simpa using hb
  subst e
  obtain⟨o,e,c,d⟩:=st
  exact⟨o,e,fun v z=>by rw[d] at z;cases z⟩
 keep:=fun i h h' st k=>st.at fun o e=>k it (by simp) o e
 item:=by
  intro X hP hw hK hc i pins s Z H E I hf st hg
  subst hP hw hK
  obtain⟨xs,x,hq,hx⟩:=hg
  obtain⟨its,rv,p,hz⟩:=I.list hq
  obtain⟨u,hu,ru⟩:=rv.get hx
  obtain⟨f0,f1,f2,f3,f4,f5⟩:=hf it (by simp)
  refine wpAny_pyNext_list_item st p.isList (x:=u) (by simpa using hu) fun h' st' sb=>?_
  have I1:Inv X pins Z H { s with heap:=h' }:=I.turned (t':=s.toks) (fun b o hb e=>(sb.2 b hb).trans e) f0 f1 f3 f4 f5
  obtain⟨o,e,c,d⟩:=id st'
  exact⟨u,rfl,Rc (s:={ s with heap:=h' }) e c d (by decide) ⟨x,H,I1,ru,⟨rfl,fun ys hy=>by rw[I.list_inj hy hq];exact hx⟩,st',fun b hb=>(hf b hb).1⟩⟩
 done:=by
  intro X hP hw hK hc i pins s Z H E I hf st hg
  subst hP hw hK
  obtain⟨xs,hq,hx⟩:=hg
  obtain⟨its,rv,p,hz⟩:=I.list hq
  obtain⟨f0,f1,f2,f3,f4,f5⟩:=hf it (by simp)
  have hl:=rv.length
  exact wpAny_pyNext_list_end (I.ok.hd hc) st p.isList (by simp;omega) fun h' eb=>⟨rfl,I.turned (t':=s.toks) (fun b o hb e=>eb b o hb e) f0 f1 f3 f4 f5⟩
 self:=fun _ _ _ _ _ st h=>wpAny_pyIter_listiter st h
theorem Si{P:Program}{w:World}{K:PySem.W.Frag}{tg:Expr}(a it:Addr):Sh P w K tg (Kz K a) [it] it (fun i h=>h.IsTupleIter it a i) where
 mem:=by simp
 obj:=fun i h st b hb=>by
  have e:b=it:=by simpa using hb
  subst e
  obtain⟨o,e,c,d⟩:=st
  exact⟨o,e,fun v z=>by rw[d] at z;cases z⟩
 keep:=fun i h h' st k=>st.at fun o e=>k it (by simp) o e
 item:=by
  intro X hP hw hK hc i pins s Z H E I hf st hg
  subst hP hw hK
  obtain⟨xs,x,hq,hx⟩:=hg
  obtain⟨its,rv,p,hz⟩:=I.tuple hq
  obtain⟨u,hu,ru⟩:=rv.get hx
  obtain⟨f0,f1,f2,f3,f4,f5⟩:=hf it (by simp)
  refine wpAny_pyNext_tuple_item st (show s.heap.IsTuple a its.toArray from p) (x:=u) (by simpa using hu) fun h' st' sb=>?_
  have I1:Inv X pins Z H { s with heap:=h' }:=I.turned (t':=s.toks) (fun b o hb e=>(sb.2 b hb).trans e) f0 f1 f3 f4 f5
  obtain⟨o,e,c,d⟩:=id st'
  exact⟨u,rfl,Rc (s:={ s with heap:=h' }) e c d (by decide) ⟨x,H,I1,ru,⟨rfl,fun ys hy=>by rw[I.tuple_inj hy hq];exact hx⟩,st',fun b hb=>(hf b hb).1⟩⟩
 done:=by
  intro X hP hw hK hc i pins s Z H E I hf st hg
  subst hP hw hK
  obtain⟨xs,hq,hx⟩:=hg
  obtain⟨its,rv,p,hz⟩:=I.tuple hq
  obtain⟨f0,f1,f2,f3,f4,f5⟩:=hf it (by simp)
  have hl:=rv.length
  exact wpAny_pyNext_tuple_end (I.ok.hd hc) st (show s.heap.IsTuple a its.toArray from p) (by simp;omega) fun h' eb=>⟨rfl,I.turned (t':=s.toks) (fun b o hb e=>eb b o hb e) f0 f1 f3 f4 f5⟩
 self:=fun _ _ _ _ _ st h=>wpAny_pyIter_tupleiter st h
theorem Sj{P:Program}{w:World}{K:PySem.W.Frag}{tg:Expr}(it:Addr)(lo:Int)(n:Nat):Sh P w K tg (Li lo n) [it] it (fun i h=>IsRangeIter h it (lo+(i:Nat)*1) ((n:Int)-(i:Nat)) 1) where
 mem:=by simp
 obj:=fun i h st b hb=>by
  have e:b=it:=by simpa using hb
  subst e
  exact⟨_,st,fun v z=>by
   have z':Data.fields _=Data.cell v:=z
   cases z'⟩
 keep:=fun i h h' st k=>k it (by simp) _ st
 item:=by
  intro X hP hw hK hc i pins s Z H E I hf st hg
  subst hP hw hK
  obtain⟨f0,f1,f2,f3,f4,f5⟩:=hf it (by simp)
  have W:=Walks.range (prog:=X.prog) (w:=X.w) (I.ok.hd hc) it lo 1 n
  refine W.item i s _ _ hg st fun v h' tk hv st' kk=>?_
  obtain⟨t,rfl⟩:=hv
  have I1:Inv X pins Z H { s with heap:=h',toks:=tk }:=I.turned (fun b o hb e=>kk b o (by simpa using hb) e) f0 f1 f3 f4 f5
  refine⟨_,rfl,Rc (s:={ s with heap:=h',toks:=tk }) (n:="range_iterator") st' rfl rfl (by decide) ⟨.int (lo+i),H,I1,⟨t,?_⟩,⟨rfl,rfl⟩,st',fun b hb=>(hf b hb).1⟩⟩
  rw[Int.mul_one]
 done:=by
  intro X hP hw hK hc i pins s Z H E I hf st hg
  subst hP hw hK
  obtain⟨f0,f1,f2,f3,f4,f5⟩:=hf it (by simp)
  exact wpAny_pyNext_range_end (I.ok.hd hc) st (by have:n<=i:=hg;omega) fun h' eb=>⟨rfl,I.turned (t':=s.toks) (fun b o hb e=>eb b o hb e) f0 f1 f3 f4 f5⟩
 self:=fun _ _ _ _ _ st h=>wpAny_pyIter_rangeiter st h
section
variable {X:Cx} {tg:Expr}
def Lj(K:PySem.W.Frag)(tl:TE):TI:=fun Z H R=>tl Z H fun x H1=>∃a,x = .ref a/\(∃xs,SqL K H1 a xs)/\R (Kg K a) H1
def Kh(K:PySem.W.Frag)(tl:TE):TI:=fun Z H R=>tl Z H fun x H1=>∃a,x = .ref a/\(∃xs,SqT K H1 a xs)/\R (Kz K a) H1
theorem Ol{l:Expr}{tl:TE}(hl:PE X l tl):PI X tg l (Lj X.K tl):=by
 intro pins s Z H R I h
 refine ZV (hl pins s Z H _ I h) fun v s1 ⟨x,H1,I1,r1,q1⟩=>?_
 obtain⟨a,e,⟨xs,hq⟩,q⟩:=q1
 subst e;cases r1
 obtain⟨its,rv,p,hz⟩:=I1.list hq
 refine wpAny_pyIter_list p.isList ?_
 refine⟨s1.heap.objs.size,[s1.heap.objs.size],_,_,H1,rfl,I1.kept (t':=s1.toks) fun b o e=>Heap.get?_push_of_some _ e,R1 a _,⟨_,Heap.get?_push_size _ rfl,rfl,rfl⟩,fun b hb=>?_,q⟩
 have e:b=s1.heap.objs.size:=by simpa using hb
 subst e
 exact I1.fpOk (Nat.le_refl _) (I1.hok.fresh (Nat.le_refl _))
theorem N6{l:Expr}{tl:TE}(hl:PE X l tl):PI X tg l (Kh X.K tl):=by
 intro pins s Z H R I h
 refine ZV (hl pins s Z H _ I h) fun v s1 ⟨x,H1,I1,r1,q1⟩=>?_
 obtain⟨a,e,⟨xs,hq⟩,q⟩:=q1
 subst e;cases r1
 obtain⟨its,rv,p,hz⟩:=I1.tuple hq
 refine wpAny_pyIter_tuple (show s1.heap.IsTuple a its.toArray from p) ?_
 refine⟨s1.heap.objs.size,[s1.heap.objs.size],_,_,H1,rfl,I1.kept (t':=s1.toks) fun b o e=>Heap.get?_push_of_some _ e,Si a _,⟨_,Heap.get?_push_size _ rfl,rfl,rfl⟩,fun b hb=>?_,q⟩
 have e:b=s1.heap.objs.size:=by simpa using hb
 subst e
 exact I1.fpOk (Nat.le_refl _) (I1.hok.fresh (Nat.le_refl _))
theorem Tt{pins:List (Addr×Obj)}{Z:St}{H:Hp}{s:Shared}{R:It->Hp->Prop}{E:Value->Shared->Prop}{lo hi:Int}{t u v:Tok}{tk:Nat}(I:Inv X pins Z H s)(h1 : -(2^62)<=lo)(h2:lo<2^62)(h3 : -(2^62)<=hi)(h4:hi<2^62)
  (q:R (Li lo (hi-lo).toNat) H):wpAny (model X.prog X.w) X.A (pyIter (.ref s.heap.objs.size)) (Kf X pins Z tg R) E { s with heap:=s.heap.push { cls:=.type "range",data:=.fields #[.int lo t,.int hi u,.int 1 v] },toks:=tk }:=by
 refine wpAny_pyIter_range (IsRange.new ..) (small_one h1 h2 h3 h4) ?_
 have I1:Inv X pins Z H { s with heap:=s.heap.push { cls:=.type "range",data:=.fields #[.int lo t,.int hi u,.int 1 v] },toks:=tk }:=I.kept fun b o e=>Heap.get?_push_of_some _ e
 refine⟨(s.heap.push { cls:=.type "range",data:=.fields #[.int lo t,.int hi u,.int 1 v] }).objs.size,[(s.heap.push { cls:=.type "range",data:=.fields #[.int lo t,.int hi u,.int 1 v] }).objs.size],_,_,H,rfl,
  I1.kept (t':=tk) fun b o e=>Heap.get?_push_of_some _ e,Sj _ lo (hi-lo).toNat,?_,fun b hb=>?_,q⟩
 ·have e1:lo+((0:Nat):Int)*1=lo:=by simp
  have e2:(((hi-lo).toNat:Nat):Int)-((0:Nat):Int)=Builtin.Range.rangeSize lo hi 1:=by rw[rangeSize_one];split<;>omega
  show IsRangeIter _ _ (lo+((0:Nat):Int)*1) ((((hi-lo).toNat:Nat):Int)-((0:Nat):Int)) 1
  rw[e1,e2]
  exact Heap.get?_push_size _ rfl
 ·have e:b=(s.heap.push { cls:=.type "range",data:=.fields #[.int lo t,.int hi u,.int 1 v] }).objs.size:=by simpa using hb
  subst e
  exact I1.fpOk (Nat.le_refl _) (I1.hok.fresh (Nat.le_refl _))
def Lk(ta:TA):TI:=fun Z H R=>ta Z H fun vs H1=>∃j:Int,vs=[.int j]/\-(2^62)<=j/\j<2^62/\R (Li 0 j.toNat) H1
def Ll(ta:TA):TI:=fun Z H R=>ta Z H fun vs H1=>∃i j:Int,vs=[.int i,.int j]/\(-(2^62)<=i/\i<2^62/\-(2^62)<=j/\j<2^62)/\R (Li i (j-i).toNat) H1
theorem R3{a:Expr}{ta:TA}{p pos:Pos}(hg:Gl X "range")(hm:X.mg "range" = none)(ha:PA X [a] ta)(hs:starEach [a] X.env=[(false,eval a X.env)]:=by rfl):PI X tg (.Call (.Name "range" p) [a] [] pos) (Lk ta):=by
 intro pins s Z H R I h
 refine Call_ (Wv I hg hm boot_range (PyProof.Rows.callWith_type1 (ZV (ha pos pins s Z H _ I h) fun us s1 ⟨vs,H1,I1,r1,q1⟩=>?_) hs rfl))
 obtain⟨j,e,q1,q2,q⟩:=q1
 subst e
 cases r1 with
 | cons r rr=>
  cases rr
  obtain⟨t,rfl⟩:=r
  exact call_range_1 (Tt I1 (by omega) (by omega) q1 q2 (by simpa using q))
theorem R4{a b:Expr}{ta:TA}{p pos:Pos}(hg:Gl X "range")(hm:X.mg "range" = none)(ha:PA X [a,b] ta)(hs:starEach [a,b] X.env=[(false,eval a X.env),(false,eval b X.env)]:=by rfl)(hs2:starEach [b] X.env=[(false,eval b X.env)]:=by rfl) :
  PI X tg (.Call (.Name "range" p) [a,b] [] pos) (Ll ta):=by
 intro pins s Z H R I h
 refine Call_ (Wv I hg hm boot_range (PyProof.Rows.callWith_type1 (ZV (ha pos pins s Z H _ I h) fun us s1 ⟨vs,H1,I1,r1,q1⟩=>?_) (by rw[hs,hs2]) (by rw[hs2];rfl)))
 obtain⟨i,j,e,⟨q1,q2,q3,q4⟩,q⟩:=q1
 subst e
 cases r1 with
 | cons r rr=>
  cases rr with
  | cons r' rr=>
   cases rr
   obtain⟨t,rfl⟩:=r
   obtain⟨t',rfl⟩:=r'
   exact call_range_2 (Tt I1 q1 q2 q3 q4 q)
def Om(wi:TI)(g:TG)(tb:TS):TS:=fun D Z H=>wi Z H fun J H1=>∃W:Nat->Nat->St->Hp->Prop,(∃m,W 0 m Z H1)/\∀i m Z H,W i m Z H->
 (J.stop i H/\D.nx Z H)\/(J.go i H/\∃N:St->Hp->Prop,(∀Z' H',N Z' H'->∃m',m'<m/\W (i+1) m' Z' H')/\∀x H',J.yld i H x H'->g x Z H' fun Z2 H2=>tb { D with nx:=N,ct:=N,bk:=D.nx } Z2 H2)
def Ww(fp:List Addr)(h:Heap):List (Addr×Obj):=fp.filterMap fun b=>(h.get? b).map fun o=>(b,o)
theorem Xc{fp:List Addr}{h:Heap}{b:Addr}{o:Obj}(hb:b∈fp)(e:h.get? b=some o):(b,o)∈Ww fp h:=List.mem_filterMap.mpr ⟨b,hb,by rw[e];rfl⟩
theorem R5{fp:List Addr}{h:Heap}{p:Addr×Obj}(hp:p∈Ww fp h):p.1∈fp/\h.get? p.1=some p.2:=by
 obtain⟨b,hb,e⟩:=List.mem_filterMap.mp hp
 cases q:h.get? b with
 | none=>rw[q] at e;cases e
 | some o=>
  rw[q] at e
  have e':(b,o)=p:=Option.some.inj e
  subst e'
  exact⟨hb,q⟩
theorem Inv.pinned{pins:List (Addr×Obj)}{Z:St}{H:Hp}{s:Shared}{fp:List Addr}(I:Inv X pins Z H s)(hf:∀b∈fp,Vd X pins H b)(ho:∀b∈fp,∃o,s.heap.get? b=some o/\∀v,o.data≠.cell v):Inv X (pins++Ww fp s.heap) Z H s:=
 I.pins_of fun p hp=>(List.mem_append.mp hp).elim (fun z=>I.pin p (List.mem_append_right _ z)) fun z=>by
  obtain⟨hb,e⟩:=R5 z
  obtain⟨f0,f1,f2,_⟩:=hf p.1 hb
  obtain⟨o,e',d⟩:=ho p.1 hb
  rw[e] at e';cases e'
  exact⟨e,f0,f1,f2,d⟩
theorem Inv.unpinned{pins pl:List (Addr×Obj)}{Z:St}{H:Hp}{s:Shared}(I:Inv X (pins++pl) Z H s):Inv X pins Z H s:=I.pins_of fun p hp=>I.pin p (List.mem_append_right _ (List.mem_append_left _ hp))
theorem UQ{iter:Expr}{body:List Stmt}{wi:TI}{g:TG}{tb:TS}{pos:Pos}(hp:PassesOwn (model X.prog X.w) X.A X.env X.xe)(hc:X.calm=true)(hi:PI X tg iter wi)(hg:PG X tg g)(hb:PSs X body tb)
  (hs:∀x,foldedSetIterable iter X.env x=pure x:=by intro _;rfl):PS X (.For tg iter body [] pos) (Om wi g tb):=by
 intro pins s Z H D I h
 refine wpAny_For (ZV (hi pins s Z H _ I h) fun v s1 h1=>ZV h1 fun itv s2 h2=>?_) hs
 obtain⟨it,fp,tn,J,H2,e,I2,T,st2,f2,W,⟨m0,w0⟩,turn⟩:=h2
 subst e
 -- what stays true of the iterator's objects through the loop
 have stat:∀{H':Hp},(∀b∈fp,H' b=none)->∀b∈fp,Vd X pins H' b:=fun hn b hb=>⟨hn b hb,(f2 b hb).2⟩
 refine codeAny_forLoop_any (fun n s'=>∃i Z' H',Inv X pins Z' H' s'/\tn i s'.heap/\(∀b∈fp,H' b=none)/\W i n Z' H') ?_ m0 ⟨0,Z,H2,I2,st2,fun b hb=>(f2 b hb).1,w0⟩
 rintro n s3 ⟨i,Z3,H3,I3,st3,fr3,w3⟩
 rcases turn i n Z3 H3 w3 with⟨stop,qn⟩ | ⟨go,N,hN,step⟩
 ·refine wpAny_passesOwn hp (ZV (T.done X rfl rfl rfl hc i pins s3 Z3 H3 X.xe I3 (stat fr3) st3 stop) fun r s4 ⟨hr,I4⟩=>?_)
  subst hr
  exact wpAny_execs_nil ⟨Z3,H3,I4,qn⟩
 ·refine wpAny_passesOwn hp (ZV (T.item X rfl rfl rfl hc i pins s3 Z3 H3 X.xe I3 (stat fr3) st3 go) fun r s4 ⟨u,hr,h4⟩=>?_)
  subst hr
  refine wpAny_passesOwn hp (ZV h4 fun _ s5 ⟨x,H5,I5,r5,y5,st5,fr5⟩=>?_)
  have I5':=I5.pinned (stat fr5) (T.obj _ _ st5)
  refine wpAny_passesOwn hp (ZV (hg _ s5 Z3 H5 x u _ I5' r5 (step x H5 y5)) fun _ s6 ⟨Z6,H6,I6,q6⟩=>?_)
  refine wpAny_passesOwn hp (ZV (hb _ s6 Z6 H6 _ I6 q6) fun f s7 q7=>?_)
  have again:∀{Z7:St}{H7:Hp},Inv X (pins++Ww fp s5.heap) Z7 H7 s7->N Z7 H7->∃m,m<n/\∃i Z' H',Inv X pins Z' H' s7/\tn i s7.heap/\(∀b∈fp,H' b=none)/\W i m Z' H':=fun{Z7 H7} I7 n7=>by
   obtain⟨m',hm,w7⟩:=hN Z7 H7 n7
   refine⟨m',hm,i+1,Z7,H7,I7.unpinned,T.keep _ _ _ st5 fun b hb o e=>(I7.pin (b,o) (List.mem_append_right _ (List.mem_append_right _ (Xc hb e)))).1,fun b hb=>?_,w7⟩
   obtain⟨o,e,d⟩:=T.obj _ _ st5 b hb
   exact(I7.pin (b,o) (List.mem_append_right _ (List.mem_append_right _ (Xc hb e)))).2.1
  cases f with
  | next=>obtain⟨Z7,H7,I7,n7⟩:=q7;exact again I7 n7
  | cont=>obtain⟨Z7,H7,I7,n7⟩:=q7;exact again I7 n7
  | brk=>obtain⟨Z7,H7,I7,q7⟩:=q7;exact⟨Z7,H7,I7.unpinned,q7⟩
  | ret v=>obtain⟨x7,Z7,H7,I7,r7,q7⟩:=q7;exact⟨x7,Z7,H7,I7.unpinned,r7,q7⟩
end
abbrev R2:=V->V->Hp->VK->Prop
def XX(X:Cx)(f:Value->Value->Sem Value)(r:R2):Prop:=
 ∀(pins:List (Addr×Obj))(s:Shared)(Z:St)(H:Hp)(x y:V)(v u:Value)(Q:VK),Inv X pins Z H s->RelV x v->RelV y u->r x y H Q->
  wpAny (model X.prog X.w) X.A (f v u) (EP X pins Z Q) X.xe s
def Xk(X:Cx)(f:Value)(r:List V->Hp->VK->Prop):Prop:=
 ∀(pins:List (Addr×Obj))(s:Shared)(Z:St)(H:Hp)(xs:List V)(us:List Value)(Q:VK),Inv X pins Z H s->Vals xs us->r xs H Q->
  wpAny (model X.prog X.w) X.A (call f us) (EP X pins Z Q) X.xe s
def Ki(X:Cx)(r:V->Hp->(Bool->Hp->Prop)->Prop):Prop:=
 ∀(pins:List (Addr×Obj))(s:Shared)(Z:St)(H:Hp)(x:V)(v:Value)(Q:Bool->Hp->Prop),Inv X pins Z H s->RelV x v->r x H Q->
  wpAny (model X.prog X.w) X.A (truthy v) (TP X pins Z Q) X.xe s
def N7(r:R2)(ta tb:TE):TE:=fun Z H Q=>ta Z H fun x H1=>tb Z H1 fun y H2=>r x y H2 Q
def rI(C:Int->Int->Prop)(g:Int->Int->V):R2:=fun x y H Q=>∃i j,x = .int i/\y = .int j/\C i j/\Q (g i j) H
def On(g:Int->Int->V):R2:=fun x y H Q=>∃i j,x = .int i/\y = .int j/\Q (g i j) H
section
variable {X:Cx} {a b c:Expr} {ta tb tc:TE} {pos:Pos}
theorem N8(ha:PE X a ta)(hb:PE X b tb){pins:List (Addr×Obj)}{s:Shared}{Z:St}{H:Hp}{R:V->V->Hp->Prop}(I:Inv X pins Z H s)
  (h:ta Z H fun x H1=>tb Z H1 fun y H2=>R x y H2) {Q:Value->Shared->Prop} {f:Value->Value->Sem Value}
  (hf:∀v u s2 x y H2,Inv X pins Z H2 s2->RelV x v->RelV y u->R x y H2->wpAny (model X.prog X.w) X.A (f v u) Q X.xe s2) :
  wpAny (model X.prog X.w) X.A (eval a X.env) (fun v s₁=>wpAny (model X.prog X.w) X.A (eval b X.env) (fun u s₂=>wpAny (model X.prog X.w) X.A (f v u) Q X.xe s₂) X.xe s₁) X.xe s:=by
 refine ZV (ha pins s Z H _ I h) fun v s1 ⟨x,H1,I1,r1,q1⟩=>?_
 refine ZV (hb pins s1 Z H1 _ I1 q1) fun u s2 ⟨y,H2,I2,r2,q2⟩=>?_
 exact hf v u s2 x y H2 I2 r1 r2 q2
theorem QT{op:Operator}{r:R2}(ho:XX X (binaryOp op) r)(ha:PE X a ta)(hb:PE X b tb):PE X (.BinOp a op b pos) (N7 r ta tb):=by
 intro pins s Z H Q I h
 exact wpAny_BinOp (N8 ha hb I h fun v u s2 x y H2 I2 rx ry q=>ho pins s2 Z H2 x y v u Q I2 rx ry q)
theorem LZ{f:Value->Value->Sem Value}{C:Int->Int->Prop}{g:Int->Int->Int}
  (rule:∀(i j:Int)(t u:Tok)(s:Shared)(Q:Value->Shared->Prop)(E:Value->Shared->Prop),C i j->Q (.int (g i j) s.toks) { s with toks:=s.toks+1 }->wpAny (model X.prog X.w) X.A (f (.int i t) (.int j u)) Q E s) :
  XX X f (rI C fun i j=>.int (g i j)):=by
 intro pins s Z H x y v u Q I rx ry h
 obtain⟨i,j,rfl,rfl,hc,q⟩:=h
 obtain⟨t,rfl⟩:=rx
 obtain⟨t',rfl⟩:=ry
 exact rule i j t t' s _ _ hc ⟨.int (g i j),H,I.tok _,⟨_,rfl⟩,q⟩
theorem Lm{f:Value->Value->Sem Value}{g:Int->Int->Int}
  (rule:∀(i j:Int)(t u:Tok)(s:Shared)(Q:Value->Shared->Prop)(E:Value->Shared->Prop),Q (.int (g i j) s.toks) { s with toks:=s.toks+1 }->wpAny (model X.prog X.w) X.A (f (.int i t) (.int j u)) Q E s) :
  XX X f (On fun i j=>.int (g i j)):=by
 intro pins s Z H x y v u Q I rx ry h
 obtain⟨i,j,rfl,rfl,q⟩:=h
 obtain⟨t,rfl⟩:=rx
 obtain⟨t',rfl⟩:=ry
 exact rule i j t t' s _ _ ⟨.int (g i j),H,I.tok _,⟨_,rfl⟩,q⟩
theorem N9{f:Value->Value->Sem Value}{g:Int->Int->Bool}
  (rule:∀(i j:Int)(t u:Tok)(s:Shared)(Q:Value->Shared->Prop)(E:Value->Shared->Prop),Q (.bool (g i j)) s->wpAny (model X.prog X.w) X.A (f (.int i t) (.int j u)) Q E s) :
  XX X f (On fun i j=>.bl (g i j)):=by
 intro pins s Z H x y v u Q I rx ry h
 obtain⟨i,j,rfl,rfl,q⟩:=h
 obtain⟨t,rfl⟩:=rx
 obtain⟨t',rfl⟩:=ry
 exact rule i j t t' s _ _ ⟨.bl (g i j),H,I,rfl,q⟩
def Wx(i j:Int):Prop:=0<j/\j<1073741824
def Ny(i j:Int):Prop:=j≠0/\j.natAbs<1073741824
def R6(i j:Int):Prop:=0<=j/\j<=1000000/\i.natAbs<2^64
def CMul(i j:Int):Prop:=(-(2^64)<i/\i<2^64)\/(-(2^64)<j/\j<2^64)
theorem CMul.ok{i j:Int}(h:CMul i j):IntMulOk i j:=by
 rcases h with⟨h1,h2⟩ | ⟨h1,h2⟩
 ·exact .of_left (intBits_le_64 h1 h2)
 ·exact .of_right (intBits_le_64 h1 h2)
theorem Ma:XX X (binaryOp .Add) (On fun i j=>.int (i+j)):=Lm fun _ _ _ _ _ _ _ q=>add_int q
theorem Mb:XX X (binaryOp .Sub) (On fun i j=>.int (i-j)):=Lm fun _ _ _ _ _ _ _ q=>sub_int q
theorem Mc:XX X (binaryOp .Mult) (rI CMul fun i j=>.int (i*j)):=LZ fun _ _ _ _ _ _ _ hc q=>mul_int q hc.ok
theorem Oo:XX X (binaryOp .FloorDiv) (rI Wx fun i j=>.int (i/j)):=LZ fun i j _ _ _ _ _ hc q=>by
 have h1:(0:Int)<j:=hc.1
 have h2:j<1073741824:=hc.2
 exact floordiv_int (by omega) (by rw[Int.fdiv_eq_ediv_of_nonneg i (by omega)];exact q) (.inl (PyProof.noPylong_small (by omega)))
theorem Md:XX X (binaryOp .Mod) (rI (fun _ j=>0<j) fun i j=>.int (i%j)):=LZ fun i j _ _ _ _ _ hc q=>by
 have h1:(0:Int)<j:=hc
 exact mod_int' (by omega) (by rw[Int.fmod_eq_emod_of_nonneg i (by omega)];exact q)
theorem Me:XX X (binaryOp .Pow) (rI R6 fun i j=>.int (i^j.toNat)):=LZ fun _ _ _ _ _ _ _ hc q=>pow_int_small hc.1 hc.2.1 hc.2.2 q
end
section
variable {X:Cx} {a b c:Expr} {ta tb tc:TE} {pos:Pos}
theorem Ln:XX X (compareOp .Lt) (On fun i j=>.bl (decide (i<j))):=N9 fun _ _ _ _ _ _ _ q=>lt_int q
theorem Lo:XX X (compareOp .LtE) (On fun i j=>.bl (decide (i<=j))):=N9 fun _ _ _ _ _ _ _ q=>le_int q
theorem Lp:XX X (compareOp .Gt) (On fun i j=>.bl (decide (j<i))):=N9 fun _ _ _ _ _ _ _ q=>gt_int q
theorem UR(b:Expr){op:CmpOp}(h:op≠.In:=by decide)(h2:op≠.NotIn:=by decide):behindInMarks op b=false:=by
 have e1:(op==CmpOp.In)=false:=by cases op<;>first | rfl | exact absurd rfl h
 have e2:(op==CmpOp.NotIn)=false:=by cases op<;>first | rfl | exact absurd rfl h2
 cases b<;>simp[behindInMarks,e1,e2]
theorem Op{op:CmpOp}{r:R2}(ho:XX X (compareOp op) r)(ha:PE X a ta)(hb:PE X b tb)(hm:behindInMarks op b=false):PE X (.Compare a [op] [b] pos) (N7 r ta tb):=by
 intro pins s Z H Q I h
 exact wpAny_Compare1 (N8 ha hb I h fun v u s2 x y H2 I2 rx ry q=>ho pins s2 Z H2 x y v u Q I2 rx ry q) hm
def Tu(t:TE):TT:=fun Z H Q=>t Z H fun x H'=>∃k,x = .bl k/\Q k H'
theorem Oq{op:CmpOp}{r:R2}(ho:XX X (compareOp op) r)(ha:PE X a ta)(hb:PE X b tb)(hm:behindInMarks op b=false):PT X (.Compare a [op] [b] pos) (Tu (N7 r ta tb)):=by
 intro pins s Z H Q I h
 refine wpAny_isTrue_Compare1 (ZV (ha pins s Z H _ I h) fun v s1 ⟨x,H1,I1,r1,q1⟩=>ZV (hb pins s1 Z H1 _ I1 q1) fun u s2 ⟨y,H2,I2,r2,q2⟩=>
  ZV (ho pins s2 Z H2 x y v u _ I2 r1 r2 q2) fun c s3 ⟨z,H3,I3,r3,k,e,q3⟩=>?_) hm
 subst e;cases r3
 exact wpAny_truthy_bool ⟨H3,I3,q3⟩
def QU(r r':R2)(ta tb tc:TE):TE:=fun Z H Q=>ta Z H fun x H1=>tb Z H1 fun y H2=>r x y H2 fun z H3=>∃k,z = .bl k/\
 (if k=true then tc Z H3 fun w' H4=>r' y w' H4 Q else Q (.bl false) H3)
theorem QV{op op':CmpOp}{r r':R2}(ho:XX X (compareOp op) r)(ho':XX X (compareOp op') r')(ha:PE X a ta)(hb:PE X b tb)(hc:PE X c tc)
  (hm:lastMarks [op,op'] [b,c]=false:=by with_unfolding_all rfl):PT X (.Compare a [op,op'] [b,c] pos) (Tu (QU r r' ta tb tc)):=by
 intro pins s Z H Q I h
 refine isTrue_chain (ZV (ha pins s Z H _ I h) fun v s1 ⟨x,H1,I1,r1,q1⟩=>test_link (ZV (hb pins s1 Z H1 _ I1 q1) fun u s2 ⟨y,H2,I2,r2,q2⟩=>
  ZV (ho pins s2 Z H2 x y v u _ I2 r1 r2 q2) fun d s3 ⟨z,H3,I3,r3,k,e,q3⟩=>?_)) hm
 subst e;cases r3
 refine wpAny_truthy_bool ?_
 cases k with
 | false=>
  obtain⟨k',e',q'⟩:=q3
  cases e'
  exact ite_ff ⟨H3,I3,q'⟩
 | true=>
  refine ite_tt (test_last (ZV (hc pins s3 Z H3 _ I3 q3) fun w' s4 ⟨z',H4,I4,r4,q4⟩=>ZV (ho' pins s4 Z H4 y z' u w' _ I4 r2 r4 q4) fun d' s5 ⟨z2,H5,I5,r5,k2,e2,q5⟩=>?_))
  subst e2;cases r5
  exact wpAny_truthy_bool ⟨H5,I5,q5⟩
def Kj(K:PySem.W.Frag)(x:V)(H:Hp)(k:Bool):Prop:=
 match x with
 | .non=>k=false
 | .bl b=>k=b
 | .int i=>k=(i != 0)
 | .str y=>y.length<=sizeLine/\k=((y.length:Int) != 0)
 | .byt y=>y.size<=sizeLine/\k=((y.size:Int) != 0)
 | .ref p=>(∃xs,SqL K H p xs/\k = !xs.isEmpty)\/(∃xs,SqT K H p xs/\k = !xs.isEmpty)\/∃kvs,H p=some (.dK kvs)/\k = !kvs.isEmpty
 | _=>False
theorem Sk{κ:Type}{kvs:List (κ×V)}{vs:List (κ×Value)}(r:KV kvs vs):(!vs.isEmpty) = !kvs.isEmpty:=by
 cases r<;>rfl
theorem Vs{xs:List V}{its:List Value}(r:Vals xs its):(!its.toArray.isEmpty) = !xs.isEmpty:=by
 cases r<;>simp
theorem Wy:(sizeLine:Nat)<2^63:=by rw[sizeLine_eq];decide
theorem tru_ok:Ki X (fun x H Q=>∃k,Kj X.K x H k/\Q k H):=by
 intro pins s Z H x v Q I rx h
 obtain⟨k,e,q⟩:=h
 have hl:=Wy
 have hs:sizeLine=16777216:=sizeLine_eq
 cases x with
 | non=>
  cases rx
  have e':k=false:=e
  subst e'
  exact truthy_none ⟨H,I,q⟩
 | bl b=>
  cases rx
  have e':k=b:=e
  subst e'
  exact wpAny_truthy_bool ⟨H,I,q⟩
 | int i=>
  obtain⟨t,rfl⟩:=rx
  have e':k=(i != 0):=e
  subst e'
  exact PySem.P.truthy_int ⟨H,I,q⟩
 | str y=>
  obtain⟨t,rfl⟩:=rx
  obtain⟨hy,e'⟩:y.length<=sizeLine/\k=((y.length:Int) != 0):=e
  subst e'
  exact PySem.P.truthy_str (by omega) ⟨H,I.tok _,q⟩
 | byt y=>
  obtain⟨t,rfl⟩:=rx
  obtain⟨hy,e'⟩:y.size<=sizeLine/\k=((y.size:Int) != 0):=e
  subst e'
  exact PySem.W.truthy_bytes (by omega) ⟨H,I.tok _,q⟩
 | ref p=>
  cases rx
  have e':(∃xs,SqL X.K H p xs/\k = !xs.isEmpty)\/(∃xs,SqT X.K H p xs/\k = !xs.isEmpty)\/∃kvs,H p=some (.dK kvs)/\k = !kvs.isEmpty:=e
  rcases e' with⟨xs,hx,e'⟩ | ⟨xs,hx,e'⟩ | ⟨kvs,hx,e'⟩
  ·subst e'
   obtain⟨its,r,pl,hz⟩:=I.list hx
   have hlen:=r.length
   exact wpAny_truthy_list pl.isList (by simp only[List.size_toArray];omega) ⟨H,I.tok _,by rw[Vs r];exact q⟩
  ·subst e'
   obtain⟨its,r,pl,hz⟩:=I.tuple hx
   have hlen:=r.length
   exact truthy_tuple pl (by simp only[List.size_toArray];omega) ⟨H,I.tok _,by rw[Vs r];exact q⟩
  ·subst e'
   obtain⟨hz,hS,vs,r,m⟩:kvs.length<=sizeLine/\(p==sysModules)=false/\∃vs,KV kvs vs/\s.heap.DictOf (ZS X.prog X.w) p vs:=I.hok p _ hx
   have hlen:kvs.length=vs.length:=Paired.length r
   exact wpAny_truthy_dict hS m (by omega) ⟨H,I.tok _,by rw[Sk r];exact q⟩
 | _=>exact(show False from e).elim
theorem Um{x:V}{us:List Value}(r:Vals [x] us):∃u,us=[u]/\RelV x u:=by
 cases r with
 | cons r1 r2=>cases r2;exact⟨_,rfl,r1⟩
theorem QW{x y:V}{us:List Value}(r:Vals [x,y] us):∃u w',us=[u,w']/\RelV x u/\RelV y w':=by
 cases r with
 | cons r1 r2=>
  cases r2 with
  | cons r3 r4=>cases r4;exact⟨_,_,rfl,r1,r3⟩
theorem R7(hc:X.calm=true):Xk X (.builtin "max") (fun xs H Q=>∃i j,xs=[.int i,.int j]/\Q (.int (if j>i then j else i)) H):=by
 intro pins s Z H xs us Q I r h
 obtain⟨i,j,rfl,q⟩:=h
 obtain⟨u,w',rfl,⟨t,rfl⟩,⟨t',rfl⟩⟩:=QW r
 refine max_two_ints (I.ok.hd hc) fun h' tk k=>⟨_,H,I.kept k,?_,q⟩
 by_cases hj:j>i
 ·rw[if_pos hj,if_pos hj];exact⟨_,rfl⟩
 ·rw[if_neg hj,if_neg hj];exact⟨_,rfl⟩
theorem Wz(hc:X.calm=true):Xk X (.builtin "min") (fun xs H Q=>∃i j,xs=[.int i,.int j]/\Q (.int (if j<i then j else i)) H):=by
 intro pins s Z H xs us Q I r h
 obtain⟨i,j,rfl,q⟩:=h
 obtain⟨u,w',rfl,⟨t,rfl⟩,⟨t',rfl⟩⟩:=QW r
 refine min_two_ints (I.ok.hd hc) fun h' tk k=>⟨_,H,I.kept k,?_,q⟩
 by_cases hj:j<i
 ·rw[if_pos hj,if_pos hj];exact⟨_,rfl⟩
 ·rw[if_neg hj,if_neg hj];exact⟨_,rfl⟩
theorem R8:Xk X (.type "int") (fun xs H Q=>(∃i,xs=[.int i]/\Q (.int i) H)\/∃k,xs=[.bl k]/\Q (.int (if k then 1 else 0)) H):=by
 intro pins s Z H xs us Q I r h
 rcases h with⟨i,rfl,q⟩ | ⟨k,rfl,q⟩
 ·obtain⟨u,rfl,t,rfl⟩:=Um r
  exact call_int_int ⟨.int i,H,I,⟨_,rfl⟩,q⟩
 ·obtain⟨u,rfl,r1⟩:=Um r
  cases r1
  exact call_int_bool ⟨.int (if k then 1 else 0),H,I.tok _,⟨_,rfl⟩,q⟩
def Lq(K:PySem.W.Frag)(x:V)(H:Hp)(n:Nat):Prop:=
 match x with
 | .str y=>y.length<=sizeLine/\n=y.length
 | .byt y=>y.size<=sizeLine/\n=y.size
 | .ref p=>(∃xs,SqL K H p xs/\n=xs.length)\/∃xs,SqT K H p xs/\n=xs.length
 | _=>False
theorem Vt:Xk X (.builtin "len") (fun xs H Q=>∃x n,xs=[x]/\Lq X.K x H n/\Q (.int n) H):=by
 intro pins s Z H xs us Q I r h
 obtain⟨x,n,rfl,e,q⟩:=h
 obtain⟨u,rfl,rx⟩:=Um r
 have hl:=Wy
 have hs:sizeLine=16777216:=sizeLine_eq
 cases x with
 | str y=>
  obtain⟨t,rfl⟩:=rx
  obtain⟨hy,e'⟩:y.length<=sizeLine/\n=y.length:=e
  subst e'
  exact len_str (by omega) ⟨.int _,H,I.tok _,⟨_,rfl⟩,q⟩
 | byt y=>
  obtain⟨t,rfl⟩:=rx
  obtain⟨hy,e'⟩:y.size<=sizeLine/\n=y.size:=e
  subst e'
  exact PySem.W.len_bytes (by omega) ⟨.int _,H,I.tok _,⟨_,rfl⟩,q⟩
 | ref p=>
  cases rx
  have e':(∃xs,SqL X.K H p xs/\n=xs.length)\/∃xs,SqT X.K H p xs/\n=xs.length:=e
  rcases e' with⟨xs,hx,e'⟩ | ⟨xs,hx,e'⟩
  ·subst e'
   obtain⟨its,r',pl,hz⟩:=I.list hx
   have hlen:=r'.length
   exact Calls.call_len_list pl.isList (by simp only[List.size_toArray];omega) ⟨.int xs.length,H,I.tok _,⟨_,by simp only[List.size_toArray];rw[hlen]⟩,q⟩
  ·subst e'
   obtain⟨its,r',pl,hz⟩:=I.tuple hx
   have hlen:=r'.length
   exact len_tuple pl (by simp only[List.size_toArray];omega) ⟨.int xs.length,H,I.tok _,⟨_,by simp only[List.size_toArray];rw[hlen]⟩,q⟩
 | _=>exact(show False from e).elim
end
structure ObjM(h:Heap)(x dx C:Addr)(mA:Str->Option Value):Prop where
 obj:h.get? x=some (PySem.W.instObj C dx)
 ns:h.Ns1 dx mA
 ne:dx≠x
theorem R9{h:Heap}{dx:Addr}{mA:Str->Option Value}(n:h.Ns1 dx mA):∃od,h.get? dx=some od/\∀name,PySem.W.lookIn name od=some (mA name):=by
 obtain⟨o,es,ep,ho,hd,hk,_,hm⟩:=n
 refine⟨o,ho,fun name=>?_⟩
 have e:=hm name;unfold nsFind findBy at e;rw[<-Array.find?_toList] at e;unfold PySem.W.lookIn;rw[hd]
 dsimp only
 split
 ·rename_i y q
  rw[q] at e
  exact congrArg some e
 ·rename_i q
  rw[q] at e
  have a:es.toList.any (·.refKey)=false:=by
   rw[List.any_eq_false];intro y hy
   obtain⟨z,t,hkey⟩:=hk y (Array.mem_toList_iff.mp hy)
   simp[DictEntry.refKey,hkey]
  have a':¬es.toList.any (·.refKey)=true:=by rw[a];exact Bool.false_ne_true
  rw[if_neg a']
  exact congrArg some e
theorem ObjM.look{h:Heap}{x dx C:Addr}{mA:Str->Option Value}(I:ObjM h x dx C mA):∃od,PySem.W.InstAt h x (PySem.W.instObj C dx) C (some od)/\∀name,PySem.W.lookIn name od=some (mA name):=
 let⟨od,ho,hl⟩:=R9 I.ns
 ⟨od,⟨I.obj,rfl,rfl,ho⟩,hl⟩
theorem RelO.some_of{v:V}{o:Option Value}(r:RelO (some v) o):∃u,o=some u/\RelV v u:=by
 cases o with
 | none=>exact(show False from r).elim
 | some u=>exact⟨u,rfl,r⟩
section
variable {P:Program} {w:World} {H H':Hp} {h h':Heap} {a C dx:Addr} {fs fs':List (Str×V)}
theorem Os(hok:HOk P w H h)(e:H a=some (.ins C dx fs)):∃mA,ObjM h a dx C mA/\(∀f,RelO (fs.lookup f) (mA f))/\PySem.Within mA (fs.map (·.1))/\fs.length<=1000/\H dx=some (.own a):=by
 obtain⟨d,z,ne,ob,mA,n,r,q⟩:=(show ObjOk P w H h a (.ins C dx fs) from hok a _ e)
 exact⟨mA,⟨ob,n,ne⟩,r,q,z,d⟩
end
structure Cls(K:PySem.W.Frag)(C:Addr):Prop where
 pg:PySem.W.plainGet K C Str.empty=true
 hd:PySem.W.hasDictIn K C=true
 po:PySem.W.plainOver K C=true
 sa:PySem.W.findIn K (.ref C) "__setattr__" = some (some (.builtin "object.__setattr__"))
theorem Cls.get{K:PySem.W.Frag}{C:Addr}(c:Cls K C)(f:Str):PySem.W.plainGet K C f=true:=c.pg
section
variable {X:Cx} {pins:List (Addr×Obj)} {Z:St} {H:Hp} {s:Shared} {A:Around} {E:Value->Shared->Prop} {Q:Value->Shared->Prop} {c:Value} {b:Bool}
inductive TyOf(K:PySem.W.Frag)(H:Hp):V->Value->Prop where
 | non:TyOf K H .non (.type "NoneType")
 | bl (x:Bool):TyOf K H (.bl x) (.type "bool")
 | int (i:Int):TyOf K H (.int i) (.type "int")
 | str (x:Str):TyOf K H (.str x) (.type "str")
 | flt (x:UInt64):TyOf K H (.flt x) (.type "float")
 | lst {a:Addr} {xs:List V} (e:H a=some (.lst xs)):TyOf K H (.ref a) (.type "list")
 | frz {a:Addr} {o:Obj} {xs:List V} (e:H a=some (.frz o (.lst xs))):TyOf K H (.ref a) (.type "list")
 | tup {a:Addr} {xs:List V} (e:H a=some (.tup xs)):TyOf K H (.ref a) (.type "tuple")
 | dK {a:Addr} {kvs:List (ZR×V)} (e:H a=some (.dK kvs)):TyOf K H (.ref a) (.type "dict")
 | dT {a:Addr} {kvs:List (List ZR×V)} (e:H a=some (.dT kvs)):TyOf K H (.ref a) (.type "dict")
 | ins {a C dx:Addr} {fs:List (Str×V)} (e:H a=some (.ins C dx fs)) (cl:Cls K C) (ha:PySem.W.findIn K (.ref C) "__class__" = some (some (.builtin "object.__class__")))
   (hn:PySem.W.specialIn K (.builtin "object.__class__") "__get__" = some (some (.builtin "getset_descriptor.__get__"))) (htk:PySem.W.takesIn K (.builtin "object.__class__")=some true)
   (hm:PySem.W.mroIn K C (.type "object")=some true):TyOf K H (.ref a) (.ref C)
theorem Qa{x:V}{u t:Value}(I:Inv X pins Z H s)(rx:RelV x u)(ty:TyOf X.K H x t)(e:PySem.W.kitOne X.K t c=some b)(h:∀tk,Q (.bool b) { s with toks:=tk }) :
  wpAny (model X.prog X.w) A (call (.builtin "isinstance") [u,c]) Q E s:=by
 cases ty with
 | non=>cases (show u=Value.none from rx);exact PySem.W.kia_one PySem.W.kitx_none I.kIn True.intro e (fun z=>nomatch z) h
 | bl y=>cases (show u=Value.bool y from rx);exact PySem.W.kia_one PySem.W.kitx_bool I.kIn True.intro e (fun z=>nomatch z) h
 | int i=>obtain⟨t,q⟩:=(show ∃t,u=Value.int i t from rx);cases q;exact PySem.W.kia_one PySem.W.kitx_int I.kIn True.intro e (fun z=>nomatch z) h
 | str y=>obtain⟨t,q⟩:=(show ∃t,u=Value.str y t from rx);cases q;exact PySem.W.kia_one PySem.W.kitx_str I.kIn True.intro e (fun z=>nomatch z) h
 | flt y=>obtain⟨t,q⟩:=(show ∃t,u=Value.float y t from rx);cases q;exact PySem.W.kia_one PySem.W.kitx_float I.kIn True.intro e (fun z=>nomatch z) h
 | @lst a xs ea=>
  cases (show u=Value.ref a from rx)
  obtain⟨_,_,n,_,h1⟩:=(show ObjOk X.prog X.w H s.heap a (.lst xs) from I.hok a _ ea)
  exact PySem.W.kia_one PySem.W.kitx_list I.kIn ⟨_,h1,rfl⟩ e (fun z=>nomatch z) h
 | @frz a ob xs ea=>
  cases (show u=Value.ref a from rx)
  obtain⟨_,_,_,n,_,h1⟩:=(show ObjOk X.prog X.w H s.heap a (.frz ob (.lst xs)) from I.hok a _ ea)
  exact PySem.W.kia_one PySem.W.kitx_list I.kIn ⟨_,h1,rfl⟩ e (fun z=>nomatch z) h
 | @tup a xs ea=>
  cases (show u=Value.ref a from rx)
  obtain⟨_,_,_,p⟩:=(show ObjOk X.prog X.w H s.heap a (.tup xs) from I.hok a _ ea)
  obtain⟨o,h1,h2,_⟩:=p
  exact PySem.W.kia_one PySem.W.kitx_tuple I.kIn ⟨o,h1,h2⟩ e (fun z=>nomatch z) h
 | @dK a kvs ea=>
  cases (show u=Value.ref a from rx)
  obtain⟨_,_,vs,_,p⟩:=(show ObjOk X.prog X.w H s.heap a (.dK kvs) from I.hok a _ ea)
  obtain⟨o,es,ep,h1,h2,_⟩:=p
  exact PySem.W.kia_one PySem.W.kitx_dict I.kIn ⟨o,h1,h2.1⟩ e (fun z=>nomatch z) h
 | @dT a kvs ea=>
  cases (show u=Value.ref a from rx)
  obtain⟨_,_,xs,_,o,es,ep,h1,h2,_⟩:=(show ObjOk X.prog X.w H s.heap a (.dT kvs) from I.hok a _ ea)
  exact PySem.W.kia_one PySem.W.kitx_dict I.kIn ⟨o,h1,h2.1⟩ e (fun z=>nomatch z) h
 | @ins a C dx fs ea cl ha hn htk hm=>
  cases (show u=Value.ref a from rx)
  obtain⟨mA,O,_⟩:=Os I.hok ea
  obtain⟨od,J,_⟩:=O.look
  exact PySem.W.kia_one (PySem.W.kitx_own (cl.get _) cl.hd ha hn htk hm) I.kIn J e (fun z=>nomatch z) h
end
structure Room(k:Nat)(A:Around):Prop where
 hd:A.handled=none
 dp:A.depth+3*k+5<recursionLimit
 un:A.units+16*k+200<cLine
 gd:A.guards=some []
theorem Room.mono{j k:Nat}{A:Around}(r:Room k A)(h:j<=k):Room j A:=⟨r.hd,by have:=r.dp;omega,by have:=r.un;omega,r.gd⟩
theorem Room.deeper{k:Nat}{A:Around}(r:Room (k+1) A)(env:Env):Room k (A.deeper env):=
 ⟨r.hd,by have:=r.dp;show A.depth+1+3*k+5<_;omega,by have:=r.un;show A.units+3+16*k+200<_;omega,r.gd⟩
theorem Room.depth{k:Nat}{A:Around}(r:Room k A):A.depth<recursionLimit:=by have:=r.dp;omega
theorem Room.units{k:Nat}{A:Around}(r:Room k A):A.units+64<cLine:=by have:=r.un;omega
def Ot:TA:=fun _ H Q=>Q [] H
def Uo(ta:TE)(tr:TA):TA:=fun Z H Q=>ta Z H fun x H1=>tr Z H1 fun xs H2=>Q (x::xs) H2
section
variable {X:Cx} {e:Expr} {es:List Expr} {te:TE} {t:TA} {pos:Pos}
theorem WA:PA X [] Ot:=fun _ _ _ _ H Q I h=>Calls.spliced_nil ⟨[],H,I,.nil,h⟩
theorem YS(ha:PE X e te)(hr:PA X es t)(hs:starEach (e::es) X.env=(false,eval e X.env)::starEach es X.env:=by rfl):PA X (e::es) (Uo te t):=by
 intro pos pins s Z H Q I h;rw[hs]
 show wpAny _ _ (spliced ((false,eval e X.env)::backTo pos (starEach es X.env))) _ _ s
 refine Calls.spliced_cons (ZV (ha pins s Z H _ I h) fun u s1 ⟨x,H1,I1,r1,q1⟩=>?_)
 exact ZV (hr pos pins s1 Z H1 _ I1 q1) fun us s2 ⟨xs,H2,I2,r2,q2⟩=>⟨x::xs,H2,I2,.cons r1 r2,q2⟩
def Kk(t:TA):TE:=fun Z H Q=>t Z H fun xs H1=>xs.length<=sizeLine/\∀p,H1 p=none->Q (.ref p) (upd H1 p (.tup xs))
def Lr(t:TA):TE:=fun Z H Q=>t Z H fun xs H1=>xs.length<=sizeLine/\∀p,H1 p=none->Q (.ref p) (upd H1 p (.lst xs))
theorem Mf{x1}(h:PA X es t):PE X (.Tuple es x1 pos) (Kk t):=by
 intro pins s Z H Q I hq
 refine wpAny_Tuple_spliced (ZV (h pos pins s Z H _ I hq) fun us s1 ⟨xs,H1,I1,r,z,q⟩=>⟨by rw[<-r.length];exact z,?_⟩)
 have hf:H1 s1.heap.objs.size=none:=I1.hok.fresh (Nat.le_refl _)
 refine⟨.ref s1.heap.objs.size,upd H1 s1.heap.objs.size (.tup xs),I1.laid (t':=s1.toks) (fun b u e=>Heap.get?_push_of_some _ e) (Nat.le_refl _) ?_,rfl,q _ hf⟩
 exact⟨z,us,r,⟨_,Heap.get?_push_size _ rfl,rfl,_,rfl⟩⟩
theorem Sl(h:PA X es t):PE X (.List es pos) (Lr t):=by
 intro pins s Z H Q I hq
 refine wpAny_List_spliced (ZV (h pos pins s Z H _ I hq) fun us s1 ⟨xs,H1,I1,r,z,q⟩=>⟨by rw[<-r.length];exact z,?_⟩)
 have hf:H1 s1.heap.objs.size=none:=I1.hok.fresh (Nat.le_refl _)
 refine⟨.ref s1.heap.objs.size,upd H1 s1.heap.objs.size (.lst xs),I1.laid (t':=s1.toks) (fun b u e=>Heap.get?_push_of_some _ e) (Nat.le_refl _) ?_,rfl,q _ hf⟩
 exact⟨z,us,0,r,Heap.get?_push_size _ rfl⟩
end
abbrev Sp:=List V->Hp->VK->XK->Prop
abbrev Oa:=List Env->Hp->Shared->XK->Value->Shared->Prop
structure Ou(P:Program)(w:World)(K:PySem.W.Frag)(mg:Str->Option Value)(base:Heap)(A:Around)(outer:List Env)(s:Shared)(H:Hp):Prop where
 frames:A.frames=some outer
 mod:Mod K mg base
 bs:∀b o,base.get? b=some o->s.heap.get? b=some o/\H b=none
 bsz:base.objs.size<=s.heap.objs.size
 funs:s.heap.FunFrames base outer
 frf:∀b∈Rb outer,H b=none
 hok:HOk P w H s.heap
 bare:AllBare s.gens
def CE(outer:List Env)(P:Program)(w:World)(H:Hp)(s:Shared)(Q:VK)(u:Value)(s':Shared):Prop:=
 ∃v H',s'.os=s.os/\AllBare s'.gens/\Un (Rb outer) [] H H' s.heap s'.heap/\HOk P w H' s'.heap/\RelV v u/\Q v H'
def CR(CX:Oa)(outer:List Env)(P:Program)(w:World)(H:Hp)(s:Shared)(Q:VK)(E:XK)(r:Result)(s':Shared):Prop:=
 match r with
 | .ok (.ret u)=>CE outer P w H s Q u s'
 | .ok _=>False
 | .error e=>CX outer H s E e s'
structure WB(P:Program)(w:World)(K:PySem.W.Frag)(mg:Str->Option Value)(base:Heap)(CX:Oa)(k:Nat)(f:Addr)(fd:FuncData)(ps:List Str)(sp:Sp):Prop where
 len:∀vs H Q E,sp vs H Q E->vs.length=ps.length
 run:∀(A:Around)(outer:List Env)(s:Shared)(H:Hp)(args:Args)(us:List Value)(vs:List V)(Q:VK)(E:XK),Room k A->Ou P w K mg base A outer s H->BindsTo s fd args (ps.zip us)->Vals vs us->sp vs H Q E->
  codeAny (model P w) A (.call (.ref f) args) (CR CX outer P w H s Q E) s
section
variable {X:Cx} {pins:List (Addr×Obj)} {Z:St} {H:Hp} {s s':Shared}
theorem Inv.env0(I:Inv X pins Z H s):Ou X.prog X.w X.K X.mg X.base X.A X.stack s H:=
 ⟨I.ok.frames,I.ok.mod,I.bs,Nat.le_trans I.ok.bsz I.sz,I.stack,I.stkFree,I.hok,I.bare⟩
theorem Inv.after{Q:VK}{u:Value}(I:Inv X pins Z H s)(h:CE X.stack X.prog X.w H s Q u s'):EP X pins Z Q u s':=by
 obtain⟨v,H',os,bare,un,hok,r,q⟩:=h
 obtain⟨hh,g,d,t,os'⟩:=s'
 obtain rfl:os'=s.os:=os
 exact⟨v,H',I.call (h':=hh) (g':=g) (d':=d) (t':=t) (ch:=[]) un hok bare (fun b z=>absurd z (by simp)),r,q⟩
end
def Nz(sp:Sp)(dvs:List V)(E:XK)(t:TA):TE:=fun Z H Q=>t Z H fun vs H1=>sp (vs++dvs) H1 Q E
def Binds(K:PySem.W.Frag)(fd:FuncData)(ps:List Str)(ds:List Value):Prop:=
 ∀(s:Shared)(us:List Value),K.In s.heap->(us++ds).length=ps.length->BindsTo s fd ⟨us,[]⟩ (ps.zip (us++ds))
theorem Binds.all{K:PySem.W.Frag}{fd:FuncData}{ps:List Str}(h:∀us:List Value,us.length=ps.length->bindArgs fd ⟨us,[]⟩=pure (ps.zip us)):Binds K fd ps []:=fun s us _ hl=>by
 rw[List.append_nil] at hl ⊢
 exact .of_eq (h us hl)
def Sm(CX:Oa)(X:Cx)(E:XK):Prop:=∀(pins:List (Addr×Obj))(Z:St)(H:Hp)(s:Shared)(e:Value)(s':Shared),Inv X pins Z H s->CX X.stack H s E e s'->X.xe e s'
section
variable {X:Cx} {CX:Oa} {k:Nat} {f C:Addr} {fd:FuncData} {ps:List Str} {sp:Sp} {dvs:List V} {ds:List Value} {E:XK} {x m:Str} {p pos apos:Pos} {e o:Expr} {es:List Expr} {ta:TE} {t:TA}
theorem Mg{pins:List (Addr×Obj)}{Z:St}{H:Hp}{s:Shared}{Q:VK}{us:List Value}{vs:List V}(F:WB X.prog X.w X.K X.mg X.base CX k f fd ps sp)(hr:Room k X.A)(hb:Binds X.K fd ps ds)(hd:Vals dvs ds)(hx:Sm CX X E)
  (I:Inv X pins Z H s) (r:Vals vs us) (h:sp (vs++dvs) H Q E):wpAny (model X.prog X.w) X.A (call (.ref f) us) (EP X pins Z Q) X.xe s:=by
 have r2:Vals (vs++dvs) (us++ds):=r.append hd
 have hl:(us++ds).length=ps.length:=by rw[<-r2.length];exact F.len _ _ _ _ h
 refine wpAny_call (codeAny_mono (F.run X.A X.stack s H ⟨us,[]⟩ (us++ds) (vs++dvs) Q E hr I.env0 (hb s us I.kIn hl) r2 h) fun r s' hq=>?_)
 cases r with
 | error e=>exact hx pins Z H s e s' I hq
 | ok fl=>
  cases fl with
  | ret u=>exact I.after hq
  | next=>exact False.elim hq
  | brk=>exact False.elim hq
  | cont=>exact False.elim hq
theorem Ov(F:WB X.prog X.w X.K X.mg X.base CX k f fd ps sp)(hr:Room k X.A)(hg:Gl X x)(hm:X.mg x=some (.ref f))(hk:PySem.W.keepIn X.K (.ref f)=true)(hb:Binds X.K fd ps ds)(hd:Vals dvs ds)(hx:Sm CX X E)
  (ha:PA X (e::es) t) (hdb:(x==("__debug__" : Str))=false:=by decide) (he:starEach (e::es) X.env=(false,eval e X.env)::starEach es X.env:=by rfl) (hpl:(backTo pos (starEach es X.env)).any (·.1)=false:=by rfl) :
  PE X (.Call (.Name x p) (e::es) [] pos) (Nz sp dvs E t):=by
 intro pins s Z H Q I h
 refine wpAny_Call_Name_kw (Oe I hg hm ?_ hdb)
 refine PySem.W.callWith_K (h₀:=X.base) I.ok.mod.kin hk (ZV (ha pos pins s Z H _ I h) fun us s1 ⟨vs,H1,I1,r,q⟩=>⟨I1.kIn,?_⟩) he hpl
 exact Mg F hr hb hd hx I1 r q
end
structure Zz(N P:List Str)(sc:Scope):Prop where
 kind:sc.kind = .function
 co:sc.isCoroutine=false
 gen:sc.isGenerator=false
 nd:N.Nodup
 pre:N.take P.length=P
 par:∀x∈P,sc.names.lookup x=some .local\/sc.names.lookup x=some .cell
 nofree:∀y∈sc.names,y.2≠.free
theorem Up{kindOf:Str->Option NameKind}{x:Str}:∀{binds:List (Str×Value)}{m:Str->Option Value},(∀v,(x,v)∉binds)->bindL kindOf binds m x=m x
 | [],_,_=>rfl
 | (n,v)::r,m,h=>by
  unfold bindL;rw[Up fun w hw=>h w (List.mem_cons_of_mem _ hw)]
  split
  ·have:x≠n:=by rintro rfl;exact h v List.mem_cons_self
   simp[this]
  ·rfl
theorem Uq{kindOf:Str->Option NameKind}{x:Str}:∀{binds:List (Str×Value)}{m:Str->Option Value},(∀v,(x,v)∉binds)->bindC kindOf binds m x=m x
 | [],_,_=>rfl
 | (n,v)::r,m,h=>by
  unfold bindC;rw[Uq fun w hw=>h w (List.mem_cons_of_mem _ hw)]
  split
  ·rfl
  ·have:x≠n:=by rintro rfl;exact h v List.mem_cons_self
   simp[this]
theorem Ur{kindOf:Str->Option NameKind}{x:Str}{v:Value}:∀{P:List Str}{vs:List Value}{i:Nat}{m:Str->Option Value},P.Nodup->P[i]?=some x->vs[i]?=some v->kindOf x=some .local->
  bindL kindOf (P.zip vs) m x=some v
 | [],_,_,_,_,h,_,_=>by simp at h
 | _::_,[],_,_,_,_,h,_=>by simp at h
 | p::P,w::vs,0,m,nd,h1,h2,hk=>by
  simp at h1 h2;subst h1;subst h2
  show bindL kindOf ((p,w)::P.zip vs) m p=_
  unfold bindL;rw[Up fun v hv=>(List.nodup_cons.mp nd).1 (List.of_mem_zip hv).1,if_pos hk]
  simp
 | p::P,w::vs,i+1,m,nd,h1,h2,hk=>by
  show bindL kindOf ((p,w)::P.zip vs) m x=_
  unfold bindL
  exact Ur (i:=i) (List.nodup_cons.mp nd).2 (by simpa using h1) (by simpa using h2) hk
theorem Us{kindOf:Str->Option NameKind}{x:Str}{v:Value}:∀{P:List Str}{vs:List Value}{i:Nat}{m:Str->Option Value},P.Nodup->P[i]?=some x->vs[i]?=some v->kindOf x≠some .local->
  bindC kindOf (P.zip vs) m x=some v
 | [],_,_,_,_,h,_,_=>by simp at h
 | _::_,[],_,_,_,_,h,_=>by simp at h
 | p::P,w::vs,0,m,nd,h1,h2,hk=>by
  simp at h1 h2;subst h1;subst h2
  show bindC kindOf ((p,w)::P.zip vs) m p=_
  unfold bindC;rw[Uq fun v hv=>(List.nodup_cons.mp nd).1 (List.of_mem_zip hv).1,if_neg hk]
  simp
 | p::P,w::vs,i+1,m,nd,h1,h2,hk=>by
  show bindC kindOf ((p,w)::P.zip vs) m x=_
  unfold bindC
  exact Us (i:=i) (List.nodup_cons.mp nd).2 (by simpa using h1) (by simpa using h2) hk
def start(N:List Str)(vs:List V):St:=vs.map some++List.replicate (N.length-vs.length) none
def US(CX:Oa)(P:Program)(w:World)(K:PySem.W.Frag)(mg:Str->Option Value)(base:Heap)(N:List Str)(qual:Str)(scope:Scope)(f:Addr)(cd:Value)(A:Around)(outer:List Env)(s:Shared)(H:Hp)(E:XK):Cx where
 prog:=P
 w:=w
 K:=K
 mg:=mg
 base:=base
 A:=A.deeper (envOfC qual scope s.heap.objs.size f cd)
 N:=N
 s₀:=s
 H₀:=H
 env:=envOfC qual scope s.heap.objs.size f cd
 outer:=outer
 stack:=envOfC qual scope s.heap.objs.size f cd::outer
 ex:=[]
 calm:=true
 fn:=fun _=>true
 pn:=[]
 xe:=fun e s'=>wpAny (model P w) (A.deeper (envOfC qual scope s.heap.objs.size f cd)) (leaving (envOfC qual scope s.heap.objs.size f cd) e) (fun _ s''=>CX outer H s E e s'') (fun e' s''=>CX outer H s E e' s'') s'
theorem Tv{sc:Scope}{n:Nat}{x:Str}(h:sc.names.lookup x=some .cell):∃c,(cellsFrom n sc.names []).lookup x=some c:=by
 have q:=PySem.W.cellsFrom_some sc.names n [] (.inl h)
 exact Option.isSome_iff_exists.mp q
theorem Qb{CX:Oa}{P:Program}{w:World}{K:PySem.W.Frag}{mg:Str->Option Value}{base:Heap}{N ps:List Str}{qual:Str}{scope:Scope}{f:Addr}{cd:Value}{A:Around}{outer:List Env}{s s1:Shared}{H:Hp}{E:XK}{us:List Value}{vs:List V}
  (S:Zz N ps scope) (hd:A.handled=none) (e0:Ou P w K mg base A outer s H) (hl:vs.length=ps.length) (r:Vals vs us)
  (x:InCallC s s.heap.objs.size (bindL (envOfC qual scope s.heap.objs.size f cd).kindOf (ps.zip us) fun _=>none) (cellsFrom (s.heap.objs.size+1) scope.names []) (bindC (envOfC qual scope s.heap.objs.size f cd).kindOf (ps.zip us) fun _=>none) s1) :
  Inv (US CX P w K mg base N qual scope f cd A outer s H E) [] (start N vs) H s1:=by
 have hpl:ps.length<=N.length:=by have:=congrArg List.length S.pre;rw[List.length_take] at this;omega
 obtain⟨h1,tk,rfl,hk⟩:=x.done
 have noA:∀b:Addr,b∉(US CX P w K mg base N qual scope f cd A outer s H E).ex:=fun b z=>absurd (show b∈([]:List Addr) from z) (by simp)
 refine⟨⟨e0.mod,S.kind,rfl,rfl,Nat.le_refl _,fun y z c h1 h2=>?_,fun y hy=>?_,fun y c _ h=>?_,fun _=>hd,Around.frames_deeper e0.frames,.inr ⟨rfl,rfl⟩,fun b z=>absurd z (noA b),e0.bs,e0.bsz,fun b _ _=>noA b,fun b z=>absurd z (noA b),e0.funs,e0.frf⟩,
  rfl,e0.bare,Un.kept hk,⟨_,x.toInCall.ns,fun i y v h1 h2 h3=>?_⟩,fun y c h=>⟨_,x.cell y c h⟩,e0.hok.fresh (Nat.le_refl _),fun y c h=>?_,fun p hp=>absurd (show p∈([]:List (Addr×Obj)) from hp) (by simp),e0.hok.kept hk,?_⟩
 ·exact name_of_addr x.apart (PySem.mem_of_lookup h1) (PySem.mem_of_lookup h2)
 ·have hy:scope.names.lookup y=some .cell\/scope.names.lookup y=some .free:=hy
  rcases hy with hy | hy
  ·exact Tv hy
  ·exact absurd rfl (S.nofree _ (PySem.mem_of_lookup hy))
 ·exact Nat.le_of_lt (x.above y c (PySem.mem_of_lookup h))
 ·have hi:i<vs.length:=by
   unfold start at h2
   by_cases hi:i<vs.length
   ·exact hi
   ·rw[List.getElem?_append_right (by simpa using hi)] at h2
    rw[List.getElem?_replicate] at h2
    split at h2<;>cases h2
  have ha:vs[i]?=some v:=by
   unfold start at h2;rw[List.getElem?_append_left (by simpa using hi),List.getElem?_map] at h2
   cases e:vs[i]? with
   | none=>rw[e] at h2;cases h2
   | some a=>rw[e] at h2;cases h2;rfl
  obtain⟨u,hu,rv⟩:=r.get ha
  have hp:ps[i]?=some y:=by
   rw[<-S.pre,List.getElem?_take_of_lt (by omega)];exact h1
  have ndP:ps.Nodup:=by rw[<-S.pre];exact S.nd.sublist (List.take_sublist _ _)
  refine⟨u,rv,?_⟩
  rcases S.par y (List.mem_of_getElem? hp) with k | k
  ·exact .inl ⟨k,Ur ndP hp hu k⟩
  ·obtain⟨c,e⟩:=Tv (n:=s.heap.objs.size+1) k
   refine .inr ⟨.inl k,c,e,?_⟩
   have q:=x.cell y c e
   rw[Us ndP hp hu (by show scope.names.lookup y≠_;rw[k];decide)] at q
   exact q
 ·exact e0.hok.fresh (Nat.le_of_lt (x.above y c (PySem.mem_of_lookup h)))
 ·unfold start
  show _=N.length
  rw[List.length_append,List.length_map,List.length_replicate];omega
theorem Ls{CX:Oa}{P:Program}{w:World}{K:PySem.W.Frag}{mg:Str->Option Value}{base:Heap}{k:Nat}{f:Addr}{name qual:Str}{params:Arguments}{body:List Stmt}{scope:Scope}{dV kV doc pm cdv ct oc:Value}{an od:Option Addr}
  {osl:Array (Option Value)} {N ps:List Str} {sp:Sp} (lk:K.lookup f=some ⟨oc,od,.func (PySem.W.fnOf name qual params body scope dV kV doc pm an cdv ct),osl⟩) (hcd:PySem.W.codeIn K cdv qual=true) (S:Zz N ps scope)
  (len:∀vs H Q E,sp vs H Q E->vs.length=ps.length)
  (hbody:∀(A:Around)(outer:List Env)(s:Shared)(H:Hp)(vs:List V)(Q:VK)(E:XK),Room k (A.deeper (envOfC qual scope s.heap.objs.size f cdv))->sp vs H Q E->
   ∃t,PSs (US CX P w K mg base N qual scope f cdv A outer s H E) body t/\t { nx:=fun _ H'=>Q .non H',rt:=Q } (start N vs) H) :
  WB P w K mg base CX (k+1) f (PySem.W.fnOf name qual params body scope dV kV doc pm an cdv ct) ps sp:=by
 refine⟨len,fun A outer s H args us vs Q E hr e0 hb r hsp=>?_⟩
 have hl:=len _ _ _ _ hsp
 have KX:K.In s.heap:=e0.mod.kin.keeps fun b o e=>(e0.bs b o e).1
 have lim:s.heap.NoLimit:=e0.mod.nolimit.keeps fun b o e=>(e0.bs b o e).1
 have hkind:∀y∈ps.zip us,scope.names.lookup y.1=some .local\/(scope.names.lookup y.1=some .cell/\((cellsFrom (s.heap.objs.size+1) scope.names []).lookup y.1).isSome=true):=fun⟨n,v⟩ hy=>by
  rcases S.par n (List.of_mem_zip hy).1 with q | q
  ·exact .inl q
  ·exact .inr ⟨q,PySem.W.cellsFrom_some _ _ _ (.inl q)⟩
 refine codeAny_call_function hr.depth (KX _ _ lk) rfl S.co S.gen rfl (PySem.W.codeRec_of KX hcd) (hb _ _ _ _ ?_)
 refine wpAny_newFunctionEnv_cells S.kind hkind fun env he s1 x=>?_
 subst he
 refine⟨lim.keeps x.toInCall.keep,codeAny_func ?_⟩
 obtain⟨t,ht,hq⟩:=hbody A outer s H vs Q E (hr.deeper _) hsp
 have I:Inv (US CX P w K mg base N qual scope f cdv A outer s H E) [] (start N vs) H s1:=Qb S hr.hd e0 hl r x
 refine wpAny_mono (ht [] s1 (start N vs) H _ I hq) (fun fl s' hs=>?_) fun e s' hs=>hs
 have fin:∀{Z':St}{H':Hp}{v:V}{u:Value},Inv (US CX P w K mg base N qual scope f cdv A outer s H E) [] Z' H' s'->RelV v u->Q v H'->CE outer P w H s Q u s':=
  fun{Z' H' v u} J rv q=>⟨v,H',J.os,J.bare,J.base,J.hok,rv,q⟩
 cases fl with
 | ret u=>
  obtain⟨v,Z',H',J,rv,q⟩:=hs
  exact fin J rv q
 | next=>
  obtain⟨Z',H',J,q⟩:=hs
  exact fin (v:=V.non) (u:=Value.none) J rfl q
 | brk=>
  obtain⟨_,_,_,q⟩:=hs
  exact False.elim q
 | cont=>
  obtain⟨_,_,_,q⟩:=hs
  exact False.elim q
section
variable {X:Cx} {x:Str} {p pos:Pos} {e:Expr} {es:List Expr} {t:TA} {id T:String} {r:List V->Hp->VK->Prop}
def Kl(r:List V->Hp->VK->Prop)(t:TA):TE:=fun Z H Q=>t Z H fun vs H1=>r vs H1 Q
theorem QX(hc:Xk X (.builtin id) r)(hg:Gl X x)(hm:X.mg x=none)(hv:bootBuiltins x=some (.builtin id))(ha:PA X (e::es) t)(hn:x≠"__name__":=by decide)(hdb:(x==("__debug__" : Str))=false:=by decide)
  (he:starEach (e::es) X.env=(false,eval e X.env)::starEach es X.env:=by rfl) (hpl:(backTo pos (starEach es X.env)).any (·.1)=false:=by rfl):PE X (.Call (.Name x p) (e::es) [] pos) (Kl r t):=by
 intro pins s Z H Q I h
 refine wpAny_Call_Name_kw (Wv I hg hm hv ?_ hn hdb)
 exact PyProof.Rows.callWith_builtin1 (ZV (ha pos pins s Z H _ I h) fun us s1 ⟨vs,H1,I1,r1,q1⟩=>hc pins s1 Z H1 vs us Q I1 r1 q1) he hpl
theorem Qc(hc:Xk X (.type T) r)(hg:Gl X x)(hm:X.mg x=none)(hv:bootBuiltins x=some (.type T))(ha:PA X (e::es) t)(hn:x≠"__name__":=by decide)(hdb:(x==("__debug__" : Str))=false:=by decide)
  (he:starEach (e::es) X.env=(false,eval e X.env)::starEach es X.env:=by rfl) (hpl:(backTo pos (starEach es X.env)).any (·.1)=false:=by rfl):PE X (.Call (.Name x p) (e::es) [] pos) (Kl r t):=by
 intro pins s Z H Q I h
 refine wpAny_Call_Name_kw (Wv I hg hm hv ?_ hn hdb)
 exact PyProof.Rows.callWith_type1 (ZV (ha pos pins s Z H _ I h) fun us s1 ⟨vs,H1,I1,r1,q1⟩=>hc pins s1 Z H1 vs us Q I1 r1 q1) he hpl
end
end L2
namespace HT
open PySem PyProof.Rows
section
variable {prog:Program} {w:World} {A:Around} {E:Value->Shared->Prop} {s:Shared}
theorem cat_tup{t b:Addr}{vs ws:List Value}{Q:Value->Shared->Prop}(ht:IsTup s.heap t vs.toArray)(hb:IsTup s.heap b ws.toArray)(hv:vs≠[])
  (h1:ws=[]->Q (.ref t) s) (h2:ws≠[]->Q (.ref s.heap.objs.size) { s with heap:=s.heap.push { cls:=.type "tuple",data:=.seq (vs++ws).toArray } })
  (hsz:vs.length+ws.length<=sizeLine):wpAny (model prog w) A (binaryOp .Add (.ref t) (.ref b)) Q E s:=by
 obtain⟨⟨cls,dd,data,sl⟩,ho,hc,n,hd⟩:=id ht
 obtain⟨⟨cls2,dd2,data2,sl2⟩,ho2,hc2,n2,hd2⟩:=id hb
 simp only at hc hd hc2 hd2
 subst hc hd hc2 hd2
 have e:vs.toArray++ws.toArray=(vs++ws).toArray:=by simp
 by_cases hw:ws=[]
 ·exact concat_meets ⟨_,ho,rfl⟩ ⟨_,ho2,rfl⟩ noFill_tuple_add seq_tuple_add PySem.F.slot_tuple_add PySem.F.entry_tuple_add (PySem.F.args_tuple_add_2 _ _)
   (tuple_addW1 t b vs.toArray ws.toArray n n2 dd dd2 sl sl2 (by simpa using hv) (by simp[hw])) ⟨ho,ho2,h1 hw⟩
 ·refine concat_meets ⟨_,ho,rfl⟩ ⟨_,ho2,rfl⟩ noFill_tuple_add seq_tuple_add PySem.F.slot_tuple_add PySem.F.entry_tuple_add (PySem.F.args_tuple_add_2 _ _)
   (tuple_addW2 t b vs.toArray ws.toArray n n2 dd dd2 sl sl2 (by simpa using hv) (by simpa using hw) (by rw[List.size_toArray,List.size_toArray];exact hsz)) ⟨ho,ho2,?_⟩
  rw[e]
  exact h2 hw
def sIx(n d:Nat):Option Int->Nat
 | none=>d
 | some v=>if v<0 then(v+(n:Int)).toNat else min v.toNat n
theorem sIx_none(n d:Nat):sIx n d none=d:=rfl
theorem sIx_nat(n d k:Nat):sIx n d (some (k:Int))=min k n:=by
 show(if(k:Int)<0 then((k:Int)+(n:Int)).toNat else min (k:Int).toNat n)=min k n
 rw[if_neg (by omega),Int.toNat_natCast]
theorem Mh(n d:Nat)(hd:d<=n)(o:Option Int):sIx n d o<=n:=by
 cases o with
 | none=>exact hd
 | some v=>
  show(if v<0 then(v+(n:Int)).toNat else min v.toNat n)<=n
  by_cases hv:v<0
  ·rw[if_pos hv];omega
  ·rw[if_neg hv];exact Nat.min_le_right _ _
theorem Re(v:Int)(n d:Nat):(if v<0 then max (v+(n:Int)) 0 else min v (n:Int))=((sIx n d (some v):Nat):Int):=by
 show(if v<0 then max (v+(n:Int)) 0 else min v (n:Int))=(((if v<0 then(v+(n:Int)).toNat else min v.toNat n):Nat):Int)
 by_cases hv:v<0
 ·simp only[if_pos hv];omega
 ·simp only[if_neg hv];omega
theorem Sn(lo hi:Option Int)(n:Nat):Builtin.Slice.sliceAdjust lo hi 1 (n:Int)=(((sIx n 0 lo:Nat):Int),((sIx n n hi:Nat):Int)):=by
 have h1:¬((1:Int)<0):=by omega
 unfold Builtin.Slice.sliceAdjust;simp only[h1,if_false]
 refine Prod.ext ?_ ?_
 ·cases lo with
  | none=>rfl
  | some v=>exact Re v n 0
 ·cases hi with
  | none=>rfl
  | some v=>exact Re v n n
theorem So(i j:Nat):Builtin.Slice.slicePlaces (i:Int) (j:Int) 1=j-i:=by
 unfold Builtin.Slice.slicePlaces
 have h1:(1:Int)>0:=by omega
 simp only[h1,if_true,Int.ediv_one]
 split<;>omega
theorem Vu{v:Value}{o:Option Int}{Q:Option Int->Shared->Prop}(p:IsPart v o)(h:Q o s):wpAny (model prog w) A (Builtin.Slice.slicePartIndex v) Q E s:=by
 cases p with
 | none=>exact slicePart_none h
 | int i t=>exact slicePart_int h
theorem WC{sl:Addr}{vl vu:Value}{lo hi:Option Int}{n:Nat}{Q:Int×Int×Nat->Shared->Prop}(hs:s.heap.IsSliceOf sl vl vu .none)(pl:IsPart vl lo)(pu:IsPart vu hi)
  (h:Q (((sIx n 0 lo:Nat):Int),1,sIx n n hi-sIx n 0 lo) s):wpAny (model prog w) A (Builtin.Slice.sliceApplied (.ref sl) (pure (n:Int))) Q E s:=by
 obtain⟨os,hos,hcs,hds⟩:=id hs
 unfold Builtin.Slice.sliceApplied Builtin.Slice.sliceFields
 refine wpAny_bind (wpAny_bind (wpAny_field hos hds (x:=vl) rfl (wpAny_bind (wpAny_field hos hds (x:=vu) rfl (wpAny_bind (wpAny_field hos hds (x:=.none) rfl (wpAny_pure ?_)))))))
 refine wpAny_bind (slicePart_none ?_)
 show wpAny _ _ (if((1:Int)==0)=true then _ else _) _ _ s
 rw[if_neg (by decide)]
 refine wpAny_bind (Vu pl (wpAny_bind (Vu pu (wpAny_bind (wpAny_pure ?_)))))
 show wpAny _ _ (match Builtin.Slice.sliceAdjust lo hi 1 (n:Int) with | (lo,hi)=>pure (lo,(1:Int),Builtin.Slice.slicePlaces lo hi 1)) _ _ s
 rw[Sn lo hi n]
 show wpAny _ _ (pure (((sIx n 0 lo:Nat):Int),(1:Int),Builtin.Slice.slicePlaces ((sIx n 0 lo:Nat):Int) ((sIx n n hi:Nat):Int) 1)) _ _ s
 rw[So]
 exact wpAny_pure h
theorem QY(xs:Array Value)(i k:Nat):((List.range k).filterMap fun(m:Nat)=>xs[((i:Int)+(m:Int)*1).toNat]?).toArray=((xs.toList.drop i).take k).toArray:=by
 have e:(fun(m:Nat)=>xs[((i:Int)+(m:Int)*1).toNat]?)=fun m=>xs[i+m]?:=by
  funext m
  have:((i:Int)+(m:Int)*1).toNat=i+m:=by omega
  rw[this]
 rw[e]
 have:=pick_run xs i k
 rw[List.filterMap_map] at this
 have e2:((fun x=>xs[x]?) ∘ fun x=>i+x)=fun m=>xs[i+m]?:=rfl
 rw[e2] at this;rw[this]
theorem getItem_tuple_cut{t sl:Addr}{items:Array Value}{vl vu:Value}{lo hi:Option Int}{Q:Value->Shared->Prop}(ht:IsTup s.heap t items)(hs:s.heap.IsSliceOf sl vl vu .none)(pl:IsPart vl lo)(pu:IsPart vu hi)
  (hw:¬(sIx items.size 0 lo=0/\sIx items.size items.size hi=items.size))
  (h:Q (.ref s.heap.objs.size) { s with heap:=s.heap.push { cls:=.type "tuple",data:=.seq ((items.toList.drop (sIx items.size 0 lo)).take (sIx items.size items.size hi-sIx items.size 0 lo)).toArray } })
  (hsz:items.size<=sizeLine):wpAny (model prog w) A (getItem (.ref t) (.ref sl)) Q E s:=by
 have htake:sizeOk (.seq ((items.toList.drop (sIx items.size 0 lo)).take (sIx items.size items.size hi-sIx items.size 0 lo)).toArray):=by
  show((items.toList.drop (sIx items.size 0 lo)).take (sIx items.size items.size hi-sIx items.size 0 lo)).toArray.size<=sizeLine
  rw[List.size_toArray,List.length_take,List.length_drop,Array.length_toList];omega
 have hj:sIx items.size items.size hi<=items.size:=Mh _ _ (Nat.le_refl _) hi
 obtain⟨os,hos,hcs,hds⟩:=id hs
 have hTs:s.TypeIs (.ref sl) "slice":=⟨os,hos,hcs⟩
 unfold getItem
 try with_reducible refine wpAny_holding ?_
 first | refine wpAny_bind (wpAny_pure ?_) | skip
 refine wpAny_bind (wpAny_sequenceKey ht.typeIs (by decide) ?_)
 refine wpAny_bind (wpAny_callSpecial?_slot (name:=Str.ofString "__getitem__") ht.typeIs PyProof.Rows.slot_tuple_getitem
  (wpAny_call_entry PyProof.Rows.slot_tuple_getitem ht.typeIs entry_tuple_getitem ?_ (args_tuple_getitem _ _)))
 show wpAny _ _ (Builtin.Tuple.tupleItemsOf (.ref t) >>= _) _ _ s
 refine wpAny_bind (tupleItemsOf_ ht ?_)
 refine wpAny_bind (wpAny_typeOf hTs ?_)
 rw[if_pos (by decide)]
 refine wpAny_bind (WC hs pl pu ?_)
 have hno:¬((((sIx items.size 0 lo:Nat):Int)==0&&(1:Int)==1&&(sIx items.size items.size hi-sIx items.size 0 lo)==items.size)=true):=by
  intro q;rw[Bool.and_eq_true,Bool.and_eq_true] at q
  have q1:((sIx items.size 0 lo:Nat):Int)=0:=eq_of_beq q.1.1
  have q2:sIx items.size items.size hi-sIx items.size 0 lo=items.size:=eq_of_beq q.2
  exact hw ⟨by omega,by omega⟩
 show wpAny _ _ (if(((sIx items.size 0 lo:Nat):Int)==0&&(1:Int)==1&&(sIx items.size items.size hi-sIx items.size 0 lo)==items.size)=true then _ else _) _ _ s
 rw[if_neg hno,QY]
 first
  | exact wpAny_bind (m:=Builtin.Tuple.tupleExact _) (wpAny_newObj_type (wpAny_pure ⟨_,rfl,wpAny_pure h⟩) htake)
  | exact wpAny_bind (m:=Builtin.Tuple.tupleExact _) (wpAny_newObj_type (wpAny_bind (wpAny_pure (wpAny_pure ⟨_,rfl,wpAny_pure h⟩))) htake)
  | exact wpAny_bind (wpAny_bind (m:=Builtin.Tuple.tupleExact _) (wpAny_newObj_type (wpAny_pure (wpAny_pure ⟨_,rfl,wpAny_pure h⟩)) htake))
  | exact wpAny_bind (wpAny_bind (m:=Builtin.Tuple.tupleExact _) (wpAny_newObj_type (wpAny_pure ⟨_,rfl,wpAny_pure h⟩) htake))
end
end HT
namespace L2
open PySem PySem.Spec PyProof.Rows
abbrev TO:=St->Hp->(Option Int->Hp->Prop)->Prop
def PO(X:Cx)(e:Option Expr)(t:TO):Prop:=
 ∀(pins:List (Addr×Obj))(s:Shared)(Z:St)(H:Hp)(Q:Option Int->Hp->Prop),Inv X pins Z H s->t Z H Q->
  wpAny (model X.prog X.w) X.A (evalPart e X.env) (fun u s'=>∃o H',Inv X pins Z H' s'/\IsPart u o/\Q o H') X.xe s
def Ox:TO:=fun _ H Q=>Q none H
def Lu(t:TE):TO:=fun Z H Q=>t Z H fun x H1=>∃i,x = .int i/\Q (some i) H1
section
variable {X:Cx} {e:Expr} {te:TE} {lo hi:Option Expr} {tl th:TO} {pos p2:Pos}
theorem Oy:PO X none Ox:=by
 intro pins s Z H Q I h;rw[evalPart_none]
 exact wpAny_pure ⟨none,H,I,.none,h⟩
theorem Oz(h:PE X e te):PO X (some e) (Lu te):=by
 intro pins s Z H Q I hw;rw[evalPart_some]
 refine ZV (h pins s Z H _ I hw) fun u s1 ⟨x,H1,I1,r1,q1⟩=>?_
 obtain⟨i,rfl,q⟩:=q1
 obtain⟨t,rfl⟩:=r1
 exact⟨some i,H1,I1,.int i t,q⟩
def Km(X:Cx)(r:V->Option Int->Option Int->Hp->VK->Prop):Prop:=
 ∀(pins:List (Addr×Obj))(s:Shared)(Z:St)(H:Hp)(x:V)(v vl vu:Value)(lo hi:Option Int)(sl:Addr)(Q:VK),Inv X pins Z H s->RelV x v->s.heap.IsSliceOf sl vl vu .none->IsPart vl lo->IsPart vu hi->r x lo hi H Q->
  ∃T id,typeLookup (.type T) "__getitem__" = pure (some (.builtin id))/\s.TypeIs v T/\wpAny (model X.prog X.w) X.A (getItem v (.ref sl)) (EP X pins Z Q) X.xe s
def KG(r:V->Option Int->Option Int->Hp->VK->Prop)(te:TE)(tl th:TO):TE:=fun Z H Q=>te Z H fun x H1=>tl Z H1 fun l H2=>th Z H2 fun u H3=>r x l u H3 Q
theorem Tw{r:V->Option Int->Option Int->Hp->VK->Prop}(hr:Km X r)(he:PE X e te)(hl:PO X lo tl)(hu:PO X hi th):PE X (.Subscript e (.Slice lo hi none p2) pos) (KG r te tl th):=by
 intro pins s Z H Q I h
 refine Subscript_ (ZV (he pins s Z H _ I h) fun v s1 ⟨x,H1,I1,r1,q1⟩=>?_)
 refine wpAny_Slice (ZV (hl pins s1 Z H1 _ I1 q1) fun vl s2 ⟨l,H2,I2,pl,q2⟩=>ZV (hu pins s2 Z H2 _ I2 q2) fun vu s3 ⟨u,H3,I3,pu,q3⟩=>?_)
 rw[evalPart_none]
 refine wpAny_pure ?_
 have I4:Inv X pins Z H3 { s3 with heap:=s3.heap.push { cls:=.type "slice",data:=.fields #[vl,vu,.none] } }:=I3.kept (t':=s3.toks) fun b ob q=>Heap.get?_push_of_some _ q
 obtain⟨T,id,hT,ht,hg⟩:=hr pins { s3 with heap:=s3.heap.push { cls:=.type "slice",data:=.fields #[vl,vu,.none] } } Z H3 x v vl vu l u s3.heap.objs.size Q I4 r1 (Heap.IsSliceOf.new ..) pl pu q3
 show wpAny (model X.prog X.w) X.A (subscriptTail e (.Slice lo hi none p2) v (.ref s3.heap.objs.size)) (EP X pins Z Q) X.xe { s3 with heap:=s3.heap.push { cls:=.type "slice",data:=.fields #[vl,vu,.none] } }
 exact tail_any (ops:=[.ref s3.heap.objs.size,v]) ht hT hg (by with_unfolding_all rfl)
def Tx(xs:List V)(lo hi:Option Int):List V:=(xs.drop (HT.sIx xs.length 0 lo)).take (HT.sIx xs.length xs.length hi-HT.sIx xs.length 0 lo)
theorem W6(xs:List V)(lo hi:Option Int):(Tx xs lo hi).length<=xs.length:=by
 unfold Tx;rw[List.length_take,List.length_drop];omega
def Kn(K:PySem.W.Frag):V->Option Int->Option Int->Hp->VK->Prop:=fun x lo hi H Q=>∃a xs,x = .ref a/\SqT K H a xs/\
 ¬(HT.sIx xs.length 0 lo=0/\HT.sIx xs.length xs.length hi=xs.length)/\∀p,H p=none->Q (.ref p) (upd H p (.tup (Tx xs lo hi)))
theorem Mi:Km X (Kn X.K):=by
 intro pins s Z H x v vl vu lo hi sl Q I rx hs pl pu h
 obtain⟨a,xs,rfl,hx,hw,q⟩:=h
 cases rx
 obtain⟨its,r,ht,hz⟩:=I.tuple hx
 have hlen:its.toArray.size=xs.length:=by rw[List.size_toArray];exact r.length.symm
 refine⟨"tuple",_,PyProof.Rows.slot_tuple_getitem.lookup,ht.typeIs,?_⟩
 refine HT.getItem_tuple_cut ht hs pl pu (by rw[hlen];exact hw) ?_ (by rw[hlen];exact hz)
 rw[hlen]
 refine⟨.ref s.heap.objs.size,_,I.laid (t':=s.toks) (o:=.tup (Tx xs lo hi)) (fun b ob q=>Heap.get?_push_of_some _ q) (Nat.le_refl _) ?_,rfl,q _ (I.hok.fresh (Nat.le_refl _))⟩
 exact⟨Nat.le_trans (W6 xs lo hi) hz,_,(r.drop (HT.sIx xs.length 0 lo)).take (HT.sIx xs.length xs.length hi-HT.sIx xs.length 0 lo),IsTup.new _ _⟩
def Lv(K:PySem.W.Frag):R2:=fun x y H Q=>∃a b xs ys,x = .ref a/\y = .ref b/\SqT K H a xs/\SqT K H b ys/\xs≠[]/\xs.length+ys.length<=sizeLine/\
 (ys=[]->Q (.ref a) H)/\(ys≠[]->∀p,H p=none->Q (.ref p) (upd H p (.tup (xs++ys))))
theorem Vals.nil_iff{xs:List V}{us:List Value}(r:Vals xs us):us=[]↔xs=[]:=by
 cases r with
 | nil=>simp
 | cons _ _=>simp
theorem OA:XX X (binaryOp .Add) (Lv X.K):=by
 intro pins s Z H x y v u Q I rx ry h
 obtain⟨a,b,xs,ys,rfl,rfl,ha,hb,hx,hz,q1,q2⟩:=h
 cases rx;cases ry
 obtain⟨its,r1,p1,_⟩:=I.tuple ha
 obtain⟨its2,r2,p2,_⟩:=I.tuple hb
 refine HT.cat_tup p1 p2 (fun z=>hx (r1.nil_iff.mp z)) (fun z=>⟨.ref a,H,I,rfl,q1 (r2.nil_iff.mp z)⟩) (fun z=>?_) (by rw[<-r1.length,<-r2.length];exact hz)
 refine⟨.ref s.heap.objs.size,_,I.laid (t':=s.toks) (o:=.tup (xs++ys)) (fun b ob q=>Heap.get?_push_of_some _ q) (Nat.le_refl _) ?_,rfl,q2 (fun w=>z (r2.nil_iff.mpr w)) _ (I.hok.fresh (Nat.le_refl _))⟩
 exact⟨by rw[List.length_append];exact hz,_,r1.append r2,IsTup.new _ _⟩
end
def Sc(n:Nat)(i:Int):Option Nat:=if 0<=i then(if i<n then some i.toNat else none) else if -(n:Int)<=i then some (i+n).toNat else none
def Ve{α:Type}(xs:List α)(i:Int):Option α:=(Sc xs.length i).bind fun j=>xs[j]?
theorem Rf{n:Nat}{i:Int}{j:Nat}(h:Sc n i=some j):seqIndex? i n=some j/\j<n/\-(n:Int)<=i/\i<n:=by
 unfold Sc at h
 by_cases h0:0<=i
 ·rw[if_pos h0] at h
  by_cases h1:i<n
  ·rw[if_pos h1] at h
   have e:i.toNat=j:=Option.some.inj h
   exact⟨by rw[seqIndex_of h0 h1,e],by omega,by omega,h1⟩
  ·rw[if_neg h1] at h;cases h
 ·rw[if_neg h0] at h
  by_cases h1 : -(n:Int)<=i
  ·rw[if_pos h1] at h
   have e:(i+n).toNat=j:=Option.some.inj h
   exact⟨by rw[seqIndex_neg (by omega) h1,e],by omega,h1,by omega⟩
  ·rw[if_neg h1] at h;cases h
theorem UT{α:Type}{xs:List α}{i:Int}{v:α}(h:Ve xs i=some v):∃j,seqIndex? i xs.length=some j/\xs[j]?=some v/\j<xs.length/\-(xs.length:Int)<=i/\i<xs.length:=by
 unfold Ve at h
 cases e:Sc xs.length i with
 | none=>rw[e] at h;cases h
 | some j=>
  rw[e] at h
  obtain⟨h1,h2,h3,h4⟩:=Rf e
  exact⟨j,h1,h,h2,h3,h4⟩
theorem UU{α:Type}{xs:List α}{j:Nat}{v:α}(h:xs[j]?=some v):Ve xs (j:Int)=some v:=by
 have hj:j<xs.length:=(List.getElem?_eq_some_iff.mp h).1
 have e:Sc xs.length (j:Int)=some j:=by
  unfold Sc
  rw[if_pos (by omega),if_pos (by omega)];simp
 unfold Ve;rw[e];exact h
def UV(b:Expr):Prop:=∀o i,subscripted b false o i=operate [o,i] (getItem o i)
def IxR(X:Cx)(r:R2):Prop:=
 ∀(value slice:Expr)(pins:List (Addr×Obj))(s:Shared)(Z:St)(H:Hp)(x y:V)(v u:Value)(Q:VK),Inv X pins Z H s->RelV x v->RelV y u->r x y H Q->
  subscripted slice false v u=operate [v,u] (getItem v u)->wpAny (model X.prog X.w) X.A (subscriptTail value slice v u) (EP X pins Z Q) X.xe s
def KH(X:Cx)(id:String)(r:V->List V->Hp->VK->Prop):Prop:=
 ∀(pins:List (Addr×Obj))(s:Shared)(Z:St)(H:Hp)(x:V)(xs:List V)(v:Value)(us:List Value)(Q:VK),Inv X pins Z H s->RelV x v->Vals xs us->r x xs H Q->
  wpAny (model X.prog X.w) X.A (call (.builtin id) (v::us)) (EP X pins Z Q) X.xe s
section
variable {X:Cx} {a b:Expr} {ta tb:TE} {pos:Pos}
theorem IxR.or{r r':R2}(h:IxR X r)(h':IxR X r'):IxR X (fun x y H Q=>r x y H Q\/r' x y H Q):=by
 intro value slice pins s Z H x y v u Q I rx ry q hs
 rcases q with q | q
 ·exact h value slice pins s Z H x y v u Q I rx ry q hs
 ·exact h' value slice pins s Z H x y v u Q I rx ry q hs
theorem Rg{r:R2}(hr:IxR X r)(ha:PE X a ta)(hb:PE X b tb)(hs:UV b):PE X (.Subscript a b pos) (N7 r ta tb):=by
 intro pins s Z H Q I h
 exact Subscript_ (N8 ha hb I h fun v u s2 x y H2 I2 rx ry q=>hr a b pins s2 Z H2 x y v u Q I2 rx ry q (hs _ _))
def OB(K:PySem.W.Frag):R2:=fun x y H Q=>∃p xs i v,x = .ref p/\y = .int i/\SqL K H p xs/\Ve xs i=some v/\Q v H
def Lw(K:PySem.W.Frag):R2:=fun x y H Q=>∃p xs i v,x = .ref p/\y = .int i/\SqT K H p xs/\Ve xs i=some v/\Q v H
def Lx:R2:=fun x y H Q=>∃z i c,x = .str z/\y = .int i/\z.length<=sizeLine/\Ve z.cps.toList i=some c/\Q (.str ⟨#[c]⟩) H
theorem ix_list:IxR X (OB X.K):=by
 intro value slice pins s Z H x y v u Q I rx ry h hs
 obtain⟨p,xs,i,z,rfl,rfl,hq,he,q⟩:=h
 cases rx
 obtain⟨t,rfl⟩:=ry
 obtain⟨its,r,pl,hz⟩:=I.list hq
 obtain⟨j,h1,h2,h3,h4,h5⟩:=UT he
 obtain⟨w,ew,rw'⟩:=r.get h2
 have hl:=r.length;have hn:=Wy
 have fin:EP X pins Z Q w s:=⟨z,H,I,rw',q⟩
 by_cases h0:0<=i
 ·have hj:i.toNat=j:=by
   rw[seqIndex_of h0 h5] at h1
   exact Option.some.inj h1
  exact item_listR pl.isList h0 (by omega) (by rw[hj];simpa using ew) fin hs
 ·have hj:(i+(its.toArray.size:Int)).toNat=j:=by
   rw[seqIndex_neg (by omega) h4] at h1;rw[List.size_toArray,<-hl]
   exact Option.some.inj h1
  exact subscriptTail_builtinR (x:=w) pl.isList.typeIs slot_list_getitem.lookup
   (wpAny_getItem_list_neg (Q:=fun r s'=>r=w/\EP X pins Z Q r s') pl.isList (by omega) (by rw[List.size_toArray]<;>omega) (by omega) (by rw[hj];simpa using ew) ⟨rfl,fin⟩) hs
theorem ix_tup:IxR X (Lw X.K):=by
 intro value slice pins s Z H x y v u Q I rx ry h hs
 obtain⟨p,xs,i,z,rfl,rfl,hq,he,q⟩:=h
 cases rx
 obtain⟨t,rfl⟩:=ry
 obtain⟨its,r,pl,hz⟩:=I.tuple hq
 obtain⟨j,h1,h2,h3,h4,h5⟩:=UT he
 obtain⟨w,ew,rw'⟩:=r.get h2
 have hl:=r.length;have hn:=Wy
 have fin:EP X pins Z Q w s:=⟨z,H,I,rw',q⟩
 exact subscriptTail_builtinR (x:=w) pl.typeIs slot_tuple_getitem.lookup
  (getItem_tuple (j:=j) (Q:=fun r s'=>r=w/\EP X pins Z Q r s') pl (by omega) (by omega) (by rw[List.size_toArray,<-hl];exact h1) (by simpa using ew) ⟨rfl,fin⟩) hs
theorem Mj:IxR X Lx:=by
 intro value slice pins s Z H x y v u Q I rx ry h hs
 obtain⟨z,i,c,rfl,rfl,hz,he,q⟩:=h
 obtain⟨t,rfl⟩:=rx
 obtain⟨t',rfl⟩:=ry
 obtain⟨j,h1,h2,h3,h4,h5⟩:=UT he
 have hl:z.cps.toList.length=z.length:=by simp[Str.length]
 rw[hl] at h1 h4 h5
 have hn:=Wy
 exact tail_any (typeIs_str s z t) slot_str_getitem.lookup (getItem_str (c:=c) (by
  have e1:decide (i < -(2^63:Int))=false:=decide_eq_false (by omega)
  have e2:decide (i ≥ 2^63)=false:=decide_eq_false (by omega)
  rw[e1,e2,Bool.or_false]) (by rw[h1];simpa using h2) ⟨.str ⟨#[c]⟩,H,I.tok _,⟨_,rfl⟩,q⟩) hs
def KA(K:PySem.W.Frag):R2:=fun x y H Q=>OB K x y H Q\/Lw K x y H Q\/Lx x y H Q
theorem Mk:IxR X (KA X.K):=ix_list.or (ix_tup.or Mj)
theorem Sq(its:List Value)(n j:Nat)(u:Value):Obj.mapSeq (·.setIfInBounds j u) { cls:=.type "list",data:=.seq its.toArray n }={ cls:=.type "list",data:=.seq (its.set j u).toArray n }:=by
 simp[Obj.mapSeq]
theorem Inv.lst{pins:List (Addr×Obj)}{Z:St}{H:Hp}{s:Shared}{p:Addr}{xs:List V}(I:Inv X pins Z H s)(h:H p=some (.lst xs)) :
  ∃(its:List Value) (n:Nat),Vals xs its/\s.heap.get? p=some { cls:=.type "list",data:=.seq its.toArray n }/\xs.length<=sizeLine:=by
 obtain⟨z,its,n,r,e⟩:=I.hok p _ h
 exact⟨its,n,r,e,z⟩
theorem Inv.lstUpd{pins:List (Addr×Obj)}{Z:St}{H:Hp}{s:Shared}{p:Addr}{xs ys:List V}{its its':List Value}{n n':Nat}{f:Obj->Obj}(I:Inv X pins Z H s)(h:H p=some (.lst xs))
  (ho:s.heap.get? p=some { cls:=.type "list",data:=.seq its.toArray n }) (hf:f { cls:=.type "list",data:=.seq its.toArray n }={ cls:=.type "list",data:=.seq its'.toArray n' }) (r:Vals ys its') (hz:ys.length<=sizeLine) (t:Nat) :
  Inv X pins Z (upd H p (.lst ys)) { s with heap:=s.heap.update p f,toks:=t }:=by
 have e:(s.heap.update p f).get? p=some { cls:=.type "list",data:=.seq its'.toArray n' }:=by
  rw[Heap.get?_update_self f ho (by rw[hf]<;>rfl),hf]
 refine I.write (x:=p) (e:=p) (by rw[h];trivial) (.inl rfl) (fun b u hb q=>(Heap.get?_update_other _ _ (Ne.symm hb)).trans q) ⟨_,e⟩ ?_
 exact⟨hz,its',n',r,e⟩
def QZ:V->V->V->Hp->(Hp->Prop)->Prop:=fun o i v H Q=>∃p xs k j,o = .ref p/\i = .int k/\H p=some (.lst xs)/\Sc xs.length k=some j/\Q (upd H p (.lst (xs.set j v)))
theorem Vv:Lf X QZ:=by
 intro pins s Z H o i v ov iv u Q I ro ri rv h
 obtain⟨p,xs,k,j,rfl,rfl,hp,hj,q⟩:=h
 cases ro
 obtain⟨t,rfl⟩:=ri
 obtain⟨its,n,r,ho,hz⟩:=I.lst hp
 obtain⟨h1,h2,h3,h4⟩:=Rf hj
 have hl:=r.length;have hn:=Wy
 have I':Inv X pins Z (upd H p (.lst (xs.set j v))) { s with heap:=s.heap.update p (Obj.mapSeq (·.setIfInBounds j u)) }:=
  I.lstUpd hp ho (Sq its n j u) (r.set rv j) (by rw[List.length_set];exact hz) s.toks
 by_cases h0:0<=k
 ·have hk:k.toNat=j:=by
   rw[seqIndex_of h0 h4] at h1
   exact Option.some.inj h1
  exact PySem.W.ki_setAt ho h0 (by omega) (by rw[List.size_toArray,<-hl];exact h4) (by rw[hk];exact⟨_,I',q⟩)
 ·have hk:(k+(its.toArray.size:Int)).toNat=j:=by
   rw[seqIndex_neg (by omega) h3] at h1;rw[List.size_toArray,<-hl]
   exact Option.some.inj h1
  exact PySem.W.ki_setBack ho (by omega) (by rw[List.size_toArray,<-hl];exact h3) (by omega) (by rw[hk];exact⟨_,I',q⟩)
theorem UW(lo hi:Option Int)(n:Nat):(sliceBounds lo hi none n).1=((HT.sIx n 0 lo:Nat):Int)/\(sliceBounds lo hi none n).2.1=((HT.sIx n n hi:Nat):Int)/\(sliceBounds lo hi none n).2.2=1:=by
 refine⟨?_,?_,rfl⟩
 ·cases lo with
  | none=>simp[sliceBounds,HT.sIx]
  | some i=>
   simp only[sliceBounds,HT.sIx,Option.getD_none,show(1:Int)>0 by decide,if_true]
   by_cases h:i<0
   ·simp only[h,if_true]<;>omega
   ·simp only[h,if_false]<;>omega
 ·cases hi with
  | none=>simp[sliceBounds,HT.sIx]
  | some i=>
   simp only[sliceBounds,HT.sIx,Option.getD_none,show(1:Int)>0 by decide,if_true]
   by_cases h:i<0
   ·simp only[h,if_true]<;>omega
   ·simp only[h,if_false]<;>omega
theorem Ue(its:List Value)(lo hi:Option Int):slicePick its.toArray lo hi none=((its.drop (HT.sIx its.length 0 lo)).take (HT.sIx its.length its.length hi-HT.sIx its.length 0 lo)).toArray:=by
 obtain⟨h1,h2,h3⟩:=UW lo hi its.toArray.size
 unfold slicePick;rw[h1,h2,h3]
 simp only[sliceRange_one,pick_run,List.size_toArray]<;>rfl
def Ko(K:PySem.W.Frag):V->Option Int->Option Int->Hp->VK->Prop:=fun x lo hi H Q=>∃a xs,x = .ref a/\SqL K H a xs/\∀p,H p=none->Q (.ref p) (upd H p (.lst (Tx xs lo hi)))
theorem OC:Km X (Ko X.K):=by
 intro pins s Z H x v vl vu lo hi sl Q I rx hs pl pu h
 obtain⟨a,xs,rfl,hx,q⟩:=h
 cases rx
 obtain⟨its,r,ht,hz⟩:=I.list hx
 have hlen:=r.length
 refine⟨"list",_,slot_list_getitem.lookup,ht.isList.typeIs,?_⟩
 refine wpAny_getItem_list_slice ht.isList hs pl pu .none (by simp) ?_ (by rw[List.size_toArray]<;>omega)
 rw[Ue,<-hlen]
 refine⟨.ref s.heap.objs.size,_,I.laid (t':=s.toks) (o:=.lst (Tx xs lo hi)) (fun b ob q=>Heap.get?_push_of_some _ q) (Nat.le_refl _) ?_,rfl,q _ (I.hok.fresh (Nat.le_refl _))⟩
 exact⟨Nat.le_trans (W6 xs lo hi) hz,_,0,(r.drop (HT.sIx xs.length 0 lo)).take (HT.sIx xs.length xs.length hi-HT.sIx xs.length 0 lo),Heap.get?_push_size _ rfl⟩
theorem ZL:Xk X (.type "tuple") (fun xs H Q=>∃p ys,xs=[.ref p]/\((SqL X.K H p ys/\∀l,H l=none->Q (.ref l) (upd H l (.tup ys)))\/(SqT X.K H p ys/\Q (.ref p) H))):=by
 intro pins s Z H xs us Q I r h
 obtain⟨p,ys,rfl,h⟩:=h
 obtain⟨u,rfl,rx⟩:=Um r
 cases rx
 rcases h with⟨hq,q⟩ | ⟨hq,q⟩
 ·obtain⟨its,r',pl,hz⟩:=I.list hq
  have hlen:=r'.length
  refine call_tuple_list pl.isList (fun h' kp=>?_) (by simp only[List.size_toArray]<;>omega)
  have I1:Inv X pins Z H { s with heap:=h' }:=I.kept (t':=s.toks) kp
  have I2:Inv X pins Z (upd H h'.objs.size (.tup ys)) { s with heap:=h'.push { cls:=.type "tuple",data:=.seq its.toArray } }:=
   I1.laid (t':=s.toks) (fun b o e=>Heap.get?_push_of_some _ e) (Nat.le_refl _) (show ObjOk X.prog X.w _ _ _ (.tup ys) from⟨hz,its,r',IsTup.new _ _⟩)
  exact⟨.ref h'.objs.size,_,I2,rfl,q _ (I1.hok.fresh (Nat.le_refl _))⟩
 ·obtain⟨its,r',pl,hz⟩:=I.tuple hq
  exact call_tuple_same pl ⟨.ref p,H,I,rfl,q⟩
def Kp(K:PySem.W.Frag)(T:String)(x:V)(H:Hp):Prop:=match x with
 | .str _=>T = "str"
 | .int _=>T = "int"
 | .ref p=>(T = "list"/\∃xs,SqL K H p xs)\/(T = "tuple"/\∃o,K.lookup p=some o/\o.cls = .type "tuple"/\o.dict=none)\/
   (T = "dict"/\((∃kvs,H p=some (.dK kvs))\/∃kvs,H p=some (.dT kvs)))\/(T = "set"/\∃S n,H p=some (.set S n))
 | _=>False
theorem Ml{pins:List (Addr×Obj)}{Z:St}{H:Hp}{s:Shared}{T:String}{x:V}{v:Value}(I:Inv X pins Z H s)(r:RelV x v)(ty:Kp X.K T x H) :
  s.TypeIs v T/\∀a,v = .ref a->∃ob,s.heap.get? a=some ob/\ob.dict=none:=by
 cases x with
 | str z=>
  obtain⟨t,rfl⟩:=r
  cases (show T = "str" from ty)
  exact⟨typeIs_str s z t,fun _ e=>nomatch e⟩
 | int i=>
  obtain⟨t,rfl⟩:=r
  cases (show T = "int" from ty)
  exact⟨typeIs_int s i t,fun _ e=>nomatch e⟩
 | ref p=>
  cases r
  rcases ty with⟨rfl,xs,hq⟩ | ⟨rfl,o,hk,hc,hd⟩ | ⟨rfl,hk⟩ | ⟨rfl,S,n,hk⟩
  ·obtain⟨its,_,pl,_⟩:=I.list hq
   refine⟨pl.isList.typeIs,fun a e=>?_⟩
   cases e
   obtain⟨o,n,e,c,hd,_⟩:=pl
   exact⟨o,e,hd⟩
  ·refine⟨⟨o,I.kIn p o hk,hc⟩,fun a e=>?_⟩
   cases e
   exact⟨o,I.kIn _ o hk,hd⟩
  ·have z:∃o,s.heap.get? p=some o/\o.ExactDict:=by
    rcases hk with⟨kvs,hk⟩ | ⟨kvs,hk⟩
    ·obtain⟨_,_,_,_,o,_,_,e,ex,_⟩:=I.hok p _ hk
     exact⟨o,e,ex⟩
    ·obtain⟨_,_,_,_,o,_,_,e,ex,_⟩:=I.hok p _ hk
     exact⟨o,e,ex⟩
   obtain⟨o,e,ex⟩:=z
   refine⟨⟨o,e,ex.1⟩,fun a e2=>?_⟩
   cases e2
   exact⟨o,e,ex.2.1⟩
  ·obtain⟨o,_,_,_,e,ex,_⟩:=I.hok p _ hk
   refine⟨⟨o,e,ex.1⟩,fun a e2=>?_⟩
   cases e2
   exact⟨o,e,ex.2.1⟩
 | _=>exact False.elim ty
def Kq(K:PySem.W.Frag)(T:String)(r:V->List V->Hp->VK->Prop)(to:TE)(t:TA):TE:=fun Z H Q=>to Z H fun x H1=>Kp K T x H1/\t Z H1 fun xs H2=>r x xs H2 Q
variable {o e:Expr} {es:List Expr} {to:TE} {t:TA} {name:Str} {apos cpos:Pos} {T id:String} {r:V->List V->Hp->VK->Prop}
theorem Q0(pa:PlainAttrs T)(slot:Slot T name id)(hty:typeOf (.builtin id)=pure (.type "method_descriptor"))(hm:KH X id r)(ho:PE X o to)(ha:PA X (e::es) t)
  (hbase:attributeBase o name X.env (eval o X.env)=eval o X.env:=by rfl)
  (hfew:((backTo cpos (starEach (e::es) X.env)).all (fun x=>!x.1)&&(backToKw cpos (keywordEach [] X.env)).all (fun x=>x.1.isSome)
   &&decide ((e::es).length+([]:List Keyword).length+(if([]:List Keyword).isEmpty then 0 else 1)<30))=true:=by rfl)
  (hline:(apos.endLine==cpos.line)=true:=by rfl) (hs:starEach (e::es) X.env=(false,eval e X.env)::starEach es X.env:=by rfl) (hplain:(backTo cpos (starEach es X.env)).any (·.1)=false:=by rfl) :
  PE X (.Call (.Attribute o name apos) (e::es) [] cpos) (Kq X.K T r to t):=by
 intro pins s Z H Q I h
 refine wpAny_Call_method_late hbase hfew hline rfl (ZV (ho pins s Z H _ I h) fun v s1 ⟨x,H1,I1,r1,ty,q1⟩=>?_)
 obtain⟨h1,h2⟩:=Ml I1 r1 ty
 refine⟨T,id,pa,slot,hty,h1,h2,?_⟩
 have hA:=ha cpos pins s1 Z H1 _ I1 q1
 rw[hs] at hA ⊢
 refine Calls.callWith_builtin (by show(false || (backTo cpos (starEach es X.env)).any (·.1))=false;rw[hplain]<;>rfl) (Calls.evalArgs_plain ?_)
 exact ZV hA fun us s2 ⟨vs,H2,I2,r2,q2⟩=>hm pins s2 Z H2 x vs v us Q I2 r1 r2 q2
end
def Kr(X:Cx)(id:String)(r:V->List V->Hp->VK->Prop):Prop:=
 ∀(pins:List (Addr×Obj))(s:Shared)(Z:St)(H:Hp)(x:V)(xs:List V)(v:Value)(us:List Value)(Q:VK),Inv X pins Z H s->RelV x v->Vals xs us->r x xs H Q->
  wpAny (model X.prog X.w) X.A (call (.builtin id) (v::us)) (EP X pins Z Q) X.xe s
theorem Vals.one:∀{x:V}{us:List Value},Vals [x] us->∃u,us=[u]/\RelV x u
 | _,_,.cons r .nil=>⟨_,rfl,r⟩
theorem Vals.two:∀{x y:V}{us:List Value},Vals [x,y] us->∃u v,us=[u,v]/\RelV x u/\RelV y v
 | _,_,_,.cons r (.cons q .nil)=>⟨_,_,rfl,r,q⟩
theorem Vals.dropLast{xs:List V}{us:List Value}(h:Vals xs us):Vals xs.dropLast us.dropLast:=by
 induction h with
 | nil=>exact .nil
 | cons r t ih=>
  cases t with
  | nil=>exact .nil
  | cons q t'=>exact .cons r ih
theorem Vals.rep{xs:List V}{us:List Value}(h:Vals xs us):∀k:Nat,Vals (List.replicate k xs).flatten (List.replicate k us).flatten
 | 0=>.nil
 | k+1=>by
  rw[List.replicate_succ,List.replicate_succ,List.flatten_cons,List.flatten_cons]
  exact Vals.append h (Vals.rep h k)
theorem WD(its:List Value):∀(k:Nat)(acc:List Value),
  List.foldl (fun x1 x2=>x1++x2) acc.toArray (List.replicate k its.toArray)=(acc++(List.replicate k its).flatten).toArray
 | 0,acc=>by simp
 | k+1,acc=>by
  have e:acc.toArray++its.toArray=(acc++its).toArray:=by simp
  have e2:(acc++its)++(List.replicate k its).flatten=acc++(List.replicate (k+1) its).flatten:=by
   rw[List.replicate_succ,List.flatten_cons,List.append_assoc]
  rw[<-e2,<-WD its k (acc++its),<-e,List.replicate_succ,List.foldl_cons]
section
variable {X:Cx} {pins:List (Addr×Obj)} {Z:St} {H:Hp} {s:Shared} {l b:Addr} {xs ys zs:List V}
theorem Inv.lset{its its':List Value}{n:Nat}{f:Array Value->Array Value}{t':Nat}(I:Inv X pins Z H s)(hH:H l=some (.lst xs))
  (e:s.heap.get? l=some { cls:=.type "list",data:=.seq its.toArray n }) (hf:f its.toArray=its'.toArray) (hv:Vals ys its') (hz:ys.length<=sizeLine) :
  Inv X pins Z (upd H l (.lst ys)) { s with heap:=s.heap.update l (Obj.mapSeq f),toks:=t' }:=by
 have q:=PySem.IsL.update e f;rw[hf] at q
 refine I.write (x:=l) (e:=l) (by rw[hH];exact trivial) (.inl rfl) (fun b' u hb hu=>(Heap.get?_update_other s.heap (Obj.mapSeq f) (Ne.symm hb)).trans hu) ⟨_,q⟩ ?_
 exact⟨hz,its',_,hv,q⟩
theorem Inv.lnew{its:List Value}{t':Nat}(I:Inv X pins Z H s)(hv:Vals ys its)(hz:ys.length<=sizeLine) :
  Inv X pins Z (upd H s.heap.objs.size (.lst ys)) { s with heap:=s.heap.push { cls:=.type "list",data:=.seq its.toArray },toks:=t' }:=
 I.laid (fun _ _ q=>Heap.get?_push_of_some _ q) (Nat.le_refl _) ⟨hz,its,0,hv,Heap.get?_push_size _ rfl⟩
theorem Inv.fresh(I:Inv X pins Z H s):H s.heap.objs.size=none:=I.hok.fresh (Nat.le_refl _)
theorem Inv.lstM(I:Inv X pins Z H s)(hH:H l=some (.lst xs)):xs.length<=sizeLine/\∃(its:List Value) (n:Nat),Vals xs its/\xs.length=its.length/\s.heap.get? l=some { cls:=.type "list",data:=.seq its.toArray n }:=by
 obtain⟨z,its,n,r,e⟩:=I.hok l _ hH
 exact⟨z,its,n,r,r.length,e⟩
theorem Ty{n:Nat}(h:n<=sizeLine):Builtin.List.listTooLong n=false:=by
 unfold Builtin.List.listTooLong
 exact decide_eq_false (by omega)
end
section
variable {X:Cx}
def Rh:V->List V->Hp->VK->Prop:=fun x vs H Q=>∃l xs y,x = .ref l/\vs=[y]/\H l=some (.lst xs)/\xs.length<sizeLine/\Q .non (upd H l (.lst (xs++[y])))
theorem Ut:Kr X "list.append" Rh:=by
 intro pins s Z H x vs v us Q I rx rv h
 obtain⟨l,xs,y,rfl,rfl,hH,hz,q⟩:=h
 cases rx
 obtain⟨u,rfl,ru⟩:=rv.one
 obtain⟨z,its,n,r,hl,e⟩:=I.lstM hH
 refine call_meets F.slot_list_append ⟨_,e,rfl⟩ F.entry_list_append (F.args_list_append_2 _ _) (PySem.list_append l its.toArray n u (by rw[List.size_toArray];omega)) ⟨e,?_⟩
 refine⟨.non,_,I.lset (its':=its++[u]) hH e (by simp) (r.append (.cons ru .nil)) ?_,rfl,q⟩
 rw[List.length_append,List.length_singleton];omega
def OD:V->List V->Hp->VK->Prop:=fun x vs H Q=>∃l b xs zs,x = .ref l/\vs=[.ref b]/\H l=some (.lst xs)/\H b=some (.lst zs)/\xs.length+zs.length<=sizeLine/\Q .non (upd H l (.lst (xs++zs)))
theorem mt_extend:Kr X "list.extend" OD:=by
 intro pins s Z H x vs v us Q I rx rv h
 obtain⟨l,b,xs,zs,rfl,rfl,hH,hB,hz,q⟩:=h
 cases rx
 obtain⟨u,rfl,ru⟩:=rv.one
 cases ru
 obtain⟨z,its,n,r,hl,e⟩:=I.lstM hH
 obtain⟨z2,its2,n2,r2,hl2,e2⟩:=I.lstM hB
 have hsz:its.toArray.size+its2.toArray.size<=sizeLine:=by rw[List.size_toArray,List.size_toArray];omega
 have hlong:¬(!its.toArray.isEmpty&&Builtin.List.listTooLong (its.toArray.size+its2.toArray.size))=true:=by
  rw[Ty hsz,Bool.and_false];exact Bool.false_ne_true
 refine call_meets F.slot_list_extend ⟨_,e,rfl⟩ F.entry_list_extend (F.args_list_extend_2 _ _)
  (AutoSeq1.list_extend_list_list_0 l its.toArray n b its2.toArray n2 hlong (by rw[List.size_toArray];omega) (by omega)) ⟨e,e2,?_⟩
 refine⟨.non,_,I.lset (its':=its++its2) hH e (by simp) (r.append r2) ?_,rfl,q⟩
 rw[List.length_append];omega
def Ks:R2:=fun x y H Q=>∃l b xs zs,x = .ref l/\y = .ref b/\H l=some (.lst xs)/\H b=some (.lst zs)/\xs.length+zs.length<=sizeLine/\∀p,H p=none->Q (.ref p) (upd H p (.lst (xs++zs)))
theorem Mm:XX X (binaryOp .Add) Ks:=by
 intro pins s Z H x y v u Q I rx ry h
 obtain⟨l,b,xs,zs,rfl,rfl,hH,hB,hz,q⟩:=h
 cases rx;cases ry
 obtain⟨z,its,n,r,hl,e⟩:=I.lstM hH
 obtain⟨z2,its2,n2,r2,hl2,e2⟩:=I.lstM hB
 refine PySem.P.add_list e e2 ?_ (by rw[List.size_toArray,List.size_toArray];omega)
 have ea:its.toArray++its2.toArray=(its++its2).toArray:=by simp
 rw[ea]
 exact⟨.ref _,_,I.lnew (t':=s.toks) (r.append r2) (by rw[List.length_append];omega),rfl,q _ I.fresh⟩
def Kt:R2:=fun x y H Q=>∃l k xs,x = .ref l/\y = .int k/\H l=some (.lst xs)/\-(2^63)<=k/\k<2^63/\xs.length*k.toNat<=sizeLine/\
 ∀p,H p=none->Q (.ref p) (upd H p (.lst (List.replicate k.toNat xs).flatten))
theorem UX{α:Type}(xs:List α)(k:Nat):(List.replicate k xs).flatten.length=k*xs.length:=by
 induction k with
 | zero=>simp
 | succ k ih=>rw[List.replicate_succ,List.flatten_cons,List.length_append,ih,Nat.succ_mul,Nat.add_comm]
theorem Mn:XX X (binaryOp .Mult) Kt:=by
 intro pins s Z H x y v u Q I rx ry h
 obtain⟨l,k,xs,rfl,rfl,hH,h1,h2,hz,q⟩:=h
 cases rx
 obtain⟨t,rfl⟩:=ry
 obtain⟨z,its,n,r,hl,e⟩:=I.lstM hH
 have hlen:its.toArray.size*k.toNat<=sizeLine:=by rw[List.size_toArray,<-hl];exact hz
 have hcap:¬its.toArray.size*k.toNat>(2^63-1)/8:=by
  have:(sizeLine:Nat)<=(2^63-1)/8:=by decide
  omega
 have hfit:¬(!Builtin.List.listFitsIndex k)=true:=by
  rw[fitsIndex_both h1 h2];exact Bool.false_ne_true
 have hlong:¬Builtin.List.listTooLong (its.toArray.size*k.toNat)=true:=by
  rw[Ty hlen];exact Bool.false_ne_true
 have hnew:List.foldl (fun x1 x2=>x1++x2) #[] (List.replicate (if its.toArray.isEmpty=true then 0 else k.toNat) its.toArray)=(List.replicate k.toNat its).flatten.toArray:=by
  have f0:∀m:Nat,List.foldl (fun x1 x2=>x1++x2) #[] (List.replicate m its.toArray)=(List.replicate m its).flatten.toArray:=fun m=>by
   have:=WD its m []
   rw[List.nil_append] at this;exact this
  rw[f0]
  cases its with
  | nil=>simp
  | cons a r'=>rw[if_neg (by simp)]
 refine wpAny_binaryOp_repeat_ref (T:="list") (U:="int") (by decide) ⟨_,e,rfl⟩ (fun s'=>typeIs_int s' k t) noFill_list_mul F.fills_int_mul F.slot_int_rmul repeat_list F.slot_int_index.lookup
  (call_meets F.slot_int_rmul (typeIs_int s k t) F.entry_int_rmul (F.args_int_rmul_2 _ _) (int___rmul___int_list k t l its.toArray n)
   ⟨e,rfl,⟨_,e,rfl⟩,call_meets F.slot_list_mul ⟨_,e,rfl⟩ F.entry_list_mul (F.args_list_mul_2 _ _) (AutoListH.list___mul___list_int_3 l its.toArray n k t hfit hcap hlong) ⟨e,?_⟩⟩)
 rw[hnew]
 exact⟨.ref _,_,I.lnew (t':=s.toks) (r.rep k.toNat) (by rw[UX,Nat.mul_comm];exact hz),rfl,q _ I.fresh⟩
end
end L2
namespace Att
open PySem PySem.W PySem.Calls PyProof.Rows
theorem Vf{P:Params}{h:Heap}:∀(ns:List Int)(vs:List Value),WellAll P h vs (ns.map WData.int)->IntsAre vs ns:=by
 intro ns
 induction ns with
 | nil=>
  intro vs w;rw[List.map_nil] at w;cases w;exact .nil
 | cons n ns ih=>
  intro vs w;rw[List.map_cons] at w
  cases w with
  | cons a b=>
   cases a
   exact .cons _ _ (ih _ b)
theorem Qd{l:OpenLaw}{n:Nat}(hn:l.most=some n){P:Params}{h:Heap}{args:List WData}{vals:List Value}
  (hpre:l.row.toRowW.claim.pre args=true) (hwl:WellAll P h vals args) :
  ∃a vs ns,vals=[Value.ref a]/\args=[WData.list (ns.map WData.int)]/\h.get? a=some { cls:=.type "list",data:=.seq vs.toArray }/\IntsAre vs ns/\ns.length<=n:=by
 have hsh:WShape.hasAll [] args [.list .int]=true:=(pre_splitW hpre).1
 have hc:l.pre.holds [] { args:=args }=true:=(pre_splitW hpre).2
 obtain⟨d,r,rfl,h1,h2⟩:=hasAllW_cons hsh
 obtain rfl:=hasAllW_nil h2
 obtain⟨xs,rfl,h3⟩:=hasW_list h1
 obtain⟨ns,rfl⟩:=items_int h3
 have hlen:ns.length<=n:=by
  unfold OpenLaw.pre at hc
  have h4:(WTm.not (.lt (.lit (.int (n:Int))) (.len (.arg 0)))).holds [] { args:=[.list (ns.map .int)] }=true:=by
   have h4:=(holds_andW hc).1
   rw[hn] at h4;exact h4
  have h5:=condW_of h4 (w_not (w_lt w_lit (w_len_list (w_arg rfl))))
  rw[List.length_map] at h5
  refine Nat.le_of_not_lt fun q=>?_
  have q':(n:Int)<((ns.length:Nat):Int):=by omega
  first
   | (rw[decide_eq_true q'] at h5;exact absurd h5 (by decide))
   | (simp at h5;omega)
 cases hwl with
 | cons w1 w2=>
  cases w2
  cases w1 with
  | list ho hall=>exact⟨_,_,ns,rfl,rfl,ho,Vf ns _ hall,hlen⟩
theorem Qe(l:OpenLaw)(args:List WData):l.row.toRowW.claim.post args (.bool true) args=true:=
 postW_of (r:=l.row.toRowW) (X:=(true==true))
  (show WShape.has [] (.bool true) .bool=true by first | rfl | decide | simp[WShape.has,WShape.arms,WShape.armsAll])
  (show(WTm.eq .res (.lit (.bool true))).value [] { args:=args,res:=some (.bool true),after:=args }=some (.bool (true==true)) from w_eq_bool (w_res rfl) w_lit) rfl
theorem attach_call{l:OpenLaw}{n:Nat}{q:Program}{loose:List Str}{XP:(Str->Option Value)->Heap->Prop}{YP:World->Heap->Prop}{d:DefRec}
  (hn:l.most=some n) (hdf:d.params.defaults=[])
  (call:∀(w:World)(s₀ s₁:Shared)(mg mb:Str->Option Value)(fa:Addr)(o:Obj)(pm cd doc:Value)(a:Addr)(vs:List Value)(ns:List Int),
   Ground q loose [] XP w s₀ mg mb s₁.heap->YP w s₁.heap->
   s₁.heap.get? fa=some o->o.data = .func (docDef d.name d.params d.body d.scope pm cd doc)->s₁.heap.CodeRec cd d.name->mg d.name=some (.ref fa)->
   s₁.heap.get? a=some { cls:=.type "list",data:=.seq vs.toArray }->IntsAre vs ns->ns.length<=n->s₁.gens = #[]->
   codeAny (model l.prog w) callerA (.call (.ref fa) ⟨[.ref a],[]⟩) (fun r s'=>r = .ok (.ret (.bool true))/\OldK s₁.heap s'.heap/\s'.os=s₁.os/\AllBare s'.gens) s₁) :
  WalkO q loose XP YP l.row.toRowW d [] (fun f vs=>PySem.call f vs):=by
 intro w s₀ s₁ mg mb G Y fa o pm cd doc dV kV ho hd hcd hD hmg hg args vals as hpre hlay hrd hwl hlo
 obtain rfl:dV = .none:=Dflts.none hD hdf
 obtain rfl:kV = .none:=Dflts.noKw hD
 obtain⟨a,vs,ns,rfl,rfl,hobj,hints,hlen⟩:=Qd hn hpre hwl
 refine enter_call (codeAny_mono (call w s₀ s₁ mg mb fa o pm cd doc a vs ns G Y ho (fd_plain hd) hcd hmg hobj hints hlen hg) fun r s' hq=>?_)
 obtain⟨rfl,h2,h3,h4⟩:=hq
 exact⟨.inl ⟨.bool true,.bool true,[],rfl,fun _=>rfl,.bool true,Qe l _,fun _=>⟨List.Pairwise.nil,fun _ hm=>(nomatch hm)⟩⟩,h2,h3,h4⟩
end Att
namespace L2
open PySem PySem.Spec PyProof.Rows
section
variable {κ:Type} [DecidableEq κ]
def Xq(kvs:List (κ×V))(k:κ):Option V:=(kvs.find? fun kv=>decide (kv.1=k)).map (·.2)
def Y4(kvs:List (κ×V))(k:κ)(v:V):List (κ×V):=
 if(kvs.any fun kv=>decide (kv.1=k))=true then kvs.map (fun kv=>if kv.1=k then(kv.1,v) else kv) else kvs++[(k,v)]
theorem X4{p:κ×V}{r:List (κ×V)}{k:κ}(e:p.1=k):Xq (p::r) k=some p.2:=by simp[Xq,List.find?_cons,e]
theorem X5{p:κ×V}{r:List (κ×V)}{k:κ}(e:¬p.1=k):Xq (p::r) k=Xq r k:=by simp[Xq,List.find?_cons,e]
theorem Vw(k:κ):∀kvs:List (κ×V),(kvs.any fun kv=>decide (kv.1=k))=(Xq kvs k).isSome
 | []=>rfl
 | p::r=>by
  rw[List.any_cons]
  by_cases e:p.1=k
  ·simp only[X4 e,decide_eq_true e,Bool.true_or,Option.isSome_some]
  ·rw[X5 e,decide_eq_false e,Bool.false_or];exact Vw k r
theorem W7(kvs:List (κ×V))(k:κ)(v:V):(Y4 kvs k v).length<=kvs.length+1:=by
 unfold Y4
 split
 ·rw[List.length_map];omega
 ·rw[List.length_append,List.length_cons,List.length_nil];omega
theorem Q1{kvs:List (κ×V)}{k:κ}(v:V)(h:Xq kvs k=none):Y4 kvs k v=kvs++[(k,v)]:=by
 unfold Y4;rw[Vw,h]
 exact if_neg (by decide)
theorem RelO.isSome_eq{o:Option V}{u:Option Value}(r:RelO o u):o.isSome=u.isSome:=by
 cases o with
 | none=>cases u with
  | none=>rfl
  | some _=>exact(show False from r).elim
 | some _=>cases u with
  | none=>exact(show False from r).elim
  | some _=>rfl
theorem KV.val{kvs:List (κ×V)}{vs:List (κ×Value)}(r:KV kvs vs)(k:κ):RelO (Xq kvs k) (valueAt vs k):=by
 unfold KV at r
 induction r with
 | nil=>exact True.intro
 | @cons p q ps qs h t ih=>
  obtain⟨h1,h2⟩:=h
  by_cases e:p.1=k
  ·have e':q.1=k:=h1.symm.trans e
   have b:valueAt (q::qs) k=some q.2:=by simp[valueAt,List.find?_cons,e']
   rw[X4 e,b];exact h2
  ·have e':¬q.1=k:=fun z=>e (h1.trans z)
   have b:valueAt (q::qs) k=valueAt qs k:=by simp[valueAt,List.find?_cons,e']
   rw[X5 e,b];exact ih
theorem KV.any{kvs:List (κ×V)}{vs:List (κ×Value)}(r:KV kvs vs)(k:κ):(kvs.any fun kv=>decide (kv.1=k))=vs.any fun kv=>decide (kv.1=k):=by
 unfold KV at r
 induction r with
 | nil=>rfl
 | cons h t ih=>rw[List.any_cons,List.any_cons,ih,h.1]
theorem KV.repl{kvs:List (κ×V)}{vs:List (κ×Value)}(r:KV kvs vs)(k:κ){y:V}{u:Value}(ry:RelV y u) :
  KV (kvs.map fun kv=>if kv.1=k then(kv.1,y) else kv) (vs.map fun kv=>if kv.1=k then(kv.1,u) else kv):=by
 unfold KV at r ⊢
 induction r with
 | nil=>exact .nil
 | @cons p q ps qs h t ih=>
  rw[List.map_cons,List.map_cons]
  refine .cons ?_ ih
  obtain⟨h1,h2⟩:=h
  by_cases e:p.1=k
  ·rw[if_pos e,if_pos (h1.symm.trans e)];exact⟨h1,ry⟩
  ·rw[if_neg e,if_neg (fun z=>e (h1.trans z))];exact⟨h1,h2⟩
theorem KV.put{kvs:List (κ×V)}{vs:List (κ×Value)}(r:KV kvs vs)(k:κ){y:V}{u:Value}(ry:RelV y u):KV (Y4 kvs k y) (stored vs k u):=by
 unfold Y4 stored;rw[r.any k]
 by_cases e:(vs.any fun kv=>decide (kv.1=k))=true
 ·rw[if_pos e,if_pos e];exact r.repl k ry
 ·rw[if_neg e,if_neg e];exact Paired.snoc r ⟨rfl,ry⟩
theorem KV.length{kvs:List (κ×V)}{vs:List (κ×Value)}(r:KV kvs vs):kvs.length=vs.length:=Paired.length r
end
theorem Ri{P:Program}{w:World}{k:ZR}{u:Value}(r:RelV (kV k) u):(ZS P w).is k u=true:=by
 cases k with
 | inl i=>obtain⟨t,e⟩:=(show ∃t,u=Value.int i t from r);subst e;exact Tq P w i t
 | inr x=>obtain⟨t,e⟩:=(show ∃t,u=Value.str x t from r);subst e;exact Tr P w x t
theorem Uu{P:Program}{w:World}:∀{ks:List ZR}{us:List Value},Vals (ks.map kV) us->ItemsAre (ZS P w) ks us
 | [],_,r=>by rw[List.map_nil] at r;cases r;exact .nil
 | k::ks,_,r=>by
  rw[List.map_cons] at r
  cases r with
  | cons h t=>exact .cons (Ri h) (Uu t)
abbrev KT(H:Hp):List (List ZR×V)->List (List ZR×Addr×Value)->Prop:=Paired fun p q=>p.1=q.1/\H q.2.1=some (.tup (p.1.map kV))/\RelV p.2 q.2.2
theorem KT.val{H:Hp}{kvs:List (List ZR×V)}{xs:List (List ZR×Addr×Value)}(r:KT H kvs xs)(k:List ZR):RelO (Xq kvs k) ((atKey xs k).map (·.2)):=by
 induction r with
 | nil=>exact True.intro
 | @cons p q ps qs h t ih=>
  obtain⟨h1,_,h2⟩:=h
  by_cases e:p.1=k
  ·have e':q.1=k:=h1.symm.trans e
   have b:atKey (q::qs) k=some q.2:=by simp[atKey,List.find?_cons,e']
   rw[X4 e,b];exact h2
  ·have e':¬q.1=k:=fun z=>e (h1.trans z)
   have b:atKey (q::qs) k=atKey qs k:=by simp[atKey,List.find?_cons,e']
   rw[X5 e,b];exact ih
theorem KT.repl{H:Hp}{kvs:List (List ZR×V)}{xs:List (List ZR×Addr×Value)}(r:KT H kvs xs)(k:List ZR){y:V}{u:Value}(ry:RelV y u) :
  KT H (kvs.map fun kv=>if kv.1=k then(kv.1,y) else kv) (xs.map (putAt k u)):=by
 induction r with
 | nil=>exact .nil
 | @cons p q ps qs h t ih=>
  rw[List.map_cons,List.map_cons]
  refine .cons ?_ ih
  obtain⟨h1,h2,h3⟩:=h
  unfold putAt
  by_cases e:p.1=k
  ·rw[if_pos e,if_pos (h1.symm.trans e)];exact⟨h1,h2,ry⟩
  ·rw[if_neg e,if_neg (fun z=>e (h1.trans z))];exact⟨h1,h2,h3⟩
theorem KT.put{H:Hp}{kvs:List (List ZR×V)}{xs:List (List ZR×Addr×Value)}(r:KT H kvs xs)(k:List ZR){b:Addr}{y:V}{u:Value}(hb:H b=some (.tup (k.map kV)))(ry:RelV y u) :
  KT H (Y4 kvs k y) (storedH xs k b u):=by
 have e:(kvs.any fun kv=>decide (kv.1=k))=(atKey xs k).isSome:=by
  rw[Vw,(r.val k).isSome_eq,Option.isSome_map]
 unfold Y4 storedH;rw[e]
 by_cases q:(atKey xs k).isSome=true
 ·rw[if_pos q,if_pos q];exact r.repl k ry
 ·rw[if_neg q,if_neg q];exact Paired.snoc r ⟨rfl,hb,ry⟩
theorem KT.keeps{H H':Hp}{kvs:List (List ZR×V)}{xs:List (List ZR×Addr×Value)}(r:KT H kvs xs)(ht:∀b ys,H b=some (.tup ys)->H' b=some (.tup ys)):KT H' kvs xs:=
 Paired.mapP r fun _ _ z=>⟨z.1,ht _ _ z.2.1,z.2.2⟩
section
variable {P:Program} {w:World} {H:Hp} {h:Heap} {a:Addr}
theorem NA{u:HO}(ok:HOk P w H h)(e:Rd H a u):ObjOk P w H h a u:=e.ok ok
theorem Rj{kvs:List (ZR×V)}(ok:HOk P w H h)(e:Rd H a (.dK kvs)):kvs.length<=sizeLine/\(a==sysModules)=false/\∃vs,KV kvs vs/\h.DictOf (ZS P w) a vs:=
 show ObjOk P w H h a (.dK kvs) from NA ok e
theorem Ly{kvs:List (ZR×V)}(ok:HOk P w H h)(e:H a=some (.dK kvs)):kvs.length<=sizeLine/\(a==sysModules)=false/\∃vs,KV kvs vs/\h.DictOf (ZS P w) a vs:=Rj ok (.inl e)
theorem UY{ks:List ZR}(ok:HOk P w H h)(e:H a=some (.tup (ks.map kV))):(tupleKind (ZS P w)).is h ks a:=by
 obtain⟨_,its,r,o,h1,h2,n,h3⟩:=(show ObjOk P w H h a (.tup (ks.map kV)) from ok a _ e)
 exact⟨o,its.toArray,n,h1,h2,h3,by simpa using Uu r⟩
theorem Rk{kvs:List (List ZR×V)}(ok:HOk P w H h)(e:Rd H a (.dT kvs)):kvs.length<=sizeLine/\(a==sysModules)=false/\
  ∃xs,KT H kvs xs/\h.DictOfH (tupleKind (ZS P w)) a xs:=by
 obtain⟨z,y,xs,r,o,es,ep,h1,h2,h3,h4,h5⟩:=(show ObjOk P w H h a (.dT kvs) from NA ok e)
 refine⟨z,y,xs,r,o,es,ep,h1,h2,h3,h4,fun x hx=>?_,h5⟩
 have all:∀{l:List (List ZR×V)}{m:List (List ZR×Addr×Value)},KT H l m->∀x∈m,(tupleKind (ZS P w)).is h x.1 x.2.1:=by
  intro l m q
  induction q with
  | nil=>intro x hx;exact nomatch hx
  | @cons p q ps qs hq t ih=>
   intro x hx
   rcases List.mem_cons.mp hx with e | hx
   ·subst e
    exact UY ok (by rw[<-hq.1];exact hq.2.1)
   ·exact ih x hx
 exact all r x hx
theorem Lz{kvs:List (List ZR×V)}(ok:HOk P w H h)(e:H a=some (.dT kvs)):kvs.length<=sizeLine/\(a==sysModules)=false/\
  ∃xs,KT H kvs xs/\h.DictOfH (tupleKind (ZS P w)) a xs:=Rk ok (.inl e)
end
def Qf(H:Hp)(a:Addr)(y:V)(r:Option V):Prop:=
 (∃kvs k,Rd H a (.dK kvs)/\y=kV k/\r=Xq kvs k)\/∃kvs k b,Rd H a (.dT kvs)/\y = .ref b/\H b=some (.tup (k.map kV))/\r=Xq kvs k
def LA(H:Hp)(a:Addr)(y v:V)(H':Hp):Prop:=
 (∃kvs k,H a=some (.dK kvs)/\y=kV k/\kvs.length<sizeLine/\H'=upd H a (.dK (Y4 kvs k v)))\/
 ∃kvs k b,H a=some (.dT kvs)/\y = .ref b/\H b=some (.tup (k.map kV))/\kvs.length<sizeLine/\H'=upd H a (.dT (Y4 kvs k v))
section
variable {X:Cx} {pins:List (Addr×Obj)} {Z:St} {H:Hp} {s:Shared} {a:Addr} {y v:V} {u r:Value} {o:Option V} {A:Around} {E:Value->Shared->Prop}
theorem Inv.big(I:Inv X pins Z H s):sysModules<s.heap.objs.size:=by
 have h:mainGlobals<s.heap.objs.size:=(I.mod.glob.keeps I.bk).lt
 exact Nat.lt_trans (by decide) h
theorem Qg{Q:Value->Shared->Prop}(hu:A.units+1<cLine)(I:Inv X pins Z H s)(g:Qf H a y (some v))(ry:RelV y u)(h:∀w' s',Inv X pins Z H s'->RelV v w'->Q w' s') :
  wpAny (model X.prog X.w) A (getItem (.ref a) u) Q E s:=by
 rcases g with⟨kvs,k,e,ey,l⟩ | ⟨kvs,k,b,e,ey,eb,l⟩
 ·subst ey
  obtain⟨z,hd,vs,rel,dd⟩:=Rj I.hok e
  obtain⟨w',hw,rw'⟩:=RelO.some_of (v:=v) (o:=valueAt vs k) (by rw[l];exact rel.val k)
  exact wpAny_getItem_of (Ri ry) dd.mapOf hw (h w' _ (I.tok _) rw')
 ·subst ey
  cases (show u=Value.ref b from ry)
  obtain⟨z,hd,xs,rel,dd⟩:=Rk I.hok e
  obtain⟨w',hw,rw'⟩:=RelO.some_of (v:=v) (o:=(atKey xs k).map (·.2)) (by rw[l];exact rel.val k)
  obtain⟨p,hp,hp2⟩:=Option.map_eq_some_iff.mp hw
  refine wpAny_getItem_heap (tupleKind_room_in1 hu) (UY I.hok eb) dd hp ?_
  rw[hp2]
  exact h w' _ (I.tok _) rw'
theorem OE{Q:Value->Shared->Prop}(hu:A.units+1<cLine)(I:Inv X pins Z H s)(g:Qf H a y o)(ry:RelV y u)(h:∀s',Inv X pins Z H s'->Q (.bool (!o.isSome)) s') :
  wpAny (model X.prog X.w) A (compareOp .NotIn u (.ref a)) Q E s:=by
 rcases g with⟨kvs,k,e,ey,l⟩ | ⟨kvs,k,b,e,ey,eb,l⟩
 ·subst ey
  obtain⟨z,hd,vs,rel,dd⟩:=Rj I.hok e
  refine wpAny_notIn_of (Ri ry) hd dd.mapOf ?_
  rw[<-(rel.val k).isSome_eq,<-l]
  exact h _ (I.tok _)
 ·subst ey
  cases (show u=Value.ref b from ry)
  obtain⟨z,hd,xs,rel,dd⟩:=Rk I.hok e
  refine wpAny_notIn_heap (tupleKind_room_in1 hu) (UY I.hok eb) hd dd ?_
  have q:=(rel.val k).isSome_eq
  rw[Option.isSome_map] at q;rw[<-q,<-l]
  exact h _ (I.tok _)
theorem Rl{h':Heap}{t':Nat}{ob:HO}(I:Inv X pins Z H s)(mu:Xb (H a))(hs:Heap.SameBut a s.heap h')(he:∃q,h'.get? a=some q)(new:ObjOk X.prog X.w (upd H a ob) h' a ob) :
  Inv X pins Z (upd H a ob) { s with heap:=h',toks:=t' }:=
 I.write (x:=a) (e:=a) mu (.inl rfl) (fun b q hb z=>(hs.2 b hb).trans z) he new
theorem Mo{P:Program}{w:World}{H':Hp}{h':Heap}{kvs:List (ZR×V)}{vs:List (ZR×Value)}(z:kvs.length<=sizeLine)(hd:(a==sysModules)=false)(rel:KV kvs vs)(dd:h'.DictOf (ZS P w) a vs) :
  ObjOk P w H' h' a (.dK kvs):=⟨z,hd,vs,rel,dd⟩
theorem Qh{H':Hp}{Q:Unit->Shared->Prop}(hu:A.units+1<cLine)(I:Inv X pins Z H s)(g:LA H a y v H')(ry:RelV y u)(rv:RelV v r)(h:∀s',Inv X pins Z H' s'->Q () s') :
  wpAny (model X.prog X.w) A (setItem (.ref a) u r) Q E s:=by
 rcases g with⟨kvs,k,e,ey,l,eH⟩ | ⟨kvs,k,b,e,ey,eb,l,eH⟩
 ·subst ey eH
  obtain⟨z,hd,vs,rel,dd⟩:=Ly I.hok e
  have hz:vs.length<=sizeLine:=by rw[<-rel.length];exact z
  have hl:(Y4 kvs k v).length<=sizeLine:=by have:=W7 kvs k v;omega
  refine wpAny_setItem_pairs (hsz:=hz) (Ri ry) dd fun h' dd' hs=>h _ ?_
  have he:∃q,h'.get? a=some q:=let⟨q,_,_,hq,_⟩:=dd';⟨q,hq⟩
  exact Rl I (by rw[e];exact True.intro) hs he (Mo hl hd (rel.put k rv) dd')
 ·subst ey eH
  cases (show u=Value.ref b from ry)
  obtain⟨z,hd,xs,rel,dd⟩:=Lz I.hok e
  have hz:xs.length<=sizeLine:=by rw[<-Paired.length rel];exact z
  have hl:(Y4 kvs k v).length<=sizeLine:=by have:=W7 kvs k v;omega
  refine wpAny_setItem_heap (hsz:=hz) (tupleKind_room_in1 hu) (UY I.hok eb) dd fun h' dd' hs=>h _ ?_
  obtain⟨q,es,ep,hq,h2,h3,h4,_,h5⟩:=dd'
  refine Rl I (by rw[e];exact True.intro) hs ⟨q,hq⟩ ⟨hl,hd,_,(rel.put k eb rv).keeps fun c ys ec=>?_,q,es,ep,hq,h2,h3,h4,h5⟩
  rw[upd_ne (M6 ec e (fun z=>nomatch z))];exact ec
end
def Mp(i:Expr):Prop:=∀ov iv,subscripted i false ov iv=operate [ov,iv] (getItem ov iv)
theorem OF{prog:Program}{w:World}{A:Around}{E:Value->Shared->Prop}{s:Shared}{env:Env}{value slice:Expr}{pos:Pos}{T id:String}{Q:Value->Shared->Prop}
  (hl:typeLookup (.type T) "__getitem__" = pure (some (.builtin id))) (hs:Mp slice)
  (h:wpAny (model prog w) A (eval value env) (fun o s₁=>wpAny (model prog w) A (eval slice env) (fun i s₂=>s₂.TypeIs o T/\wpAny (model prog w) A (getItem o i) Q E s₂) E s₁) E s) :
  wpAny (model prog w) A (eval (.Subscript value slice pos) env) Q E s:=by
 refine Subscript_ (wpAny_mono h (fun o s₁ h₁=>wpAny_mono h₁ (fun i s₂ h₂=>?_) fun _ _ x=>x) fun _ _ x=>x)
 obtain⟨hT,h₂⟩:=h₂
 unfold subscriptTail
 refine wpAny_bind ?_
 rw[getitemInPython_of_ne hT.not_modules]
 refine wpAny_bind (wpAny_specialOf hT hl ?_)
 have fin:wpAny (model prog w) A (subscripted slice false o i) (fun r s₃=>wpAny (model prog w) A (letTemporaryGo value o r >>= fun _=>pure r) Q E s₃) E s₂:=by
  rw[hs o i]
  exact wpAny_operating (wpAny_mono h₂ (fun r s₃ h₃=>wpAny_bind (wpAny_letTemporaryGo (wpAny_pure h₃))) fun _ _ x=>x)
 first
  | exact wpAny_pure (wpAny_bind fin)
  | exact wpAny_bind (wpAny_pure (wpAny_bind fin))
  | exact wpAny_bind fin
theorem Tz{X:Cx}{pins:List (Addr×Obj)}{Z:St}{H:Hp}{s:Shared}{a:Addr}{y:V}{o:Option V}(I:Inv X pins Z H s)(g:Qf H a y o):s.TypeIs (.ref a) "dict":=by
 rcases g with⟨kvs,k,e,_,_⟩ | ⟨kvs,k,b,e,_,_,_⟩
 ·obtain⟨_,_,vs,_,dd⟩:=Rj I.hok e
  exact dd.typeIs
 ·obtain⟨_,_,xs,_,dd⟩:=Rk I.hok e
  exact dd.typeIs
def NB(td ty:TE):TE:=fun Z H Q=>td Z H fun x H1=>ty Z H1 fun y H2=>∃a v,x = .ref a/\Qf H2 a y (some v)/\Q v H2
def Rn(ty td:TE):TE:=fun Z H Q=>ty Z H fun y H1=>td Z H1 fun x H2=>∃a o,x = .ref a/\Qf H2 a y o/\Q (.bl (!o.isSome)) H2
def sDPut(td ty tv:TE):TS:=fun D Z H=>tv Z H fun v H1=>td Z H1 fun x H2=>ty Z H2 fun y H3=>∃a H4,x = .ref a/\LA H3 a y v H4/\D.nx Z H4
section
variable {X:Cx} {o i e value:Expr} {pos pos' tpos:Pos} {td ty tv:TE}
theorem OG(hu:X.A.units+1<cLine)(ho:PE X o td)(hi:PE X i ty)(hs:Mp i):PE X (.Subscript o i pos) (NB td ty):=by
 intro pins s Z H Q I h
 refine OF PySem.F.slot_dict_getitem.lookup hs (ZV (ho pins s Z H _ I h) fun u s1 ⟨x,H1,I1,rx,q1⟩=>ZV (hi pins s1 Z H1 _ I1 q1) fun iv s2 ⟨y,H2,I2,ry,a,v,ex,g,q2⟩=>?_)
 subst ex
 obtain rfl:u=Value.ref a:=rx
 exact⟨Tz I2 g,Qg hu I2 g ry fun w' s3 I3 rw'=>⟨v,H2,I3,rw',q2⟩⟩
theorem Qi(hu:X.A.units+1<cLine)(hi:PE X i ty)(ho:PE X o td):PC X .NotIn i o (Rn ty td):=by
 intro pins s Z H Q I h
 refine ZV (hi pins s Z H _ I h) fun iv s1 ⟨y,H1,I1,ry,q1⟩=>ZV (ho pins s1 Z H1 _ I1 q1) fun u s2 ⟨x,H2,I2,rx,a,ov,ex,g,q2⟩=>?_
 subst ex
 obtain rfl:u=Value.ref a:=rx
 exact OE hu I2 g ry fun s3 I3=>⟨.bl (!ov.isSome),H2,I3,rfl,q2⟩
theorem Vj(hu:X.A.units+1<cLine)(ho:PE X o td)(hi:PE X i ty)(hv:PE X value tv)(hs:swapsWith value (some (.Subscript o i pos')) pos.line X.env=pure false) :
  PS X (.Assign [.Subscript o i pos'] value pos) (sDPut td ty tv):=by
 intro pins s Z H D I h
 refine wpAny_Assign_Subscript (ZV (hv pins s Z H _ I h) fun r s1 ⟨v,H1,I1,rv,q1⟩=>ZV (ho pins s1 Z H1 _ I1 q1) fun u s2 ⟨x,H2,I2,rx,q2⟩=>ZV (hi pins s2 Z H2 _ I2 q2) fun iv s3 ⟨y,H3,I3,ry,a,H4,ex,g,q3⟩=>?_) hs
 subst ex
 obtain rfl:u=Value.ref a:=rx
 exact Qh hu I3 g ry rv fun s4 I4=>⟨Z,H4,I4,q3⟩
end
theorem Q2{P:Program}{w:World}{H:Hp}(h:Heap)(hb:sysModules<h.objs.size):ObjOk P w H (h.push { cls:=.type "dict",data:=.dict #[] }) h.objs.size (.dT []):=
 ⟨Nat.zero_le _,beq_eq_false_iff_ne.mpr (Ne.symm (Nat.ne_of_lt hb)),[],.nil,_,#[],0,Heap.get?_push_size _ rfl,⟨rfl,rfl,rfl⟩,rfl,rfl,List.nodup_nil⟩
def Mq:TE:=fun _ H Q=>∀p,H p=none->Q (.ref p) (upd H p (.dT []))
section
variable {X:Cx} {pos:Pos}
theorem Q3:PE X (.Dict [] [] pos) Mq:=fun pins s Z H Q I h=>
 wpAny_Dict_empty ⟨.ref s.heap.objs.size,_,I.laid (a:=s.heap.objs.size) (o:=.dT []) (t':=s.toks) (fun _ _ q=>Heap.get?_push_of_some _ q) (Nat.le_refl _) (Q2 s.heap I.big),rfl,h _ (I.hok.fresh (Nat.le_refl _))⟩
end
theorem Uv:∀{vs:List Value}{ns:List Int},IntsAre vs ns->Vals (ns.map V.int) vs
 | _,_,.nil=>.nil
 | _,_,.cons n t h=>.cons ⟨t,rfl⟩ (Uv h)
def OH(H:Hp):Prop:=∀b,H b=none\/∃o xs,H b=some (.frz o (.lst xs))
theorem Q4{P:Program}{w:World}{K:PySem.W.Frag}{mg mb:Str->Option Value}{CX:Oa}{k:Nat}{fa a:Addr}{fd:FuncData}{x:Str}{sp:Sp}{s₁:Shared}{vs:List Value}{ns:List Int}
  (KX:K.In s₁.heap) (hns:s₁.heap.Ns mainGlobals mg) (hb:s₁.heap.Ns builtinsNs mb) (hbb:∀x:Str,x≠"__name__"->mb x=bootBuiltins x) (hlim:s₁.heap.NoLimit) (hg:s₁.gens = #[])
  (ha:s₁.heap.get? a=some { cls:=.type "list",data:=.seq vs.toArray }) (hi:IntsAre vs ns) (hl:ns.length<=sizeLine) (hr:Room k callerA)
  (F:∀base:Heap,K.In base->base.Ns mainGlobals mg->WB P w K mg base CX k fa fd [x] sp) (hbind:∀(s:Shared)(u:Value),BindsTo s fd ⟨[u],[]⟩ [(x,u)])
  (hsp:∀H:Hp,OH H->SqL K H a (ns.map V.int)->sp [.ref a] H (fun v _=>v = .bl true) fun _ _ _=>False)
  (hCX:∀H e s',CX [] H s₁ (fun _ _ _=>False) e s'->False) :
  codeAny (model P w) callerA (.call (.ref fa) ⟨[.ref a],[]⟩) (fun r s'=>r = .ok (.ret (.bool true))/\OldK s₁.heap s'.heap/\s'.os=s₁.os/\AllBare s'.gens) s₁:=by
 have rv:=Uv hi;have lenV:=hi.length
 -- from an abstract heap in which nothing but the script may be tracked
 have core:∀H:Hp,OH H->SqL K H a (ns.map V.int)->HOk P w H s₁.heap->(∀b,H b≠none->b=a)->(H a≠none->K.lookup a=none)->
   codeAny (model P w) callerA (.call (.ref fa) ⟨[.ref a],[]⟩) (fun r s'=>r = .ok (.ret (.bool true))/\OldK s₁.heap s'.heap/\s'.os=s₁.os/\AllBare s'.gens) s₁:=by
  intro H hO hS hok hA hK
  have base_of:∀{b:Addr}{o:Obj},s₁.heap.get? b=some o->H b=none->(UO s₁.heap H).get? b=some o:=fun e n=>QN e n
  have noA:∀{b:Addr}{o:Obj}{es:Array DictEntry}{ep:Nat},s₁.heap.get? b=some o->o.data = .dict es ep->H b=none:=fun{b o es ep} e d=>by
   cases q:H b with
   | none=>rfl
   | some u=>
    have e':b=a:=hA b (by rw[q];simp)
    subst e'
    rw[ha] at e;cases e
    have d':Data.seq vs.toArray _=Data.dict es ep:=d
    cases d'
  have nsK:∀{b:Addr}{m:Str->Option Value},s₁.heap.Ns b m->(UO s₁.heap H).Ns b m:=fun{b m} ⟨o,es,ep,e,d,r⟩=>⟨o,es,ep,base_of e (noA e d),d,r⟩
  have hKb:K.In (UO s₁.heap H):=fun b o e=>base_of (KX b o e) (by
   cases q:H b with
   | none=>rfl
   | some u=>
    have e':b=a:=hA b (by rw[q];simp)
    subst e'
    rw[hK (by rw[q];simp)] at e;cases e)
  have hM:Mod K mg (UO s₁.heap H):=⟨hKb,nsK hns,⟨mb,nsK hb,hbb⟩,let⟨mc,h1,h2⟩:=hlim;⟨mc,nsK h1,h2⟩⟩
  have e0:Ou P w K mg (UO s₁.heap H) callerA [] s₁ H:=⟨rfl,hM,fun b o e=>Oc e,Nat.le_of_eq (RZ _ _),trivial,fun b hb=>absurd (show b∈([]:List Addr) from hb) (by simp),hok,.of_eq hg⟩
  refine codeAny_mono ((F _ hKb (nsK hns)).run callerA [] s₁ H ⟨[.ref a],[]⟩ [.ref a] [.ref a] _ _ hr e0 (hbind s₁ (.ref a)) (.cons rfl .nil) (hsp H hO hS)) fun r s' h=>?_
  cases r with
  | error e=>exact(hCX H e s' h).elim
  | ok fl=>
   cases fl with
   | next=>exact False.elim h
   | brk=>exact False.elim h
   | cont=>exact False.elim h
   | ret u=>
    obtain⟨v,H',os,bare,un,hok',r',q⟩:=h
    have q':v = .bl true:=q
    subst q'
    obtain rfl:u=Value.bool true:=r'
    refine⟨rfl,OldK.of_keep fun b o e=>?_,os,bare⟩
    cases q:H b with
    | none=>exact un.keep b o e q (by intro z;exact absurd (show b∈([]:List Addr) from z) (by simp)) (by simp)
    | some u=>
     rcases hO b with z | ⟨ob,xs,z⟩
     ·rw[q] at z;cases z
     ·have z2:=un.frzs b ob _ z
      obtain⟨e1,_⟩:=hok b _ z
      obtain⟨e2,_⟩:=hok' b _ z2
      rw[e] at e1;cases e1;exact e2
 cases hk:K.lookup a with
 | some o=>
  -- the script is one of the module's own objects
  have e:=KX a o hk;rw[ha] at e;cases e
  refine core (fun _=>none) (fun _=>.inl rfl) (.inr ⟨_,vs.toArray,_,hk,rfl,rfl,rfl,by rw[List.size_toArray,lenV];exact hl,by simpa using rv⟩) (fun b u z=>by have z':(none:Option HO)=some u:=z;cases z') (fun b z=>absurd rfl z) fun z=>absurd rfl z
 | none=>
  refine core (fun b=>if b=a then some (.frz { cls:=.type "list",data:=.seq vs.toArray } (.lst (ns.map V.int))) else none) (fun b=>?_) (.inl (.inr ⟨{ cls:=.type "list",data:=.seq vs.toArray },if_pos rfl⟩)) (fun b u z=>?_) (fun b z=>?_) fun _=>hk
  ·by_cases hb:b=a
   ·exact .inr ⟨_,_,if_pos hb⟩
   ·exact .inl (if_neg hb)
  ·by_cases hb:b=a
   ·have z':=(if_pos hb).symm.trans z
    cases z'
    subst hb
    exact⟨ha,by rw[List.length_map];exact hl,vs,_,rv,ha⟩
   ·have z':=(if_neg hb).symm.trans z
    cases z'
  ·by_cases hb:b=a
   ·exact hb
   ·exact absurd (if_neg hb) z
theorem walk_of{l:PySem.W.OpenLaw}{n k:Nat}{q:Program}{loose:List Str}{XP:(Str->Option Value)->Heap->Prop}{YP:World->Heap->Prop}{d:DefRec}{K:Params->PySem.W.Frag}{CX:World->Oa}{sp:World->Sp}{x:Str}
  (hn:l.most=some n) (hn2:n<=sizeLine) (hdf:d.params.defaults=[]) (hr:Room k callerA)
  (hY:∀(w:World)(h:Heap),YP w h->(K w.params).In h)
  (F:∀(w:World)(mg:Str->Option Value)(fa:Addr)(h:Heap),(K w.params).In h->h.Ns mainGlobals mg->mg d.name=some (.ref fa)->
   ∃fd:FuncData,(∀(s:Shared)(u:Value),BindsTo s fd ⟨[u],[]⟩ [(x,u)])/\
    ∀base:Heap,(K w.params).In base->base.Ns mainGlobals mg->WB l.prog w (K w.params) mg base (CX w) k fa fd [x] (sp w))
  (hsp:∀(w:World)(H:Hp)(a:Addr)(ns:List Int),ns.length<=n->OH H->SqL (K w.params) H a (ns.map V.int)->sp w [.ref a] H (fun v _=>v = .bl true) fun _ _ _=>False)
  (hCX:∀(w:World)(H:Hp)(s:Shared)(e:Value)(s':Shared),CX w [] H s (fun _ _ _=>False) e s'->False) :
  PySem.W.WalkO q loose XP YP l.row.toRowW d [] (fun f vs=>PySem.call f vs):=by
 refine Att.attach_call hn hdf fun w s₀ s₁ mg mb fa o pm cd doc a vs ns G Y ho hd hcd hmg hobj hints hlen hg=>?_
 have KX:=hY w _ Y
 obtain⟨fd,hb,hF⟩:=F w mg fa _ KX G.T.g hmg
 exact Q4 KX G.T.g G.T.b G.T.builtins G.T.nolimit hg hobj hints (Nat.le_trans hlen hn2) hr hF hb (fun H hO hS=>hsp w H a ns hlen hO hS) fun H e s'=>hCX w H s₁ e s'
def YT(s:Stmt):Arguments:=match s with
 | .FunctionDef _ a _ _ _ _ _ _ _ _=>a
 | _=>{ posonlyargs:=[],args:=[],vararg:=none,kwonlyargs:=[],kw_defaults:=[],kwarg:=none,defaults:=[] }
def Z7(s:Stmt):List Stmt:=match s with
 | .FunctionDef _ _ b _ _ _ _ _ _ _=>b
 | _=>[]
def Zk(s:Stmt):Scope:=match s with
 | .FunctionDef _ _ _ _ _ _ sc _ _ _=>sc
 | _=>{ kind:=.function,names:=[],isGenerator:=false,isCoroutine:=false }
abbrev Ro:Oa:=fun _ _ _ _ _ _=>False
abbrev E0:XK:=fun _ _ _=>False
theorem LB{X:Cx}:Sm Ro X E0:=fun _ _ _ _ _ _ _ h=>h.elim
structure Fun(K:PySem.W.Frag)(x qual:Str)(st:Stmt)(f:Addr)(fd:FuncData):Prop where
 ex:∃(oc:Value) (od:Option Addr) (kV doc pm:Value) (an:Option Addr) (cdv ct:Value) (osl:Array (Option Value)),
  fd=PySem.W.fnOf x qual (YT st) (Z7 st) (Zk st) .none kV doc pm an cdv ct/\K.lookup f=some ⟨oc,od,.func fd,osl⟩/\PySem.W.codeIn K cdv qual=true
 kp:PySem.W.keepIn K (.ref f)=true
section
variable {P:Program} {w:World} {K:PySem.W.Frag} {mg:Str->Option Value} {base:Heap}
theorem Fun.ok{x qual:Str}{st:Stmt}{f:Addr}{fd:FuncData}{N ps:List Str}{k:Nat}{sp:Sp}(F:Fun K x qual st f fd)(S:Zz N ps (Zk st))(len:∀vs H Q E,sp vs H Q E->vs.length=ps.length)
  (hbody:∀(cdv:Value)(A:Around)(outer:List Env)(s:Shared)(H:Hp)(vs:List V)(Q:VK)(E:XK),Room k (A.deeper (envOfC qual (Zk st) s.heap.objs.size f cdv))->sp vs H Q E->
   ∃t,PSs (US Ro P w K mg base N qual (Zk st) f cdv A outer s H E).nox (Z7 st) t/\t { nx:=fun _ H'=>Q .non H',rt:=Q } (start N vs) H):WB P w K mg base Ro (k+1) f fd ps sp:=by
 obtain⟨oc,od,kV,doc,pm,an,cdv,ct,osl,rfl,lk,hcd⟩:=F.ex
 refine Ls lk hcd S len fun A outer s H vs Q E hr hsp=>?_
 obtain⟨t,h,q⟩:=hbody cdv A outer s H vs Q E hr hsp
 exact⟨t,h.nox,q⟩
theorem Fun.binds{x qual:Str}{st:Stmt}{f:Addr}{fd:FuncData}{ps:List Str}(F:Fun K x qual st f fd)
  (h:∀(kV doc pm:Value)(an:Option Addr)(cdv ct:Value)(us:List Value),us.length=ps.length->bindArgs (PySem.W.fnOf x qual (YT st) (Z7 st) (Zk st) .none kV doc pm an cdv ct) ⟨us,[]⟩=pure (ps.zip us)):Binds K fd ps []:=by
 obtain⟨oc,od,kV,doc,pm,an,cdv,ct,osl,rfl,lk,hcd⟩:=F.ex
 exact .all (h kV doc pm an cdv ct)
theorem Mr{x qual:Str}{st:Stmt}{f:Addr}{oc:Value}{od an:Option Addr}{osl:Array (Option Value)}{kV doc pm cdv ct:Value}(l:K.lookup f=some ⟨oc,od,.func (PySem.W.fnOf x qual (YT st) (Z7 st) (Zk st) .none kV doc pm an cdv ct),osl⟩)
  (c:PySem.W.codeIn K cdv qual=true) (k:PySem.W.keepIn K (.ref f)=true):Fun K x qual st f (PySem.W.fnOf x qual (YT st) (Z7 st) (Zk st) .none kV doc pm an cdv ct):=⟨⟨oc,od,kV,doc,pm,an,cdv,ct,osl,rfl,l,c⟩,k⟩
end
theorem W8{A:Around}{k:Nat}(hr:Room k A):A.units+1<cLine:=Nat.lt_of_le_of_lt (Nat.add_le_add_left (by decide:1<=64) _) hr.units
section
variable {X:Cx}
theorem pv(i:Nat){x:Str}{pos:Pos}(hN:X.N[i]?=some x:=by rfl)(hv:L8 X.env.scope x:=by first | exact Or.inl rfl | exact Or.inr (Or.inl rfl) | exact Or.inr (Or.inr rfl))(hd:(x==("__debug__" : Str))=false:=by decide)
  (hcd:(x==("__classdict__" : Str))=false:=by decide):PE X (.Name x pos) (Wu i):=NT hN hv hd hcd
end
theorem LC{A B:Prop}(h:B):if false=true then A else B:=by
 rw[if_neg Bool.false_ne_true];exact h
theorem LD{A B:Prop}(h:A):if true=true then A else B:=by
 rw[if_pos rfl];exact h
def Same(H H':Hp):Prop:=∀b o,H b=some o->H' b=some o
theorem Same.refl(H:Hp):Same H H:=fun _ _ h=>h
theorem Same.trans{H H1 H2:Hp}(a:Same H H1)(b:Same H1 H2):Same H H2:=fun c o h=>b c o (a c o h)
theorem Same.free{H H':Hp}(e:Same H H'){l:Addr}(h:H' l=Option.none):H l=Option.none:=by
 cases q:H l with
 | none=>rfl
 | some o=>
  rw[e l o q] at h;cases h
section
variable {κ:Type} [DecidableEq κ]
theorem UZ:∀{l:List κ}{k:κ},l.Nodup->¬k∈l->(l++[k]).Nodup
 | [],k,_,_=>by simp
 | a::r,k,h,hk=>by
  obtain⟨h1,h2⟩:=List.nodup_cons.mp h
  show(a::(r++[k])).Nodup
  refine List.nodup_cons.mpr ⟨fun m=>?_,UZ h2 fun m=>hk (List.mem_cons.mpr (Or.inr m))⟩
  rcases List.mem_append.mp m with q | q
  ·exact h1 q
  ·exact hk (List.mem_cons.mpr (Or.inl (List.mem_singleton.mp q).symm))
end
end L2
set_option maxHeartbeats 4000000
namespace L2
open PySem PySem.Spec PyProof.Rows
def ZZ(cells:List (Str×Addr)):List (Str×NameKind)->List (Str×Addr)->List (Str×Addr)
 | [],acc=>acc
 | (n,k)::r,acc=>ZZ cells r (if(k==NameKind.free)=true then(n,(cells.lookup n).getD 0)::acc else acc)
theorem XR{env:Env}:∀(names:List (Str×NameKind))(acc:List (Str×Addr)),(∀y∈names,y.2 = .free->(env.cells.lookup y.1).isSome=true)->
  (forIn (m:=Sem) names acc fun(x:Str×NameKind) (cs:List (Str×Addr))=>
   match x with
   | (name,kind)=>if(kind==NameKind.free)=true then do
     let c <-cellOf env name
     pure (ForInStep.yield ((name,c)::cs))
    else pure (ForInStep.yield cs))=pure (ZZ env.cells names acc)
 | [],acc,_=>rfl
 | (n,k)::r,acc,h=>by
  rw[List.forIn_cons]
  have ih:=fun acc'=>XR r acc' fun y hy=>h y (List.mem_cons_of_mem _ hy)
  cases hk:(k==NameKind.free) with
  | true=>
   have hs:=h (n,k) List.mem_cons_self (by simpa using hk)
   obtain⟨c,hc⟩:=Option.isSome_iff_exists.mp hs
   have hc:env.cells.lookup n=some c:=hc
   have e1:cellOf env n=pure c:=by unfold cellOf;rw[hc]
   dsimp only
   rw[hk,if_pos rfl,e1]
   refine Eq.trans (ih ((n,c)::acc)) ?_
   show _=pure (ZZ env.cells r (if(k==NameKind.free)=true then(n,(env.cells.lookup n).getD 0)::acc else acc))
   rw[if_pos hk,hc];rfl
  | false=>
   dsimp only
   rw[hk,if_neg Bool.false_ne_true]
   refine Eq.trans (ih acc) ?_
   show _=pure (ZZ env.cells r (if(k==NameKind.free)=true then(n,(env.cells.lookup n).getD 0)::acc else acc))
   rw[if_neg (by rw[hk];exact Bool.false_ne_true)]
theorem XU{scope:Scope}{env:Env}(h:∀y∈scope.names,y.2 = .free->(env.cells.lookup y.1).isSome=true):closureFor scope env=pure (ZZ env.cells scope.names []):=by
 have e:=XR (env:=env) scope.names [] h
 unfold closureFor
 dsimp only
 rw[e];rfl
theorem WE{cells:List (Str×Addr)}{x:Str}{c:Addr}:∀(names:List (Str×NameKind))(acc:List (Str×Addr)),(∀y∈names,y.2 = .free->(cells.lookup y.1).isSome=true)->(acc.lookup x=some c->cells.lookup x=some c)->
  (ZZ cells names acc).lookup x=some c->cells.lookup x=some c
 | [],_,_,h,e=>h e
 | (n,k)::r,acc,hf,h,e=>by
  refine WE r _ (fun y hy=>hf y (List.mem_cons_of_mem _ hy)) ?_ e
  intro q
  by_cases hk:(k==NameKind.free)=true
  ·rw[if_pos hk,List.lookup_cons] at q
   cases hx:x==n with
   | true=>
    rw[hx] at q
    have exn:x=n:=by simpa using hx
    obtain⟨d,hd⟩:=Option.isSome_iff_exists.mp (hf (n,k) List.mem_cons_self (by simpa using hk))
    have hd:cells.lookup n=some d:=hd
    rw[hd] at q
    rw[exn,hd];exact q
   | false=>rw[hx] at q;exact h q
  ·rw[if_neg hk] at q;exact h q
theorem Vx{cells:List (Str×Addr)}{x:Str}:∀(names:List (Str×NameKind))(acc:List (Str×Addr)),(acc.lookup x).isSome=true->((ZZ cells names acc).lookup x).isSome=true
 | [],_,h=>h
 | (n,k)::r,acc,h=>by
  refine Vx r _ ?_
  split
  ·rw[List.lookup_cons];split<;>simp_all
  ·exact h
theorem WF{cells:List (Str×Addr)}{x:Str}:∀(names:List (Str×NameKind))(acc:List (Str×Addr)),(x,NameKind.free)∈names->((ZZ cells names acc).lookup x).isSome=true
 | (n,k)::r,acc,h=>by
  rcases List.mem_cons.mp h with e | h
  ·cases e
   refine Vx r _ ?_
   rw[if_pos (by decide),List.lookup_cons]
   simp
  ·exact WF r _ h
structure CompScope(N:List Str)(around scope:Scope)(own fr:List Str)(ix:List Nat):Prop where
 kind:scope.kind = .function
 nocell:∀y∈scope.names,y.2≠.cell
 names:∀y∈scope.names,y.2 = .local->scope.names.lookup y.1=some .local
 frees:∀y∈scope.names,y.2 = .free->(around.names.lookup y.1=some .cell\/around.names.lookup y.1=some .free)
 slots:fr.map some=ix.map (fun i=>N[i]?)
 outs:∀x∈fr,(x,NameKind.free)∈scope.names
 apart:∀x∈fr,scope.names.lookup x≠some .local
def Zu(X:Cx)(N':List Str)(scope:Scope)(cl:List (Str×Addr))(C:Addr)(s:Shared)(H:Hp)(ex:List Addr):Cx:=
 { X with N:=N',s₀:=s,H₀:=H,env:=compEnvC scope cl C X.env,outer:=X.stack,ex:=ex,fn:=fun _=>false,pn:=[],xe:=fun _ _=>False }
def ZG(n:Nat)(ix:List Nat)(Z:St):St:=List.replicate n none++ix.map (fun i=>(Z[i]?).join)
theorem YD{env:Env}{x:Str}:∀{names:List (Str×NameKind)}{k:NameKind},names.lookup x=some k->
  (names.map fun(n,k)=>if(k==NameKind.free&&env.scope.kind==.function&&env.kindOf n==some .cell) then(n,NameKind.cell) else(n,k)).lookup x =
   some (if(k==NameKind.free&&env.scope.kind==.function&&env.kindOf x==some .cell)=true then NameKind.cell else k)
 | [],_,h=>by simp at h
 | (n,k')::r,k,h=>by
  show List.lookup x ((if(k'==NameKind.free&&env.scope.kind==.function&&env.kindOf n==some .cell)=true then(n,NameKind.cell) else(n,k'))::_)=_
  cases hx:x==n with
  | true=>
   simp only[List.lookup_cons,hx] at h;cases h
   have e:x=n:=by simpa using hx
   subst e
   split
   ·simp[List.lookup_cons]
   ·simp[List.lookup_cons]
  | false=>
   simp only[List.lookup_cons,hx] at h
   split
   ·simp only[List.lookup_cons,hx];exact YD h
   ·simp only[List.lookup_cons,hx];exact YD h
theorem Xd{env:Env}{x:Str}:∀{names:List (Str×NameKind)}{k':NameKind},
  (names.map fun(n,k)=>if(k==NameKind.free&&env.scope.kind==.function&&env.kindOf n==some .cell) then(n,NameKind.cell) else(n,k)).lookup x=some k'->∃k,names.lookup x=some k
 | [],_,h=>by simp at h
 | (n,k0)::r,k',h=>by
  have h:List.lookup x ((if(k0==NameKind.free&&env.scope.kind==.function&&env.kindOf n==some .cell)=true then(n,NameKind.cell) else(n,k0))::_)=some k':=h
  cases hx:x==n with
  | true=>exact⟨k0,by simp[List.lookup_cons,hx]⟩
  | false=>
   have:∃k,r.lookup x=some k:=by
    apply Xd (env:=env) (k':=k')
    split at h<;>simpa [List.lookup_cons,hx] using h
   obtain⟨k,e⟩:=this
   exact⟨k,by simp[List.lookup_cons,hx,e]⟩
section
variable {X:Cx} {pins:List (Addr×Obj)} {Z:St} {H:Hp} {s:Shared} {own fr:List Str} {ix:List Nat} {scope:Scope}
theorem CompScope.clos(S:CompScope X.N X.env.scope scope own fr ix)(I:Inv X pins Z H s):∀y∈scope.names,y.2 = .free->(X.env.cells.lookup y.1).isSome=true:=fun y hy hf=>by
 obtain⟨c,e⟩:=I.ok.has y.1 (S.frees y hy hf)
 rw[e];rfl
end
theorem U0{prog:Program}{w:World}{A:Around}{R:Result->Shared->Prop}{s:Shared}{elt target iter:Expr}{ifs:List Expr}{scope:Scope}{pos:Pos}{it acc:Value}{env:Env}(I:Nat->Shared->Prop)
  (turn:∀n s,I n s->wpAny (model prog w) A (pyNext it) (fun r s₁=>match r with
   | none=>R (.ok .next) s₁
   | some v=>wpAny (model prog w) A (letOwnedTupleGo target it v) (fun _ s₁'=>wpAny (model prog w) A (assign target env v) (fun _ s₂=>
     wpAny (model prog w) A (forIn ifs true fun c r=>if r=true then do let ok <-isTrue c env (eval c env);pure (ForInStep.yield ok) else pure (ForInStep.yield r)) (fun ok s₃=>
      if ok=true then wpAny (model prog w) A (eval elt env) (fun x s₄=>
       wpAny (model prog w) A (call (.builtin "list.append") [acc,x]) (fun _ s₅=>∃m,m<n/\I m s₅) (notedBy (model prog w) A env fun e s'=>R (.error e) s') s₄) (notedBy (model prog w) A env fun e s'=>R (.error e) s') s₃
      else ∃m,m<n/\I m s₃) (notedBy (model prog w) A env fun e s'=>R (.error e) s') s₂) (notedBy (model prog w) A env fun e s'=>R (.error e) s') s₁') (notedBy (model prog w) A env fun e s'=>R (.error e) s') s₁) (notedBy (model prog w) A env fun e s'=>R (.error e) s') s)
  (n:Nat) (h:I n s) :
  codeAny (model prog w) A (.compLoop (.ListComp elt [⟨target,iter,ifs,0⟩] scope pos) 0 it acc env) R s:=by
 refine codeAny_loop rfl I (fun n s hI=>?_) n h
 show wpAny _ A ((compTurn (.ListComp elt [⟨target,iter,ifs,0⟩] scope pos) 0 it acc env).onRaise (fun x=>do noteFrame x env;theTreesLotGoes x)) _ _ s
 refine wpAny_noted ?_
 rw[compTurn_list]
 refine wpAny_bind (wpAny_standAt (wpAny_bind (wpAny_mono (turn n s hI) (fun r s₁ h₁=>?_) fun _ _ h'=>h')))
 cases r with
 | none=>exact wpAny_pure h₁
 | some v=>
  refine wpAny_bind (wpAny_mono h₁ (fun _ s₁' h₁'=>?_) fun _ _ h'=>h')
  refine wpAny_bind (wpAny_mono h₁' (fun _ s₂ h₂=>wpAny_bind (wpAny_mono h₂ (fun ok s₃ h₃=>?_) fun _ _ h'=>h')) fun _ _ h'=>h')
  cases ok with
  | false=>exact wpAny_pure ⟨rfl,h₃⟩
  | true=>
   exact wpAny_bind (wpAny_bind (wpAny_mono h₃ (fun x s₄ h₄=>wpAny_bind (wpAny_mono h₄ (fun _ s₅ h₅=>wpAny_pure (wpAny_pure ⟨rfl,h₅⟩)) fun _ _ h'=>h')) fun _ _ h'=>h'))
def OI(X:Cx)(ifs:List Expr)(t:TT):Prop:=
 ∀(pins:List (Addr×Obj))(s:Shared)(Z:St)(H:Hp)(Q:Bool->Hp->Prop),Inv X pins Z H s->t Z H Q->
  wpAny (model X.prog X.w) X.A (forIn ifs true fun c r=>if r=true then do let ok <-isTrue c X.env (eval c X.env);pure (ForInStep.yield ok) else pure (ForInStep.yield r)) (TP X pins Z Q) X.xe s
def LE:TT:=fun _ H Q=>Q true H
theorem OJ{X:Cx}:OI X [] LE:=fun _ _ _ H _ I h=>wpAny_tests_nil ⟨H,I,h⟩
def LF(n:Nat)(ix:List Nat)(g:TG)(tt:TT)(te:TE)(Z:St)(Q:VK)(J:It)(H1:Hp):Prop:=
 ∃W:Nat->Nat->List V->Hp->Prop,(∃m,W 0 m [] H1)/\∀i m ys H,W i m ys H->ys.length<=sizeLine/\
  ((J.stop i H/\∀p,H p=none->Q (.ref p) (upd H p (.lst ys)))\/
   (J.go i H/\∃N:List V->Hp->Prop,(∀ys' H',N ys' H'->∃m',m'<m/\W (i+1) m' ys' H')/\
    ∀x H',J.yld i H x H'->g x (ZG n ix Z) H' fun Z2 H2=>Z2.drop n=(ZG n ix Z).drop n/\tt Z2 H2 fun b H3=>if b=true then te Z2 H3 fun y H4=>N (ys++[y]) H4 else N ys H3))
def Uw(n:Nat)(ix:List Nat)(wi:TI)(g:TG)(tt:TT)(te:TE):TE:=fun Z H Q=>wi Z H fun J H1=>LF n ix g tt te Z Q J H1
theorem Qj{n:Nat}{ix:List Nat}{Z Z2:St}(hd:Z2.drop n=(ZG n ix Z).drop n):∀(i:Nat) v,(ZG n ix Z)[i]?=some (some v)->Z2[i]?=some (some v):=fun i v e=>by
 by_cases hi:i<n
 ·unfold ZG at e
  rw[List.getElem?_append_left (by simpa using hi),List.getElem?_replicate] at e
  rw[if_pos hi] at e;cases e
 ·have q:=congrArg (fun l=>l[i-n]?) hd
  simp only[List.getElem?_drop] at q;rw[show n+(i-n)=i by omega] at q
  rw[q];exact e
section
variable {X:Cx} {tg elt iter:Expr} {ifs:List Expr} {scope:Scope} {pos:Pos} {own fr:List Str} {ix:List Nat} {wi:TI} {g:TG} {tt:TT} {te:TE}
theorem Q5{pins:List (Addr×Obj)}{Z:St}{H2:Hp}{s2:Shared}{fp:List Addr}{h₁:Heap}{tk:Nat}{C:Addr}(S:CompScope X.N X.env.scope scope own fr ix)(I2:Inv X pins Z H2 s2)(f2:∀b∈fp,Vd X pins H2 b)(hfp:∀b∈fp,b<s2.heap.objs.size)
  (hC:s2.heap.objs.size<=C) (hns:h₁.Ns C fun _=>none) (old:∀b o,s2.heap.get? b=some o->h₁.get? b=some o) :
  Inv (Zu X (own++fr) scope (ZZ X.env.cells scope.names []) C s2 H2 fp) [] (ZG own.length ix Z) H2 { s2 with heap:=h₁,toks:=tk }:=by
 have cs:=S.clos I2
 have sub:∀x c,(ZZ X.env.cells scope.names []).lookup x=some c->X.env.cells.lookup x=some c:=fun x c e=>WE scope.names [] cs (fun h=>by simp at h) e
 have stk:=I2.stkSub
 have okk:(Zu X (own++fr) scope (ZZ X.env.cells scope.names []) C s2 H2 fp).Ok:=by
  refine⟨I2.ok.mod,S.kind,I2.ok.glob,I2.ok.blt,hC,fun x y c h1 h2=>I2.ok.inj x y c (sub x c h1) (sub y c h2),fun x hx=>?_,fun x c h _=>?_,I2.ok.hd,I2.ok.frames,.inl rfl,fun b hb=>⟨?_,fun x c e=>?_⟩,I2.bs,?_,fun b o e hb=>?_,fun b hb z=>?_,I2.stack,I2.stkFree⟩
  ·-- the cells of the block's free names
   have hx:(relabel scope X.env).names.lookup x=some .cell\/(relabel scope X.env).names.lookup x=some .free:=hx
   have key:(x,NameKind.free)∈scope.names:=by
    have:∃k',(relabel scope X.env).names.lookup x=some k'/\(k' = .cell\/k' = .free):=by
     rcases hx with h | h
     ·exact⟨_,h,.inl rfl⟩
     ·exact⟨_,h,.inr rfl⟩
    obtain⟨k',e,hk'⟩:=this
    obtain⟨k,e0⟩:=Xd e
    have e1:=YD (env:=X.env) e0
    have e:(scope.names.map fun(n,k)=>if(k==NameKind.free&&X.env.scope.kind==.function&&X.env.kindOf n==some .cell) then(n,NameKind.cell) else(n,k)).lookup x=some k':=e
    rw[e1] at e;have m:=PySem.mem_of_lookup e0
    cases k with
    | free=>exact m
    | cell=>exact absurd rfl (S.nocell _ m)
    | _=>simp at e;subst e;rcases hk' with z | z<;>cases z
   exact Option.isSome_iff_exists.mp (WF _ _ key)
  ·cases h
  ·-- fp differs from the frame
   exact Nat.ne_of_lt (Nat.lt_of_lt_of_le (hfp b hb) hC)
  ·exact(f2 b hb).2.2.2.2.1 x c (sub x c e)
  ·exact Nat.le_trans I2.ok.bsz I2.sz
  ·rcases(f2 b hb).2.2.2.1 with z | z
   ·exact I2.ok.noex b o e z
   ·exact absurd (Nat.lt_of_lt_of_le (Heap.lt_size (I2.ok.bs b o e).1) z) (Nat.lt_irrefl _)
  ·rcases List.mem_cons.mp (stk b z) with e | e
   ·exact(f2 b hb).2.1 e
   ·exact(f2 b hb).2.2.1 e
 have sl:fr.length=ix.length:=by simpa using congrArg List.length S.slots
 refine⟨okk,rfl,I2.bare,Un.kept old,⟨_,hns,fun i x v h1 h2 h3=>?_⟩,fun x c e=>?_,I2.hok.fresh hC,fun x c e=>I2.freeC x c (sub x c e),fun p hp=>absurd (show p∈([]:List (Addr×Obj)) from hp) (by simp),I2.hok.kept old,?_⟩
 ·-- a name of the def around
  have h1:(own++fr)[i]?=some x:=h1
  have hi:¬i<own.length:=fun hi=>by
   unfold ZG at h2;rw[List.getElem?_append_left (by simpa using hi),List.getElem?_replicate,if_pos hi] at h2;cases h2
  rw[List.getElem?_append_right (by omega)] at h1;unfold ZG at h2;rw[List.getElem?_append_right (by simpa using hi),List.length_replicate,List.getElem?_map] at h2
  cases ej:ix[i-own.length]? with
  | none=>rw[ej] at h2;cases h2
  | some j=>
   rw[ej] at h2
   have h2:(Z[j]?).join=some v:=by simpa using h2
   have h2:Z[j]?=some (some v):=by
    cases q:Z[j]? with
    | none=>rw[q] at h2;cases h2
    | some z=>rw[q] at h2;exact congrArg some h2
   have hN:X.N[j]?=some x:=by
    have q:=congrArg (fun l=>l[i-own.length]?) S.slots
    simp only[List.getElem?_map,h1,ej,Option.map_some] at q
    exact(Option.some.inj q).symm
   have hm:=S.outs x (List.mem_of_getElem? h1)
   have hk:=S.frees _ hm rfl
   have hk:X.env.scope.names.lookup x=some .cell\/X.env.scope.names.lookup x=some .free:=hk
   obtain⟨m,hn,hl⟩:=I2.loc
   obtain⟨u,r,l⟩:=hl j x v hN h2 (by rcases hk with k | k;exact .inr (.inl k);exact .inr (.inr k))
   refine⟨u,r,?_⟩
   rcases l with⟨k,_⟩ | ⟨_,c,hc,hcell⟩
   ·have k:X.env.scope.names.lookup x=some .local:=k
    rcases hk with q | q<;>rw[k] at q<;>cases q
   ·obtain⟨c',hc'⟩:=Option.isSome_iff_exists.mp (WF (cells:=X.env.cells) _ [] hm)
    have ec:=sub x c' hc'
    rw[hc] at ec;cases ec
    refine .inr ⟨?_,c,hc',?_⟩
    ·have h3:(relabel scope X.env).names.lookup x=some .local\/(relabel scope X.env).names.lookup x=some .cell\/(relabel scope X.env).names.lookup x=some .free:=h3
     rcases h3 with h3 | h3
     ·obtain⟨k0,e0⟩:=Xd h3
      have e1:=YD (env:=X.env) e0
      have h3:(scope.names.map fun(n,k)=>if(k==NameKind.free&&X.env.scope.kind==.function&&X.env.kindOf n==some .cell) then(n,NameKind.cell) else(n,k)).lookup x=some .local:=h3
      rw[e1] at h3
      have k0l:k0 = .local:=by
       cases k0<;>simp at h3 ⊢
       split at h3<;>cases h3
      subst k0l
      exact absurd e0 (S.apart x (List.mem_of_getElem? h1))
     ·exact h3
    ·obtain⟨o,ho,hd⟩:=hcell
     exact⟨o,old _ _ ho,hd⟩
 ·obtain⟨v,o,ho,hd⟩:=I2.cell x c (sub x c e)
  exact⟨v,o,old _ _ ho,hd⟩
 ·show(ZG own.length ix Z).length=(own++fr).length
  unfold ZG;rw[List.length_append,List.length_replicate,List.length_map,List.length_append,sl]
theorem Vy{pins:List (Addr×Obj)}{Z:St}{H2:Hp}{s2:Shared}{fp:List Addr}{it:Addr}{tn:Nat->Heap->Prop}{J:It}{Fin:List V->Hp->Prop}{RR:Value->Addr->Result->Shared->Prop}{E:Value->Shared->Prop}
  (hcalm:X.calm=true) (S:CompScope X.N X.env.scope scope own fr ix)
  (hg:∀cl C s H ex,PG (Zu X (own++fr) scope cl C s H ex) tg g) (ht:∀cl C s H ex,OI (Zu X (own++fr) scope cl C s H ex) ifs tt) (he:∀cl C s H ex,PE (Zu X (own++fr) scope cl C s H ex) elt te)
  (I2:Inv X pins Z H2 s2) (T:Sh X.prog X.w X.K tg J fp it tn) (st2:tn 0 s2.heap) (f2:∀b∈fp,Vd X pins H2 b)
  {W:Nat->Nat->List V->Hp->Prop} {m0:Nat} (w0:W 0 m0 [] H2)
  (turn:∀i m ys H,W i m ys H->ys.length<=sizeLine/\
   ((J.stop i H/\Fin ys H)\/
    (J.go i H/\∃N:List V->Hp->Prop,(∀ys' H',N ys' H'->∃m',m'<m/\W (i+1) m' ys' H')/\
     ∀x H',J.yld i H x H'->g x (ZG own.length ix Z) H' fun Z2 H2=>Z2.drop own.length=(ZG own.length ix Z).drop own.length/\tt Z2 H2 fun b H3=>if b=true then te Z2 H3 fun y H4=>N (ys++[y]) H4 else N ys H3)))
  (hRR:∀(D C:Addr)(oC:Obj)(m:Str->Option Value)(s':Shared)(H':Hp)(ys:List V),Inv X (pins++[(C,oC)]) Z (upd H' D (.lst ys)) s'->s'.heap.get? C=some oC->s'.heap.Ns C m->Vd X pins (upd H' D (.lst ys)) C->H' D=none->Fin ys H'->RR (.ref D) C (.ok .next) s') :
  wpAny (model X.prog X.w) X.A (newList []) (fun acc s₃=>wpAny (model X.prog X.w) X.A (newFunctionEnv scope X.env.globals (ZZ X.env.cells scope.names []) [] X.env.qual none .none (some X.env)) (fun cenv s₄=>
   codeAny (model X.prog X.w) X.A (.compStart (.ListComp elt [⟨tg,iter,ifs,0⟩] scope pos) 0 (.ref it) acc { cenv with scope:=relabel scope X.env }) (RR acc cenv.locals) s₄) E s₃) E s2:=by
 have hfp:∀b∈fp,b<s2.heap.objs.size:=fun b hb=>by
  obtain⟨o,e,_⟩:=T.obj 0 s2.heap st2 b hb
  exact Heap.lt_size e
 refine wpAny_newObj_type (wpAny_newFunctionEnv S.nocell (by intro y hy;simp at hy) (fun h₁ hns₁ hsb₁=>?_) S.kind)
 dsimp only at hns₁ hsb₁ ⊢
 generalize hH2:s2.heap.push { cls:=.type "list",dict:=none,data:=.seq ([]:List Value).toArray }=G2 at hns₁ hsb₁ ⊢
 have hC:G2.objs.size=s2.heap.objs.size+1:=by rw[<-hH2,Heap.size_push]
 generalize hCC:G2.objs.size=C at hns₁ hsb₁ hC ⊢
 generalize hDD:s2.heap.objs.size=D at hC ⊢
 have hDC:D≠C:=by omega
 have below:∀b,b<s2.heap.objs.size->b≠C/\b≠D:=fun b hb=>by
  rw[hDD] at hb
  exact⟨Nat.ne_of_lt (by omega),Nat.ne_of_lt hb⟩
 have old:∀b o,s2.heap.get? b=some o->h₁.get? b=some o:=fun b o e=>hsb₁.extBut b o (below b (Heap.lt_size e)).1 (Heap.get?_push_of_some _ (hH2▸Heap.get?_push_of_some _ e))
 have hacc:h₁.get? D=some { cls:=.type "list",data:=.seq ([]:List Value).toArray 0 }:=by
  have e0:G2.get? D=some { cls:=.type "list",data:=.seq ([]:List Value).toArray 0 }:=by
   rw[<-hH2,<-hDD]
   exact Heap.get?_push_size _ rfl
  exact hsb₁.extBut _ _ hDC (Heap.get?_push_of_some _ e0)
 have hns₁':h₁.Ns C fun _=>none:=by simpa using hns₁
 have I0:=fun tk=>Q5 (tk:=tk) S I2 f2 hfp (C:=C) (by omega) hns₁' old
 -- what stays true of the iterator's objects in the block
 have loop:∀s₃:Shared,s₃={ s2 with heap:=h₁,toks:=s2.toks+([]:List (Str×Value)).length }->
   codeAny (model X.prog X.w) X.A (.compLoop (.ListComp elt [⟨tg,iter,ifs,0⟩] scope pos) 0 (.ref it) (.ref D) (compEnvC scope (ZZ X.env.cells scope.names []) C X.env)) (RR (.ref D) C) s₃:=by
  rintro s₃ rfl
  generalize hY:Zu X (own++fr) scope (ZZ X.env.cells scope.names []) C s2 H2 fp=Y at I0
  have stat:∀{H':Hp}{pn:List (Addr×Obj)},(∀b∈fp,H' b=none)->(∀p∈pn,∀b∈fp,p.1≠b)->∀b∈fp,Vd Y pn H' b:=fun{H' pn} hn hp b hb=>by
   subst hY
   refine⟨hn b hb,(below b (hfp b hb)).1,fun z=>?_,.inl hb,fun x c e=>?_,fun p hp'=>hp p hp' b hb⟩
   ·exact(I0 0).ok.exfs b hb z
   ·exact((I0 0).ok.exf b hb).2 x c e
  have dfp:∀b∈fp,D≠b:=fun b hb=>Ne.symm (below b (hfp b hb)).2
  have hcellD:∀x c,Y.env.cells.lookup x=some c->c≠D:=fun x c e z=>by
   subst hY
   have e:(ZZ X.env.cells scope.names []).lookup x=some c:=e
   have e':=WE scope.names [] (S.clos I2) (fun h=>by simp at h) e
   obtain⟨v,q⟩:=I2.cell x c e'
   exact(below c q.lt).2 z
  have hfsD:D∉Y.fs:=fun z=>by
   subst hY
   obtain⟨_,o,ho,_⟩:=(I0 0).ok.funs.mem z
   have:=Heap.lt_size ho
   have:D<s2.heap.objs.size:=this
   omega
  have eL:Y.env.locals=C:=by subst hY;rfl
  have eS:Y.s₀=s2:=by subst hY;rfl
  have eP:Y.pn=[]:=by subst hY;rfl
  refine U0 (fun n s'=>∃i ys its nn H',Inv Y [] (ZG own.length ix Z) H' s'/\tn i s'.heap/\(∀b∈fp,H' b=none)/\s'.heap.get? D=some { cls:=.type "list",data:=.seq its nn }/\Vals ys its.toList/\H' D=none/\W i n ys H') ?_ m0
   ⟨0,[],#[],0,H2,I0 _,T.keep _ _ _ st2 fun b _ o e=>old b o e,fun b hb=>(f2 b hb).1,hacc,.nil,I2.hok.fresh (by omega),w0⟩
  rintro n s3 ⟨i,ys,its,nn,H3,I3,st3,fr3,oD,vD,nD,w3⟩
  obtain⟨hlen,cases3⟩:=turn i n ys H3 w3
  have hsize:its.size<=sizeLine:=by
   have:=vD.length
   simp only[Array.length_toList] at this;omega
  have pD:Inv Y [(D,{ cls:=.type "list",data:=.seq its nn })] (ZG own.length ix Z) H3 s3:=I3.pins_of fun p hp=>by
   rw[List.mem_singleton.mp hp]
   exact⟨oD,nD,by rw[eL];exact hDC,hfsD,fun v z=>by cases z⟩
  have YP:Y.prog=X.prog:=by subst hY;rfl
  have Yw:Y.w=X.w:=by subst hY;rfl
  have YK:Y.K=X.K:=by subst hY;rfl
  have YA:Y.A=X.A:=by subst hY;rfl
  have Yx:Y.xe=fun _ _=>False:=by subst hY;rfl
  have Ye:Y.env=compEnvC scope (ZZ X.env.cells scope.names []) C X.env:=by subst hY;rfl
  have ne1:∀p∈[((D,{ cls:=.type "list",data:=.seq its nn }):Addr×Obj)],∀b∈fp,p.1≠b:=fun p hp b hb=>by rw[List.mem_singleton.mp hp];exact dfp b hb
  rcases cases3 with⟨stop,qn⟩ | ⟨go,N,hN,step⟩
  ·have d:=T.done Y YP Yw YK (by subst hY;exact hcalm) i _ s3 _ H3 (notedBy (model X.prog X.w) X.A (compEnvC scope (ZZ X.env.cells scope.names []) C X.env) fun e s'=>RR (.ref D) C (.error e) s') pD (stat fr3 ne1) st3 stop
   rw[YA] at d
   refine ZV d fun r s4 ⟨hr,I4⟩=>?_
   subst hr
   show RR (.ref D) C (.ok .next) s4
   obtain⟨oD4,nD4,_⟩:=I4.pin (D,_) (by rw[eP];exact List.mem_cons_self)
   obtain⟨m,hn,_⟩:=I4.loc
   rw[eL] at hn
   obtain⟨oC,es,ep,hoC,hdC,hrest⟩:=id hn
   have hfreeC:H3 C=none:=by have:=I4.free;rw[eL] at this;exact this
   have un:Un (Rb X.stack) fp H2 H3 s2.heap s4.heap:=by
    have:=I4.base
    subst hY;exact this
   have lt2:∀b o,s2.heap.get? b=some o->b≠D:=fun b o e=>(below b (Heap.lt_size e)).2
   have un':Un (Rb X.stack) fp H2 (upd H3 D (.lst ys)) s2.heap s4.heap:=by
    refine⟨un.keep,un.slot,fun b o e n hx=>?_,un.there,fun b xs e=>?_,fun b o u e=>?_,fun b ps e=>?_⟩
    ·rw[upd_ne (lt2 b o e)];exact un.free b o e n hx
    ·have q:=un.tups b xs e
     rw[upd_ne (Zq q nD4)];exact q
    ·have q:=un.frzs b o u e
     rw[upd_ne (Zq q nD4)];exact q
    ·obtain⟨more,q⟩:=un.tbls b ps e
     exact⟨more,by rw[upd_ne (Zq q nD4)];exact q⟩
   have hok4:HOk X.prog X.w H3 s4.heap:=by
    have:=I4.hok
    rw[YP,Yw] at this;exact this
   have hok':HOk X.prog X.w (upd H3 D (.lst ys)) s4.heap:=fun b u q=>by
    by_cases hb:b=D
    ·subst hb
     rw[upd_same] at q;cases q
     exact⟨hlen,its.toList,nn,vD,by simpa using oD4⟩
    ·rw[upd_ne hb] at q
     exact(hok4 b u q).stay (fun c v _ z=>z) (fun c z=>by rw[upd_ne (Zq z nD4)];exact z) fun c xs z=>by rw[upd_ne (Zq z nD4)];exact z
   have os4:s4.os=s2.os:=by rw[I4.os,eS]
   have I5:Inv X pins Z (upd H3 D (.lst ys)) s4:=I2.call' os4 un' hok' I4.bare fun b hb=>⟨(f2 b hb).2.2.2.1,(f2 b hb).2.1,(f2 b hb).2.2.2.2.1,(f2 b hb).2.2.2.2.2⟩
   have CL:C≠X.env.locals:=fun z=>by
    exact(below _ I2.lt).1 z.symm
   have fpC:Vd X pins (upd H3 D (.lst ys)) C:=I2.fpOk (by omega) (by rw[upd_ne (Ne.symm hDC)];exact hfreeC)
   refine hRR D C oC m s4 H3 ys (I5.pins_of fun p hp=>?_) hoC hn fpC nD4 qn
   rcases List.mem_append.mp hp with z | z
   ·exact I5.pin p (List.mem_append_right _ z)
   ·rw[List.mem_singleton.mp z]
    exact⟨hoC,fpC.1,fpC.2.1,fpC.2.2.1,fun v z=>by rw[hdC] at z;cases z⟩
  ·have d:=T.item Y YP Yw YK (by subst hY;exact hcalm) i _ s3 _ H3 (fun _ _=>False) pD (stat fr3 ne1) st3 go
   rw[YA] at d
   refine wpAny_mono d (fun r s4 ⟨u,hr,h4⟩=>?_) fun _ _ z=>z.elim
   subst hr
   refine wpAny_mono h4 (fun _ s5 ⟨x,H5,I5,r5,y5,st5,fr5⟩=>?_) fun _ _ z=>z.elim
   have I5':=I5.pinned (stat fr5 ne1) (T.obj _ _ st5)
   have hg':=hg (ZZ X.env.cells scope.names []) C s2 H2 fp
   have ht':=ht (ZZ X.env.cells scope.names []) C s2 H2 fp
   have he':=he (ZZ X.env.cells scope.names []) C s2 H2 fp
   rw[hY] at hg' ht' he'
   have a6:=hg' _ s5 _ H5 x u _ I5' r5 (step x H5 y5)
   rw[YP,Yw,YA,Ye,Yx] at a6
   refine wpAny_mono a6 (fun _ s6 ⟨Z6,H6,I6,dr,q6⟩=>?_) fun _ _ z=>z.elim
   have a7:=ht' _ s6 Z6 H6 _ I6 q6;rw[YP,Yw,YA,Ye,Yx] at a7
   refine wpAny_mono a7 (fun ok s7 ⟨H7,I7,q7⟩=>?_) fun _ _ z=>z.elim
   have back:∀{H8:Hp}{s8:Shared},Inv Y ([((D,{ cls:=.type "list",data:=.seq its nn }):Addr×Obj)]++Ww fp s5.heap) Z6 H8 s8->
     s8.heap.get? D=some { cls:=.type "list",data:=.seq its nn }/\H8 D=none/\tn (i+1) s8.heap/\(∀b∈fp,H8 b=none):=fun{H8 s8} I8=>by
    obtain⟨e1,e2,_⟩:=I8.pin (D,{ cls:=.type "list",data:=.seq its nn }) (by rw[eP];exact List.mem_cons_self)
    refine⟨e1,e2,T.keep _ _ _ st5 fun b hb o e=>(I8.pin (b,o) (by rw[eP];exact List.mem_cons_of_mem _ (Xc hb e))).1,fun b hb=>?_⟩
    obtain⟨o,e,_⟩:=T.obj _ _ st5 b hb
    exact(I8.pin (b,o) (by rw[eP];exact List.mem_cons_of_mem _ (Xc hb e))).2.1
   have unp:∀{H8:Hp}{s8:Shared},Inv Y ([((D,{ cls:=.type "list",data:=.seq its nn }):Addr×Obj)]++Ww fp s5.heap) Z6 H8 s8->Inv Y [] (ZG own.length ix Z) H8 s8:=fun{H8 s8} I8=>
    (I8.pins_of (pins':=[]) fun p hp=>absurd hp (by simp)).weak (by
     have e1:=(I0 0).len
     have e2:=I8.len
     rw[e1,e2]) (Qj dr)
   cases ok with
   | false=>
    rw[if_neg Bool.false_ne_true] at q7
    show ∃m,m<n/\_
    obtain⟨e1,e2,e3,e4⟩:=back I7
    obtain⟨m',hm,w7⟩:=hN _ _ q7
    exact⟨m',hm,i+1,ys,its,nn,H7,unp I7,e3,e4,e1,vD,e2,w7⟩
   | true=>
    rw[if_pos rfl] at q7
    show wpAny _ _ _ _ _ _
    have a8:=he' _ s7 Z6 H7 _ I7 q7;rw[YP,Yw,YA,Ye,Yx] at a8
    refine wpAny_mono a8 (fun yv s8 ⟨y,H8,I8,ry,q8⟩=>?_) fun _ _ z=>z.elim
    obtain⟨e1,e2,e3,e4⟩:=back I8
    obtain⟨m',hm,w8⟩:=hN _ _ q8
    refine append_at e1 (fun h9 hs9 hD9=>?_) hsize
    have I9:Inv Y [] (ZG own.length ix Z) H8 { s8 with heap:=h9 }:=(unp I8).turned (t':=s8.toks) (it:=D) (fun b o hb e=>hs9.extBut b o hb e) e2 (by rw[eL];exact hDC) (.inr (by rw[eS];omega)) hcellD (fun p hp=>absurd (show p∈([]:List (Addr×Obj)) by rw[eP] at hp;exact hp) (by simp))
    refine⟨m',hm,i+1,ys++[y],its.push yv,nn+1,H8,I9,T.keep _ _ _ e3 fun b hb o e=>hs9.extBut b o (Ne.symm (dfp b hb)) e,e4,hD9,?_,e2,w8⟩
    rw[Array.toList_push]
    exact vD.append (.cons ry .nil)
 exact codeAny_compStart_list (loop _ rfl) (T.self X.A 0 _ _ _ (T.keep _ _ _ st2 fun b _ o e=>old b o e) (loop _ rfl))
theorem OK(hcalm:X.calm=true)(hi:PI X tg iter wi)(S:CompScope X.N X.env.scope scope own fr ix)
  (hg:∀cl C s H ex,PG (Zu X (own++fr) scope cl C s H ex) tg g) (ht:∀cl C s H ex,OI (Zu X (own++fr) scope cl C s H ex) ifs tt) (he:∀cl C s H ex,PE (Zu X (own++fr) scope cl C s H ex) elt te)
  (hs:∀x,foldedSetIterable iter X.env x=pure x:=by intro _;rfl):PE X (.ListComp elt [⟨tg,iter,ifs,0⟩] scope pos) (Uw own.length ix wi g tt te):=by
 intro pins s Z H Q I h;rw[eval_ListComp]
 refine wpAny_comprehension_free (use:=none) (cl:=ZZ X.env.cells scope.names []) rfl hs (XU (S.clos I)) S.kind S.names (ZV (hi pins s Z H _ I h) fun v s1 h1=>ZV h1 fun itv s2 h2=>?_)
 obtain⟨it,fp,tn,J,H2,e,I2,T,st2,f2,W,⟨m0,w0⟩,turn⟩:=h2
 subst e
 refine Vy (Fin:=fun ys H=>∀p,H p=none->Q (.ref p) (upd H p (.lst ys))) (RR:=fun acc C=>compPost (model X.prog X.w) X.A X.xe none (EP X pins Z Q) acc C) hcalm S hg ht he I2 T st2 f2 w0 turn ?_
 intro D C oC m s' H' ys I5 hoC hn fpC nD fin
 refine⟨m,hn,fun h' hs'=>⟨.ref D,upd H' D (.lst ys),?_,rfl,fin D nD⟩⟩
 exact(I5.unpinned (pl:=[(C,oC)])).turned (t':=s'.toks) (it:=C) (fun b o hb e=>hs'.extBut b o hb e) fpC.1 fpC.2.1 fpC.2.2.2.1 fpC.2.2.2.2.1 fpC.2.2.2.2.2
theorem OL{i:Nat}{y:Str}{py spos:Pos}(hN:X.N.Nodup)(hy:X.N[i]?=some y)(hloc:X.env.scope.names.lookup y=some .local)(hcalm:X.calm=true)(hi:PI X tg iter wi)(S:CompScope X.N X.env.scope scope own fr ix)
  (hg:∀cl C s H ex,PG (Zu X (own++fr) scope cl C s H ex) tg g) (ht:∀cl C s H ex,OI (Zu X (own++fr) scope cl C s H ex) ifs tt) (he:∀cl C s H ex,PE (Zu X (own++fr) scope cl C s H ex) elt te)
  (hsw:swapsWith (.ListComp elt [⟨tg,iter,ifs,0⟩] scope pos) (some (.Name y py)) spos.line X.env=pure true:=by rfl)
  (hs:∀x,foldedSetIterable iter X.env x=pure x:=by intro _;rfl):PS X (.Assign [.Name y py] (.ListComp elt [⟨tg,iter,ifs,0⟩] scope pos) spos) (Sf (Uw own.length ix wi g tt te) (W5 i)):=by
 intro pins s Z H D0 I h;rw[exec_Assign_Name_used _ _ _ _ hsw]
 refine wpAny_bind (wpAny_standAt (wpAny_bind ?_))
 show wpAny _ X.A (do let _ <-comprehension (.ListComp elt [⟨tg,iter,ifs,0⟩] scope pos) scope X.env _ (newList []) false (eval iter X.env) (some (assign (.Name y py) X.env))) _ _ s
 refine wpAny_bind (wpAny_mono (wpAny_comprehension_free (cl:=ZZ X.env.cells scope.names []) (use:=some (assign (.Name y py) X.env)) (Q:=fun _ s'=>SP X pins D0 .next s') (E:=X.xe) rfl hs (XU (S.clos I)) S.kind S.names
  (ZV (hi pins s Z H _ I h) fun v s1 h1=>ZV h1 fun itv s2 h2=>?_)) (fun _ s' hq=>wpAny_pure (wpAny_pure hq)) fun _ _ e=>e)
 obtain⟨it,fp,tn,J,H2,e,I2,T,st2,f2,W,⟨m0,w0⟩,turn⟩:=h2
 subst e
 refine Vy (Fin:=fun ys H=>∀p,H p=none->W5 i (.ref p) Z (upd H p (.lst ys)) D0.nx) (RR:=fun acc C=>compPost (model X.prog X.w) X.A X.xe (some (assign (.Name y py) X.env)) (fun _ s'=>SP X pins D0 .next s') acc C) hcalm S hg ht he I2 T st2 f2 w0 turn ?_
 intro D C oC m s' H' ys I5 hoC hn fpC nD fin
 show wpAny _ X.A (assign (.Name y py) X.env (.ref D)) _ _ _
 refine wpAny_assign_Name (Vq I5 hN hy (.inl hloc) (v:=.ref D) rfl (fun s6 I6=>?_) (.inr hloc))
 obtain⟨e6,_⟩:=I6.pin (C,oC) (List.mem_append_right _ (List.mem_append_right _ List.mem_cons_self))
 obtain⟨o',es,ep,ho',r'⟩:=hn
 rw[hoC] at ho';cases ho'
 refine⟨m,⟨oC,es,ep,e6,r'⟩,fun h' hs'=>⟨_,upd H' D (.lst ys),?_,fin D nD⟩⟩
 exact(I6.unpinned (pl:=[(C,oC)])).turned (t':=s6.toks) (it:=C) (fun b o hb e=>hs'.extBut b o hb e) fpC.1 fpC.2.1 fpC.2.2.2.1 fpC.2.2.2.2.1 fpC.2.2.2.2.2
end
open AutoSeq1 (wpAny_loadPart')
section
variable {prog:Program} {w:World} {A:Around} {E:Value->Shared->Prop} {s:Shared}
theorem X6{it l:Addr}{i:Nat}{items}{x:Value}{Q:Value->Shared->Prop}(hit:s.heap.IsTupleIter it l i)
  (hl:s.heap.IsTuple l items) (hx:items[i]?=some x)
  (hQ:∀h',h'.IsTupleIter it l (i+1)->Heap.SameBut it s.heap h'->Q x { s with heap:=h' }) :
  wpAny (model prog w) A (Builtin.SmallTypes.nextOf (.ref it)) Q E s:=by
 obtain⟨o,ho,hc,hd⟩:=id hit
 obtain⟨ol,hol,_,nl,hdl⟩:=hl
 unfold Builtin.SmallTypes.nextOf
 refine wpAny_bind (wpAny_callSpecial?_slot (name:=Str.ofString "__next__") hit.typeIs F.slot_tuple_iterator_next
  (wpAny_call_entry F.slot_tuple_iterator_next hit.typeIs F.entry_tuple_iterator_next ?_ (F.args_tuple_iterator_next_1 _)))
 show wpAny _ _ (field (.ref it) 0 >>= _) _ _ s
 refine wpAny_bind (wpAny_field ho hd (x:=.ref l) rfl ?_)
 show wpAny _ _ (if(Value.ref l==Value.none)=true then _ else _) _ _ s
 rw[if_neg (show ¬((Value.ref l==Value.none)=true) from Bool.false_ne_true)]
 show wpAny _ _ (field (.ref it) 1 >>= _) _ _ s
 refine wpAny_bind (wpAny_field ho hd (x:=.int i 0) rfl ?_)
 show wpAny _ _ (seqItems? (.ref l) >>= _) _ _ s
 refine wpAny_bind (wpAny_seqItems hol hdl ?_)
 simp only[Int.toNat_natCast,hx]
 refine wpAny_bind (wpAny_setField ho hd (by simp) (wpAny_pure ⟨x,rfl,wpAny_pure (hQ _ ?_ (Heap.SameBut.update ..))⟩))
 exact⟨_,Heap.get?_update_self _ ho (Obj.isFreed_of_fields (Obj.data_mapFields hd _)),(Obj.cls_mapFields ..).trans hc,by
  rw[Obj.data_mapFields hd];simp[rawInt]⟩
theorem WG{it l:Addr}{i:Nat}{items}{Q:Value->Shared->Prop}(hh:A.handled=none)
  (hit:s.heap.IsTupleIter it l i) (hl:s.heap.IsTuple l items) (hx:items[i]?=none)
  (hE:∀h' e,Heap.ExtBut it s.heap h'->(∃o,h'.get? e=some o/\o.cls = .type "StopIteration")->E (.ref e) { s with heap:=h' }) :
  wpAny (model prog w) A (Builtin.SmallTypes.nextOf (.ref it)) Q E s:=by
 obtain⟨o,ho,hc,hd⟩:=id hit
 obtain⟨ol,hol,_,nl,hdl⟩:=hl
 unfold Builtin.SmallTypes.nextOf
 refine wpAny_bind (wpAny_callSpecial?_slot (name:=Str.ofString "__next__") hit.typeIs F.slot_tuple_iterator_next
  (wpAny_call_entry F.slot_tuple_iterator_next hit.typeIs F.entry_tuple_iterator_next ?_ (F.args_tuple_iterator_next_1 _)))
 show wpAny _ _ (field (.ref it) 0 >>= _) _ _ s
 refine wpAny_bind (wpAny_field ho hd (x:=.ref l) rfl ?_)
 show wpAny _ _ (if(Value.ref l==Value.none)=true then _ else _) _ _ s
 rw[if_neg (show ¬((Value.ref l==Value.none)=true) from Bool.false_ne_true)]
 show wpAny _ _ (field (.ref it) 1 >>= _) _ _ s
 refine wpAny_bind (wpAny_field ho hd (x:=.int i 0) rfl ?_)
 show wpAny _ _ (seqItems? (.ref l) >>= _) _ _ s
 refine wpAny_bind (wpAny_seqItems hol hdl ?_)
 simp only[Int.toNat_natCast,hx]
 refine wpAny_bind (wpAny_rule (wpAny_bind (wpAny_setField ho hd (by simp) ?_)))
 show wpAny _ _ (newExc (.type "StopIteration") [] >>= _) _ _ _
 refine wpAny_bind ?_
 simp only[newExc,newTuple]
 refine wpAny_bind (wpAny_newObj_type ?_ (by size_fits))
 refine wpAny_bind (m:=firstArgMember _ _) (wpAny_of_eq (a:=Value.none) (by first | rfl | (simp only[firstArgMember];rfl)) ?_)
 refine wpAny_newObj_type ?_ (by size_fits)
 simp only[raiseNew]
 refine wpAny_bind (wpAny_handled ?_)
 first | rw[show A.in1.handled=none from hh] | rw[hh]
 refine wpAny_bind (wpAny_pure (wpAny_throw ?_))
 exact hE _ _ (((Heap.SameBut.update ..).extBut.push _).push _) ⟨_,Heap.get?_push_size _ rfl,rfl⟩
end
def SeqB(b:Bool)(h:Heap)(a:Addr)(its:Array Value):Prop:=if b=true then h.IsList a its else h.IsTuple a its
def IterB(b:Bool)(h:Heap)(it a:Addr)(i:Nat):Prop:=if b=true then h.IsListIter it a i else h.IsTupleIter it a i
def Qk(b:Bool)(K:PySem.W.Frag)(H:Hp)(a:Addr)(xs:List V):Prop:=if b=true then SqL K H a xs else SqT K H a xs
def Vz(b:Bool)(a:Addr):Obj:={ cls:=.type (if b=true then "list_iterator" else "tuple_iterator"),data:=.fields #[.ref a,.int 0 0] }
theorem SeqB.at{b:Bool}{h h':Heap}{a:Addr}{its:Array Value}(x:SeqB b h a its)(k:∀o,h.get? a=some o->h'.get? a=some o):SeqB b h' a its:=by
 cases b with
 | true=>obtain⟨o,e,r⟩:=(show h.IsList a its from x);exact⟨o,k o e,r⟩
 | false=>obtain⟨o,e,r⟩:=(show h.IsTuple a its from x);exact⟨o,k o e,r⟩
theorem SeqB.has{b:Bool}{h:Heap}{a:Addr}{its:Array Value}(x:SeqB b h a its):∃o,h.get? a=some o:=by
 cases b with
 | true=>obtain⟨o,e,r⟩:=(show h.IsList a its from x);exact⟨o,e⟩
 | false=>obtain⟨o,e,r⟩:=(show h.IsTuple a its from x);exact⟨o,e⟩
theorem IterB.at{b:Bool}{h h':Heap}{it a:Addr}{i:Nat}(x:IterB b h it a i)(k:∀o,h.get? it=some o->h'.get? it=some o):IterB b h' it a i:=by
 cases b with
 | true=>obtain⟨o,e,r⟩:=(show h.IsListIter it a i from x);exact⟨o,k o e,r⟩
 | false=>obtain⟨o,e,r⟩:=(show h.IsTupleIter it a i from x);exact⟨o,k o e,r⟩
theorem IterB.has{b:Bool}{h:Heap}{it a:Addr}{i:Nat}(x:IterB b h it a i):∃o,h.get? it=some o/\∀v,o.data≠.cell v:=by
 cases b with
 | true=>obtain⟨o,e,_,d⟩:=(show h.IsListIter it a i from x);exact⟨o,e,fun v z=>by rw[d] at z;cases z⟩
 | false=>obtain⟨o,e,_,d⟩:=(show h.IsTupleIter it a i from x);exact⟨o,e,fun v z=>by rw[d] at z;cases z⟩
theorem IterB.new{b:Bool}{h:Heap}{it a:Addr}(e:h.get? it=some (Vz b a)):IterB b h it a 0:=by
 cases b with
 | true=>exact⟨_,e,rfl,rfl⟩
 | false=>exact⟨_,e,rfl,rfl⟩
section
variable {X:Cx} {pins:List (Addr×Obj)} {Z:St} {H:Hp} {s:Shared} {a:Addr} {xs ys:List V} {b:Bool}
theorem Inv.seqB(I:Inv X pins Z H s)(h:Qk b X.K H a xs):∃its:List Value,Vals xs its/\SeqB b s.heap a its.toArray/\xs.length<=sizeLine:=by
 cases b with
 | true=>
  obtain⟨its,r,p,z⟩:=I.list (show SqL X.K H a xs from h)
  exact⟨its,r,p.isList,z⟩
 | false=>
  obtain⟨its,r,p,z⟩:=I.tuple (show SqT X.K H a xs from h)
  exact⟨its,r,p,z⟩
theorem Inv.seqB_inj(I:Inv X pins Z H s)(h:Qk b X.K H a xs)(h':Qk b X.K H a ys):xs=ys:=by
 cases b with
 | true=>exact I.list_inj (show SqL X.K H a xs from h) (show SqL X.K H a ys from h')
 | false=>exact I.tuple_inj (show SqT X.K H a xs from h) (show SqT X.K H a ys from h')
end
theorem Draws.seq{prog:Program}{w:World}{A:Around}(b:Bool)(hh:A.handled=none)(it l:Addr)(hne:l≠it)(items:Array Value) :
  Draws prog w A it [it,l] items.size (fun i v=>items[i]?=some v) (fun i h=>IterB b h it l i/\SeqB b h l items) where
 live:=fun _ _ st=>let⟨o,ho,_⟩:=st.1.has;⟨o,ho⟩
 frame:=fun _ _ _ st hk=>⟨st.1.at fun o e=>hk it (by simp) o e,st.2.at fun o e=>hk l (by simp) o e⟩
 item:=fun i s Q E hi st hQ=>by
  cases b with
  | true=>
   refine wpAny_nextOf_list_item (show s.heap.IsListIter it l i from st.1) (show s.heap.IsList l items from st.2) (x:=items[i]) (by simp[hi]) fun h' hit' hs'=>?_
   exact hQ _ h' s.toks (by simp[hi]) ⟨hit',st.2.at fun o e=>hs'.extBut l o hne e⟩ hs'
  | false=>
   refine X6 (show s.heap.IsTupleIter it l i from st.1) (show s.heap.IsTuple l items from st.2) (x:=items[i]) (by simp[hi]) fun h' hit' hs'=>?_
   exact hQ _ h' s.toks (by simp[hi]) ⟨hit',st.2.at fun o e=>hs'.extBut l o hne e⟩ hs'
 done:=fun s Q E st hE=>by
  cases b with
  | true=>exact wpAny_nextOf_list_end hh (show s.heap.IsListIter it l _ from st.1) (show s.heap.IsList l items from st.2) (by simp) hE
  | false=>exact WG hh (show s.heap.IsTupleIter it l _ from st.1) (show s.heap.IsTuple l items from st.2) (by simp) hE
theorem Yt{prog:Program}{w:World}{A:Around}{E:Value->Shared->Prop}{s:Shared}{b:Bool}{a:Addr}{its:Array Value}{Q:Value->Shared->Prop}(h:SeqB b s.heap a its)
  (hQ:Q (.ref s.heap.objs.size) { s with heap:=s.heap.push (Vz b a) }):wpAny (model prog w) A (pyIter (.ref a)) Q E s:=by
 cases b with
 | true=>exact wpAny_pyIter_list (show s.heap.IsList a its from h) hQ
 | false=>exact wpAny_pyIter_tuple (show s.heap.IsTuple a its from h) hQ
set_option maxHeartbeats 4000000 in
theorem VB(b:Bool)(l:Addr)(items:Array Value) :
  Meets (Builtin.«enumerate.__new__» ⟨[.type "enumerate",.ref l],[]⟩) (fun _ R s=>SeqB b s.heap l items/\
   R (.ok (.ret (.ref (s.heap.push (Vz b l)).objs.size)))
    { s with heap:=(s.heap.push (Vz b l)).push { cls:=.type "enumerate",data:=.fields #[.none,.bool false,.ref s.heap.objs.size,rawInt 0,.none,.none] } }):=
 .of_wp fun prog w A R s h=>by
  obtain⟨hp,g,d,tk,os⟩:=s;obtain⟨hl,h⟩:=h
  have hsub:=sub_enumerate
  obtain⟨o,ho⟩:=hl.has
  have hL:SeqB b (Shared.heap ⟨hp,g,d,tk,os⟩) l items:=hl
  wp_walk using wpAny_loadPart' ho
  refine wpAny_stack_any fun st=>wpAny_pure ?_
  split
  ·rename_i c _ _ _ _ _
   cases (c==Value.type "enumerate")
   ·wp_walk using wpAny_loadPart' ho,Yt hL
    exact⟨_,rfl,h⟩
   ·wp_walk using wpAny_loadPart' ho,Yt hL
    exact⟨_,rfl,h⟩
  ·wp_walk using wpAny_loadPart' ho,Yt hL
   exact⟨_,rfl,h⟩
section
variable {prog:Program} {w:World} {A:Around} {E:Value->Shared->Prop} {s:Shared}
theorem Uf{b:Bool}{l:Addr}{items:Array Value}{Q:Value->Shared->Prop}(hL:SeqB b s.heap l items)
  (h:∀h',IsEnum h' (s.heap.objs.size+1) s.heap.objs.size 0 .none->IterB b h' s.heap.objs.size l 0->h'.objs.size=s.heap.objs.size+2->
   (∀b o,s.heap.get? b=some o->h'.get? b=some o)->Q (.ref (s.heap.objs.size+1)) { s with heap:=h' }) :
  wpAny (model prog w) A (call (.type "enumerate") [.ref l]) Q E s:=by
 refine callType_new F.called_enumerate (by decide) (F.typeCall_enumerate_1 _) (F.newCall_enumerate_1 _) (fun obj=>F.args_object_init_2 obj _) F.entry_enumerate_new
  (VB b l items) ⟨hL,?_⟩
 have hz:(s.heap.push (Vz b l)).objs.size=s.heap.objs.size+1:=Heap.size_push ..
 show _/\_
 rw[hz]
 have he:IsEnum ((s.heap.push (Vz b l)).push
   { cls:=.type "enumerate",data:=.fields #[.none,.bool false,.ref s.heap.objs.size,rawInt 0,.none,.none] }) (s.heap.objs.size+1) s.heap.objs.size 0 .none:=by
  have:=Heap.get?_push_size (s.heap.push (Vz b l))
   (o:={ cls:=.type "enumerate",data:=.fields #[.none,.bool false,.ref s.heap.objs.size,rawInt 0,.none,.none] }) rfl
  rw[hz] at this;exact this
 refine⟨⟨_,he,rfl⟩,h _ he (IterB.new (Heap.get?_push_of_some _ (Heap.get?_push_size _ rfl))) (by rw[Heap.size_push,hz]) fun b o x=>Heap.get?_push_of_some _ (Heap.get?_push_of_some _ x)⟩
end
def KB(b:Bool)(K:PySem.W.Frag)(a:Addr):It:=
  ⟨fun i H=>∃xs x,Qk b K H a xs/\xs[i]?=some x,
   fun i H v H'=>∃p x,H p=none/\v = .ref p/\H'=upd H p (.tup [.int i,x])/\∀xs,Qk b K H a xs->xs[i]?=some x,
   fun i H=>∃xs,Qk b K H a xs/\xs.length=i⟩
theorem Ql{P:Program}{w:World}{K:PySem.W.Frag}{elts:List Expr}{k:Nat}{pos:Pos}(b:Bool)(a e it:Addr)(hei:e≠it) :
  Sh P w K (.Tuple elts k pos) (KB b K a) [e,it] e (fun i h=>(∃old,IsEnum h e it i old)/\IterB b h it a i) where
 mem:=by simp
 obj:=fun i h st c hc=>by
  rcases List.mem_cons.mp hc with rfl | hc
  ·obtain⟨⟨old,q⟩,_⟩:=st
   exact⟨_,q,fun v z=>by cases z⟩
  ·rw[List.mem_singleton.mp hc]
   exact st.2.has
 keep:=fun i h h' st kk=>⟨let⟨old,q⟩:=st.1;⟨old,kk e (by simp) _ q⟩,st.2.at fun o q=>kk it (by simp) o q⟩
 item:=by
  intro X hP hw hK hc i pins s Z H E I hf st hg
  subst hP hw hK
  obtain⟨xs,x,hq,hx⟩:=hg
  obtain⟨its,rv,p,hz⟩:=I.seqB hq
  obtain⟨u,hu,ru⟩:=rv.get hx
  obtain⟨⟨old,he⟩,hit⟩:=st
  have fe:=hf e (by simp)
  have fi:=hf it (by simp)
  obtain⟨oa,hoa⟩:=p.has
  have tra:H a=none->a<X.s₀.heap.objs.size\/True:=fun _=>.inr trivial
  -- the sequence is neither record
  have ne_of_fp:∀c,Vd X pins H c->(∃oc,s.heap.get? c=some oc/\∃n vs,oc.cls = .type n/\oc.data = .fields vs)->a≠c:=fun c _ ⟨oc,hoc,n,vs,hn,hv⟩ z=>by
   subst z
   rw[hoa] at hoc;cases hoc
   cases b with
   | true=>obtain⟨o,e1,_,m,d⟩:=(show s.heap.IsList a its.toArray from p);rw[hoa] at e1;cases e1;rw[hv] at d;cases d
   | false=>obtain⟨o,e1,_,m,d⟩:=(show s.heap.IsTuple a its.toArray from p);rw[hoa] at e1;cases e1;rw[hv] at d;cases d
  have ae:a≠e:=ne_of_fp e fe ⟨_,he,_,_,rfl,rfl⟩
  have ai:a≠it:=ne_of_fp it fi (by
   cases b with
   | true=>obtain⟨o,e1,c1,d1⟩:=(show s.heap.IsListIter it a i from hit);exact⟨o,e1,_,_,c1,d1⟩
   | false=>obtain⟨o,e1,c1,d1⟩:=(show s.heap.IsTupleIter it a i from hit);exact⟨o,e1,_,_,c1,d1⟩)
  have D:=Draws.seq (prog:=X.prog) (w:=X.w) (A:=X.A.in1) b (I.ok.hd hc) it a ai its.toArray
  have hlt:i<its.toArray.size:=by
   have:=(List.getElem?_eq_some_iff.mp hu).1
   simpa using this
  refine wpAny_pyNext_enum_itemD D he ⟨hit,p⟩ hlt hei (by simp[hei,Ne.symm ae]) fun y h' tk hPy ho hs' hT hsz hk=>?_
  have ey:y=u:=by
   have q1:its.toArray[i]?=some y:=hPy
   have q2:its.toArray[i]?=some u:=by simpa using hu
   rw[q1] at q2;exact Option.some.inj q2
  subst ey
  refine⟨_,rfl,wpAny_letOwnedTupleGo_enum ho fun h2 he2 hs2=>?_⟩
  have hs2:Heap.SameBut e h' h2:=hs2
  have Tne:s.heap.objs.size≠e:=Nat.ne_of_gt (Heap.lt_size he)
  have hTn:H s.heap.objs.size=none:=I.hok.fresh (Nat.le_refl _)
  have kk:∀c o,c∉[e,it]->s.heap.get? c=some o->h2.get? c=some o:=fun c o hc' q=>hs2.extBut c o (fun z=>hc' (by simp[z])) (hk c o (fun z=>hc' (by simp[z])) (fun z=>hc' (by simp[z])) q)
  have hT2:h2.get? s.heap.objs.size=some { cls:=.type "tuple",data:=.seq #[.int i tk,y] }:=hs2.extBut _ _ Tne hT
  have hcs:∀c∈[e,it],(c∈X.ex\/X.s₀.heap.objs.size<=c)/\c≠X.env.locals/\(∀x d,X.env.cells.lookup x=some d->d≠c)/\∀p∈X.pn++pins,p.1≠c:=fun c hc'=>by
   have f:=hf c hc'
   exact⟨f.2.2.2.1,f.2.1,f.2.2.2.2.1,f.2.2.2.2.2⟩
  have nfp:∀c u',H c=some u'->c∉[e,it]:=fun c u' q hc'=>by rw[(hf c hc').1] at q;cases q
  have hok0:HOk X.prog X.w H h2:=fun c u' q=>(I.hok c u' q).stay (fun d v hd q'=>kk d v (by
    rcases hd with z | z
    ·rw[z];exact nfp c u' q
    ·exact nfp d _ z) q') (fun _ z=>z) fun _ _ z=>z
  have new:ObjOk X.prog X.w (upd H s.heap.objs.size (.tup [.int i,x])) h2 s.heap.objs.size (.tup [.int i,x]):=
   ⟨by show 2<=sizeLine;decide,[.int i tk,y],.cons ⟨tk,rfl⟩ (.cons ru .nil),⟨_,hT2,rfl,_,rfl⟩⟩
  have hok1:HOk X.prog X.w (upd H s.heap.objs.size (.tup [.int i,x])) h2:=fun c u' q=>by
   by_cases hb:c=s.heap.objs.size
   ·subst hb;rw[upd_same] at q;cases q;exact new
   ·rw[upd_ne hb] at q
    exact(hok0 c u' q).stay (fun d v _ q'=>q') (fun d z=>by rw[upd_ne (Zq z hTn)];exact z) fun d zs z=>by rw[upd_ne (Zq z hTn)];exact z
  have un:Un (Rb X.stack) [e,it] H (upd H s.heap.objs.size (.tup [.int i,x])) s.heap h2:=by
   refine⟨fun c o q _ _ hx'=>kk c o hx' q,fun c o q _ _ hx'=>⟨o.slots,kk c o hx' q⟩,fun c o q n _=>?_,fun c o q hx'=>⟨o,kk c o hx' q⟩,fun c zs q=>?_,fun c o zs q=>?_,fun c ps q=>⟨#[],?_⟩⟩
   ·rw[upd_ne (Nat.ne_of_lt (Heap.lt_size q))];exact n
   ·rw[upd_ne (Zq q hTn)];exact q
   ·rw[upd_ne (Zq q hTn)];exact q
   ·rw[upd_ne (Zq q hTn),q];simp
  have I2:Inv X pins Z (upd H s.heap.objs.size (.tup [.int i,x])) { s with heap:=h2,toks:=tk+1 }:=I.call (g':=s.gens) (d':=s.drawn) un hok1 I.bare hcs
  refine⟨.ref s.heap.objs.size,upd H s.heap.objs.size (.tup [.int i,x]),I2,rfl,⟨_,x,hTn,rfl,rfl,fun zs hzs=>by rw[I.seqB_inj hzs hq];exact hx⟩,⟨⟨y,by simpa using he2⟩,?_⟩,fun c hc'=>?_⟩
  ·exact hs'.1.at fun o q=>hs2.extBut it o (Ne.symm hei) q
  ·rw[upd_ne (Nat.ne_of_lt (by
    rcases List.mem_cons.mp hc' with rfl | hc'
    ·exact Heap.lt_size he
    ·rw[List.mem_singleton.mp hc'];obtain⟨o,q,_⟩:=hit.has;exact Heap.lt_size q))]
   exact(hf c hc').1
 done:=by
  intro X hP hw hK hc i pins s Z H E I hf st hg
  subst hP hw hK
  obtain⟨xs,hq,hx⟩:=hg
  obtain⟨its,rv,p,hz⟩:=I.seqB hq
  obtain⟨⟨old,he⟩,hit⟩:=st
  have fi:=hf it (by simp)
  obtain⟨oa,hoa⟩:=p.has
  have ai:a≠it:=fun z=>by
   subst z
   cases b with
   | true=>
    obtain⟨o,e1,_,m,d⟩:=(show s.heap.IsList a its.toArray from p)
    obtain⟨o',e2,_,d2⟩:=(show s.heap.IsListIter a a i from hit)
    rw[e1] at e2;cases e2;rw[d] at d2;cases d2
   | false=>
    obtain⟨o,e1,_,m,d⟩:=(show s.heap.IsTuple a its.toArray from p)
    obtain⟨o',e2,_,d2⟩:=(show s.heap.IsTupleIter a a i from hit)
    rw[e1] at e2;cases e2;rw[d] at d2;cases d2
  have D:=Draws.seq (prog:=X.prog) (w:=X.w) (A:=X.A.in1) b (I.ok.hd hc) it a ai its.toArray
  have hl:=rv.length
  have hi:i=its.toArray.size:=by simp;omega
  refine wpAny_pyNext_enum_endD D he (by rw[<-hi];exact⟨hit,p⟩) fun h' hx'=>⟨rfl,?_⟩
  obtain⟨f0,f1,f2,f3,f4,f5⟩:=fi
  exact I.turned (t':=s.toks) (fun c o hb q=>hx' c o hb q) f0 f1 f3 f4 f5
 self:=fun A i s Q E st hQ=>by
  obtain⟨⟨old,he⟩,_⟩:=st
  exact wpAny_pyIter_enum he hQ
end L2
namespace L2
open PySem PySem.Spec PyProof.Rows
section
variable {X:Cx}
def LG(b:Bool)(K:PySem.W.Frag)(ta:TA):TI:=fun Z H R=>ta Z H fun vs H1=>∃a,vs=[.ref a]/\(∃xs,Qk b K H1 a xs)/\R (KB b K a) H1
theorem OM{elts:List Expr}{k:Nat}{tpos:Pos}(b:Bool){a:Expr}{ta:TA}{p pos:Pos}(hg:Gl X "enumerate")(hm:X.mg "enumerate" = none)(ha:PA X [a] ta)(hs:starEach [a] X.env=[(false,eval a X.env)]:=by rfl) :
  PI X (.Tuple elts k tpos) (.Call (.Name "enumerate" p) [a] [] pos) (LG b X.K ta):=by
 intro pins s Z H R I h
 refine Call_ (Wv I hg hm (by decide +kernel:bootBuiltins "enumerate" = some (.type "enumerate")) (PyProof.Rows.callWith_type1 (ZV (ha pos pins s Z H _ I h) fun us s1 ⟨vs,H1,I1,r1,q1⟩=>?_) hs rfl))
 obtain⟨a,e,⟨xs,hq⟩,q⟩:=q1
 subst e
 cases r1 with
 | cons r rr=>
  cases rr;cases r
  obtain⟨its,rv,hseq,hz⟩:=I1.seqB hq
  refine Uf hseq fun h' he hit hsz hk=>?_
  refine wpAny_pyIter_enum he ?_
  have I2:Inv X pins Z H1 { s1 with heap:=h' }:=I1.kept (t':=s1.toks) hk
  have ne:s1.heap.objs.size+1≠s1.heap.objs.size:=Nat.ne_of_gt (Nat.lt_succ_self _)
  refine⟨s1.heap.objs.size+1,[s1.heap.objs.size+1,s1.heap.objs.size],_,_,H1,rfl,I2,Ql b a (s1.heap.objs.size+1) s1.heap.objs.size ne,⟨⟨.none,he⟩,hit⟩,fun c hc=>?_,q⟩
  rcases List.mem_cons.mp hc with rfl | hc
  ·exact I1.fpOk (Nat.le_succ _) (I1.hok.fresh (Nat.le_succ _))
  ·rw[List.mem_singleton.mp hc]
   exact I1.fpOk (Nat.le_refl _) (I1.hok.fresh (Nat.le_refl _))
end
section
variable {prog:Program} {w:World} {A:Around} {E:Value->Shared->Prop} {s:Shared}
theorem U1{d:Addr}{o:Obj}{es:Array DictEntry}{ep:Nat}{Q:Value->Shared->Prop}(hd:(d==sysModules)=false)(ho:s.heap.get? d=some o)(hc:o.ExactDict)(hdat:o.data = .dict es ep)
  (hQ:Q (.ref s.heap.objs.size) { s with heap:=s.heap.push { cls:=.type "dict_keyiterator",data:=.fields #[.ref d,.int 0 0,.int es.size 0,.int ep 0] } }) :
  wpAny (model prog w) A (pyIter (.ref d)) Q E s:=by
 have hT:s.TypeIs (.ref d) "dict":=⟨o,ho,hc.1⟩
 refine wpAny_pyIter_slot hT F.slot_dict_iter (wpAny_call_entry F.slot_dict_iter hT F.entry_dict_iter ?_ (F.args_dict_iter_1 _))
 unfold Builtin.«dict.__iter__»
 refine wpAny_bind ?_
 unfold Builtin.Dict.dictSlotNone
 refine wpAny_bind (wpAny_notOrdered_dict hT ?_)
 show wpAny _ _ (pure (Value.ref d)) _ _ s
 refine wpAny_pure ?_
 show wpAny _ _ (Builtin.Dict.showsAll d >>= _) _ _ s
 unfold Builtin.Dict.showsAll
 rw[if_neg (by rw[hd];exact Bool.false_ne_true)]
 refine wpAny_bind (wpAny_pure ?_)
 refine wpAny_bind (wpAny_dictEntries ho hdat ?_)
 refine wpAny_bind (wpAny_dictEpoch ho hdat ?_)
 refine wpAny_bind (wpAny_newObj_type (wpAny_pure ⟨_,rfl,"dict_keyiterator",_,⟨_,Heap.get?_push_size _ rfl,rfl⟩,F.slot_dict_keyiterator_next.lookup,?_⟩))
 simpa [rawInt] using hQ
theorem X7{it d:Addr}{i ep:Nat}{od:Obj}{es:Array DictEntry}{e:DictEntry}{Q:Option Value->Shared->Prop}(hit:s.heap.IsKeyIter it d i es.size ep)
  (hod:s.heap.get? d=some od) (hdd:od.data = .dict es ep) (hx:es[i]?=some e)
  (hQ:∀h',h'.IsKeyIter it d (i+1) es.size ep->Heap.SameBut it s.heap h'->Q (some e.key) { s with heap:=h' }) :
  wpAny (model prog w) A (pyNext (.ref it)) Q E s:=by
 obtain⟨o,ho,hc,hd⟩:=id hit
 unfold pyNext
 refine wpAny_bind (wpAny_attempt (wpAny_callSpecial?_slot (name:=Str.ofString "__next__") hit.typeIs F.slot_dict_keyiterator_next
  (wpAny_call_entry F.slot_dict_keyiterator_next hit.typeIs F.entry_dict_keyiterator_next ?_ (F.args_dict_keyiterator_next_1 _))))
 refine wpAny_bind (wpAny_pure ?_)
 refine wpAny_bind ?_
 refine wpAny_bind ?_
 first | refine wpAny_bind (wpAny_typeNameOfWhole_keyiter hit.typeIs (wpAny_pure ?_)) | refine wpAny_bind (wpAny_typeNameOf_keyiter hit.typeIs (wpAny_pure ?_))
 refine wpAny_bind (wpAny_fieldsOf ho hd ?_)
 have hown:Builtin.Dict_items.ownsTuple "dict_keyiterator" = false:=by decide
 simp only[hown,Bool.false_eq_true,if_false]
 show wpAny _ _ (if(Value.ref d==Value.none)=true then _ else _) _ _ s
 rw[if_neg (show ¬((Value.ref d==Value.none)=true) from Bool.false_ne_true)]
 refine wpAny_bind (wpAny_pure ?_)
 refine wpAny_bind (wpAny_dictEntries hod hdd ?_)
 rw[if_neg (by simp)]
 refine wpAny_bind (wpAny_pure ?_)
 refine wpAny_bind (wpAny_dictEpoch hod hdd ?_)
 rw[if_neg (by simp)]
 refine wpAny_pure ?_
 obtain⟨hlt',he⟩:=Array.getElem?_eq_some_iff.mp hx
 subst he;simp only[show ¬((i:Int)<0) from by omega,if_false,Int.toNat_natCast,Array.getElem?_eq_getElem hlt']
 refine wpAny_bind ?_
 first | refine wpAny_bind (wpAny_typeNameOfWhole_keyiter hit.typeIs (wpAny_pure ?_)) | refine wpAny_bind (wpAny_typeNameOf_keyiter hit.typeIs (wpAny_pure ?_))
 refine wpAny_bind (wpAny_isOneOf_keyiter hit.typeIs ?_)
 show wpAny _ _ (setField (.ref it) 1 (rawInt ((i:Int)+1)) >>= _) _ _ s
 refine wpAny_bind (wpAny_setField ho hd (by simp) ?_)
 have hit':(s.heap.update it (Obj.mapFields (·.setIfInBounds 1 (rawInt ((i:Int)+1))))).IsKeyIter it d (i+1) es.size ep:=
  ⟨_,Heap.get?_update_self _ ho (Obj.isFreed_of_fields (Obj.data_mapFields hd _)),(Obj.cls_mapFields ..).trans hc,by rw[Obj.data_mapFields hd];simp[rawInt]⟩
 refine wpAny_bind (wpAny_holding ?_)
 refine wpAny_bind (wpAny_isOneOf_keyiter (s:={ s with heap:=s.heap.update it (Obj.mapFields (·.setIfInBounds 1 (rawInt ((i:Int)+1)))) }) hit'.typeIs ?_)
 show wpAny _ _ (pure es[i].key) _ _ _
 exact wpAny_pure (wpAny_pure ⟨_,rfl,wpAny_pure (hQ _ hit' (Heap.SameBut.update ..))⟩)
theorem WH{it d:Addr}{ep:Nat}{od:Obj}{es:Array DictEntry}{Q:Option Value->Shared->Prop}(hh:A.handled=none)(hit:s.heap.IsKeyIter it d es.size es.size ep)
  (hod:s.heap.get? d=some od) (hdd:od.data = .dict es ep)
  (hQ:∀h',Heap.ExtBut it s.heap h'->Q none { s with heap:=h' }):wpAny (model prog w) A (pyNext (.ref it)) Q E s:=by
 obtain⟨o,ho,hc,hd⟩:=id hit
 unfold pyNext
 refine wpAny_bind (wpAny_attempt (wpAny_callSpecial?_slot (name:=Str.ofString "__next__") hit.typeIs F.slot_dict_keyiterator_next
  (wpAny_call_entry F.slot_dict_keyiterator_next hit.typeIs F.entry_dict_keyiterator_next ?_ (F.args_dict_keyiterator_next_1 _))))
 refine wpAny_bind (wpAny_pure ?_)
 refine wpAny_bind ?_
 refine wpAny_bind ?_
 first | refine wpAny_bind (wpAny_typeNameOfWhole_keyiter hit.typeIs (wpAny_pure ?_)) | refine wpAny_bind (wpAny_typeNameOf_keyiter hit.typeIs (wpAny_pure ?_))
 refine wpAny_bind (wpAny_fieldsOf ho hd ?_)
 have hown:Builtin.Dict_items.ownsTuple "dict_keyiterator" = false:=by decide
 simp only[hown,Bool.false_eq_true,if_false]
 show wpAny _ _ (if(Value.ref d==Value.none)=true then _ else _) _ _ s
 rw[if_neg (show ¬((Value.ref d==Value.none)=true) from Bool.false_ne_true)]
 refine wpAny_bind (wpAny_pure ?_)
 refine wpAny_bind (wpAny_dictEntries hod hdd ?_)
 rw[if_neg (by simp)]
 refine wpAny_bind (wpAny_pure ?_)
 refine wpAny_bind (wpAny_dictEpoch hod hdd ?_)
 rw[if_neg (by simp)]
 refine wpAny_pure ?_
 simp only[show ¬((es.size:Int)<0) from by omega,if_false,Int.toNat_natCast,Array.getElem?_eq_none (Nat.le_refl es.size)]
 refine wpAny_bind ?_
 first | refine wpAny_bind (wpAny_typeNameOfWhole_keyiter hit.typeIs (wpAny_pure ?_)) | refine wpAny_bind (wpAny_typeNameOf_keyiter hit.typeIs (wpAny_pure ?_))
 show wpAny _ _ (setField (.ref it) 0 .none >>= _) _ _ s
 refine wpAny_bind (wpAny_setField ho hd (by simp) ?_)
 show wpAny _ _ (newExc (.type "StopIteration") [] >>= _) _ _ _
 refine wpAny_bind ?_
 simp only[newExc,newTuple]
 refine wpAny_bind (wpAny_newObj_type ?_ (by size_fits))
 refine wpAny_bind (m:=firstArgMember _ _) (wpAny_of_eq (a:=Value.none) (by first | rfl | (simp only[firstArgMember];rfl)) ?_)
 refine wpAny_newObj_type ?_ (by size_fits)
 simp only[raiseNew]
 refine wpAny_bind (wpAny_handled ?_)
 rw[show A.in1.handled=none from hh]
 refine wpAny_bind (wpAny_pure (wpAny_throw ?_))
 refine wpAny_bind (wpAny_isInstance (T:="StopIteration") (b:=true) ⟨_,Heap.get?_push_size _ rfl,rfl⟩ isSubtype_stop ?_)
 exact wpAny_pure (hQ _ (((Heap.SameBut.update ..).extBut.push _).push _))
end
def Ms(d:Addr)(o:Obj)(kvs:List (List ZR×V)):It:=
  ⟨fun i H=>H d=some (.frz o (.dT kvs))/\i<kvs.length,
   fun i H v H'=>H'=H/\∃b k y,kvs[i]?=some (k,y)/\v = .ref b/\H b=some (.tup (k.map kV)),
   fun i H=>H d=some (.frz o (.dT kvs))/\i=kvs.length⟩
theorem KT.get{H:Hp}:∀{kvs:List (List ZR×V)}{xs:List (List ZR×Addr×Value)}{i:Nat}{p:List ZR×V},KT H kvs xs->kvs[i]?=some p->∃q,xs[i]?=some q/\p.1=q.1/\H q.2.1=some (.tup (p.1.map kV))/\RelV p.2 q.2.2
 | _,_,_,_,.nil,e=>by simp at e
 | _,_,0,_,.cons r _,e=>by simp at e;subst e;exact⟨_,rfl,r⟩
 | _,_,i+1,p,.cons _ t,e=>by
  obtain⟨q,h1,h2⟩:=KT.get (i:=i) (p:=p) t (by simpa using e)
  exact⟨q,by simpa using h1,h2⟩
theorem Qm{P:Program}{w:World}{K:PySem.W.Frag}{tg:Expr}(d it:Addr)(o:Obj)(es:Array DictEntry)(ep:Nat)(kvs:List (List ZR×V))(ho:o.data = .dict es ep)(hlen:es.size=kvs.length) :
  Sh P w K tg (Ms d o kvs) [it] it (fun i h=>h.IsKeyIter it d i es.size ep) where
 mem:=by simp
 obj:=fun i h st b hb=>by
  rw[List.mem_singleton.mp hb]
  obtain⟨o,e,c,q⟩:=st
  exact⟨o,e,fun v z=>by rw[q] at z;cases z⟩
 keep:=fun i h h' st k=>by
  obtain⟨o,e,r⟩:=st
  exact⟨o,k it (by simp) o e,r⟩
 item:=by
  intro X hP hw hK hc i pins s Z H E I hf st hg
  subst hP hw hK
  obtain⟨hd,hi⟩:=hg
  obtain⟨e1,z,y,xs,r,o',es',ep',h1,h2,h3,h4,h5⟩:=(show ObjOk X.prog X.w H s.heap d (.frz o (.dT kvs)) from I.hok d _ hd)
  rw[e1] at h1;cases h1
  rw[ho] at h3;cases h3
  have hk:kvs[i]?=some kvs[i]:=List.getElem?_eq_getElem hi
  obtain⟨q,hq,eq,hb,rv⟩:=KT.get r hk
  have he:es[i]?=some (entryOfKey (tupleKind (ZS X.prog X.w)) q):=by
   have:=congrArg (fun l=>l[i]?) h4
   simp only[List.getElem?_map,hq,Option.map_some] at this
   simpa using this
  obtain⟨f0,f1,f2,f3,f4,f5⟩:=hf it (by simp)
  refine X7 st e1 ho he fun h' st' sb=>?_
  have I1:Inv X pins Z H { s with heap:=h' }:=I.turned (t':=s.toks) (fun b o hb e=>(sb.2 b hb).trans e) f0 f1 f3 f4 f5
  obtain⟨o2,e2,c2,d2⟩:=id st'
  exact⟨_,rfl,Rc (s:={ s with heap:=h' }) e2 c2 d2 (by decide) ⟨.ref q.2.1,H,I1,rfl,⟨rfl,q.2.1,_,_,hk,rfl,hb⟩,st',fun b hb=>(hf b hb).1⟩⟩
 done:=by
  intro X hP hw hK hc i pins s Z H E I hf st hg
  subst hP hw hK
  obtain⟨hd,hi⟩:=hg
  obtain⟨e1,_⟩:=(show ObjOk X.prog X.w H s.heap d (.frz o (.dT kvs)) from I.hok d _ hd)
  obtain⟨f0,f1,f2,f3,f4,f5⟩:=hf it (by simp)
  rw[hi,<-hlen] at st
  exact WH (I.ok.hd hc) st e1 ho fun h' eb=>⟨rfl,I.turned (t':=s.toks) (fun b o hb e=>eb b o hb e) f0 f1 f3 f4 f5⟩
 self:=fun A i s Q E st hQ=>by
  refine wpAny_pyIter_slot st.typeIs F.slot_dict_keyiterator_iter (wpAny_call_entry F.slot_dict_keyiterator_iter st.typeIs F.entry_dict_keyiterator_iter ?_ (F.args_dict_keyiterator_iter_1 _))
  show wpAny _ _ (ret (.ref it)) _ _ s
  exact wpAny_pure ⟨_,rfl,"dict_keyiterator",_,st.typeIs,F.slot_dict_keyiterator_next.lookup,hQ⟩
section
variable {X:Cx} {tg:Expr}
theorem Inv.freeze{pins:List (Addr×Obj)}{Z:St}{H:Hp}{s:Shared}{d:Addr}{kvs:List (List ZR×V)}{o:Obj}(I:Inv X pins Z H s)(hd:H d=some (.dT kvs))(ho:s.heap.get? d=some o) :
  Inv X pins Z (upd H d (.frz o (.dT kvs))) s:=by
 have ne:∀b u,H b=some u->(∀k,u≠.dT k)->b≠d:=fun b u q n z=>by rw[z,hd] at q;exact n _ (Option.some.inj q).symm
 have nn:∀b,H b=none->b≠d:=fun b q z=>by rw[z,hd] at q;cases q
 have un:Un X.fs [] H (upd H d (.frz o (.dT kvs))) s.heap s.heap:=
  ⟨fun b o q _ _ _=>q,fun b o q _ _ _=>⟨o.slots,q⟩,fun b o q n _=>by rw[upd_ne (nn b n)];exact n,fun b o q _=>⟨o,q⟩,
   fun b xs q=>by rw[upd_ne (ne b _ q fun _ z=>nomatch z)];exact q,fun b o u q=>by rw[upd_ne (ne b _ q fun _ z=>nomatch z)];exact q,fun b ps q=>⟨#[],by rw[upd_ne (ne b _ q fun _ z=>nomatch z),q];simp⟩⟩
 have hok:HOk X.prog X.w (upd H d (.frz o (.dT kvs))) s.heap:=fun b u q=>by
  have hown:∀c y,H c=some (.own y)->upd H d (.frz o (.dT kvs)) c=some (.own y):=fun c y z=>by rw[upd_ne (ne c _ z fun _ z=>nomatch z)];exact z
  have htup:∀c xs,H c=some (.tup xs)->upd H d (.frz o (.dT kvs)) c=some (.tup xs):=fun c y z=>by rw[upd_ne (ne c _ z fun _ z=>nomatch z)];exact z
  by_cases hb:b=d
  ·subst hb
   rw[upd_same] at q;cases q
   exact⟨ho,(I.hok b _ hd).stay (fun _ _ _ z=>z) (fun c z=>hown c _ z) htup⟩
  ·rw[upd_ne hb] at q
   exact(I.hok b u q).stay (fun _ _ _ z=>z) (fun c z=>hown c _ z) htup
 have:=I.un (t':=s.toks) un hok
 exact this
def Rp(tl:TE):TI:=fun Z H R=>tl Z H fun x H1=>∃d kvs,x = .ref d/\((H1 d=some (.dT kvs)/\∀o,R (Ms d o kvs) (upd H1 d (.frz o (.dT kvs))))\/∃o,H1 d=some (.frz o (.dT kvs))/\R (Ms d o kvs) H1)
theorem U2{l:Expr}{tl:TE}(hl:PE X l tl):PI X tg l (Rp tl):=by
 intro pins s Z H R I h
 refine ZV (hl pins s Z H _ I h) fun v s1 ⟨x,H1,I1,r1,q1⟩=>?_
 obtain⟨d,kvs,e,q⟩:=q1
 subst e;cases r1
 have core:∀(o:Obj)(H2:Hp),Inv X pins Z H2 s1->H2 d=some (.frz o (.dT kvs))->R (Ms d o kvs) H2->wpAny (model X.prog X.w) X.A (pyIter (.ref d)) (Kf X pins Z tg R) X.xe s1:=fun o H2 I2 e2 q2=>by
  obtain⟨e1,z,y,xs,r,o',es,ep,h1,h2,h3,h4,h5⟩:=(show ObjOk X.prog X.w H2 s1.heap d (.frz o (.dT kvs)) from I2.hok d _ e2)
  rw[e1] at h1;cases h1
  have hsz:es.size=kvs.length:=by
   have a1:=congrArg List.length h4;have a2:=Paired.length r;simp only[Array.length_toList,List.length_map] at a1;omega
  refine U1 y e1 h2 h3 ?_
  refine⟨s1.heap.objs.size,[s1.heap.objs.size],_,_,H2,rfl,I2.kept (t':=s1.toks) fun b o e=>Heap.get?_push_of_some _ e,Qm d _ o es ep kvs h3 hsz,⟨_,Heap.get?_push_size _ rfl,rfl,rfl⟩,fun b hb=>?_,q2⟩
  rw[List.mem_singleton.mp hb]
  exact I2.fpOk (Nat.le_refl _) (I2.hok.fresh (Nat.le_refl _))
 rcases q with⟨hd,q⟩ | ⟨o,hd,q⟩
 ·obtain⟨z,y,xs,r,o,es,ep,h1,h2,h3,h4,h5⟩:=(show ObjOk X.prog X.w H1 s1.heap d (.dT kvs) from I1.hok d _ hd)
  exact core o _ (I1.freeze hd h1) upd_same (q o)
 ·exact core o H1 I1 hd q
end
theorem Walks.seqB{prog:Program}{w:World}{A:Around}(b:Bool)(hh:A.handled=none)(I ax:Addr)(hne:ax≠I)(items:Array Value) :
  Walks prog w A I [I,ax] [I] items.size (fun i v=>items[i]?=some v) (fun i h=>IterB b h I ax i/\SeqB b h ax items):=by
 cases b with
 | true=>exact Walks.list hh I ax hne items
 | false=>exact Walks.tuple hh I ax hne items
section
variable {X:Cx}
theorem XC(hc:X.calm=true):Xk X (.builtin "sum") (fun xs H Q=>∃(b:Bool) (p:Addr) (ns:List Int),xs=[.ref p]/\Qk b X.K H p (ns.map V.int)/\Q (.int ns.sum) H):=by
 intro pins s Z H xs us Q I r h
 obtain⟨b,p,ns,rfl,hq,q⟩:=h
 obtain⟨u,rfl,rx⟩:=Um r
 cases rx
 obtain⟨its,rv,hseq,hz⟩:=I.seqB hq
 have hp:p<s.heap.objs.size:=let⟨_,e⟩:=hseq.has;Heap.lt_size e
 refine call_sum_walkG (Yt hseq ?_)
 refine⟨_,_,_,_,_,_,fun i=>ns.getD i 0,rfl,Walks.seqB (A:=X.A.in1) b (I.ok.hd hc) s.heap.objs.size p (Nat.ne_of_lt hp) its.toArray,⟨IterB.new (Heap.get?_push_size _ rfl),hseq.at fun o e=>Heap.get?_push_of_some _ e⟩,fun c hcm=>?_,fun i v hv=>?_,fun h' tk t' hk=>?_⟩
 ·show c<(s.heap.push _).objs.size
  rw[Heap.size_push]
  rcases List.mem_cons.mp hcm with rfl | hcm
  ·exact Nat.lt_succ_self _
  ·rw[List.mem_singleton.mp hcm];exact Nat.lt_succ_of_lt hp
 ·have hv:its.toArray[i]?=some v:=hv
  have hv:its[i]?=some v:=by simpa using hv
  have hl:=rv.length;rw[List.length_map] at hl
  have hi:i<ns.length:=by rw[hl];exact(List.getElem?_eq_some_iff.mp hv).1
  obtain⟨u,hu,ru⟩:=rv.get (i:=i) (x:=.int ns[i]) (by rw[List.getElem?_map,List.getElem?_eq_getElem hi];rfl)
  rw[hv] at hu;cases hu
  obtain⟨t,rfl⟩:=ru
  refine⟨t,?_⟩
  show Value.int ns[i] t=Value.int (ns.getD i 0) t
  rw[List.getD_eq_getElem?_getD,List.getElem?_eq_getElem hi];rfl
 ·have e:preSum (fun i=>ns.getD i 0) its.toArray.size=ns.sum:=by
   have hl:=rv.length;rw[List.length_map] at hl;rw[List.size_toArray,<-hl]
   have gen:∀k,k<=ns.length->preSum (fun i=>ns.getD i 0) k=(ns.take k).sum:=by
    intro k
    induction k with
    | zero=>intro _;simp[preSum]
    | succ k ih=>
     intro hk;rw[preSum,ih (by omega),List.take_add_one,List.getD_eq_getElem?_getD,List.getElem?_eq_getElem (by omega),List.sum_append]
     simp
   rw[gen _ (Nat.le_refl _),List.take_length]
  rw[e]
  refine⟨.int ns.sum,H,I.kept (fun c o hco=>hk c o ?_ (Heap.get?_push_of_some _ hco)),⟨_,rfl⟩,q⟩
  intro hm;rw[List.mem_singleton.mp hm] at hco
  exact absurd (Heap.lt_size hco) (Nat.lt_irrefl _)
theorem Qn(hc:X.calm=true):Xk X (.builtin "all") (fun xs H Q=>∃(b:Bool) (p:Addr) (bs:List Bool),xs=[.ref p]/\Qk b X.K H p (bs.map V.bl)/\Q (.bl (bs.all id)) H):=by
 intro pins s Z H xs us Q I r h
 obtain⟨b,p,bs,rfl,hq,q⟩:=h
 obtain⟨u,rfl,rx⟩:=Um r
 cases rx
 obtain⟨its,rv,hseq,hz⟩:=I.seqB hq
 have hp:p<s.heap.objs.size:=let⟨_,e⟩:=hseq.has;Heap.lt_size e
 have hl:=rv.length;rw[List.length_map] at hl
 refine call_all_walk (Yt hseq ?_)
 refine⟨_,_,_,_,_,_,fun i=>bs.getD i true,rfl,Walks.seqB (A:=X.A.in1) b (I.ok.hd hc) s.heap.objs.size p (Nat.ne_of_lt hp) its.toArray,⟨IterB.new (Heap.get?_push_size _ rfl),hseq.at fun o e=>Heap.get?_push_of_some _ e⟩,fun i v s' Q' E' hv hQ=>?_,fun h' tk hk=>?_⟩
 ·have hv:its.toArray[i]?=some v:=hv
  have hv:its[i]?=some v:=by simpa using hv
  have hi:i<bs.length:=by rw[hl];exact(List.getElem?_eq_some_iff.mp hv).1
  obtain⟨u,hu,ru⟩:=rv.get (i:=i) (x:=.bl bs[i]) (by rw[List.getElem?_map,List.getElem?_eq_getElem hi];rfl)
  rw[hv] at hu;cases hu;cases ru
  refine wpAny_truthy_bool ?_
  have e:bs.getD i true=bs[i]:=by rw[List.getD_eq_getElem?_getD,List.getElem?_eq_getElem hi];rfl
  rw[<-e];exact hQ
 ·have e:(List.range its.toArray.size).all (fun i=>bs.getD i true)=bs.all id:=by
   rw[List.size_toArray,<-hl,Bool.eq_iff_iff,List.all_eq_true,List.all_eq_true];constructor
   ·intro h x hx
    obtain⟨i,hi,rfl⟩:=List.mem_iff_getElem.mp hx
    have:=h i (List.mem_range.mpr hi)
    rw[List.getD_eq_getElem?_getD,List.getElem?_eq_getElem hi] at this;exact this
   ·intro h i hi
    have hi:=List.mem_range.mp hi;rw[List.getD_eq_getElem?_getD,List.getElem?_eq_getElem hi]
    exact h _ (List.getElem_mem hi)
  rw[e]
  refine⟨.bl (bs.all id),H,I.kept (fun c o hco=>hk c o ?_ (Heap.get?_push_of_some _ hco)),rfl,q⟩
  intro hm;rw[List.mem_singleton.mp hm] at hco
  exact absurd (Heap.lt_size hco) (Nat.lt_irrefl _)
theorem Xr:Xk X (.builtin "isinstance") (fun xs H Q=>∃x T t b,xs=[x,.ty T]/\TyOf X.K H x t/\PySem.W.kitOne X.K t (.type T)=some b/\Q (.bl b) H):=by
 intro pins s Z H xs us Q I r h
 obtain⟨x,T,t,b,rfl,ht,hk,q⟩:=h
 obtain⟨u,v,rfl,ru,rv⟩:=QW r
 cases rv
 exact Qa I ru ht hk fun tk=>⟨.bl b,H,I.tok tk,rfl,q⟩
theorem TB{K:PySem.W.Frag}:PySem.W.kitOne K (.type "int") (.type "int")=some true:=rfl
theorem U3{K:PySem.W.Frag}:PySem.W.kitOne K (.type "int") (.type "bool")=some false:=by first | rfl | decide | (unfold PySem.W.kitOne;rw[if_neg (by decide)];first | rfl | decide | kernel_rfl)
theorem TC{K:PySem.W.Frag}:PySem.W.kitOne K (.type "tuple") (.type "tuple")=some true:=rfl
theorem Ug{K:PySem.W.Frag}:PySem.W.kitOne K (.type "list") (.type "list")=some true:=rfl
theorem TD{K:PySem.W.Frag}:PySem.W.kitOne K (.type "str") (.type "str")=some true:=rfl
def Rq:V->List V->Hp->VK->Prop:=fun x vs H Q=>∃l xs k y,x = .ref l/\vs=[.int k,y]/\H l=some (.lst xs)/\0<=k/\k<2^63/\xs.length<sizeLine/\Q .non (upd H l (.lst (xs.take k.toNat++y::xs.drop k.toNat)))
theorem Qo:Kr X "list.insert" Rq:=by
 intro pins s Z H x vs v us Q I rx rv h
 obtain⟨l,xs,k,y,rfl,rfl,hH,h0,h1,hz,q⟩:=h
 cases rx
 obtain⟨u1,u2,rfl,r1,r2⟩:=rv.two
 obtain⟨t,rfl⟩:=r1
 obtain⟨z,its,n,r,hl,e⟩:=I.lstM hH
 have hfit:¬(!Builtin.List.listFitsIndex k)=true:=by
  rw[fitsIndex_both (by omega) h1];exact Bool.false_ne_true
 refine call_meets F.slot_list_insert ⟨_,e,rfl⟩ F.entry_list_insert (F.args_list_insert_3 _ _ _) (AutoListH.list_insert_list_int_val_1 l its.toArray n k t u2 hfit (by rw[List.size_toArray];omega)) ⟨e,?_⟩
 refine⟨.non,_,I.lset (its':=its.take k.toNat++u2::its.drop k.toNat) hH e ?_ ((r.take k.toNat).append (.cons r2 (r.drop k.toNat))) ?_,rfl,q⟩
 ·show(have j:=if k<0 then(k+((its.toArray.size:Nat):Int)).toNat else min k.toNat its.toArray.size;(its.toArray.extract 0 j).push u2++its.toArray.extract j)=_
  rw[if_neg (by omega)]
  dsimp only
  by_cases hle:k.toNat<=its.length
  ·rw[Nat.min_eq_left (by rw[List.size_toArray];exact hle)]
   simp
   rw[List.take_of_length_le (by rw[List.length_drop];exact Nat.le_refl _)]
  ·rw[Nat.min_eq_right (by rw[List.size_toArray];omega)]
   rw[List.take_of_length_le (by omega),List.drop_eq_nil_of_le (by omega)]
   simp
 ·rw[List.length_append,List.length_cons,List.length_take,List.length_drop]
  omega
end
def TK(H H':Hp):Prop:=∀b xs,H b=some (.tup xs)->H' b=some (.tup xs)
theorem Same.tk{H H':Hp}(s:Same H H'):TK H H':=fun b xs h=>s b _ h
theorem Same.new{H:Hp}{p:Addr}(h:H p=none)(o:HO):Same H (upd H p o):=fun b u q=>by rw[upd_ne (Zq q h)];exact q
class Rep(α:Type) where
 is:Hp->V->α->Prop
 keep:∀{H H':Hp}{v:V}{a:α},TK H H'->is H v a->is H' v a
 inj:∀{H:Hp}{v:V}{a a':α},is H v a->is H v a'->a=a'
 dep:Nat
 eqA:∀{X:Cx}{pins:List (Addr×Obj)}{Z:St}{H:Hp}{s:Shared}{v v':V}{a a':α}{u u':Value}{A:Around},Inv X pins Z H s->A.units+dep<cLine->is H v a->is H v' a'->RelV v u->RelV v' u'->
  ∃b,SeqAt.EqAt A s u u' b/\(b=true↔a=a')
instance:Rep Int where
 is:=fun _ v i=>v = .int i
 keep:=fun _ h=>h
 inj:=fun{H v a a'} h h'=>by subst h;exact V.int.inj h'
 dep:=0
 eqA:=fun{X pins Z H s v v' a a' u u' A} _ _ h h' r r'=>by
  subst h;subst h'
  obtain⟨t,rfl⟩:=r
  obtain⟨t',rfl⟩:=r'
  exact⟨_,SeqAt.EqAt.int_int a t a' t',by simp⟩
instance:Rep Bool where
 is:=fun _ v i=>v = .bl i
 keep:=fun _ h=>h
 inj:=fun{H v a a'} h h'=>by subst h;exact V.bl.inj h'
 dep:=0
 eqA:=fun{X pins Z H s v v' a a' u u' A} _ _ h h' r r'=>by
  subst h;subst h'
  cases r
  cases r'
  exact⟨_,SeqAt.EqAt.bool_bool a a',by simp⟩
instance:Rep Str where
 is:=fun _ v i=>v = .str i
 keep:=fun _ h=>h
 inj:=fun{H v a a'} h h'=>by subst h;exact V.str.inj h'
 dep:=0
 eqA:=fun{X pins Z H s v v' a a' u u' A} _ _ h h' r r'=>by
  subst h;subst h'
  obtain⟨t,rfl⟩:=r
  obtain⟨t',rfl⟩:=r'
  exact⟨_,SeqAt.EqAt.str_str a t a' t',by simp⟩
abbrev Items{α:Type}[Rep α](H:Hp):List V->List α->Prop:=Paired (Rep.is H)
section
variable {α:Type} [Rep α]
theorem Items.keep{H H':Hp}(k:TK H H'){xs:List V}{l:List α}(h:Items H xs l):Items H' xs l:=Paired.mapP h fun _ _ z=>Rep.keep k z
theorem Items.len{H:Hp}{xs:List V}{l:List α}(h:Items H xs l):xs.length=l.length:=Paired.length h
end
theorem Items.inj{α:Type}[Rep α]{H:Hp}:∀{xs:List V}{l m:List α},Items H xs l->Items H xs m->l=m
 | _,_,_,.nil,.nil=>rfl
 | _,_,_,.cons r t,.cons r' t'=>by rw[Rep.inj r r',Items.inj t t']
theorem Items.eqs{α:Type}[Rep α]{X:Cx}{pins:List (Addr×Obj)}{Z:St}{H:Hp}{s:Shared}{A:Around}(I:Inv X pins Z H s)(hu:A.units+Rep.dep α<cLine) :
  ∀{xs ys:List V}{l m:List α}{us ws:List Value},Items H xs l->Items H ys m->Vals xs us->Vals ys ws->
  ∃e:Nat->Bool,(∀j (h1:j<us.length) (h2:j<ws.length),SeqAt.EqAt A s us[j] ws[j] (e j))/\((List.range (min us.length ws.length)).all e=true↔l.take (min us.length ws.length)=m.take (min us.length ws.length))
 | _,_,_,_,_,_,.nil,_,.nil,_=>⟨fun _=>true,fun j h1=>by simp at h1,by simp⟩
 | _,_,_,_,_,_,.cons _ _,.nil,.cons _ _,.nil=>⟨fun _=>true,fun j h1 h2=>by simp at h2,by simp⟩
 | _,_,_,_,_,_,.cons r t,.cons r' t',.cons q v,.cons q' v'=>by
  obtain⟨b,hb,hb'⟩:=Rep.eqA I hu r r' q q'
  obtain⟨e,he,he'⟩:=Items.eqs I hu t t' v v'
  refine⟨fun j=>match j with | 0=>b | k+1=>e k,fun j h1 h2=>?_,?_⟩
  ·cases j with
   | zero=>exact hb
   | succ k=>exact he k (by simpa using h1) (by simpa using h2)
  ·simp only[List.length_cons,Nat.succ_min_succ,List.range_succ_eq_map,List.all_cons,List.all_map,Bool.and_eq_true,List.take_succ_cons,List.cons.injEq]
   exact and_congr hb' he'
theorem Items.same{α:Type}[Rep α]{H:Hp}{xs ys:List V}{l m:List α}{us ws:List Value}(h:Items H xs l)(h':Items H ys m)(r:Vals xs us)(r':Vals ys ws) :
  (l.take (min us.length ws.length)=m.take (min us.length ws.length)/\us.length=ws.length)↔l=m:=by
 have e1:=h.len;have e2:=h'.len;have e3:=r.length;have e4:=r'.length;constructor
 ·rintro⟨a,b⟩
  rw[List.take_of_length_le (by omega),List.take_of_length_le (by omega)] at a;exact a
 ·intro a
  subst a
  exact⟨rfl,by omega⟩
abbrev KI(α:Type):Type:=List α
def LH{α:Type}[Rep α](H:Hp)(v:V)(l:List α):Prop:=∃p xs,v = .ref p/\H p=some (.tup xs)/\Items H xs l
instance {α:Type} [Rep α]:Rep (KI α) where
 is:=fun H v l=>LH (α:=α) H v l
 keep:=fun{H H' v a} k h=>by
  obtain⟨p,xs,e,hp,it⟩:=h
  exact⟨p,xs,e,k p xs hp,it.keep k⟩
 inj:=fun{H v a a'} h h'=>by
  obtain⟨p,xs,e,hp,it⟩:=h
  obtain⟨p',xs',e',hp',it'⟩:=h'
  rw[e] at e';cases e'
  rw[hp] at hp';cases hp'
  exact Items.inj it it'
 dep:=Rep.dep α+2
 eqA:=fun{X pins Z H s v v' a a' u u' A} I hu h h' r r'=>by
  obtain⟨p,xs,rfl,hp,it⟩:=h
  obtain⟨p',xs',rfl,hp',it'⟩:=h'
  cases r
  cases r'
  obtain⟨us,rv,q,_⟩:=I.tuple (SqT.of hp)
  obtain⟨us',rv',q',_⟩:=I.tuple (SqT.of hp')
  by_cases e:p=p'
  ·subst e
   refine⟨true,SeqAt.EqAt.same _,?_⟩
   rw[hp] at hp';cases hp'
   have:a=a':=Items.inj it it'
   simp[this]
  ·obtain⟨f,hf,hf'⟩:=Items.eqs (A:=A.in1) I (by show A.units+1+Rep.dep α<cLine;omega) it it' rv rv'
   refine⟨_,SeqAt.EqAt.of_refs e (SeqAt.RcAt.tuples (e:=f) (show s.heap.IsTuple p us.toArray from q) (show s.heap.IsTuple p' us'.toArray from q') (by omega) (fun j h1 h2=>hf j (by simpa using h1) (by simpa using h2))),?_⟩
   simp only[List.size_toArray,Bool.and_eq_true,beq_iff_eq];rw[hf']
   exact Items.same it it' rv rv'
structure Def(K:PySem.W.Frag)(mg:Str->Option Value)(x:Str)(st:Stmt):Prop where
 ex:∃f fd,mg x=some (.ref f)/\Fun K x x st f fd
theorem def_mk{K:PySem.W.Frag}{h:Heap}{mg:Str->Option Value}{x:Str}{st:Stmt}{f:Addr}{oc:Value}{od an:Option Addr}{osl:Array (Option Value)}{kV doc pm cdv ct:Value}(X:K.In h)(G:h.Ns mainGlobals mg)
  (a:PySem.W.nsIn K mainGlobals x=some (some (.ref f))) (l:K.lookup f=some ⟨oc,od,.func (PySem.W.fnOf x x (YT st) (Z7 st) (Zk st) .none kV doc pm an cdv ct),osl⟩)
  (c:PySem.W.codeIn K cdv x=true) (k:PySem.W.keepIn K (.ref f)=true):Def K mg x st:=⟨f,_,PySem.W.mg_of X G a,Mr (st:=st) l c k⟩
structure XQ(P:Program)(w:World)(K:PySem.W.Frag)(mg:Str->Option Value)(base:Heap)(x:Str)(ps:List Str)(sp:Sp)(k:Nat):Prop where
 ex:∃f fd,mg x=some (.ref f)/\PySem.W.keepIn K (.ref f)=true/\Binds K fd ps []/\WB P w K mg base Ro k f fd ps sp
section
variable {P:Program} {w:World} {K:PySem.W.Frag} {mg:Str->Option Value} {base:Heap}
theorem Def.cal{x:Str}{st:Stmt}{N ps:List Str}{k:Nat}{sp:Sp}(D:Def K mg x st)(S:Zz N ps (Zk st))
  (hb:∀(kV doc pm:Value)(an:Option Addr)(cdv ct:Value)(us:List Value),us.length=ps.length->bindArgs (PySem.W.fnOf x x (YT st) (Z7 st) (Zk st) .none kV doc pm an cdv ct) ⟨us,[]⟩=pure (ps.zip us))
  (len:∀vs H Q E,sp vs H Q E->vs.length=ps.length)
  (hbody:∀(f:Addr)(cdv:Value)(A:Around)(outer:List Env)(s:Shared)(H:Hp)(vs:List V)(Q:VK)(E:XK),Room k (A.deeper (envOfC x (Zk st) s.heap.objs.size f cdv))->sp vs H Q E->
   ∃t,PSs (US Ro P w K mg base N x (Zk st) f cdv A outer s H E).nox (Z7 st) t/\t { nx:=fun _ H'=>Q .non H',rt:=Q } (start N vs) H):XQ P w K mg base x ps sp (k+1):=by
 obtain⟨f,fd,hm,F⟩:=D.ex
 exact⟨f,fd,hm,F.kp,F.binds hb,F.ok S len fun cdv A outer s H vs Q E hr h=>hbody f cdv A outer s H vs Q E hr h⟩
end
section
variable {X:Cx} {x:Str} {ps:List Str} {sp:Sp} {k:Nat} {e:Expr} {es:List Expr} {t:TA} {p pos:Pos}
theorem Mt(C:XQ X.prog X.w X.K X.mg X.base x ps sp k)(hr:Room k X.A)(hg:Gl X x)(ha:PA X (e::es) t)
  (hdb:(x==("__debug__" : Str))=false:=by decide) (he:starEach (e::es) X.env=(false,eval e X.env)::starEach es X.env:=by rfl) (hpl:(backTo pos (starEach es X.env)).any (·.1)=false:=by rfl) :
  PE X (.Call (.Name x p) (e::es) [] pos) (Nz sp [] E0 t):=by
 obtain⟨f,fd,a,b,c,d⟩:=C.ex
 exact Ov d hr hg a b c .nil LB ha hdb he hpl
end
def WI(N:List Str)(around scope:Scope)(own fr:List Str)(ix:List Nat):Bool:=
 (match scope.kind with | .function=>true | _=>false)&&scope.names.all (fun y=>y.2 != .cell)&&scope.names.all (fun y=>y.2 != .local || scope.names.lookup y.1==some .local)&&
 scope.names.all (fun y=>y.2 != .free || (around.names.lookup y.1==some .cell || around.names.lookup y.1==some .free))&&(fr.map some==ix.map (fun i=>N[i]?))&&
 fr.all (fun x=>scope.names.contains (x,NameKind.free))&&fr.all (fun x=>scope.names.lookup x != some .local)
theorem Ux{N:List Str}{around scope:Scope}{own fr:List Str}{ix:List Nat}(h:WI N around scope own fr ix=true):CompScope N around scope own fr ix:=by
 unfold WI at h;simp only[Bool.and_eq_true] at h
 obtain⟨⟨⟨⟨⟨⟨h1,h2⟩,h3⟩,h4⟩,h5⟩,h6⟩,h7⟩:=h
 refine⟨?_,fun y hy=>?_,fun y hy e=>?_,fun y hy e=>?_,by simpa using h5,fun x hx=>?_,fun x hx=>?_⟩
 ·split at h1
  ·assumption
  ·cases h1
 ·simpa using List.all_eq_true.mp h2 y hy
 ·have:=List.all_eq_true.mp h3 y hy
  rw[e] at this
  simpa using this
 ·have:=List.all_eq_true.mp h4 y hy
  rw[e] at this
  simpa using this
 ·simpa using List.all_eq_true.mp h6 x hx
 ·simpa using List.all_eq_true.mp h7 x hx
section
variable {X:Cx} {tg elt iter:Expr} {ifs:List Expr} {scope:Scope} {pos:Pos} {wi:TI} {g:TG} {tt:TT} {te:TE}
theorem Q6(own fr:List Str)(ix:List Nat)(hcalm:X.calm=true)(hi:PI X tg iter wi)(S:WI X.N X.env.scope scope own fr ix=true)
  (hg:∀cl C s H ex,PG (Zu X (own++fr) scope cl C s H ex) tg g) (ht:∀cl C s H ex,OI (Zu X (own++fr) scope cl C s H ex) ifs tt) (he:∀cl C s H ex,PE (Zu X (own++fr) scope cl C s H ex) elt te)
  (hs:∀x,foldedSetIterable iter X.env x=pure x:=by intro _;rfl):PE X (.ListComp elt [⟨tg,iter,ifs,0⟩] scope pos) (Uw own.length ix wi g tt te):=
 OK hcalm hi (Ux S) hg ht he hs
theorem Q7(own fr:List Str)(ix:List Nat){i:Nat}{y:Str}{py spos:Pos}(hN:X.N.Nodup)(hy:X.N[i]?=some y)(hloc:X.env.scope.names.lookup y=some .local)(hcalm:X.calm=true)(hi:PI X tg iter wi)(S:WI X.N X.env.scope scope own fr ix=true)
  (hg:∀cl C s H ex,PG (Zu X (own++fr) scope cl C s H ex) tg g) (ht:∀cl C s H ex,OI (Zu X (own++fr) scope cl C s H ex) ifs tt) (he:∀cl C s H ex,PE (Zu X (own++fr) scope cl C s H ex) elt te)
  (hsw:swapsWith (.ListComp elt [⟨tg,iter,ifs,0⟩] scope pos) (some (.Name y py)) spos.line X.env=pure true:=by rfl)
  (hs:∀x,foldedSetIterable iter X.env x=pure x:=by intro _;rfl):PS X (.Assign [.Name y py] (.ListComp elt [⟨tg,iter,ifs,0⟩] scope pos) spos) (Sf (Uw own.length ix wi g tt te) (W5 i)):=
 OL hN hy hloc hcalm hi (Ux S) hg ht he hsw hs
end
structure Sr(mg:Str->Option Value):Prop where
 «len» : mg "len" = none
 «sum» : mg "sum" = none
 «range» : mg "range" = none
 «enumerate» : mg "enumerate" = none
 «zip» : mg "zip" = none
 «tuple» : mg "tuple" = none
 «list» : mg "list" = none
 «all» : mg "all" = none
 «any» : mg "any" = none
 «isinstance» : mg "isinstance" = none
 «int» : mg "int" = none
 «bool» : mg "bool" = none
 «str» : mg "str" = none
 «min» : mg "min" = none
 «max» : mg "max" = none
 «sorted» : mg "sorted" = none
 «abs» : mg "abs" = none
 «ValueError» : mg "ValueError" = none
 «reversed» : mg "reversed" = none
abbrev Mu(g:TG)(tb:TS)(D:X2)(Z:St)(J:It)(H:Hp):Prop:=
 ∃W:Nat->Nat->St->Hp->Prop,(∃m,W 0 m Z H)/\∀i m Z H,W i m Z H->
   (J.stop i H/\D.nx Z H)\/(J.go i H/\∃N:St->Hp->Prop,(∀Z' H',N Z' H'->∃m',m'<m/\W (i+1) m' Z' H')/\∀x H',J.yld i H x H'->g x Z H' fun Z2 H2=>tb { D with nx:=N,ct:=N,bk:=D.nx } Z2 H2)
def Zw(l:List Int)(i:Nat):Int:=l.getD i 0
theorem WK(l:List Int):(List.range l.length).map (Zw l)=l:=by
 apply List.ext_getElem?
 intro i;rw[List.getElem?_map]
 by_cases h:i<l.length
 ·rw[List.getElem?_eq_getElem (by simpa using h),List.getElem?_eq_getElem h]
  simp[Zw,List.getD_eq_getElem?_getD,List.getElem?_eq_getElem h]
 ·rw[List.getElem?_eq_none (by simpa using h),List.getElem?_eq_none (by omega)];rfl
theorem YZ{f:Nat->Int}{n i:Nat}(h:i<n):Zw ((List.range n).map f) i=f i:=by
 unfold Zw
 rw[List.getD_eq_getElem?_getD,List.getElem?_map,List.getElem?_range h];rfl
def ZA(w:List (List Int))(i:Nat):List Int:=w.getD i []
theorem TF{w:List (List Int)}{i:Nat}(h:i<w.length):w[i]?=some (ZA w i):=by
 unfold ZA
 rw[List.getD_eq_getElem?_getD,List.getElem?_eq_getElem h];rfl
def YQ(w:List (List Int))(i j:Nat):Int:=Zw (ZA w i) j
structure Xl(w:List (List Int)):Prop where
 pos:1<=w.length
 few:w.length<=7
 sq:∀i,i<w.length->(ZA w i).length=w.length
 lo:∀i j,i<w.length->j<w.length->0<=YQ w i j
 hi:∀i j,i<w.length->j<w.length->YQ w i j<=9
 sym:∀i j,i<w.length->j<w.length->YQ w i j=YQ w j i
 dia:∀i,i<w.length->YQ w i i=0
def Mv(K:PySem.W.Frag):List V->Hp->VK->Prop:=fun xs H Q=>∃p ys,xs=[.ref p]/\((SqL K H p ys/\∀l,H l=none->Q (.ref l) (upd H l (.tup ys)))\/(SqT K H p ys/\Q (.ref p) H))
theorem Same.off{H Hc:Hp}{p:Addr}(s:Same H Hc)(n:Hc p=none):H p=none:=s.free n
abbrev Ya:=Nat×Nat×Int
def Qp(e:Ya):List ZR×V:=([.inl (e.1:Int),.inl (e.2.1:Int)],.int e.2.2)
def dE(ts:List Ya):List (List ZR×V):=ts.map Qp
structure DictOk(n:Nat)(ts:List Ya):Prop where
 ok:∀e∈ts,e.1<e.2.1/\e.2.1<n/\1<=e.2.2/\e.2.2<=9
 nd:(ts.map fun e=>(e.1,e.2.1)).Nodup
theorem U4{a b a' b':Nat}(h:([Sum.inl (a:Int),Sum.inl (b:Int)]:List ZR)=[Sum.inl (a':Int),Sum.inl (b':Int)]):a=a'/\b=b':=by
 have h1:=(List.cons.inj h).1
 have h2:=(List.cons.inj (List.cons.inj h).2).1
 have e1:=Sum.inl.inj h1;have e2:=Sum.inl.inj h2;omega
theorem DictOk.nil(n:Nat):DictOk n []:=⟨fun _ h=>by simp at h,by simp⟩
theorem ON{ts:List Ya}{a b:Nat}:(∀t,(a,b,t)∉ts)->Xq (dE ts) [.inl (a:Int),.inl (b:Int)]=none:=by
 intro h;unfold Xq dE;rw[Option.map_eq_none_iff,List.find?_eq_none];intro x hx
 obtain⟨e,he,rfl⟩:=List.mem_map.mp hx
 intro q;have q:=of_decide_eq_true q
 obtain⟨h1,h2⟩:=U4 q
 obtain⟨a',b',t⟩:=e
 simp only at h1 h2
 subst h1 h2
 exact h t he
theorem Mw{n:Nat}{ts:List Ya}{a b:Nat}{t:Int}(ok:DictOk n ts)(hab:a<b)(hb:b<n)(h1:1<=t)(h9:t<=9) :
  ∃ts',Y4 (dE ts) [.inl (a:Int),.inl (b:Int)] (.int t)=dE ts'/\DictOk n ts'/\ts'.length<=ts.length+1:=by
 by_cases hm:∃t',(a,b,t')∈ts
 ·-- it is there: replaced
  obtain⟨t',hm⟩:=hm
  refine⟨ts.map fun e=>if(e.1,e.2.1)=(a,b) then(e.1,e.2.1,t) else e,?_,⟨?_,?_⟩,by simp⟩
  ·unfold Y4
   rw[if_pos ?_]
   ·unfold dE
    rw[List.map_map,List.map_map]
    apply List.map_congr_left
    intro e _
    show(if(Qp e).1=_ then((Qp e).1,V.int t) else Qp e)=Qp (if(e.1,e.2.1)=(a,b) then(e.1,e.2.1,t) else e)
    by_cases q:(e.1,e.2.1)=(a,b)
    ·rw[if_pos q,if_pos ?_]
     ·rfl
     ·have:=Prod.mk.inj q
      show([.inl (e.1:Int),.inl (e.2.1:Int)]:List ZR)=_
      rw[this.1,this.2]
    ·rw[if_neg q,if_neg ?_]
     intro z
     obtain⟨h1,h2⟩:=U4 (show([.inl (e.1:Int),.inl (e.2.1:Int)]:List ZR)=_ from z)
     exact q (by rw[h1,h2])
   ·rw[List.any_eq_true]
    exact⟨Qp (a,b,t'),List.mem_map.mpr ⟨_,hm,rfl⟩,decide_eq_true rfl⟩
  ·intro e he
   obtain⟨e',he',rfl⟩:=List.mem_map.mp he
   have:=ok.ok e' he'
   by_cases q:(e'.1,e'.2.1)=(a,b)
   ·rw[if_pos q];exact⟨this.1,this.2.1,h1,h9⟩
   ·rw[if_neg q];exact this
  ·rw[List.map_map]
   have e:((fun e:Ya=>(e.1,e.2.1)) ∘ fun e:Ya=>if(e.1,e.2.1)=(a,b) then(e.1,e.2.1,t) else e)=fun e:Ya=>(e.1,e.2.1):=by
    funext e
    show((if(e.1,e.2.1)=(a,b) then((e.1,e.2.1,t):Ya) else e).1,(if(e.1,e.2.1)=(a,b) then((e.1,e.2.1,t):Ya) else e).2.1)=_
    by_cases q:(e.1,e.2.1)=(a,b)
    ·rw[if_pos q]
    ·rw[if_neg q]
   rw[e];exact ok.nd
 ·have hn:∀t',(a,b,t')∉ts:=fun t' h=>hm ⟨t',h⟩
  refine⟨ts++[(a,b,t)],?_,⟨?_,?_⟩,by simp⟩
  ·rw[Q1 _ (ON hn)]
   unfold dE
   rw[List.map_append];rfl
  ·intro e he
   rcases List.mem_append.mp he with q | q
   ·exact ok.ok e q
   ·rw[List.mem_singleton.mp q];exact⟨hab,hb,h1,h9⟩
  ·rw[List.map_append]
   refine UZ ok.nd ?_
   rw[List.mem_map]
   rintro⟨e,he,q⟩
   obtain⟨a',b',t'⟩:=e
   have:=Prod.mk.inj q
   simp only at this
   rw[this.1,this.2] at he
   exact hn t' he
def Yu(M:List (List Int))(a b:Nat)(t:Int):List (List Int):=M.set a ((ZA M a).set b t)
def ZM(M:List (List Int))(e:Ya):List (List Int):=Yu (Yu M e.1 e.2.1 e.2.2) e.2.1 e.1 e.2.2
def OO(n:Nat)(ts:List Ya):List (List Int):=ts.foldl ZM (List.replicate n (List.replicate n 0))
structure MatOk(n:Nat)(M:List (List Int)):Prop where
 len:M.length=n
 row:∀i,i<n->(ZA M i).length=n
 lo:∀i j,i<n->j<n->0<=YQ M i j
 hi:∀i j,i<n->j<n->YQ M i j<=9
 sym:∀i j,i<n->j<n->YQ M i j=YQ M j i
 dia:∀i,i<n->YQ M i i=0
theorem Uy{M:List (List Int)}{a i:Nat}{r:List Int}(ha:a<M.length):ZA (M.set a r) i=if a=i then r else ZA M i:=by
 unfold ZA;rw[List.getD_eq_getElem?_getD,List.getD_eq_getElem?_getD,List.getElem?_set]
 by_cases h:a=i
 ·subst h;simp[ha]
 ·simp[h]
theorem Vk{l:List Int}{b j:Nat}{t:Int}(hb:b<l.length):Zw (l.set b t) j=if b=j then t else Zw l j:=by
 unfold Zw;rw[List.getD_eq_getElem?_getD,List.getD_eq_getElem?_getD,List.getElem?_set]
 by_cases h:b=j
 ·subst h;simp[hb]
 ·simp[h]
theorem X8{n:Nat}{M:List (List Int)}{a b i j:Nat}{t:Int}(hl:M.length=n)(hr:∀i,i<n->(ZA M i).length=n)(ha:a<n)(hb:b<n):YQ (Yu M a b t) i j=if a=i/\b=j then t else YQ M i j:=by
 show Zw (ZA (M.set a ((ZA M a).set b t)) i) j=_
 rw[Uy (by omega)]
 by_cases h:a=i
 ·subst h
  rw[if_pos rfl,Vk (by rw[hr a ha];exact hb)]
  by_cases q:b=j
  ·rw[if_pos q,if_pos ⟨rfl,q⟩]
  ·rw[if_neg q,if_neg (fun z=>q z.2)];rfl
 ·rw[if_neg h,if_neg (fun z=>h z.1)];rfl
theorem Xe{n:Nat}{M:List (List Int)}{a b:Nat}{t:Int}(hl:M.length=n)(hr:∀i,i<n->(ZA M i).length=n)(ha:a<n):(Yu M a b t).length=n/\∀i,i<n->(ZA (Yu M a b t) i).length=n:=by
 refine⟨by unfold Yu;rw[List.length_set];exact hl,fun i hi=>?_⟩
 show(ZA (M.set a ((ZA M a).set b t)) i).length=n
 rw[Uy (by omega)]
 split
 ·rw[List.length_set];exact hr a ha
 ·exact hr i hi
theorem MatOk.step{n:Nat}{M:List (List Int)}{e:Ya}(ok:MatOk n M)(h:e.1<e.2.1/\e.2.1<n/\1<=e.2.2/\e.2.2<=9):MatOk n (ZM M e):=by
 obtain⟨a,b,t⟩:=e
 obtain⟨hab,hb,h1,h9⟩:=h
 simp only at hab hb h1 h9
 have ha:a<n:=by omega
 obtain⟨l1,r1⟩:=Xe (t:=t) (b:=b) ok.len ok.row ha
 obtain⟨l2,r2⟩:=Xe (t:=t) (b:=a) l1 r1 hb
 have E:∀i j,YQ (Yu (Yu M a b t) b a t) i j=if b=i/\a=j then t else if a=i/\b=j then t else YQ M i j:=fun i j=>by
  rw[X8 l1 r1 hb ha,X8 ok.len ok.row ha hb]
 refine⟨l2,r2,fun i j hi hj=>?_,fun i j hi hj=>?_,fun i j hi hj=>?_,fun i hi=>?_⟩
 ·show 0<=YQ (Yu (Yu M a b t) b a t) i j
  rw[E];split
  ·omega
  ·split
   ·omega
   ·exact ok.lo i j hi hj
 ·show YQ (Yu (Yu M a b t) b a t) i j<=9
  rw[E];split
  ·omega
  ·split
   ·omega
   ·exact ok.hi i j hi hj
 ·show YQ (Yu (Yu M a b t) b a t) i j=YQ (Yu (Yu M a b t) b a t) j i
  rw[E,E];have s:=ok.sym i j hi hj
  by_cases q1:b=i/\a=j
  ·rw[if_pos q1]
   obtain⟨rfl,rfl⟩:=q1
   rw[if_neg (by omega),if_pos ⟨rfl,rfl⟩]
  ·rw[if_neg q1]
   by_cases q2:a=i/\b=j
   ·rw[if_pos q2]
    obtain⟨rfl,rfl⟩:=q2
    rw[if_pos ⟨rfl,rfl⟩]
   ·rw[if_neg q2,if_neg (fun z=>q2 ⟨z.2,z.1⟩),if_neg (fun z=>q1 ⟨z.2,z.1⟩),s]
 ·show YQ (Yu (Yu M a b t) b a t) i i=0
  rw[E,if_neg (by omega),if_neg (by omega)]
  exact ok.dia i hi
theorem MatOk.zero(n:Nat):MatOk n (List.replicate n (List.replicate n 0)):=by
 have r:∀i,i<n->ZA (List.replicate n (List.replicate n (0:Int))) i=List.replicate n 0:=fun i hi=>by
  unfold ZA
  rw[List.getD_eq_getElem?_getD,List.getElem?_replicate,if_pos hi];rfl
 have z:∀i j,i<n->j<n->YQ (List.replicate n (List.replicate n (0:Int))) i j=0:=fun i j hi hj=>by
  show Zw (ZA _ i) j=0
  rw[r i hi];unfold Zw
  rw[List.getD_eq_getElem?_getD,List.getElem?_replicate,if_pos hj];rfl
 exact⟨by simp,fun i hi=>by rw[r i hi];simp,fun i j hi hj=>by rw[z i j hi hj];omega,fun i j hi hj=>by rw[z i j hi hj];omega,fun i j hi hj=>by rw[z i j hi hj,z j i hj hi],fun i hi=>z i i hi hi⟩
theorem VC{n:Nat}{ts:List Ya}(ok:DictOk n ts):MatOk n (OO n ts):=by
 have gen:∀(l:List Ya)(M:List (List Int)),(∀e∈l,e.1<e.2.1/\e.2.1<n/\1<=e.2.2/\e.2.2<=9)->MatOk n M->MatOk n (l.foldl ZM M):=by
  intro l
  induction l with
  | nil=>intro M _ h;exact h
  | cons e r ih=>
   intro M h hM;rw[List.foldl_cons]
   exact ih _ (fun e' he'=>h e' (List.mem_cons_of_mem _ he')) (hM.step (h e List.mem_cons_self))
 exact gen ts _ ok.ok (MatOk.zero n)
theorem MatOk.web{n:Nat}{M:List (List Int)}(h:MatOk n M)(h1:1<=n)(h7:n<=7):Xl M:=by
 have e:=h.len;subst e
 exact⟨h1,h7,h.row,h.lo,h.hi,h.sym,h.dia⟩
theorem ZB(f:Nat->Int)(n:Nat):((List.range (n+1)).map f).sum=((List.range n).map f).sum+f n:=by
 rw[List.range_succ,List.map_append,List.sum_append];simp
theorem ZN{f g:Nat->Int}{n:Nat}(h:∀i,i<n->f i=g i):((List.range n).map f).sum=((List.range n).map g).sum:=by
 congr 1
 apply List.map_congr_left
 intro i hi
 exact h i (List.mem_range.mp hi)
theorem OP(f g:Nat->Int)(n:Nat):((List.range n).map fun i=>f i+g i).sum=((List.range n).map f).sum+((List.range n).map g).sum:=by
 induction n with
 | zero=>simp
 | succ n ih=>rw[ZB,ZB,ZB,ih];omega
theorem U5(f g:Nat->Int)(n:Nat):((List.range n).map fun i=>f i-g i).sum=((List.range n).map f).sum-((List.range n).map g).sum:=by
 induction n with
 | zero=>simp
 | succ n ih=>rw[ZB,ZB,ZB,ih];omega
theorem XD(c:Int)(n:Nat):((List.range n).map fun _=>c).sum=n*c:=by
 induction n with
 | zero=>simp
 | succ n ih=>rw[ZB,ih];rw[show((n+1:Nat):Int)=(n:Int)+1 by omega,Int.add_mul];omega
theorem VD{f:Nat->Int}{n:Nat}(h:∀i,i<n->f i=0):((List.range n).map f).sum=0:=by
 rw[ZN h,XD];simp
theorem TH(f:Nat->Nat->Int)(m n:Nat):((List.range m).map fun i=>((List.range n).map fun j=>f i j).sum).sum=((List.range n).map fun j=>((List.range m).map fun i=>f i j).sum).sum:=by
 induction m with
 | zero=>simp[XD]
 | succ m ih=>
  rw[ZB,ih,<-OP]
  apply ZN
  intro j _;rw[ZB]
theorem Rr(l:List Int):((List.range l.length).map (Zw l)).sum=l.sum:=by rw[WK]
theorem Q8{α:Type}(n:Nat)(x:α):(List.replicate n [x]).flatten=List.replicate n x:=by
 induction n with
 | zero=>rfl
 | succ n ih=>rw[List.replicate_succ,List.flatten_cons,ih];rfl
theorem Ss{α β:Type}(f:β->α->β)(s:β){l:List α}{i:Nat}{x:α}(h:l[i]?=some x):(l.take (i+1)).foldl f s=f ((l.take i).foldl f s) x:=by
 rw[List.take_add_one,h]
 show List.foldl f s (l.take i++[x])=_
 rw[List.foldl_append];rfl
structure NamesOk(i:Nat)(l:List Int):Prop where
 len:l.length=i
 nd:l.Nodup
 lo:∀x∈l,0<=x
 hi:∀x∈l,x<i
theorem NamesOk.nil:NamesOk 0 []:=⟨rfl,List.nodup_nil,fun _ h=>by simp at h,fun _ h=>by simp at h⟩
theorem NamesOk.ins{i:Nat}{l:List Int}(h:NamesOk i l)(k:Nat):NamesOk (i+1) (l.take k++(i:Int)::l.drop k):=by
 have hp:(l.take k++(i:Int)::l.drop k).Perm ((i:Int)::l):=by
  have:=List.perm_middle (a:=(i:Int)) (l₁:=l.take k) (l₂:=l.drop k)
  rw[List.take_append_drop] at this;exact this
 refine⟨by rw[hp.length_eq,List.length_cons,h.len],?_,fun x hx=>?_,fun x hx=>?_⟩
 ·rw[hp.nodup_iff,List.nodup_cons]
  exact⟨fun hm=>by have:=h.hi _ hm;omega,h.nd⟩
 ·rcases List.mem_cons.mp (hp.mem_iff.mp hx) with e | e
  ·omega
  ·exact h.lo x e
 ·rcases List.mem_cons.mp (hp.mem_iff.mp hx) with e | e
  ·omega
  ·have:=h.hi x e;omega
theorem NamesOk.at{i:Nat}{l:List Int}(h:NamesOk i l){x:Nat}(hx:x<i):0<=Zw l x/\Zw l x<i:=by
 have e:Zw l x=l[x]'(by rw[h.len];exact hx):=by
  unfold Zw
  rw[List.getD_eq_getElem?_getD,List.getElem?_eq_getElem (by rw[h.len];exact hx)];rfl
 rw[e]
 exact⟨h.lo _ (List.getElem_mem _),h.hi _ (List.getElem_mem _)⟩
theorem NamesOk.ne{i:Nat}{l:List Int}(h:NamesOk i l){x y:Nat}(hx:x<i)(hy:y<i)(n:x≠y):Zw l x≠Zw l y:=by
 have ex:Zw l x=l[x]'(by rw[h.len];exact hx):=by
  unfold Zw
  rw[List.getD_eq_getElem?_getD,List.getElem?_eq_getElem (by rw[h.len];exact hx)];rfl
 have ey:Zw l y=l[y]'(by rw[h.len];exact hy):=by
  unfold Zw
  rw[List.getD_eq_getElem?_getD,List.getElem?_eq_getElem (by rw[h.len];exact hy)];rfl
 rw[ex,ey];intro e
 exact n ((List.getElem_inj h.nd).mp e)
theorem lt_size{n:Nat}(h:n<=10000):n<sizeLine:=Nat.lt_of_le_of_lt h (by decide)
end L2
namespace VL
open PySem PySem.Spec PyProof.Rows L2
variable {K:PySem.W.Frag}
inductive PV where
 | non | bl (b:Bool) | int (i:Int) | str (x:Str) | ty (n:String) | exc (n:Str)
 | tup (l:List PV) | lst (l:List PV) | cst (l:List PV)
 | dK (ks:List ZR) (vs:List PV) | dT (ks:List (List ZR)) (vs:List PV)
instance:Inhabited PV:=⟨.non⟩
mutual
/-- nothing in it can be changed -/
def Zx:PV->Bool
 | .tup l=>Zn l
 | .cst l=>Zn l
 | .lst _=>false
 | .dK _ _=>false
 | .dT _ _=>false
 | .non=>true
 | .bl _=>true
 | .int _=>true
 | .str _=>true
 | .ty _=>true
 | .exc _=>true
def Zn:List PV->Bool
 | []=>true
 | x::r=>Zx x&&Zn r
end
theorem YH:∀l:List PV,Zn l=l.all Zx
 | []=>rfl
 | x::r=>by rw[List.all_cons,<-YH r];rfl
def KL(K:PySem.W.Frag)(a:Addr)(xs:List V):Prop:=
 ∃(o:Obj) (its:Array Value) (n:Nat),K.lookup a=some o/\o.cls = .type "list"/\o.dict=none/\o.data = .seq its n/\its.size<=sizeLine/\Vals xs its.toList
def CsK(K:PySem.W.Frag)(H:Hp)(p:Addr)(xs:List V):Prop:=(∃o,H p=some (.frz o (.lst xs)))\/KL K p xs
theorem CsK.sq{K:PySem.W.Frag}{H:Hp}{p:Addr}{xs:List V}(h:CsK K H p xs):SqL K H p xs:=by
 rcases h with h | h
 ·exact .inl (.inr h)
 ·exact .inr h
mutual
/-- v is the tree l in the heap H;fp: the addresses of its lists and dicts -/
def Is(K:PySem.W.Frag)(H:Hp):PV->V->List Addr->Prop
 | .non,v,fp=>v = .non/\fp=[]
 | .bl b,v,fp=>v = .bl b/\fp=[]
 | .int i,v,fp=>v = .int i/\fp=[]
 | .str x,v,fp=>v = .str x/\fp=[]
 | .ty n,v,fp=>v = .ty n/\fp=[]
 | .exc n,v,fp=>(∃e o x C,v = .ref e/\H e=some (.frz o (.own x))/\o.cls = .ref C/\PySem.W.nsIn K mainGlobals n=some (some (.ref C))/\o.dict=none/\∃vs,o.data = .fields vs)/\fp=[]
 | .tup l,v,fp=>∃p xs,v = .ref p/\H p=some (.tup xs)/\Iss K H l xs fp
 | .lst l,v,fp=>∃p xs fq,v = .ref p/\H p=some (.lst xs)/\Iss K H l xs fq/\fp=p::fq
 | .cst l,v,fp=>∃p xs,v = .ref p/\CsK K H p xs/\Iss K H l xs fp
 | .dK ks l,v,fp=>∃p kvs fq,v = .ref p/\Rd H p (.dK kvs)/\kvs.map (·.1)=ks/\Iss K H l (kvs.map (·.2)) fq/\fp=p::fq
 | .dT ks l,v,fp=>∃p kvs fq,v = .ref p/\Rd H p (.dT kvs)/\kvs.map (·.1)=ks/\Iss K H l (kvs.map (·.2)) fq/\fp=p::fq
def Iss(K:PySem.W.Frag)(H:Hp):List PV->List V->List Addr->Prop
 | [],xs,fp=>xs=[]/\fp=[]
 | l::ls,xs,fp=>∃x r f1 f2,xs=x::r/\Is K H l x f1/\Iss K H ls r f2/\fp=f1++f2
end
def RdK(H H':Hp)(p:Addr):Prop:=(∀xs,H p=some (.lst xs)->H' p=some (.lst xs))/\(∀kvs,Rd H p (.dK kvs)->Rd H' p (.dK kvs))/\∀kvs,Rd H p (.dT kvs)->Rd H' p (.dT kvs)
theorem RdK.of{H H':Hp}{p:Addr}(h:∀o,H p=some o->H' p=some o):RdK H H' p:=by
 have r:∀u,Rd H p u->Rd H' p u:=fun u q=>by
  rcases q with q | ⟨o,q⟩
  ·exact .inl (h _ q)
  ·exact .inr ⟨o,h _ q⟩
 exact⟨fun _=>h _,fun _=>r _,fun _=>r _⟩
structure TK2(H H':Hp):Prop where
 tup:TK H H'
 frz:∀b o xs,H b=some (.frz o (.lst xs))->H' b=some (.frz o (.lst xs))
 exc:∀b o x,H b=some (.frz o (.own x))->H' b=some (.frz o (.own x))
theorem Same.tk2{H H':Hp}(s:Same H H'):TK2 H H':=⟨s.tk,fun b o xs h=>s b _ h,fun b o x h=>s b _ h⟩
theorem CsK.tr{K:PySem.W.Frag}{H H':Hp}(t:TK2 H H'){p:Addr}{xs:List V}(h:CsK K H p xs):CsK K H' p xs:=by
 rcases h with⟨o,h⟩ | h
 ·exact .inl ⟨o,t.frz p o xs h⟩
 ·exact .inr h
mutual
theorem Is.tr{H H':Hp}(ht:TK2 H H'):∀(l:PV)(v:V)(fp:List Addr),(∀p∈fp,RdK H H' p)->Is K H l v fp->Is K H' l v fp
 | .non,_,_,_,h=>by simpa only[Is] using h
 | .bl _,_,_,_,h=>by simpa only[Is] using h
 | .int _,_,_,_,h=>by simpa only[Is] using h
 | .str _,_,_,_,h=>by simpa only[Is] using h
 | .ty _,_,_,_,h=>by simpa only[Is] using h
 | .exc _,_,_,_,h=>by
  simp only[Is] at h ⊢
  obtain⟨⟨e,o,x,C,a,b,c⟩,d⟩:=h
  exact⟨⟨e,o,x,C,a,ht.exc e o x b,c⟩,d⟩
 | .tup l,v,fp,hm,h=>by
  simp only[Is] at h ⊢
  obtain⟨p,xs,e,hp,hi⟩:=h
  exact⟨p,xs,e,ht.tup p xs hp,Iss.tr ht l xs fp hm hi⟩
 | .lst l,v,fp,hm,h=>by
  simp only[Is] at h ⊢
  obtain⟨p,xs,fq,e,hr,hi,rfl⟩:=h
  exact⟨p,xs,fq,e,(hm p List.mem_cons_self).1 _ hr,Iss.tr ht l xs fq (fun q hq=>hm q (List.mem_cons_of_mem _ hq)) hi,rfl⟩
 | .cst l,v,fp,hm,h=>by
  simp only[Is] at h ⊢
  obtain⟨p,xs,e,hr,hi⟩:=h
  exact⟨p,xs,e,hr.tr ht,Iss.tr ht l xs fp hm hi⟩
 | .dK ks l,v,fp,hm,h=>by
  simp only[Is] at h ⊢
  obtain⟨p,kvs,fq,e,hr,hk,hi,rfl⟩:=h
  exact⟨p,kvs,fq,e,(hm p List.mem_cons_self).2.1 _ hr,hk,Iss.tr ht l _ fq (fun q hq=>hm q (List.mem_cons_of_mem _ hq)) hi,rfl⟩
 | .dT ks l,v,fp,hm,h=>by
  simp only[Is] at h ⊢
  obtain⟨p,kvs,fq,e,hr,hk,hi,rfl⟩:=h
  exact⟨p,kvs,fq,e,(hm p List.mem_cons_self).2.2 _ hr,hk,Iss.tr ht l _ fq (fun q hq=>hm q (List.mem_cons_of_mem _ hq)) hi,rfl⟩
theorem Iss.tr{H H':Hp}(ht:TK2 H H'):∀(l:List PV)(xs:List V)(fp:List Addr),(∀p∈fp,RdK H H' p)->Iss K H l xs fp->Iss K H' l xs fp
 | [],_,_,_,h=>by simpa only[Iss] using h
 | l::ls,xs,fp,hm,h=>by
  simp only[Iss] at h ⊢
  obtain⟨x,r,f1,f2,e,h1,h2,rfl⟩:=h
  exact⟨x,r,f1,f2,e,Is.tr ht l x f1 (fun q hq=>hm q (List.mem_append_left _ hq)) h1,Iss.tr ht ls r f2 (fun q hq=>hm q (List.mem_append_right _ hq)) h2,rfl⟩
end
theorem Is.mono{H H':Hp}(s:Same H H'){l:PV}{v:V}{fp:List Addr}(h:Is K H l v fp):Is K H' l v fp:=Is.tr (Same.tk2 s) l v fp (fun p _=>RdK.of fun o q=>s p o q) h
theorem Iss.mono{H H':Hp}(s:Same H H'){l:List PV}{v:List V}{fp:List Addr}(h:Iss K H l v fp):Iss K H' l v fp:=Iss.tr (Same.tk2 s) l v fp (fun p _=>RdK.of fun o q=>s p o q) h
mutual
theorem Is.pure{H:Hp}:∀(l:PV)(v:V)(fp:List Addr),Zx l=true->Is K H l v fp->fp=[]
 | .non,_,_,_,h=>by simp only[Is] at h;exact h.2
 | .bl _,_,_,_,h=>by simp only[Is] at h;exact h.2
 | .int _,_,_,_,h=>by simp only[Is] at h;exact h.2
 | .str _,_,_,_,h=>by simp only[Is] at h;exact h.2
 | .ty _,_,_,_,h=>by simp only[Is] at h;exact h.2
 | .exc _,_,_,_,h=>by simp only[Is] at h;exact h.2
 | .tup l,v,fp,hp,h=>by
  simp only[Is] at h
  obtain⟨p,xs,e,_,hi⟩:=h
  exact Iss.pure l xs fp (by simpa only[Zx] using hp) hi
 | .lst l,v,fp,hp,h=>by simp[Zx] at hp
 | .cst l,v,fp,hp,h=>by
  simp only[Is] at h
  obtain⟨p,xs,e,_,hi⟩:=h
  exact Iss.pure l xs fp (by simpa only[Zx] using hp) hi
 | .dK ks l,v,fp,hp,h=>by simp[Zx] at hp
 | .dT ks l,v,fp,hp,h=>by simp[Zx] at hp
theorem Iss.pure{H:Hp}:∀(l:List PV)(xs:List V)(fp:List Addr),Zn l=true->Iss K H l xs fp->fp=[]
 | [],_,_,_,h=>by simp only[Iss] at h;exact h.2
 | l::ls,xs,fp,hp,h=>by
  simp only[Iss] at h;simp only[Zn,Bool.and_eq_true] at hp
  obtain⟨x,r,f1,f2,e,h1,h2,rfl⟩:=h
  rw[Is.pure l x f1 hp.1 h1,Iss.pure ls r f2 hp.2 h2];rfl
end
section
variable {H H':Hp}
theorem Iss.len:∀{l:List PV}{xs:List V}{fp:List Addr},Iss K H l xs fp->xs.length=l.length
 | [],xs,fp,h=>by simp only[Iss] at h;rw[h.1];rfl
 | l::ls,xs,fp,h=>by
  simp only[Iss] at h
  obtain⟨x,r,f1,f2,rfl,_,h2,_⟩:=h
  rw[List.length_cons,List.length_cons,h2.len]
theorem Iss.get:∀{l:List PV}{xs:List V}{fp:List Addr}{i:Nat}{a:PV},Iss K H l xs fp->l[i]?=some a->∃x f1,xs[i]?=some x/\Is K H a x f1/\∀p∈f1,p∈fp
 | [],xs,fp,i,a,h,e=>by simp at e
 | l::ls,xs,fp,0,a,h,e=>by
  simp only[Iss] at h
  obtain⟨x,r,f1,f2,rfl,h1,_,rfl⟩:=h
  simp at e;subst e
  exact⟨x,f1,rfl,h1,fun p hp=>List.mem_append_left _ hp⟩
 | l::ls,xs,fp,i+1,a,h,e=>by
  simp only[Iss] at h
  obtain⟨x,r,f1,f2,rfl,_,h2,rfl⟩:=h
  obtain⟨y,g,h3,h4,h5⟩:=h2.get (i:=i) (a:=a) (by simpa using e)
  exact⟨y,g,by simpa using h3,h4,fun p hp=>List.mem_append_right _ (h5 p hp)⟩
theorem Iss.get'{l:List PV}{xs:List V}{fp:List Addr}{i:Nat}{x:V}(h:Iss K H l xs fp)(e:xs[i]?=some x):∃a f1,l[i]?=some a/\Is K H a x f1/\∀p∈f1,p∈fp:=by
 have hi:i<l.length:=by rw[<-h.len];exact(List.getElem?_eq_some_iff.mp e).1
 obtain⟨y,f1,h1,h2,h3⟩:=h.get (List.getElem?_eq_getElem hi)
 rw[e] at h1;cases h1
 exact⟨_,f1,List.getElem?_eq_getElem hi,h2,h3⟩
theorem Iss.nil:Iss K H [] [] []:=by simp[Iss]
theorem Iss.cons{l:PV}{ls:List PV}{x:V}{xs:List V}{f1 f2:List Addr}(h1:Is K H l x f1)(h2:Iss K H ls xs f2):Iss K H (l::ls) (x::xs) (f1++f2):=by
 simp only[Iss];exact⟨x,xs,f1,f2,rfl,h1,h2,rfl⟩
theorem Iss.inv{l:PV}{ls:List PV}{xs:List V}{fp:List Addr}(h:Iss K H (l::ls) xs fp):∃x r f1 f2,xs=x::r/\Is K H l x f1/\Iss K H ls r f2/\fp=f1++f2:=by
 simpa only[Iss] using h
theorem Iss.append:∀{l m:List PV}{xs ys:List V}{f1 f2:List Addr},Iss K H l xs f1->Iss K H m ys f2->Iss K H (l++m) (xs++ys) (f1++f2)
 | [],m,xs,ys,f1,f2,h,h'=>by
  simp only[Iss] at h
  rw[h.1,h.2];exact h'
 | l::ls,m,xs,ys,f1,f2,h,h'=>by
  obtain⟨x,r,g1,g2,rfl,a,b,rfl⟩:=h.inv
  rw[List.append_assoc]
  exact Iss.cons a (b.append h')
theorem Iss.one{l:PV}{x:V}{f:List Addr}(h:Is K H l x f):Iss K H [l] [x] f:=by
 have:=Iss.cons h (Iss.nil (H:=H))
 rwa [List.append_nil] at this
theorem Iss.take:∀{l:List PV}{xs:List V}{fp:List Addr}(n:Nat),Iss K H l xs fp->∃f1,Iss K H (l.take n) (xs.take n) f1/\∀p∈f1,p∈fp
 | l,xs,fp,0,h=>⟨[],by rw[List.take_zero,List.take_zero];exact Iss.nil,fun p hp=>by simp at hp⟩
 | [],xs,fp,n+1,h=>by
  simp only[Iss] at h;rw[h.1]
  exact⟨[],by rw[List.take_nil,List.take_nil];exact Iss.nil,fun p hp=>by simp at hp⟩
 | l::ls,xs,fp,n+1,h=>by
  obtain⟨x,r,f1,f2,rfl,h1,h2,rfl⟩:=h.inv
  obtain⟨f3,a,b⟩:=h2.take n
  refine⟨f1++f3,Iss.cons h1 a,fun p hp=>?_⟩
  rcases List.mem_append.mp hp with h | h
  ·exact List.mem_append_left _ h
  ·exact List.mem_append_right _ (b p h)
theorem Iss.drop:∀{l:List PV}{xs:List V}{fp:List Addr}(n:Nat),Iss K H l xs fp->∃f1,Iss K H (l.drop n) (xs.drop n) f1/\∀p∈f1,p∈fp
 | l,xs,fp,0,h=>⟨fp,h,fun p hp=>hp⟩
 | [],xs,fp,n+1,h=>by
  simp only[Iss] at h;rw[h.1]
  exact⟨[],by rw[List.drop_nil,List.drop_nil];exact Iss.nil,fun p hp=>by simp at hp⟩
 | l::ls,xs,fp,n+1,h=>by
  obtain⟨x,r,f1,f2,rfl,h1,h2,rfl⟩:=h.inv
  obtain⟨f3,a,b⟩:=h2.drop n
  exact⟨f3,a,fun p hp=>List.mem_append_right _ (b p hp)⟩
theorem Iss.setP:∀{l:List PV}{xs:List V}{a:PV}{x:V}(i:Nat),Zn l=true->Zx a=true->Iss K H l xs []->Is K H a x []->Iss K H (l.set i a) (xs.set i x) []
 | [],xs,a,x,i,_,_,h,_=>by
  simp only[Iss] at h
  rw[h.1];simp only[List.set_nil];exact Iss.nil
 | l::ls,xs,a,x,0,hp,_,h,ha=>by
  simp only[Zn,Bool.and_eq_true] at hp
  obtain⟨y,r,f1,f2,rfl,_,h2,e⟩:=h.inv
  have e2:=Iss.pure _ _ _ hp.2 h2;subst e2
  exact Iss.cons (f1:=[]) ha h2
 | l::ls,xs,a,x,i+1,hp,hq,h,ha=>by
  simp only[Zn,Bool.and_eq_true] at hp
  obtain⟨y,r,f1,f2,rfl,h1,h2,e⟩:=h.inv
  have e1:=Is.pure _ _ _ hp.1 h1;have e2:=Iss.pure _ _ _ hp.2 h2
  subst e1 e2
  exact Iss.cons (f1:=[]) h1 (Iss.setP i hp.2 hq h2 ha)
theorem Is.int_inv{i:Int}{v:V}{fp:List Addr}(h:Is K H (.int i) v fp):v = .int i/\fp=[]:=by simpa only[Is] using h
theorem Is.int(i:Int):Is K H (.int i) (.int i) []:=by simp[Is]
theorem Is.bl(i:Bool):Is K H (.bl i) (.bl i) []:=by simp[Is]
theorem Is.non:Is K H .non .non []:=by simp[Is]
theorem Is.str(x:Str):Is K H (.str x) (.str x) []:=by simp[Is]
theorem Is.ty(n:String):Is K H (.ty n) (.ty n) []:=by simp[Is]
theorem Is.bl_inv{i:Bool}{v:V}{fp:List Addr}(h:Is K H (.bl i) v fp):v = .bl i/\fp=[]:=by simpa only[Is] using h
theorem Is.str_inv{i:Str}{v:V}{fp:List Addr}(h:Is K H (.str i) v fp):v = .str i/\fp=[]:=by simpa only[Is] using h
theorem Is.non_inv{v:V}{fp:List Addr}(h:Is K H .non v fp):v = .non/\fp=[]:=by simpa only[Is] using h
theorem Is.ty_inv{n:String}{v:V}{fp:List Addr}(h:Is K H (.ty n) v fp):v = .ty n/\fp=[]:=by simpa only[Is] using h
theorem Is.tup_inv{l:List PV}{v:V}{fp:List Addr}(h:Is K H (.tup l) v fp):∃p xs,v = .ref p/\H p=some (.tup xs)/\Iss K H l xs fp:=by simpa only[Is] using h
theorem Is.tup{l:List PV}{p:Addr}{xs:List V}{fp:List Addr}(h:H p=some (.tup xs))(hi:Iss K H l xs fp):Is K H (.tup l) (.ref p) fp:=by simp only[Is];exact⟨p,xs,rfl,h,hi⟩
theorem Is.lst_inv{l:List PV}{v:V}{fp:List Addr}(h:Is K H (.lst l) v fp):∃p xs fq,v = .ref p/\H p=some (.lst xs)/\Iss K H l xs fq/\fp=p::fq:=by simpa only[Is] using h
theorem Is.lst{l:List PV}{p:Addr}{xs:List V}{fp:List Addr}(h:H p=some (.lst xs))(hi:Iss K H l xs fp):Is K H (.lst l) (.ref p) (p::fp):=by
 simp only[Is];exact⟨p,xs,fp,rfl,h,hi,rfl⟩
theorem Is.cst_inv{l:List PV}{v:V}{fp:List Addr}(h:Is K H (.cst l) v fp):∃p xs,v = .ref p/\CsK K H p xs/\Iss K H l xs fp:=by simpa only[Is] using h
theorem Is.cst{l:List PV}{p:Addr}{xs:List V}{fp:List Addr}(h:CsK K H p xs)(hi:Iss K H l xs fp):Is K H (.cst l) (.ref p) fp:=by
 simp only[Is];exact⟨p,xs,rfl,h,hi⟩
theorem Is.dT_inv{ks:List (List ZR)}{l:List PV}{v:V}{fp:List Addr}(h:Is K H (.dT ks l) v fp):∃p kvs fq,v = .ref p/\Rd H p (.dT kvs)/\kvs.map (·.1)=ks/\Iss K H l (kvs.map (·.2)) fq/\fp=p::fq:=by simpa only[Is] using h
theorem Is.dT{ks:List (List ZR)}{l:List PV}{p:Addr}{kvs:List (List ZR×V)}{fp:List Addr}(h:H p=some (.dT kvs))(hk:kvs.map (·.1)=ks)(hi:Iss K H l (kvs.map (·.2)) fp):Is K H (.dT ks l) (.ref p) (p::fp):=by
 simp only[Is];exact⟨p,kvs,fp,rfl,.inl h,hk,hi,rfl⟩
theorem Is.dK_inv{ks:List ZR}{l:List PV}{v:V}{fp:List Addr}(h:Is K H (.dK ks l) v fp):∃p kvs fq,v = .ref p/\Rd H p (.dK kvs)/\kvs.map (·.1)=ks/\Iss K H l (kvs.map (·.2)) fq/\fp=p::fq:=by simpa only[Is] using h
theorem Is.dK{ks:List ZR}{l:List PV}{p:Addr}{kvs:List (ZR×V)}{fp:List Addr}(h:H p=some (.dK kvs))(hk:kvs.map (·.1)=ks)(hi:Iss K H l (kvs.map (·.2)) fp):Is K H (.dK ks l) (.ref p) (p::fp):=by
 simp only[Is];exact⟨p,kvs,fp,rfl,.inl h,hk,hi,rfl⟩
end
abbrev iL(l:List Int):List PV:=l.map PV.int
theorem Y5(l:List Int):Zn (iL l)=true:=by
 rw[YH,List.all_eq_true];intro x hx
 obtain⟨i,_,rfl⟩:=List.mem_map.mp hx
 rfl
theorem Iss.iL{H:Hp}:∀{l:List Int}{xs:List V}{fp:List Addr},Iss K H (VL.iL l) xs fp->xs=l.map V.int/\fp=[]
 | [],xs,fp,h=>by simpa only[VL.iL,List.map_nil,Iss] using h
 | i::l,xs,fp,h=>by
  obtain⟨x,r,f1,f2,rfl,h1,h2,rfl⟩:=Iss.inv (show Iss K H (PV.int i::VL.iL l) xs fp from h)
  obtain⟨rfl,rfl⟩:=h1.int_inv
  obtain⟨rfl,rfl⟩:=h2.iL
  exact⟨rfl,rfl⟩
theorem Iss.ofInts{H:Hp}:∀(l:List Int),Iss K H (VL.iL l) (l.map V.int) []
 | []=>Iss.nil
 | i::l=>Iss.cons (f1:=[]) (Is.int i) (Iss.ofInts l)
end VL
namespace VL
open PySem PySem.Spec PyProof.Rows L2
variable {K:PySem.W.Frag}
abbrev W9:=L2.St
abbrev Zy:=List (Option PV)
abbrev XE:=Zy->Option PV
structure EnvIs(K:PySem.W.Frag)(Rm:Addr->Prop)(H:Hp)(s:Zy)(Z:W9):Prop where
 is:∀(i:Nat) l,s[i]?=some (some l)->∃v fp,Z[i]?=some (some v)/\Is K H l v fp/\∀p∈fp,¬Rm p
theorem EnvIs.mono{Rm:Addr->Prop}{H H':Hp}{s:Zy}{Z:W9}(h:EnvIs K Rm H s Z)(e:Same H H'):EnvIs K Rm H' s Z:=⟨fun i l q=>by
 obtain⟨v,fp,a,b,c⟩:=h.is i l q
 exact⟨v,fp,a,b.mono e,c⟩⟩
theorem EnvIs.free{Rm:Addr->Prop}{H:Hp}{s:Zy}{Z:W9}(h:EnvIs K Rm H s Z):EnvIs K (fun _=>False) H s Z:=⟨fun i l q=>by
 obtain⟨v,fp,a,b,c⟩:=h.is i l q
 exact⟨v,fp,a,b,fun _ _ z=>z⟩⟩
theorem Same.mut{H H':Hp}(e:Same H H'){p:Addr}(h:Xb (H p)):Xb (H' p):=by
 cases q:H p with
 | none=>rw[q] at h;exact h.elim
 | some o=>rw[e p o q,<-q];exact h
theorem Z8{H:Hp}{p:Addr}(h:Xb (H p)):H p≠none:=fun z=>by rw[z] at h;exact h
def tF(K:PySem.W.Frag)(f:XE):TE:=fun Z H Q=>∃(Rm:Addr->Prop) (s:Zy) (l:PV),(∀p,Rm p->Xb (H p))/\EnvIs K Rm H s Z/\f s=some l/\∀v H' fp,Same H H'->Is K H' l v fp->(∀p∈fp,¬Rm p)->Q v H'
def tM(K:PySem.W.Frag)(f:XE):TE:=fun Z H Q=>∃(s:Zy) (l:PV),EnvIs K (fun _=>False) H s Z/\f s=some l/\∀v H' fp,Same H H'->Is K H' l v fp->fp.Nodup->(∀p∈fp,H p=none/\Xb (H' p))->Q v H'
def VE(X:Cx)(e:Expr)(f:XE):Prop:=PE X e (tF X.K f)
def VM(X:Cx)(e:Expr)(f:XE):Prop:=PE X e (tM X.K f)
section
variable {X:Cx} {e:Expr} {f g:XE} {t t':TE}
theorem PE.imp(h:PE X e t)(i:∀Z H Q,t' Z H Q->t Z H Q):PE X e t':=fun pins s Z H Q I q=>h pins s Z H Q I (i Z H Q q)
theorem VM.ve(h:VM X e f):VE X e f:=PE.imp h fun Z H Q ⟨Rm,s,l,hd,env,e,k⟩=>
 ⟨s,l,env.free,e,fun v H' fp sm i _ n=>k v H' fp sm i fun p hp z=>Z8 (hd p z) (n p hp).1⟩
def eP(f:XE):XE:=fun s=>(f s).bind fun l=>if Zx l=true then some l else none
theorem OQ{s:Zy}{l:PV}(h:eP f s=some l):f s=some l/\Zx l=true:=by
 unfold eP at h
 cases q:f s with
 | none=>rw[q] at h;cases h
 | some a=>
  rw[q] at h;simp only[Option.bind_some] at h
  split at h
  ·cases h;exact⟨rfl,by assumption⟩
  ·cases h
theorem VE.pure(h:VE X e f):VM X e (eP f):=PE.imp h fun Z H Q ⟨s,l,env,e,k⟩=>by
 obtain⟨e1,e2⟩:=OQ e
 refine⟨fun _=>False,s,l,fun _ z=>z.elim,env,e1,fun v H' fp sm i n=>?_⟩
 have:=Is.pure l v fp e2 i
 subst this
 exact k v H' [] sm i List.nodup_nil fun p hp=>by simp at hp
end
def Za(i:Nat):XE:=fun s=>(s[i]?).join
def eC(l:PV):XE:=fun _=>some l
theorem WL{i:Nat}{s:Zy}{l:PV}(h:Za i s=some l):s[i]?=some (some l):=by
 unfold Za at h
 cases q:s[i]? with
 | none=>rw[q] at h;cases h
 | some o=>rw[q] at h;cases o with
  | none=>cases h
  | some a=>cases h;rfl
section
variable {X:Cx} {pos:Pos}
theorem Zc{e:Expr}{i:Nat}(h:PE X e (Wu i)):VE X e (Za i):=PE.imp h fun Z H Q ⟨Rm,s,l,hd,env,e,k⟩=>by
 obtain⟨v,fp,a,b,c⟩:=env.is i l (WL e)
 exact⟨v,a,k v H fp (Same.refl H) b c⟩
theorem Mx{e:Expr}{v:V}{l:PV}(h:PE X e (tC v))(hv:∀H,Is X.K H l v []):VE X e (eC l):=PE.imp h fun Z H Q ⟨Rm,s,l',hd,env,e,k⟩=>by
 cases e
 exact k v H [] (Same.refl H) (hv H) fun p hp=>by simp at hp
theorem Zg{i j}:VE X (.Constant (.int i) j pos) (eC (.int i)):=Mx NU fun _=>Is.int i
theorem Q9{i j}:VE X (.Constant (.bool i) j pos) (eC (.bl i)):=Mx M8 fun _=>Is.bl i
end
def RB(K:PySem.W.Frag)(r:R2)(g:PV->PV->Option PV):Prop:=∀(H:Hp)(x y:V)(a b l:PV)(fa fb:List Addr),Is K H a x fa->Is K H b y fb->g a b=some l->∀Q:VK,
 (∀v H' fp,Same H H'->Is K H' l v fp->(∀p∈fp,p∈fa\/p∈fb\/H p=none)->Q v H')->r x y H Q
def Zi(g:PV->PV->Option PV)(a b:XE):XE:=fun s=>(a s).bind fun x=>(b s).bind fun y=>g x y
theorem X9{g:PV->PV->Option PV}{a b:XE}{s:Zy}{l:PV}(h:Zi g a b s=some l):∃x y,a s=some x/\b s=some y/\g x y=some l:=by
 unfold Zi at h
 cases q:a s with
 | none=>rw[q] at h;cases h
 | some x=>cases q2:b s with
  | none=>rw[q,q2] at h;cases h
  | some y=>rw[q,q2] at h;exact⟨x,y,rfl,rfl,h⟩
section
variable {X:Cx} {a b:Expr} {fa fb:XE} {pos:Pos}
theorem Rs{r:R2}{g:PV->PV->Option PV}(hr:RB K r g):∀Z H Q,tF K (Zi g fa fb) Z H Q->N7 r (tF K fa) (tF K fb) Z H Q:=fun Z H Q ⟨Rm,s,l,hd,env,e,k⟩=>by
 obtain⟨x',y',ex,ey,e⟩:=X9 e
 refine⟨Rm,s,x',hd,env,ex,fun x H1 f1 s1 i1 n1=>⟨Rm,s,y',fun p hp=>Same.mut s1 (hd p hp),env.mono s1,ey,fun y H2 f2 s2 i2 n2=>?_⟩⟩
 refine hr H2 x y x' y' l f1 f2 (i1.mono s2) i2 e Q fun v H3 fp s3 i3 n3=>k v H3 fp (s1.trans (s2.trans s3)) i3 fun p hp z=>?_
 rcases n3 p hp with h | h | h
 ·exact n1 p h z
 ·exact n2 p h z
 ·exact Z8 (Same.mut (s1.trans s2) (hd p z)) h
theorem Wa{op:Operator}{r:R2}{g:PV->PV->Option PV}(ho:XX X (binaryOp op) r)(hr:RB X.K r g)(ha:VE X a fa)(hb:VE X b fb):VE X (.BinOp a op b pos) (Zi g fa fb):=
 PE.imp (QT ho ha hb) (Rs hr)
theorem My{op:CmpOp}{r:R2}{g:PV->PV->Option PV}(ho:XX X (compareOp op) r)(hr:RB X.K r g)(ha:VE X a fa)(hb:VE X b fb)(hm:behindInMarks op b=false):VE X (.Compare a [op] [b] pos) (Zi g fa fb):=
 PE.imp (Op ho ha hb hm) (Rs hr)
theorem LI{r:R2}{g:PV->PV->Option PV}(ho:IxR X r)(hr:RB X.K r g)(ha:VE X a fa)(hb:VE X b fb)(hs:UV b):VE X (.Subscript a b pos) (Zi g fa fb):=
 PE.imp (Rg ho ha hb hs) (Rs hr)
end
def gI(g:Int->Int->Int):PV->PV->Option PV
 | .int i,.int j=>some (.int (g i j))
 | _,_=>none
def gB(g:Int->Int->Bool):PV->PV->Option PV
 | .int i,.int j=>some (.bl (g i j))
 | _,_=>none
def NC(C:Int->Int->Prop)[∀i j,Decidable (C i j)](g:Int->Int->Int):PV->PV->Option PV
 | .int i,.int j=>if C i j then some (.int (g i j)) else none
 | _,_=>none
theorem OR{g:Int->Int->Int}{a b l:PV}(h:gI g a b=some l):∃i j,a = .int i/\b = .int j/\l = .int (g i j):=by
 unfold gI at h;split at h
 ·cases h;exact⟨_,_,rfl,rfl,rfl⟩
 ·cases h
theorem OS{g:Int->Int->Bool}{a b l:PV}(h:gB g a b=some l):∃i j,a = .int i/\b = .int j/\l = .bl (g i j):=by
 unfold gB at h;split at h
 ·cases h;exact⟨_,_,rfl,rfl,rfl⟩
 ·cases h
theorem Pa{C:Int->Int->Prop}[∀i j,Decidable (C i j)]{g:Int->Int->Int}{a b l:PV}(h:NC C g a b=some l):∃i j,a = .int i/\b = .int j/\C i j/\l = .int (g i j):=by
 unfold NC at h;split at h
 ·split at h
  ·cases h;exact⟨_,_,rfl,rfl,by assumption,rfl⟩
  ·cases h
 ·cases h
theorem LJ(g:Int->Int->Int):RB K (On fun i j=>.int (g i j)) (gI g):=fun H x y a b l fa fb ha hb e Q k=>by
 obtain⟨i,j,rfl,rfl,rfl⟩:=OR e
 exact⟨i,j,ha.int_inv.1,hb.int_inv.1,k _ H [] (Same.refl H) (Is.int _) fun p hp=>by simp at hp⟩
theorem Mz(g:Int->Int->Bool):RB K (On fun i j=>.bl (g i j)) (gB g):=fun H x y a b l fa fb ha hb e Q k=>by
 obtain⟨i,j,rfl,rfl,rfl⟩:=OS e
 exact⟨i,j,ha.int_inv.1,hb.int_inv.1,k _ H [] (Same.refl H) (Is.bl _) fun p hp=>by simp at hp⟩
theorem Rt(C:Int->Int->Prop)[∀i j,Decidable (C i j)](g:Int->Int->Int):RB K (rI C fun i j=>.int (g i j)) (NC C g):=fun H x y a b l fa fb ha hb e Q k=>by
 obtain⟨i,j,rfl,rfl,c,rfl⟩:=Pa e
 exact⟨i,j,ha.int_inv.1,hb.int_inv.1,c,k _ H [] (Same.refl H) (Is.int _) fun p hp=>by simp at hp⟩
instance (i j:Int):Decidable (CMul i j):=by unfold CMul;infer_instance
instance (i j:Int):Decidable (Wx i j):=by unfold Wx;infer_instance
instance (i j:Int):Decidable (Ny i j):=by unfold Ny;infer_instance
instance (i j:Int):Decidable (R6 i j):=by unfold R6;infer_instance
abbrev ZF:=gI (· + ·)
abbrev YI:=gI (· - ·)
abbrev Su:=NC CMul (· * ·)
abbrev YB:=NC Wx (· / ·)
abbrev Z5:=NC (fun _ j=>0<j) (· % ·)
abbrev MA:=NC R6 (fun i j=>i^j.toNat)
abbrev L0:=gB (fun i j=>decide (i<j))
abbrev L1:=gB (fun i j=>decide (i<=j))
abbrev LK:=gB (fun i j=>decide (j<i))
section
variable {X:Cx} {a b:Expr} {fa fb:XE} {pos:Pos}
theorem Z2(ha:VE X a fa)(hb:VE X b fb):VE X (.BinOp a .Add b pos) (Zi ZF fa fb):=Wa Ma (LJ _) ha hb
theorem Y0(ha:VE X a fa)(hb:VE X b fb):VE X (.BinOp a .Sub b pos) (Zi YI fa fb):=Wa Mb (LJ _) ha hb
theorem Sv(ha:VE X a fa)(hb:VE X b fb):VE X (.BinOp a .Mult b pos) (Zi Su fa fb):=Wa Mc (Rt _ _) ha hb
theorem Yh(ha:VE X a fa)(hb:VE X b fb):VE X (.BinOp a .FloorDiv b pos) (Zi YB fa fb):=Wa Oo (Rt _ _) ha hb
theorem Yo(ha:VE X a fa)(hb:VE X b fb):VE X (.BinOp a .Mod b pos) (Zi Z5 fa fb):=Wa Md (Rt _ _) ha hb
theorem Pb(ha:VE X a fa)(hb:VE X b fb):VE X (.BinOp a .Pow b pos) (Zi MA fa fb):=Wa Me (Rt _ _) ha hb
end
def Yp:PV->PV->Option PV
 | .lst l,.int i=>Ve l i
 | .cst l,.int i=>Ve l i
 | .tup l,.int i=>Ve l i
 | .str z,.int i=>if z.length<=sizeLine then(Ve z.cps.toList i).map fun c=>.str ⟨#[c]⟩ else none
 | _,_=>none
theorem Sw{l:List PV}{xs:List V}{H:Hp}{fp:List Addr}{i:Int}{a:PV}(h:Iss K H l xs fp)(e:Ve l i=some a):∃x f1,Ve xs i=some x/\Is K H a x f1/\∀p∈f1,p∈fp:=by
 unfold Ve at e ⊢
 rw[h.len]
 cases q:Sc l.length i with
 | none=>rw[q] at e;cases e
 | some j=>rw[q] at e;exact h.get e
theorem LL:RB K (KA K) Yp:=fun H x y a b l fa fb ha hb e Q k=>by
 unfold Yp at e;split at e
 ·obtain⟨p,xs,fq,rfl,hp,hi,rfl⟩:=ha.lst_inv
  obtain⟨z,f1,h1,h2,h3⟩:=Sw hi e
  exact .inl ⟨p,xs,_,z,rfl,hb.int_inv.1,SqL.of hp,h1,k z H f1 (Same.refl H) h2 fun q hq=>.inl (List.mem_cons_of_mem _ (h3 q hq))⟩
 ·obtain⟨p,xs,rfl,hp,hi⟩:=ha.cst_inv
  obtain⟨z,f1,h1,h2,h3⟩:=Sw hi e
  exact .inl ⟨p,xs,_,z,rfl,hb.int_inv.1,hp.sq,h1,k z H f1 (Same.refl H) h2 fun q hq=>.inl (h3 q hq)⟩
 ·obtain⟨p,xs,rfl,hp,hi⟩:=ha.tup_inv
  obtain⟨z,f1,h1,h2,h3⟩:=Sw hi e
  exact .inr (.inl ⟨p,xs,_,z,rfl,hb.int_inv.1,SqT.of hp,h1,k z H f1 (Same.refl H) h2 fun q hq=>.inl (h3 q hq)⟩)
 ·split at e
  ·cases q:Ve _ _ with
   | none=>rw[q] at e;cases e
   | some c=>
    rw[q] at e;cases e
    exact .inr (.inr ⟨_,_,c,ha.str_inv.1,hb.int_inv.1,by assumption,q,k _ H [] (Same.refl H) (Is.str _) fun p hp=>by simp at hp⟩)
  ·cases e
 ·cases e
section
variable {X:Cx} {a b:Expr} {fa fb:XE} {pos:Pos}
theorem ZJ(ha:VE X a fa)(hb:VE X b fb)(hs:UV b:=by exact fun _ _=>rfl):VE X (.Subscript a b pos) (Zi Yp fa fb):=LI Mk LL ha hb hs
end
abbrev XT:=Zy->Option Bool
def Sx(K:PySem.W.Frag)(f:XT):TT:=fun Z H Q=>∃(Rm:Addr->Prop) (s:Zy) (c:Bool),(∀p,Rm p->Xb (H p))/\EnvIs K Rm H s Z/\f s=some c/\∀H',Same H H'->Q c H'
def VT(X:Cx)(e:Expr)(f:XT):Prop:=PT X e (Sx X.K f)
def VW(X:Cx)(e:Expr)(f:XT):Prop:=PW X e (Sx X.K f)
section
variable {X:Cx} {e:Expr} {f:XT}
theorem PT.imp{t t':TT}(h:PT X e t)(i:∀Z H Q,t' Z H Q->t Z H Q):PT X e t':=fun pins s Z H Q I q=>h pins s Z H Q I (i Z H Q q)
theorem PW.imp{t t':TT}(h:PW X e t)(i:∀Z H Q,t' Z H Q->t Z H Q):PW X e t':=fun whole pins s Z H Q I q=>h whole pins s Z H Q I (i Z H Q q)
theorem VW.vt(h:VW X e f):VT X e f:=PW.pt h
end
def xB(f:XE):XT:=fun s=>match f s with | some (.bl c)=>some c | _=>none
theorem Wb{f:XE}{s:Zy}{c:Bool}(h:xB f s=some c):f s=some (.bl c):=by
 unfold xB at h;split at h
 ·cases h;assumption
 ·cases h
section
variable {X:Cx} {a b c:Expr} {Zj:List Expr} {fa fb:XE} {ga gb:XT} {pos:Pos}
theorem Sy(h:VE X a fa)(he:∀whole,isTrue a X.env whole=(do let v <-whole;standAt a.pos;holding [v] (truthy v)):=by intro _;rfl):VT X a (xB fa):=
 PT.imp (NW h he) fun Z H Q ⟨Rm,s,c,hd,env,e,k⟩=>⟨Rm,s,.bl c,hd,env,Wb e,fun v H' fp sm i n=>⟨c,i.bl_inv.1,k H' sm⟩⟩
theorem TJ:∀Z H Q,Sx K (xB fa) Z H Q->Tu (tF K fa) Z H Q:=fun Z H Q ⟨Rm,s,c,hd,env,e,k⟩=>⟨Rm,s,.bl c,hd,env,Wb e,fun v H' fp sm i n=>⟨c,i.bl_inv.1,k H' sm⟩⟩
theorem VF{t t':TE}(i:∀Z H Q,t' Z H Q->t Z H Q):∀Z H Q,Tu t' Z H Q->Tu t Z H Q:=fun Z H Q h=>i Z H _ h
theorem VG{op:CmpOp}{r:R2}{g:PV->PV->Option PV}(ho:XX X (compareOp op) r)(hr:RB X.K r g)(ha:VE X a fa)(hb:VE X b fb)(hm:behindInMarks op b=false):VT X (.Compare a [op] [b] pos) (xB (Zi g fa fb)):=
 PT.imp (Oq ho ha hb hm) fun Z H Q h=>VF (Rs hr) Z H Q (TJ Z H Q h)
theorem LM(ha:VE X a fa)(hb:VE X b fb):VT X (.Compare a [.Gt] [b] pos) (xB (Zi LK fa fb)):=VG Lp (Mz _) ha hb (UR _)
def XY(a b:XT):XT:=fun s=>(a s).bind fun c=>if c=true then b s else some false
def Sz(a b:XT):XT:=fun s=>(a s).bind fun c=>if c=true then some true else b s
def VH(a:XT):XT:=fun s=>(a s).map not
theorem OT:∀Z H Q,Sx K (XY ga gb) Z H Q->M9 (Sx K ga) (Sx K gb) Z H Q:=fun Z H Q ⟨Rm,s,c,hd,env,e,k⟩=>by
 unfold XY at e
 cases q:ga s with
 | none=>rw[q] at e;cases e
 | some d=>
  rw[q] at e
  refine⟨Rm,s,d,hd,env,q,fun H1 s1=>?_⟩
  cases d with
  | true=>
   simp only[Option.bind_some,if_true] at e;rw[if_pos rfl]
   exact⟨Rm,s,c,fun p hp=>Same.mut s1 (hd p hp),env.mono s1,e,fun H2 s2=>k H2 (s1.trans s2)⟩
  | false=>
   simp only[Option.bind_some,Bool.false_eq_true,if_false] at e;cases e;rw[if_neg Bool.false_ne_true]
   exact k H1 s1
theorem MB:∀Z H Q,Sx K (Sz ga gb) Z H Q->Ky (Sx K ga) (Sx K gb) Z H Q:=fun Z H Q ⟨Rm,s,c,hd,env,e,k⟩=>by
 unfold Sz at e
 cases q:ga s with
 | none=>rw[q] at e;cases e
 | some d=>
  rw[q] at e
  refine⟨Rm,s,d,hd,env,q,fun H1 s1=>?_⟩
  cases d with
  | true=>
   simp only[Option.bind_some,if_true] at e;cases e;rw[if_pos rfl]
   exact k H1 s1
  | false=>
   simp only[Option.bind_some,Bool.false_eq_true,if_false] at e;rw[if_neg Bool.false_ne_true]
   exact⟨Rm,s,c,fun p hp=>Same.mut s1 (hd p hp),env.mono s1,e,fun H2 s2=>k H2 (s1.trans s2)⟩
theorem Vl(ha:VT X a ga):VW X (.BoolOp .And [a] pos) ga:=Oh ha
theorem SA(ha:VT X a ga):VW X (.BoolOp .Or [a] pos) ga:=NX ha
theorem U6(ha:VT X a ga)(hb:VW X (.BoolOp .And (b::Zj) pos) gb):VW X (.BoolOp .And (a::b::Zj) pos) (XY ga gb):=PW.imp (NY ha hb) OT
theorem Ru(ha:VT X a ga)(hb:VW X (.BoolOp .Or (b::Zj) pos) gb):VW X (.BoolOp .Or (a::b::Zj) pos) (Sz ga gb):=PW.imp (La ha hb) MB
theorem SB(ha:VT X a ga):VT X (.UnaryOp .Not a pos) (VH ga):=PT.imp (NZ ha) fun Z H Q ⟨Rm,s,c,hd,env,e,k⟩=>by
 unfold VH at e
 cases q:ga s with
 | none=>rw[q] at e;cases e
 | some d=>rw[q] at e;cases e;exact⟨Rm,s,d,hd,env,q,k⟩
end
section
variable {X:Cx} {a b c:Expr} {Zj:List Expr} {fa fb:XE} {gc:XT} {pos:Pos}
def Qq(a b:XE):XE:=fun s=>(xB a s).bind fun c=>if c=true then b s else some (.bl false)
def KJ(a b:XE):XE:=fun s=>(xB a s).bind fun c=>if c=true then some (.bl true) else b s
def OU(a:XE):XE:=fun s=>(xB a s).map fun c=>.bl !c
def LN(c:XT)(a b:XE):XE:=fun s=>(c s).bind fun k=>if k=true then a s else b s
theorem Pc{op}(h:VE X a fa):VE X (.BoolOp op [a] pos) fa:=N0 h
theorem SC(ha:VE X a fa)(hb:VE X (.BoolOp .And (b::Zj) pos) fb):VE X (.BoolOp .And (a::b::Zj) pos) (Qq fa fb):=PE.imp (N1 ha hb) fun Z H Q ⟨Rm,s,l,hd,env,e,k⟩=>by
 unfold Qq at e
 cases q:xB fa s with
 | none=>rw[q] at e;cases e
 | some d=>
  rw[q] at e
  refine⟨Rm,s,.bl d,hd,env,Wb q,fun v H1 fp s1 i1 _=>⟨d,i1.bl_inv.1,?_⟩⟩
  cases d with
  | true=>
   simp only[Option.bind_some,if_true] at e;rw[if_pos rfl]
   exact⟨Rm,s,l,fun p hp=>Same.mut s1 (hd p hp),env.mono s1,e,fun v2 H2 fp2 s2 i2 n2=>k v2 H2 fp2 (s1.trans s2) i2 n2⟩
  | false=>
   simp only[Option.bind_some,Bool.false_eq_true,if_false] at e;cases e;rw[if_neg Bool.false_ne_true]
   exact k _ H1 [] s1 (Is.bl false) fun p hp=>by simp at hp
theorem MC(ha:VE X a fa):VE X (.UnaryOp .Not a pos) (OU fa):=PE.imp (N2 ha) fun Z H Q ⟨Rm,s,l,hd,env,e,k⟩=>by
 unfold OU at e
 cases q:xB fa s with
 | none=>rw[q] at e;cases e
 | some d=>
  rw[q] at e;cases e
  exact⟨Rm,s,.bl d,hd,env,Wb q,fun v H1 fp s1 i1 _=>⟨d,i1.bl_inv.1,k _ H1 [] s1 (Is.bl _) fun p hp=>by simp at hp⟩⟩
theorem LO(hc:VT X c gc)(ha:VE X a fa)(hb:VE X b fb):VE X (.IfExp c a b pos) (LN gc fa fb):=PE.imp (QQ hc ha hb) fun Z H Q ⟨Rm,s,l,hd,env,e,k⟩=>by
 unfold LN at e
 cases q:gc s with
 | none=>rw[q] at e;cases e
 | some d=>
  rw[q] at e
  refine⟨Rm,s,d,hd,env,q,fun H1 s1=>?_⟩
  cases d with
  | true=>
   simp only[Option.bind_some,if_true] at e;rw[if_pos rfl]
   exact⟨Rm,s,l,fun p hp=>Same.mut s1 (hd p hp),env.mono s1,e,fun v2 H2 fp2 s2 i2 n2=>k v2 H2 fp2 (s1.trans s2) i2 n2⟩
  | false=>
   simp only[Option.bind_some,Bool.false_eq_true,if_false] at e;rw[if_neg Bool.false_ne_true]
   exact⟨Rm,s,l,fun p hp=>Same.mut s1 (hd p hp),env.mono s1,e,fun v2 H2 fp2 s2 i2 n2=>k v2 H2 fp2 (s1.trans s2) i2 n2⟩
end
section
variable {X:Cx} {a b c:Expr} {fa fb fc:XE} {pos:Pos}
def MD(neg:Bool):PV->Option PV
 | .non=>some (.bl !neg)
 | _=>some (.bl neg)
def VJ:PV->Bool
 | .non=>true
 | _=>false
theorem SD{H:Hp}{l:PV}{v:V}{fp:List Addr}(i:Is K H l v fp):decide (v=V.non)=VJ l:=by
 cases l with
 | non=>rw[i.non_inv.1];rfl
 | bl b=>rw[i.bl_inv.1];rfl
 | int j=>rw[i.int_inv.1];rfl
 | str y=>rw[i.str_inv.1];rfl
 | ty n=>rw[i.ty_inv.1];rfl
 | exc C=>simp only[Is] at i;obtain⟨⟨e,o,x,C,rfl,_⟩,_⟩:=i;rfl
 | lst l=>obtain⟨p,xs,fq,rfl,_⟩:=i.lst_inv;rfl
 | cst l=>obtain⟨p,xs,rfl,_⟩:=i.cst_inv;rfl
 | tup l=>obtain⟨p,xs,rfl,_⟩:=i.tup_inv;rfl
 | dK ks l=>obtain⟨p,xs,fq,rfl,_⟩:=i.dK_inv;rfl
 | dT ks l=>obtain⟨p,xs,fq,rfl,_⟩:=i.dT_inv;rfl
def Qr(neg:Bool)(a:XE):XE:=fun s=>(a s).bind (MD neg)
theorem Pd:∀Z H Q,tF K (Qr true fa) Z H Q->Nu (tF K fa) Z H Q:=fun Z H Q ⟨Rm,s,l,hd,env,e,k⟩=>by
 unfold Qr at e
 cases q:fa s with
 | none=>rw[q] at e;cases e
 | some m=>
  rw[q] at e;simp only[Option.bind_some] at e
  refine⟨Rm,s,m,hd,env,q,fun v H1 fp s1 i1 _=>?_⟩
  show Q _ H1
  rw[SD i1]
  have:l = .bl (!VJ m):=by cases m<;>cases e<;>rfl
  subst this
  exact k _ H1 [] s1 (Is.bl _) fun p hp=>by simp at hp
theorem ND:∀Z H Q,Sx K (xB fa) Z H Q->tB (tF K fa) Z H Q:=fun Z H Q ⟨Rm,s,c,hd,env,e,k⟩=>⟨Rm,s,.bl c,hd,env,Wb e,fun v H' fp sm i n=>⟨c,i.bl_inv.1,k H' sm⟩⟩
theorem Rv{t t':TE}(i:∀Z H Q,t' Z H Q->t Z H Q):∀Z H Q,tB t' Z H Q->tB t Z H Q:=fun Z H Q h=>i Z H _ h
theorem OV{j pos'}(ha:VE X a fa):VT X (.Compare a [.IsNot] [.Constant .none j pos'] pos) (xB (Qr true fa)):=PT.imp (QP (Og ha)) fun Z H Q h=>Rv Pd Z H Q (ND Z H Q h)
def KM(g:PV->Option PV)(a:XE):XE:=fun s=>(a s).bind g
end
end VL
namespace VL
open PySem PySem.Spec PyProof.Rows L2
variable {K:PySem.W.Frag}
def Uz:List XE->Zy->Option (List PV)
 | [],_=>some []
 | f::fs,s=>(f s).bind fun x=>(Uz fs s).map (x::·)
theorem VN{f:XE}{fs:List XE}{s:Zy}{ls:List PV}(h:Uz (f::fs) s=some ls):∃x r,f s=some x/\Uz fs s=some r/\ls=x::r:=by
 unfold Uz at h
 cases q:f s with
 | none=>rw[q] at h;cases h
 | some x=>cases q2:Uz fs s with
  | none=>rw[q,q2] at h;cases h
  | some r=>rw[q,q2] at h;cases h;exact⟨x,r,rfl,rfl,rfl⟩
theorem Wc:∀{fs:List XE}{s:Zy}{ls:List PV},Uz fs s=some ls->ls.length=fs.length
 | [],_,_,h=>by cases h;rfl
 | f::fs,s,ls,h=>by
  obtain⟨x,r,_,h2,rfl⟩:=VN h
  rw[List.length_cons,List.length_cons,Wc h2]
def KC(K:PySem.W.Frag)(fs:List XE):TA:=fun Z H Q=>∃(Rm:Addr->Prop) (s:Zy) (ls:List PV),(∀p,Rm p->Xb (H p))/\EnvIs K Rm H s Z/\Uz fs s=some ls/\∀vs H' fp,Same H H'->Iss K H' ls vs fp->(∀p∈fp,¬Rm p)->Q vs H'
def KN(K:PySem.W.Frag)(fs:List XE):TA:=fun Z H Q=>∃(s:Zy) (ls:List PV),EnvIs K (fun _=>False) H s Z/\Uz fs s=some ls/\∀vs H' fp,Same H H'->Iss K H' ls vs fp->fp.Nodup->(∀p∈fp,H p=none/\Xb (H' p))->Q vs H'
def VA(X:Cx)(es:List Expr)(fs:List XE):Prop:=PA X es (KC X.K fs)
def L3(X:Cx)(es:List Expr)(fs:List XE):Prop:=PA X es (KN X.K fs)
section
variable {X:Cx} {e:Expr} {es:List Expr} {f:XE} {fs:List XE} {pos:Pos} {k:Nat}
theorem PA.imp{t t':TA}(h:PA X es t)(i:∀Z H Q,t' Z H Q->t Z H Q):PA X es t':=fun pos pins s Z H Q I q=>h pos pins s Z H Q I (i Z H Q q)
theorem Ze:VA X [] []:=PA.imp WA fun Z H Q ⟨Rm,s,ls,hd,env,e,k⟩=>by
 cases e
 exact k [] H [] (Same.refl H) Iss.nil fun p hp=>by simp at hp
theorem Zb(ha:VE X e f)(hr:VA X es fs)(hs:starEach (e::es) X.env=(false,eval e X.env)::starEach es X.env:=by rfl):VA X (e::es) (f::fs):=PA.imp (YS ha hr hs) fun Z H Q ⟨Rm,s,ls,hd,env,e,k⟩=>by
 obtain⟨x',r',h1,h2,rfl⟩:=VN e
 refine⟨Rm,s,x',hd,env,h1,fun x H1 f1 s1 i1 n1=>⟨Rm,s,r',fun p hp=>Same.mut s1 (hd p hp),env.mono s1,h2,fun xs H2 f2 s2 i2 n2=>?_⟩⟩
 refine k _ H2 (f1++f2) (s1.trans s2) (Iss.cons (i1.mono s2) i2) fun p hp=>?_
 rcases List.mem_append.mp hp with h | h
 ·exact n1 p h
 ·exact n2 p h
theorem Rw:L3 X [] []:=PA.imp WA fun Z H Q ⟨s,ls,env,e,k⟩=>by
 cases e
 exact k [] H [] (Same.refl H) Iss.nil List.nodup_nil fun p hp=>by simp at hp
theorem Pe(ha:VM X e f)(hr:L3 X es fs)(hs:starEach (e::es) X.env=(false,eval e X.env)::starEach es X.env:=by rfl):L3 X (e::es) (f::fs):=PA.imp (YS ha hr hs) fun Z H Q ⟨s,ls,env,e,k⟩=>by
 obtain⟨x',r',h1,h2,rfl⟩:=VN e
 refine⟨s,x',env,h1,fun x H1 f1 s1 i1 d1 n1=>⟨s,r',env.mono s1,h2,fun xs H2 f2 s2 i2 d2 n2=>?_⟩⟩
 refine k _ H2 (f1++f2) (s1.trans s2) (Iss.cons (i1.mono s2) i2) ?_ fun p hp=>?_
 ·refine List.nodup_append.mpr ⟨d1,d2,fun a ha b hb z=>?_⟩
  subst z
  exact Z8 (n1 a ha).2 (n2 a hb).1
 ·rcases List.mem_append.mp hp with h | h
  ·exact⟨(n1 p h).1,Same.mut s2 (n1 p h).2⟩
  ·exact⟨Same.off s1 (n2 p h).1,(n2 p h).2⟩
def Yl(fs:List XE):XE:=fun s=>(Uz fs s).map .tup
def Y6(fs:List XE):XE:=fun s=>(Uz fs s).map .lst
theorem map_some{α β:Type}{o:Option α}{g:α->β}{b:β}(h:o.map g=some b):∃a,o=some a/\b=g a:=by
 cases o with
 | none=>cases h
 | some a=>cases h;exact⟨a,rfl,rfl⟩
theorem Y1(h:VA X es fs)(hl:fs.length<=1000:=by decide):VE X (.Tuple es k pos) (Yl fs):=PE.imp (Mf h) fun Z H Q ⟨Rm,s,l,hd,env,e,q⟩=>by
 obtain⟨ls,e1,rfl⟩:=map_some e
 refine⟨Rm,s,ls,hd,env,e1,fun vs H1 fp s1 i1 n1=>⟨?_,fun p hp=>?_⟩⟩
 ·rw[i1.len,Wc e1];exact Nat.le_of_lt (lt_size (by omega))
 ·exact q _ _ fp (s1.trans (Same.new hp _)) (Is.tup upd_same (i1.mono (Same.new hp _))) n1
theorem WM(h:VA X es fs)(hl:fs.length<=1000:=by decide):VE X (.List es pos) (Y6 fs):=PE.imp (Sl h) fun Z H Q ⟨Rm,s,l,hd,env,e,q⟩=>by
 obtain⟨ls,e1,rfl⟩:=map_some e
 refine⟨Rm,s,ls,hd,env,e1,fun vs H1 fp s1 i1 n1=>⟨?_,fun p hp=>?_⟩⟩
 ·rw[i1.len,Wc e1];exact Nat.le_of_lt (lt_size (by omega))
 ·refine q _ _ (p::fp) (s1.trans (Same.new hp _)) (Is.lst upd_same (i1.mono (Same.new hp _))) fun a ha z=>?_
  rcases List.mem_cons.mp ha with rfl | ha
  ·exact Z8 (Same.mut s1 (hd a z)) hp
  ·exact n1 a ha z
theorem Pf(h:L3 X es fs)(hl:fs.length<=1000:=by decide):VM X (.List es pos) (Y6 fs):=PE.imp (Sl h) fun Z H Q ⟨s,l,env,e,q⟩=>by
 obtain⟨ls,e1,rfl⟩:=map_some e
 refine⟨s,ls,env,e1,fun vs H1 fp s1 i1 d1 n1=>⟨?_,fun p hp=>?_⟩⟩
 ·rw[i1.len,Wc e1];exact Nat.le_of_lt (lt_size (by omega))
 ·refine q _ _ (p::fp) (s1.trans (Same.new hp _)) (Is.lst upd_same (i1.mono (Same.new hp _))) (List.nodup_cons.mpr ⟨fun z=>Z8 (n1 p z).2 hp,d1⟩) fun a ha=>?_
  rcases List.mem_cons.mp ha with rfl | ha
  ·exact⟨Same.off s1 hp,by rw[upd_same];exact True.intro⟩
  ·exact⟨(n1 a ha).1,Same.mut (Same.new hp _) (n1 a ha).2⟩
theorem VP:VM X (.Dict [] [] pos) (eC (.dT [] [])):=PE.imp Q3 fun Z H Q ⟨s,l,env,e,q⟩ p hp=>by
 cases e
 exact q _ _ [p] (Same.new hp _) (Is.dT upd_same rfl Iss.nil) (by simp) fun a ha=>by
  rw[List.mem_singleton.mp ha]
  exact⟨hp,by rw[upd_same];exact True.intro⟩
end
def Y7(K:PySem.W.Frag)(D:List PV->Option PV)(n:Nat):Sp:=fun vs H Q _=>vs.length=n/\∃ls fp l,Iss K H ls vs fp/\D ls=some l/\∀v H' fq,Same H H'->Is K H' l v fq->fq.Nodup->(∀p∈fq,H p=none/\Xb (H' p))->Q v H'
def Zf(D:List PV->Option PV)(fs:List XE):XE:=fun s=>(Uz fs s).bind D
theorem Zd{α β:Type}{o:Option α}{g:α->Option β}{b:β}(h:o.bind g=some b):∃a,o=some a/\g a=some b:=by
 cases o with
 | none=>cases h
 | some a=>exact⟨a,rfl,h⟩
section
variable {X:Cx} {x:Str} {ps:List Str} {k:Nat} {e:Expr} {es:List Expr} {fs:List XE} {p pos:Pos}
theorem Zt{D:List PV->Option PV}{n:Nat}(C:XQ X.prog X.w X.K X.mg X.base x ps (Y7 X.K D n) k)(hr:Room k X.A)(hg:Gl X x)(ha:VA X (e::es) fs)(hn:fs.length=n:=by rfl)
  (hdb:(x==("__debug__" : Str))=false:=by decide) (he:starEach (e::es) X.env=(false,eval e X.env)::starEach es X.env:=by rfl) (hpl:(backTo pos (starEach es X.env)).any (·.1)=false:=by rfl) :
  VM X (.Call (.Name x p) (e::es) [] pos) (Zf D fs):=PE.imp (Mt C hr hg ha hdb he hpl) fun Z H Q ⟨s,l,env,e,q⟩=>by
 obtain⟨ls,e1,e2⟩:=Zd e
 refine⟨fun _=>False,s,ls,fun _ z=>z.elim,env,e1,fun vs H1 fp s1 i1 n1=>?_⟩
 show Y7 X.K D n (vs++[]) H1 Q E0
 rw[List.append_nil]
 exact⟨by rw[i1.len,Wc e1,hn],ls,fp,l,i1,e2,fun v H2 fq s2 i2 d2 n2=>q v H2 fq (s1.trans s2) i2 d2 fun a ha=>⟨Same.off s1 (n2 a ha).1,(n2 a ha).2⟩⟩
end
def RC(K:PySem.W.Frag)(r:List V->Hp->VK->Prop)(g:List PV->Option PV):Prop:=∀(H:Hp)(vs:List V)(ls:List PV)(l:PV)(fp:List Addr),Iss K H ls vs fp->g ls=some l->∀Q:VK,
 (∀v H' fq,Same H H'->Is K H' l v fq->(∀p∈fq,p∈fp\/H p=none)->Q v H')->r vs H Q
theorem NE{r:List V->Hp->VK->Prop}{g:List PV->Option PV}{fs:List XE}(hr:RC K r g):∀Z H Q,tF K (Zf g fs) Z H Q->Kl r (KC K fs) Z H Q:=fun Z H Q ⟨Rm,s,l,hd,env,e,k⟩=>by
 obtain⟨ls,e1,e2⟩:=Zd e
 refine⟨Rm,s,ls,hd,env,e1,fun vs H1 fp s1 i1 n1=>hr H1 vs ls l fp i1 e2 Q fun v H2 fq s2 i2 n2=>k v H2 fq (s1.trans s2) i2 fun p hp z=>?_⟩
 rcases n2 p hp with h | h
 ·exact n1 p h z
 ·exact Z8 (Same.mut s1 (hd p z)) h
section
variable {X:Cx} {x:Str} {k:Nat} {e:Expr} {es:List Expr} {fs:List XE} {p pos:Pos} {id T:String} {r:List V->Hp->VK->Prop} {g:List PV->Option PV}
theorem ZC(hc:Xk X (.builtin id) r)(hr:RC X.K r g)(hg:Gl X x)(hm:X.mg x=none)(hv:bootBuiltins x=some (.builtin id))(ha:VA X (e::es) fs)(hn:x≠"__name__":=by decide)(hdb:(x==("__debug__" : Str))=false:=by decide)
  (he:starEach (e::es) X.env=(false,eval e X.env)::starEach es X.env:=by rfl) (hpl:(backTo pos (starEach es X.env)).any (·.1)=false:=by rfl):VE X (.Call (.Name x p) (e::es) [] pos) (Zf g fs):=
 PE.imp (QX hc hg hm hv ha hn hdb he hpl) (NE hr)
theorem Yb(hc:Xk X (.type T) r)(hr:RC X.K r g)(hg:Gl X x)(hm:X.mg x=none)(hv:bootBuiltins x=some (.type T))(ha:VA X (e::es) fs)(hn:x≠"__name__":=by decide)(hdb:(x==("__debug__" : Str))=false:=by decide)
  (he:starEach (e::es) X.env=(false,eval e X.env)::starEach es X.env:=by rfl) (hpl:(backTo pos (starEach es X.env)).any (·.1)=false:=by rfl):VE X (.Call (.Name x p) (e::es) [] pos) (Zf g fs):=
 PE.imp (Qc hc hg hm hv ha hn hdb he hpl) (NE hr)
end
theorem Iss.one_inv{H:Hp}{l:PV}{vs:List V}{fp:List Addr}(h:Iss K H [l] vs fp):∃v,vs=[v]/\Is K H l v fp:=by
 obtain⟨x,r,f1,f2,rfl,a,b,rfl⟩:=h.inv
 simp only[Iss] at b
 rw[b.1,b.2,List.append_nil];exact⟨x,rfl,a⟩
theorem Iss.two_inv{H:Hp}{l m:PV}{vs:List V}{fp:List Addr}(h:Iss K H [l,m] vs fp):∃v w f1 f2,vs=[v,w]/\Is K H l v f1/\Is K H m w f2/\fp=f1++f2:=by
 obtain⟨x,r,f1,f2,rfl,a,b,rfl⟩:=h.inv
 obtain⟨y,rfl,c⟩:=b.one_inv
 exact⟨x,y,f1,f2,rfl,a,c,rfl⟩
def VQ:PV->Option (List PV)
 | .lst l=>some l
 | .cst l=>some l
 | .tup l=>some l
 | _=>none
theorem Wd{H:Hp}{l:PV}{v:V}{fp:List Addr}{m:List PV}(h:Is K H l v fp)(e:VQ l=some m):∃p xs fq,v = .ref p/\(SqL K H p xs\/SqT K H p xs)/\Iss K H m xs fq/\∀q∈fq,q∈fp:=by
 cases l with
 | lst l=>
  cases e
  obtain⟨p,xs,fq,rfl,hp,hi,rfl⟩:=h.lst_inv
  exact⟨p,xs,fq,rfl,.inl (SqL.of hp),hi,fun q hq=>List.mem_cons_of_mem _ hq⟩
 | cst l=>
  cases e
  obtain⟨p,xs,rfl,hp,hi⟩:=h.cst_inv
  exact⟨p,xs,fp,rfl,.inl hp.sq,hi,fun q hq=>hq⟩
 | tup l=>
  cases e
  obtain⟨p,xs,rfl,hp,hi⟩:=h.tup_inv
  exact⟨p,xs,fp,rfl,.inr (SqT.of hp),hi,fun q hq=>hq⟩
 | _=>cases e
def U7:List PV->Option PV
 | [.str z]=>if z.length<=sizeLine then some (.int z.length) else none
 | [l]=>(VQ l).map fun m=>.int m.length
 | _=>none
theorem SE:RC K (fun xs H Q=>∃x n,xs=[x]/\Lq K x H n/\Q (.int n) H) U7:=fun H vs ls l fp h e Q k=>by
 unfold U7 at e
 split at e
 ·split at e
  ·cases e
   obtain⟨v,rfl,i⟩:=h.one_inv
   exact⟨v,_,rfl,by rw[i.str_inv.1];exact⟨by assumption,rfl⟩,k _ H [] (Same.refl H) (Is.int _) fun p hp=>by simp at hp⟩
  ·cases e
 ·obtain⟨m,e1,rfl⟩:=map_some e
  obtain⟨v,rfl,i⟩:=h.one_inv
  obtain⟨p,xs,fq,rfl,hp,hi,_⟩:=Wd (K:=K) i e1
  refine⟨_,xs.length,rfl,?_,?_⟩
  ·rcases hp with hp | hp
   ·exact .inl ⟨xs,hp,rfl⟩
   ·exact .inr ⟨xs,hp,rfl⟩
  ·rw[hi.len]
   exact k _ H [] (Same.refl H) (Is.int _) fun p hp=>by simp at hp
 ·cases e
def Z3:List PV->Option PV
 | [l]=>(VQ l).map .tup
 | _=>none
theorem YJ:RC K (Mv K) Z3:=fun H vs ls l fp h e Q k=>by
 unfold Z3 at e
 split at e
 ·obtain⟨m,e1,rfl⟩:=map_some e
  obtain⟨v,rfl,i⟩:=h.one_inv
  rename_i l0
  cases l0 with
  | tup l=>
   cases e1
   obtain⟨p,xs,rfl,hp,hi⟩:=id i.tup_inv
   exact⟨p,xs,rfl,.inr ⟨SqT.of hp,k _ H fp (Same.refl H) i fun a ha=>.inl ha⟩⟩
  | lst l=>
   cases e1
   obtain⟨p,xs,fq,rfl,hp,hi,rfl⟩:=i.lst_inv
   exact⟨p,xs,rfl,.inl ⟨SqL.of hp,fun q hq=>k _ _ fq (Same.new hq _) (Is.tup upd_same (hi.mono (Same.new hq _))) fun a ha=>.inl (List.mem_cons_of_mem _ ha)⟩⟩
  | cst l=>
   cases e1
   obtain⟨p,xs,rfl,hp,hi⟩:=i.cst_inv
   exact⟨p,xs,rfl,.inl ⟨hp.sq,fun q hq=>k _ _ fp (Same.new hq _) (Is.tup upd_same (hi.mono (Same.new hq _))) fun a ha=>.inl ha⟩⟩
  | _=>cases e1
 ·cases e
def Pg:List PV->Option PV
 | [l]=>(VQ l).bind fun m=>if Zn m=true then some (.lst m) else none
 | _=>none
def WN:List PV->Option (List Int)
 | []=>some []
 | .int i::r=>(WN r).map (i::·)
 | _=>none
theorem Xs:∀l:List Int,WN (iL l)=some l
 | []=>rfl
 | i::r=>by show(WN (iL r)).map (i::·)=_;rw[Xs r];rfl
theorem Va:∀{m:List PV}{l:List Int},WN m=some l->m=iL l
 | [],l,h=>by cases h;rfl
 | .int i::r,l,h=>by
  obtain⟨a,e,rfl⟩:=map_some (show(WN r).map (i::·)=some l from h)
  rw[Va e];rfl
 | .non::_,_,h=>by cases h
 | .bl _::_,_,h=>by cases h
 | .str _::_,_,h=>by cases h
 | .ty _::_,_,h=>by cases h
 | .exc _::_,_,h=>by cases h
 | .tup _::_,_,h=>by cases h
 | .lst _::_,_,h=>by cases h
 | .cst _::_,_,h=>by cases h
 | .dK _ _::_,_,h=>by cases h
 | .dT _ _::_,_,h=>by cases h
abbrev bL(l:List Bool):List PV:=l.map PV.bl
def XF:List PV->Option (List Bool)
 | []=>some []
 | .bl i::r=>(XF r).map (i::·)
 | _=>none
theorem XV:∀l:List Bool,XF (bL l)=some l
 | []=>rfl
 | i::r=>by show(XF (bL r)).map (i::·)=_;rw[XV r];rfl
theorem We:∀{m:List PV}{l:List Bool},XF m=some l->m=bL l
 | [],l,h=>by cases h;rfl
 | .bl i::r,l,h=>by
  obtain⟨a,e,rfl⟩:=map_some (show(XF r).map (i::·)=some l from h)
  rw[We e];rfl
 | .non::_,_,h=>by cases h
 | .int _::_,_,h=>by cases h
 | .str _::_,_,h=>by cases h
 | .ty _::_,_,h=>by cases h
 | .exc _::_,_,h=>by cases h
 | .tup _::_,_,h=>by cases h
 | .lst _::_,_,h=>by cases h
 | .cst _::_,_,h=>by cases h
 | .dK _ _::_,_,h=>by cases h
 | .dT _ _::_,_,h=>by cases h
theorem Iss.bL{H:Hp}:∀{l:List Bool}{xs:List V}{fp:List Addr},Iss K H (VL.bL l) xs fp->xs=l.map V.bl/\fp=[]
 | [],xs,fp,h=>by simpa only[VL.bL,List.map_nil,Iss] using h
 | i::l,xs,fp,h=>by
  obtain⟨x,r,f1,f2,rfl,h1,h2,rfl⟩:=Iss.inv (show Iss K H (PV.bl i::VL.bL l) xs fp from h)
  obtain⟨rfl,rfl⟩:=h1.bl_inv
  obtain⟨rfl,rfl⟩:=h2.bL
  exact⟨rfl,rfl⟩
theorem Ph{H:Hp}{p:Addr}{xs:List V}(h:SqL K H p xs\/SqT K H p xs):∃b,Qk b K H p xs:=by
 rcases h with h | h
 ·exact⟨true,h⟩
 ·exact⟨false,h⟩
def Wf:List PV->Option PV
 | [l]=>(VQ l).bind fun m=>(WN m).map fun ns=>.int ns.sum
 | _=>none
def Qs:List PV->Option PV
 | [l]=>(VQ l).bind fun m=>(XF m).map fun bs=>.bl (bs.all id)
 | _=>none
theorem U8:RC K (fun xs H Q=>∃(b:Bool) (p:Addr) (ns:List Int),xs=[.ref p]/\Qk b K H p (ns.map V.int)/\Q (.int ns.sum) H) Wf:=fun H vs ls l fp h e Q k=>by
 unfold Wf at e
 split at e
 ·obtain⟨m,e1,e2⟩:=Zd e
  obtain⟨ns,e3,rfl⟩:=map_some e2
  obtain⟨v,rfl,i⟩:=h.one_inv
  obtain⟨p,xs,fq,rfl,hp,hi,hs⟩:=Wd (K:=K) i e1
  have em:=Va e3;subst em
  obtain⟨rfl,rfl⟩:=hi.iL
  obtain⟨b,hb⟩:=Ph hp
  exact⟨b,p,ns,rfl,hb,k _ H [] (Same.refl H) (Is.int _) fun p hp=>by simp at hp⟩
 ·cases e
theorem ME:RC K (fun xs H Q=>∃(b:Bool) (p:Addr) (bs:List Bool),xs=[.ref p]/\Qk b K H p (bs.map V.bl)/\Q (.bl (bs.all id)) H) Qs:=fun H vs ls l fp h e Q k=>by
 unfold Qs at e
 split at e
 ·obtain⟨m,e1,e2⟩:=Zd e
  obtain⟨ns,e3,rfl⟩:=map_some e2
  obtain⟨v,rfl,i⟩:=h.one_inv
  obtain⟨p,xs,fq,rfl,hp,hi,hs⟩:=Wd (K:=K) i e1
  have em:=We e3;subst em
  obtain⟨rfl,rfl⟩:=hi.bL
  obtain⟨b,hb⟩:=Ph hp
  exact⟨b,p,ns,rfl,hb,k _ H [] (Same.refl H) (Is.bl _) fun p hp=>by simp at hp⟩
 ·cases e
def Xm:List PV->Option PV
 | [.int i,.int j]=>some (.int (if j<i then j else i))
 | _=>none
def UA:List PV->Option PV
 | [.int i,.int j]=>some (.int (if j>i then j else i))
 | _=>none
def TL:List PV->Option PV
 | [.int i]=>some (.int i)
 | [.bl c]=>some (.int (if c then 1 else 0))
 | _=>none
theorem U9:RC K (fun xs H Q=>∃i j,xs=[.int i,.int j]/\Q (.int (if j<i then j else i)) H) Xm:=fun H vs ls l fp h e Q k=>by
 unfold Xm at e
 split at e
 ·cases e
  obtain⟨v,w,f1,f2,rfl,a,b,rfl⟩:=h.two_inv
  exact⟨_,_,by rw[a.int_inv.1,b.int_inv.1],k _ H [] (Same.refl H) (Is.int _) fun p hp=>by simp at hp⟩
 ·cases e
theorem OW:RC K (fun xs H Q=>∃i j,xs=[.int i,.int j]/\Q (.int (if j>i then j else i)) H) UA:=fun H vs ls l fp h e Q k=>by
 unfold UA at e
 split at e
 ·cases e
  obtain⟨v,w,f1,f2,rfl,a,b,rfl⟩:=h.two_inv
  exact⟨_,_,by rw[a.int_inv.1,b.int_inv.1],k _ H [] (Same.refl H) (Is.int _) fun p hp=>by simp at hp⟩
 ·cases e
theorem OX:RC K (fun xs H Q=>(∃i,xs=[.int i]/\Q (.int i) H)\/∃k,xs=[.bl k]/\Q (.int (if k then 1 else 0)) H) TL:=fun H vs ls l fp h e Q k=>by
 unfold TL at e
 split at e
 ·cases e
  obtain⟨v,rfl,a⟩:=h.one_inv
  exact .inl ⟨_,by rw[a.int_inv.1],k _ H [] (Same.refl H) (Is.int _) fun p hp=>by simp at hp⟩
 ·cases e
  obtain⟨v,rfl,a⟩:=h.one_inv
  exact .inr ⟨_,by rw[a.bl_inv.1],k _ H [] (Same.refl H) (Is.int _) fun p hp=>by simp at hp⟩
 ·cases e
section
variable {X:Cx} {e:Expr} {es:List Expr} {fs:List XE} {p pos:Pos}
def Wg:List PV->Option PV
 | [.int _,.ty "int"]=>some (.bl true)
 | [.int _,.ty "bool"]=>some (.bl false)
 | [.bl _,.ty "bool"]=>some (.bl true)
 | [.tup _,.ty "tuple"]=>some (.bl true)
 | [.lst _,.ty "list"]=>some (.bl true)
 | [.str _,.ty "str"]=>some (.bl true)
 | _=>none
theorem Uh:PySem.W.kitOne K (.type "bool") (.type "bool")=some true:=rfl
theorem Ta:RC K (fun xs H Q=>∃x T t b,xs=[x,.ty T]/\TyOf K H x t/\PySem.W.kitOne K t (.type T)=some b/\Q (.bl b) H) Wg:=fun H vs ls l fp h e Q k=>by
  have fin:∀b:Bool,l = .bl b->Q (.bl b) H:=fun b z=>by subst z;exact k _ H [] (Same.refl H) (Is.bl _) fun p hp=>by simp at hp
  unfold Wg at e
  split at e<;>first
    | (cases e
       obtain⟨v,w,f1,f2,rfl,a,b,rfl⟩:=h.two_inv
       first
         | (obtain⟨rfl,_⟩:=a.int_inv;first
             | exact⟨_,_,_,_,by rw[b.ty_inv.1],TyOf.int _,TB,fin _ rfl⟩
             | exact⟨_,_,_,_,by rw[b.ty_inv.1],TyOf.int _,U3,fin _ rfl⟩)
         | (obtain⟨rfl,_⟩:=a.bl_inv;exact⟨_,_,_,_,by rw[b.ty_inv.1],TyOf.bl _,Uh,fin _ rfl⟩)
         | (obtain⟨rfl,_⟩:=a.str_inv;exact⟨_,_,_,_,by rw[b.ty_inv.1],TyOf.str _,TD,fin _ rfl⟩)
         | (obtain⟨q,xs,rfl,hp,_⟩:=a.tup_inv;exact⟨_,_,_,_,by rw[b.ty_inv.1],TyOf.tup hp,TC,fin _ rfl⟩)
         | (obtain⟨q,xs,fq,rfl,hp,_⟩:=a.lst_inv
            exact⟨_,_,_,_,by rw[b.ty_inv.1],TyOf.lst hp,Ug,fin _ rfl⟩))
    | cases e
theorem Pi{x:Str}{n:String}(hg:Gl X x)(hm:X.mg x=none)(hv:bootBuiltins x=some (.type n))(hn:x≠"__name__":=by decide)(hd:(x==("__debug__" : Str))=false:=by decide):VE X (.Name x pos) (eC (.ty n)):=
 Mx (Of hg hm hv (v:=.ty n) rfl hn hd) fun _=>Is.ty n
end
end VL
namespace VL
open PySem PySem.Spec PyProof.Rows L2
variable {K:PySem.W.Frag}
open Classical in
noncomputable instance:DecidableEq PV:=fun a b=>propDecidable (a=b)
def YE:Nat->PV->PV->Bool
 | _+1,.non,.non=>true
 | _+1,.bl _,.bl _=>true
 | _+1,.int _,.int _=>true
 | _+1,.str _,.str _=>true
 | n+1,.tup l,.tup m=>(l.zip m).all fun z=>YE n z.1 z.2
 | n+1,.lst l,.lst m=>(l.zip m).all fun z=>YE n z.1 z.2
 | _,_,_=>false
theorem Wh{α β:Type}{p:α×β->Bool}{a:α}{b:β}{l:List α}{m:List β}(h:((a::l).zip (b::m)).all p=true):p (a,b)=true/\(l.zip m).all p=true:=by
 rw[List.zip_cons_cons,List.all_cons,Bool.and_eq_true] at h;exact h
theorem Iss.inj'{n:Nat}{H:Hp}(ih:∀a b v fa fb,YE n a b=true->Is K H a v fa->Is K H b v fb->a=b):∀{l m:List PV}{xs:List V}{fa fb:List Addr},(l.zip m).all (fun z=>YE n z.1 z.2)=true->Iss K H l xs fa->Iss K H m xs fb->l=m
 | [],m,xs,fa,fb,_,h,h'=>by
  simp only[Iss] at h
  rw[h.1] at h'
  have:=h'.len
  cases m with
  | nil=>rfl
  | cons _ _=>simp at this
 | a::l,m,xs,fa,fb,hc,h,h'=>by
  obtain⟨x,r,f1,f2,rfl,h1,h2,rfl⟩:=h.inv
  cases m with
  | nil=>have:=h'.len;simp at this
  | cons b m=>
   obtain⟨x',r',g1,g2,e,h3,h4,rfl⟩:=h'.inv
   cases e
   obtain⟨c1,c2⟩:=Wh hc
   rw[ih a b x f1 g1 c1 h1 h3,Iss.inj' ih c2 h2 h4]
theorem Is.inj'{H:Hp}:∀(n:Nat)(a b:PV)(v:V)(fa fb:List Addr),YE n a b=true->Is K H a v fa->Is K H b v fb->a=b
 | 0,a,b,v,fa,fb,hc,_,_=>by unfold YE at hc;simp at hc
 | n+1,a,b,v,fa,fb,hc,ha,hb=>by
  cases a<;>cases b<;>first
   | (exfalso;revert hc;unfold YE;simp;done)
   | skip
  ·rfl
  ·rw[ha.bl_inv.1] at hb;have:=hb.bl_inv.1;cases this;rfl
  ·rw[ha.int_inv.1] at hb;have:=hb.int_inv.1;cases this;rfl
  ·rw[ha.str_inv.1] at hb;have:=hb.str_inv.1;cases this;rfl
  ·obtain⟨p,xs,rfl,hp,hi⟩:=ha.tup_inv
   obtain⟨p',ys,e,hp',hi'⟩:=hb.tup_inv
   cases e
   rw[hp] at hp';cases hp'
   unfold YE at hc;rw[Iss.inj' (Is.inj' n) hc hi hi']
  ·obtain⟨p,xs,fq,rfl,hp,hi,_⟩:=ha.lst_inv
   obtain⟨p',ys,fq',e,hp',hi',_⟩:=hb.lst_inv
   cases e
   rw[hp] at hp';cases hp'
   unfold YE at hc;rw[Iss.inj' (Is.inj' n) hc hi hi']
section
variable {X:Cx} {pins:List (Addr×Obj)} {Z:W9} {H:Hp} {s:Shared} {A:Around}
theorem SF{n:Nat}(ih:∀a b x y fa fb u w,YE n a b=true->Is K H a x fa->Is K H b y fb->RelV x u->RelV y w->∃r,SeqAt.EqAt A s u w r/\(r=true↔a=b)) :
  ∀{l m:List PV}{xs ys:List V}{fa fb:List Addr}{us ws:List Value},(l.zip m).all (fun z=>YE n z.1 z.2)=true->Iss K H l xs fa->Iss K H m ys fb->Vals xs us->Vals ys ws->
  ∃e:Nat->Bool,(∀j (h1:j<us.length) (h2:j<ws.length),SeqAt.EqAt A s us[j] ws[j] (e j))/\((List.range (min us.length ws.length)).all e=true↔l.take (min us.length ws.length)=m.take (min us.length ws.length))
 | [],m,xs,ys,fa,fb,us,ws,_,h,_,r,_=>by
  simp only[Iss] at h
  obtain⟨rfl,_⟩:=h
  cases r
  exact⟨fun _=>true,fun j h1=>by simp at h1,by simp⟩
 | a::l,[],xs,ys,fa,fb,us,ws,_,_,h,_,r=>by
  simp only[Iss] at h
  obtain⟨rfl,_⟩:=h
  cases r
  exact⟨fun _=>true,fun j h1 h2=>by simp at h2,by simp⟩
 | a::l,b::m,xs,ys,fa,fb,us,ws,hc,h,h',r,r'=>by
  obtain⟨x,xr,f1,f2,rfl,h1,h2,rfl⟩:=h.inv
  obtain⟨y,yr,g1,g2,rfl,h3,h4,rfl⟩:=h'.inv
  obtain⟨c1,c2⟩:=Wh hc
  cases r with
  | cons q v=>cases r' with
   | cons q' v'=>
    obtain⟨t,ht,ht'⟩:=ih a b x y f1 g1 _ _ c1 h1 h3 q q'
    obtain⟨e,he,he'⟩:=SF ih c2 h2 h4 v v'
    refine⟨fun j=>match j with | 0=>t | k+1=>e k,fun j h1 h2=>?_,?_⟩
    ·cases j with
     | zero=>exact ht
     | succ k=>exact he k (by simpa using h1) (by simpa using h2)
    ·simp only[List.length_cons,Nat.succ_min_succ,List.range_succ_eq_map,List.all_cons,List.all_map,Bool.and_eq_true,List.take_succ_cons,List.cons.injEq]
     exact and_congr ht' he'
theorem Iss.same'{l m:List PV}{xs ys:List V}{fa fb:List Addr}{us ws:List Value}(h:Iss K H l xs fa)(h':Iss K H m ys fb)(r:Vals xs us)(r':Vals ys ws) :
  (l.take (min us.length ws.length)=m.take (min us.length ws.length)/\us.length=ws.length)↔l=m:=by
 have e1:=h.len;have e2:=h'.len;have e3:=r.length;have e4:=r'.length;constructor
 ·rintro⟨a,b⟩
  rw[List.take_of_length_le (by omega),List.take_of_length_le (by omega)] at a;exact a
 ·intro a
  subst a
  exact⟨rfl,by omega⟩
def NF(A:Around)(s:Shared)(u w:Value)(r:Bool):Prop:=SeqAt.RcAt A s u w r/\SeqAt.RcNeAt A s u w !r
theorem VR(I:Inv X pins Z H s):∀(n:Nat)(A:Around)(a b:PV)(x y:V)(fa fb:List Addr)(u w:Value),A.units+2*n+2<cLine->YE n a b=true->Is K H a x fa->Is K H b y fb->RelV x u->RelV y w->
  (∃r,SeqAt.EqAt A s u w r/\(r=true↔a=b))/\∃r,NF A s u w r/\(r=true↔a=b)
 | 0,A,a,b,x,y,fa,fb,u,w,hu,hc,_,_,_,_=>by unfold YE at hc;simp at hc
 | n+1,A,a,b,x,y,fa,fb,u,w,hu,hc,ha,hb,ru,rw'=>by
  cases a<;>cases b<;>first
   | (exfalso;revert hc;unfold YE;simp;done)
   | skip
  ·rw[ha.non_inv.1] at ru;rw[hb.non_inv.1] at rw'
   cases ru;cases rw'
   exact⟨⟨true,SeqAt.EqAt.same _,by simp⟩,true,⟨SeqAt.RcAt.none_none,SeqAt.RcNeAt.none_none⟩,by simp⟩
  ·rw[ha.bl_inv.1] at ru;rw[hb.bl_inv.1] at rw'
   cases ru;cases rw'
   exact⟨⟨_,SeqAt.EqAt.bool_bool _ _,by simp⟩,_,⟨SeqAt.RcAt.bool_bool _ _,SeqAt.RcNeAt.bool_bool _ _⟩,by simp⟩
  ·rw[ha.int_inv.1] at ru;rw[hb.int_inv.1] at rw'
   obtain⟨t,rfl⟩:=ru
   obtain⟨t',rfl⟩:=rw'
   exact⟨⟨_,SeqAt.EqAt.int_int _ _ _ _,by simp⟩,_,⟨SeqAt.RcAt.int_int _ _ _ _,SeqAt.RcNeAt.int_int _ _ _ _⟩,by simp⟩
  ·rw[ha.str_inv.1] at ru;rw[hb.str_inv.1] at rw'
   obtain⟨t,rfl⟩:=ru
   obtain⟨t',rfl⟩:=rw'
   exact⟨⟨_,SeqAt.EqAt.str_str _ _ _ _,by simp⟩,_,⟨SeqAt.RcAt.str_str _ _ _ _,SeqAt.RcNeAt.str_str _ _ _ _⟩,by simp⟩
  ·rename_i l1 l2
   obtain⟨p,xs,rfl,hp,hi⟩:=id ha.tup_inv
   obtain⟨p',ys,rfl,hp',hi'⟩:=id hb.tup_inv
   cases ru
   cases rw'
   have hc':=hc
   unfold YE at hc'
   obtain⟨us,rv,q,_⟩:=I.tuple (SqT.of hp)
   obtain⟨ws,rv',q',_⟩:=I.tuple (SqT.of hp')
   obtain⟨f,hf,hf'⟩:=SF (A:=A.in1) (fun a b x y fa fb u w c i1 i2 r1 r2=>(VR I n A.in1 a b x y fa fb u w (by show A.units+1+2*n+2<cLine;omega) c i1 i2 r1 r2).1) hc' hi hi' rv rv'
   have rc:=SeqAt.RcAt.tuples (A:=A) (e:=f) (show s.heap.IsTuple p us.toArray from q) (show s.heap.IsTuple p' ws.toArray from q') (by omega) (fun j h1 h2=>hf j (by simpa using h1) (by simpa using h2))
   have rn:=SeqAt.RcNeAt.tuples (A:=A) (e:=f) (show s.heap.IsTuple p us.toArray from q) (show s.heap.IsTuple p' ws.toArray from q') (by omega) (fun j h1 h2=>hf j (by simpa using h1) (by simpa using h2))
   have key:(((List.range (min us.toArray.size ws.toArray.size)).all f&&us.toArray.size==ws.toArray.size)=true)↔PV.tup l1=PV.tup l2:=by
    simp only[List.size_toArray,Bool.and_eq_true,beq_iff_eq,PV.tup.injEq];rw[hf']
    exact Iss.same' hi hi' rv rv'
   refine⟨?_,_,⟨rc,rn⟩,key⟩
   by_cases e:p=p'
   ·subst e
    exact⟨true,SeqAt.EqAt.same _,by simp[Is.inj' (n+1) _ _ _ _ _ hc ha hb]⟩
   ·exact⟨_,SeqAt.EqAt.of_refs e rc,key⟩
  ·rename_i l1 l2
   obtain⟨p,xs,fq,rfl,hp,hi,_⟩:=id ha.lst_inv
   obtain⟨p',ys,fq',rfl,hp',hi',_⟩:=id hb.lst_inv
   cases ru
   cases rw'
   have hc':=hc
   unfold YE at hc'
   obtain⟨us,rv,q,_⟩:=I.list (SqL.of hp)
   obtain⟨ws,rv',q',_⟩:=I.list (SqL.of hp')
   obtain⟨f,hf,hf'⟩:=SF (A:=A.in1) (fun a b x y fa fb u w c i1 i2 r1 r2=>(VR I n A.in1 a b x y fa fb u w (by show A.units+1+2*n+2<cLine;omega) c i1 i2 r1 r2).1) hc' hi hi' rv rv'
   have fin:∃r,NF A s (.ref p) (.ref p') r/\(r=true↔PV.lst l1=PV.lst l2):=by
    have key:=Iss.same' hi hi' rv rv'
    by_cases hsz:us.length=ws.length
    ·refine⟨_,⟨SeqAt.RcAt.lists (e:=f) q.isList q'.isList (by simpa using hsz) (by omega) (fun j h1 h2=>hf j (by simpa using h1) (by simpa using h2)),SeqAt.RcNeAt.lists (e:=f) q.isList q'.isList (by simpa using hsz) (by omega) (fun j h1 h2=>hf j (by simpa using h1) (by simpa using h2))⟩,?_⟩
     rw[hsz,Nat.min_self] at hf' key
     simp only[List.size_toArray,PV.lst.injEq];rw[hsz,hf',<-key]
     simp
    ·refine⟨false,⟨SeqAt.RcAt.lists_lengths q.isList q'.isList (by simpa using hsz) (by omega),SeqAt.RcNeAt.lists_lengths q.isList q'.isList (by simpa using hsz) (by omega)⟩,?_⟩
     rw[PV.lst.injEq,<-key];simp[hsz]
   obtain⟨r,hr,hk⟩:=fin
   refine⟨?_,r,hr,hk⟩
   by_cases e:p=p'
   ·subst e
    exact⟨true,SeqAt.EqAt.same _,by simp[Is.inj' (n+1) _ _ _ _ _ hc ha hb]⟩
   ·exact⟨r,SeqAt.EqAt.of_refs e hr.1,hk⟩
end
def MF(K:PySem.W.Frag)(neg:Bool):R2:=fun x y H Q=>∃a b fa fb,Is K H a x fa/\Is K H b y fb/\YE 8 a b=true/\∀r:Bool,(r=true↔a=b)->Q (.bl (if neg then !r else r)) H
section
variable {X:Cx}
theorem Pj(hu:X.A.units+64<cLine):XX X (compareOp .Eq) (MF X.K false):=by
 intro pins s Z H x y v u Q I rx ry h
 obtain⟨a,b,fa,fb,ha,hb,hc,q⟩:=h
 obtain⟨_,r,hr,hk⟩:=VR I 8 X.A a b x y fa fb v u (by omega) hc ha hb rx ry
 exact hr.1 X.prog X.w X.xe _ ⟨.bl r,H,I,rfl,q r hk⟩
theorem MG(hu:X.A.units+64<cLine):XX X (compareOp .NotEq) (MF X.K true):=by
 intro pins s Z H x y v u Q I rx ry h
 obtain⟨a,b,fa,fb,ha,hb,hc,q⟩:=h
 obtain⟨_,r,hr,hk⟩:=VR I 8 X.A a b x y fa fb v u (by omega) hc ha hb rx ry
 exact hr.2 X.prog X.w X.xe _ ⟨.bl !r,H,I,rfl,q r hk⟩
end
noncomputable def Wt(neg:Bool):PV->PV->Option PV:=fun a b=>if YE 8 a b=true then some (.bl (if neg then !decide (a=b) else decide (a=b))) else none
theorem SG(neg:Bool):RB K (MF K neg) (Wt neg):=fun H x y a b l fa fb ha hb e Q k=>by
 unfold Wt at e
 split at e
 ·cases e
  refine⟨a,b,fa,fb,ha,hb,by assumption,fun r hr=>?_⟩
  have:r=decide (a=b):=by
   cases r with
   | true=>exact(decide_eq_true (hr.mp rfl)).symm
   | false=>exact(decide_eq_false fun z=>Bool.false_ne_true (hr.mpr z)).symm
  subst this
  exact k _ H [] (Same.refl H) (Is.bl _) fun p hp=>by simp at hp
 ·cases e
def MH(K:PySem.W.Frag)(neg:Bool):R2:=fun x y H Q=>∃a b m fa fb,Is K H a x fa/\Is K H b y fb/\VQ b=some m/\(m.all fun z=>YE 8 z a)=true/\∀r:Bool,(r=true↔a∈m)->Q (.bl (if neg then !r else r)) H
section
variable {X:Cx} {pins:List (Addr×Obj)} {Z:W9} {H:Hp} {s:Shared}
theorem Vm{a:PV}{x:V}{fa:List Addr}{u:Value}{A:Around}(I:Inv X pins Z H s)(hu:A.units+18<cLine)(ha:Is K H a x fa)(rx:RelV x u):∀{m:List PV}{xs:List V}{fb:List Addr}{us:List Value},(m.all fun z=>YE 8 z a)=true->Iss K H m xs fb->Vals xs us->
  ∃e:Value->Bool,(∀y∈us,SeqAt.EqAt A s y u (e y))/\(us.any e=true↔a∈m):=fun{m xs fb us} hc h r=>by
 -- each one's answer
 have each:∀y∈us,∃t:Bool,SeqAt.EqAt A s y u t/\(t=true↔∃b,b∈m/\b=a/\∃z f,Is K H b z f/\RelV z y):=fun y hy=>by
  obtain⟨j,hj,e⟩:=List.mem_iff_getElem.mp hy
  have hl:=r.length
  have hxj:xs[j]?=some xs[j]:=List.getElem?_eq_getElem (by omega)
  obtain⟨b,f,hb,ib,_⟩:=h.get' hxj
  obtain⟨w,hw,rw'⟩:=r.get hxj
  rw[List.getElem?_eq_getElem hj] at hw;cases hw
  rw[e] at rw'
  have hbm:b∈m:=List.mem_of_getElem? hb
  have cb:=List.all_eq_true.mp hc b hbm
  obtain⟨⟨t,ht,hk⟩,_⟩:=VR I 8 A b a xs[j] x f fa y u (by omega) cb ib ha rw' rx
  refine⟨t,ht,hk.trans ⟨fun z=>⟨b,hbm,z,xs[j],f,ib,rw'⟩,fun⟨b',hb',e',z,f',i',r'⟩=>?_⟩⟩
  have ez:z=xs[j]:=r'.inj rw'
  subst ez;have cb':=List.all_eq_true.mp hc b' hb'
  subst e'
  exact Is.inj' 8 b b' _ _ _ cb ib i'
 classical
 refine⟨fun y=>if hy:y∈us then(each y hy).choose else false,fun y hy=>?_,?_⟩
 ·simp only[dif_pos hy];exact(each y hy).choose_spec.1
 ·rw[List.any_eq_true]
  constructor
  ·rintro⟨y,hy,e⟩
   rw[dif_pos hy] at e
   obtain⟨b,hb,rfl,_⟩:=(each y hy).choose_spec.2.mp e
   exact hb
  ·intro hm
   obtain⟨j,hj,e⟩:=List.mem_iff_getElem.mp hm
   obtain⟨z,f,hz,iz,_⟩:=h.get (List.getElem?_eq_getElem hj)
   obtain⟨y,hy,ry⟩:=r.get hz
   have hyu:y∈us:=List.mem_of_getElem? hy
   refine⟨y,hyu,?_⟩
   rw[dif_pos hyu]
   exact(each y hyu).choose_spec.2.mpr ⟨a,hm,rfl,z,f,e▸iz,ry⟩
end
section
variable {X:Cx}
theorem MI(hu:X.A.units+64<cLine):XX X (compareOp .In) (MH X.K false):=by
 intro pins s Z H x y v u Q I rx ry h
 obtain⟨a,b,m,fa,fb,ha,hb,hm,hc,q⟩:=h
 obtain⟨p,xs,fq,rfl,hp,hi,_⟩:=Wd (K:=X.K) hb hm
 cases ry
 rcases hp with hp | hp
 ·obtain⟨us,rv,t,_⟩:=I.list hp
  obtain⟨e,he,hk⟩:=Vm (A:=X.A.in1) I (by show X.A.units+1+18<cLine;omega) ha rx hc hi rv
  refine SeqAt.in_listAt e t.isList (fun w hw=>he w (by simpa using hw)) ⟨.bl _,H,I,rfl,?_⟩
  rw[show us.toArray.any e=us.any e by simp]
  exact q _ hk
 ·obtain⟨us,rv,t,_⟩:=I.tuple hp
  obtain⟨e,he,hk⟩:=Vm (A:=X.A.in1) I (by show X.A.units+1+18<cLine;omega) ha rx hc hi rv
  refine SeqAt.in_tupleAt e t (fun w hw=>he w (by simpa using hw)) ⟨.bl _,H,I,rfl,?_⟩
  rw[show us.toArray.any e=us.any e by simp]
  exact q _ hk
theorem Qt(hu:X.A.units+64<cLine):XX X (compareOp .NotIn) (MH X.K true):=by
 intro pins s Z H x y v u Q I rx ry h
 obtain⟨a,b,m,fa,fb,ha,hb,hm,hc,q⟩:=h
 obtain⟨p,xs,fq,rfl,hp,hi,_⟩:=Wd (K:=X.K) hb hm
 cases ry
 rcases hp with hp | hp
 ·obtain⟨us,rv,t,_⟩:=I.list hp
  obtain⟨e,he,hk⟩:=Vm (A:=X.A.in1) I (by show X.A.units+1+18<cLine;omega) ha rx hc hi rv
  refine SeqAt.notIn_listAt e t.isList (fun w hw=>he w (by simpa using hw)) ⟨.bl _,H,I,rfl,?_⟩
  rw[show us.toArray.any e=us.any e by simp]
  exact q _ hk
 ·obtain⟨us,rv,t,_⟩:=I.tuple hp
  obtain⟨e,he,hk⟩:=Vm (A:=X.A.in1) I (by show X.A.units+1+18<cLine;omega) ha rx hc hi rv
  refine SeqAt.notIn_tupleAt e t (fun w hw=>he w (by simpa using hw)) ⟨.bl _,H,I,rfl,?_⟩
  rw[show us.toArray.any e=us.any e by simp]
  exact q _ hk
end
noncomputable def TM(neg:Bool):PV->PV->Option PV:=fun a b=>(VQ b).bind fun m=>if(m.all fun z=>YE 8 z a)=true then some (.bl (if neg then !decide (a∈m) else decide (a∈m))) else none
theorem Pk(neg:Bool):RB K (MH K neg) (TM neg):=fun H x y a b l fa fb ha hb e Q k=>by
 obtain⟨m,hm,e⟩:=Zd e
 split at e
 ·cases e
  refine⟨a,b,m,fa,fb,ha,hb,hm,by assumption,fun r hr=>?_⟩
  have:r=decide (a∈m):=by
   cases r with
   | true=>exact(decide_eq_true (hr.mp rfl)).symm
   | false=>exact(decide_eq_false fun z=>Bool.false_ne_true (hr.mpr z)).symm
  subst this
  exact k _ H [] (Same.refl H) (Is.bl _) fun p hp=>by simp at hp
 ·cases e
end VL
namespace VL
open PySem PySem.Spec PyProof.Rows L2
variable {K:PySem.W.Frag}
mutual
theorem Is.dom{H:Hp}:∀(l:PV)(v:V)(fp:List Addr),Is K H l v fp->∀p∈fp,H p≠none
 | .non,_,_,h=>by simp only[Is] at h;rw[h.2];simp
 | .bl _,_,_,h=>by simp only[Is] at h;rw[h.2];simp
 | .int _,_,_,h=>by simp only[Is] at h;rw[h.2];simp
 | .str _,_,_,h=>by simp only[Is] at h;rw[h.2];simp
 | .ty _,_,_,h=>by simp only[Is] at h;rw[h.2];simp
 | .exc _,_,_,h=>by simp only[Is] at h;rw[h.2];simp
 | .tup l,v,fp,h=>by
  obtain⟨p,xs,_,_,hi⟩:=h.tup_inv
  exact Iss.dom l xs fp hi
 | .lst l,v,fp,h=>by
  obtain⟨p,xs,fq,_,hp,hi,rfl⟩:=h.lst_inv
  intro q hq
  rcases List.mem_cons.mp hq with rfl | hq
  ·rw[hp];simp
  ·exact Iss.dom l xs fq hi q hq
 | .cst l,v,fp,h=>by
  obtain⟨p,xs,_,_,hi⟩:=h.cst_inv
  exact Iss.dom l xs fp hi
 | .dK ks l,v,fp,h=>by
  obtain⟨p,kvs,fq,_,hp,_,hi,rfl⟩:=h.dK_inv
  intro q hq
  rcases List.mem_cons.mp hq with rfl | hq
  ·rcases hp with e | ⟨o,e⟩<;>rw[e]<;>simp
  ·exact Iss.dom l _ fq hi q hq
 | .dT ks l,v,fp,h=>by
  obtain⟨p,kvs,fq,_,hp,_,hi,rfl⟩:=h.dT_inv
  intro q hq
  rcases List.mem_cons.mp hq with rfl | hq
  ·rcases hp with e | ⟨o,e⟩<;>rw[e]<;>simp
  ·exact Iss.dom l _ fq hi q hq
theorem Iss.dom{H:Hp}:∀(l:List PV)(xs:List V)(fp:List Addr),Iss K H l xs fp->∀p∈fp,H p≠none
 | [],_,_,h=>by simp only[Iss] at h;rw[h.2];simp
 | l::ls,xs,fp,h=>by
  obtain⟨x,r,f1,f2,_,h1,h2,rfl⟩:=h.inv
  intro q hq
  rcases List.mem_append.mp hq with hq | hq
  ·exact Is.dom l x f1 h1 q hq
  ·exact Iss.dom ls r f2 h2 q hq
end
def Ab(Rm:Addr->Prop)(H H':Hp):Prop:=∀b o,H b=some o->¬Rm b->H' b=some o
theorem Same.ab{Rm:Addr->Prop}{H H':Hp}(s:Same H H'):Ab Rm H H':=fun b o h _=>s b o h
theorem Ab.tk{Rm:Addr->Prop}{H H':Hp}(a:Ab Rm H H')(hd:∀p,Rm p->Xb (H p)):TK2 H H':=⟨fun b xs h=>a b _ h fun z=>by
 have:=hd b z
 rw[h] at this;exact this,fun b o xs h=>a b _ h fun z=>by
 have:=hd b z
 rw[h] at this;exact this,fun b o x h=>a b _ h fun z=>by
 have:=hd b z
 rw[h] at this;exact this⟩
theorem Is.ab{Rm:Addr->Prop}{H H':Hp}(a:Ab Rm H H')(hd:∀p,Rm p->Xb (H p)){l:PV}{v:V}{fp:List Addr}(n:∀p∈fp,¬Rm p)(h:Is K H l v fp):Is K H' l v fp:=
 Is.tr (a.tk hd) l v fp (fun p hp=>RdK.of fun o q=>a p o q (n p hp)) h
structure L4(K:PySem.W.Frag)(Rm:Addr->Prop)(H1:Hp)(J:It)(ls:List PV):Prop where
 stop:∀H',Ab Rm H1 H'->J.stop ls.length H'
 go:∀H' (i:Nat) l,Ab Rm H1 H'->ls[i]?=some l->J.go i H'
 yld:∀H' (i:Nat) l x H'',Ab Rm H1 H'->ls[i]?=some l->J.yld i H' x H''->Same H' H''/\∃fp,Is K H'' l x fp/\∀p∈fp,H1 p≠none/\¬Rm p
abbrev XL:=Zy->Option (List PV)
def iF(K:PySem.W.Frag)(f:XL):TI:=fun Z H R=>∃(Rm:Addr->Prop) (s:Zy) (ls:List PV),(∀p,Rm p->Xb (H p))/\EnvIs K Rm H s Z/\f s=some ls/\∀J H1,Same H H1->L4 K Rm H1 J ls->R J H1
def VI(X:Cx)(tg e:Expr)(f:XL):Prop:=PI X tg e (iF X.K f)
section
variable {X:Cx} {tg e:Expr} {es:List Expr}
theorem PI.imp{t t':TI}(h:PI X tg e t)(i:∀Z H R,t' Z H R->t Z H R):PI X tg e t':=fun pins s Z H R I q=>h pins s Z H R I (i Z H R q)
def M4:PV->Option (List PV)
 | .lst m=>some m
 | .cst m=>some m
 | _=>none
def SH(f:XE):XL:=fun s=>(f s).bind M4
def SI(f:XE):XL:=fun s=>match f s with | some (.tup m)=>some m | _=>none
theorem Pl{a:PV}{m:List PV}(h:M4 a=some m):a = .lst m\/a = .cst m:=by
 unfold M4 at h;split at h
 ·cases h;exact .inl rfl
 ·cases h;exact .inr rfl
 ·cases h
theorem Qu{f:XE}{s:Zy}{m:List PV}(h:SI f s=some m):f s=some (.tup m):=by
 unfold SI at h;split at h
 ·cases h;assumption
 ·cases h
theorem Rx{f:XE}(h:VE X e f):VI X tg e (SH f):=PI.imp (Ol h) fun Z H R ⟨Rm,s,ls,hd,env,e,k⟩=>by
 obtain⟨l,e1,e2⟩:=Zd e
 refine⟨Rm,s,l,hd,env,e1,fun v H1 fp s1 i1 n1=>?_⟩
 have hd1:∀p,Rm p->Xb (H1 p):=fun p hp=>Same.mut s1 (hd p hp)
 have main:∀a xs fq,v = .ref a->SqL X.K H1 a xs->(∀H',Ab Rm H1 H'->SqL X.K H' a xs)->Iss X.K H1 ls xs fq->(∀p∈fq,p∈fp)->∃a,v = .ref a/\(∃xs,SqL X.K H1 a xs)/\R (Kg X.K a) H1:=by
  rintro a xs fq rfl ha keep hi sub
  refine⟨a,rfl,⟨xs,ha⟩,k _ H1 s1 ⟨fun H' ab=>⟨xs,keep H' ab,by rw[hi.len];exact Nat.le_refl _⟩,fun H' i l ab hl=>?_,fun H' i l x H'' ab hl y=>?_⟩⟩
  ·obtain⟨x,f1,hx,_,_⟩:=hi.get hl
   exact⟨xs,x,keep H' ab,hx⟩
  ·obtain⟨rfl,y⟩:=y
   obtain⟨x',f1,hx,ix,sub'⟩:=hi.get hl
   have:=y xs (keep _ ab)
   rw[hx] at this;cases this
   have n1':∀p∈f1,¬Rm p:=fun p hp=>n1 p (sub p (sub' p hp))
   exact⟨Same.refl _,f1,ix.ab ab hd1 n1',fun p hp=>⟨Is.dom _ _ _ ix p hp,n1' p hp⟩⟩
 rcases Pl e2 with rfl | rfl
 ·obtain⟨a,xs,fq,rfl,ha,hi,rfl⟩:=i1.lst_inv
  exact main a xs fq rfl (SqL.of ha) (fun H' ab=>SqL.of (ab a _ ha (n1 a List.mem_cons_self))) hi fun p hp=>List.mem_cons_of_mem _ hp
 ·obtain⟨a,xs,rfl,ha,hi⟩:=i1.cst_inv
  exact main a xs fp rfl ha.sq (fun H' ab=>(ha.tr (ab.tk hd1)).sq) hi fun p hp=>hp
theorem MJ{f:XE}(h:VE X e f):VI X tg e (SI f):=PI.imp (N6 h) fun Z H R ⟨Rm,s,ls,hd,env,e,k⟩=>by
 refine⟨Rm,s,.tup ls,hd,env,Qu e,fun v H1 fp s1 i1 n1=>?_⟩
 obtain⟨a,xs,rfl,ha,hi⟩:=i1.tup_inv
 have hd1:∀p,Rm p->Xb (H1 p):=fun p hp=>Same.mut s1 (hd p hp)
 have keep:∀H',Ab Rm H1 H'->SqT X.K H' a xs:=fun H' ab=>SqT.of ((ab.tk hd1).tup a xs ha)
 refine⟨a,rfl,⟨xs,SqT.of ha⟩,k _ H1 s1 ⟨fun H' ab=>⟨xs,keep H' ab,by rw[hi.len];exact Nat.le_refl _⟩,fun H' i l ab hl=>?_,fun H' i l x H'' ab hl y=>?_⟩⟩
 ·obtain⟨x,f1,hx,_,_⟩:=hi.get hl
  exact⟨xs,x,keep H' ab,hx⟩
 ·obtain⟨rfl,y⟩:=y
  obtain⟨x',f1,hx,ix,sub⟩:=hi.get hl
  have:=y xs (keep _ ab)
  rw[hx] at this;cases this
  have n1':∀p∈f1,¬Rm p:=fun p hp=>n1 p (sub p hp)
  exact⟨Same.refl _,f1,ix.ab ab hd1 n1',fun p hp=>⟨Is.dom _ _ _ ix p hp,n1' p hp⟩⟩
def Y2(n:Nat):List PV:=(List.range n).map fun(i:Nat)=>PV.int (i:Int)
def Y3(lo:Int)(n:Nat):List PV:=(List.range n).map fun(i:Nat)=>PV.int (lo+(i:Int))
def ZK(fs:List XE):XL:=fun s=>match Uz fs s with | some [.int j]=>if -1000000<=j/\j<=1000000 then some (Y2 j.toNat) else none | _=>none
def Yn(fs:List XE):XL:=fun s=>match Uz fs s with | some [.int i,.int j]=>if -1000000<=i/\i<=1000000/\-1000000<=j/\j<=1000000 then some (Y3 i (j-i).toNat) else none | _=>none
theorem Ry{Rm:Addr->Prop}{H1:Hp}(lo:Int)(n:Nat):L4 K Rm H1 (Li lo n) (Y3 lo n):=by
 refine⟨fun H' _=>by unfold Y3;rw[List.length_map,List.length_range];exact Nat.le_refl n,fun H' i l _ hl=>?_,fun H' i l x H'' _ hl y=>?_⟩
 ·have:=(List.getElem?_eq_some_iff.mp hl).1
  unfold Y3 at this;rw[List.length_map,List.length_range] at this;exact this
 ·obtain⟨rfl,rfl⟩:=y
  have hi:=(List.getElem?_eq_some_iff.mp hl).1
  unfold Y3 at hi hl;rw[List.length_map,List.length_range] at hi;rw[List.getElem?_map,List.getElem?_range hi] at hl;cases hl
  exact⟨Same.refl _,[],Is.int _,fun p hp=>by simp at hp⟩
theorem OY(n:Nat):Y2 n=Y3 0 n:=by
 unfold Y2 Y3
 apply List.map_congr_left
 intro i _;rw[Int.zero_add]
theorem Yc{a:Expr}{fs:List XE}{p pos:Pos}(hg:Gl X "range")(hm:X.mg "range" = none)(ha:VA X [a] fs)(hs:starEach [a] X.env=[(false,eval a X.env)]:=by rfl):VI X tg (.Call (.Name "range" p) [a] [] pos) (ZK fs):=
 PI.imp (R3 hg hm ha hs) fun Z H R ⟨Rm,s,ls,hd,env,e,k⟩=>by
 unfold ZK at e
 split at e
 ·split at e
  ·cases e
   rename_i j he hb
   refine⟨Rm,s,_,hd,env,he,fun vs H1 fp s1 i1 _=>?_⟩
   obtain⟨v,rfl,i⟩:=i1.one_inv
   refine⟨j,by rw[i.int_inv.1],by omega,by omega,k _ H1 s1 ?_⟩
   rw[OY];exact Ry _ _
  ·cases e
 ·cases e
theorem WO{a b:Expr}{fs:List XE}{p pos:Pos}(hg:Gl X "range")(hm:X.mg "range" = none)(ha:VA X [a,b] fs)(hs:starEach [a,b] X.env=[(false,eval a X.env),(false,eval b X.env)]:=by rfl)(hs2:starEach [b] X.env=[(false,eval b X.env)]:=by rfl):VI X tg (.Call (.Name "range" p) [a,b] [] pos) (Yn fs):=
 PI.imp (R4 hg hm ha hs hs2) fun Z H R ⟨Rm,s,ls,hd,env,e,k⟩=>by
 unfold Yn at e
 split at e
 ·split at e
  ·cases e
   rename_i i j he hb
   refine⟨Rm,s,_,hd,env,he,fun vs H1 fp s1 i1 _=>?_⟩
   obtain⟨v,w,f1,f2,rfl,iv,iw,_⟩:=i1.two_inv
   exact⟨i,j,by rw[iv.int_inv.1,iw.int_inv.1],⟨by omega,by omega,by omega,by omega⟩,k _ H1 s1 (Ry _ _)⟩
  ·cases e
 ·cases e
def XW(m:List PV):List PV:=m.zipIdx.map fun z=>.tup [.int (z.2:Nat),z.1]
theorem UB{m:List PV}{i:Nat}{l:PV}(h:(XW m)[i]?=some l):∃a,m[i]?=some a/\l = .tup [.int (i:Nat),a]:=by
 unfold XW at h;rw[List.getElem?_map,List.getElem?_zipIdx] at h
 cases q:m[i]? with
 | none=>rw[q] at h;cases h
 | some a=>rw[q] at h;cases h;exact⟨a,rfl,by simp⟩
theorem UC(m:List PV):(XW m).length=m.length:=by unfold XW;rw[List.length_map,List.length_zipIdx]
def seqB:Bool->PV->Option (List PV)
 | true,.lst l=>some l
 | true,.cst l=>some l
 | false,.tup l=>some l
 | _,_=>none
theorem OZ{H:Hp}{b:Bool}{l:PV}{v:V}{fp:List Addr}{m:List PV}(h:Is K H l v fp)(e:seqB b l=some m):∃p xs fq,v = .ref p/\Iss K H m xs fq/\(∀q∈fq,q∈fp)/\∀(Rm:Addr->Prop) H',Ab Rm H H'->(∀p,Rm p->Xb (H p))->(∀p∈fp,¬Rm p)->Qk b K H' p xs:=by
 cases b with
 | true=>cases l with
  | lst l=>
   cases e
   obtain⟨p,xs,fq,rfl,hp,hi,rfl⟩:=h.lst_inv
   exact⟨p,xs,fq,rfl,hi,fun q hq=>List.mem_cons_of_mem _ hq,fun Rm H' ab _ n=>SqL.of (ab p _ hp (n p List.mem_cons_self))⟩
  | cst l=>
   cases e
   obtain⟨p,xs,rfl,hp,hi⟩:=h.cst_inv
   exact⟨p,xs,fp,rfl,hi,fun q hq=>hq,fun Rm H' ab hd _=>(hp.tr (ab.tk hd)).sq⟩
  | _=>cases e
 | false=>cases l with
  | tup l=>
   cases e
   obtain⟨p,xs,rfl,hp,hi⟩:=h.tup_inv
   exact⟨p,xs,fp,rfl,hi,fun q hq=>hq,fun Rm H' ab hd _=>SqT.of ((ab.tk hd).tup p xs hp)⟩
  | _=>cases e
def Vb(b:Bool)(fs:List XE):XL:=fun s=>match Uz fs s with | some [l]=>(seqB b l).map XW | _=>none
theorem Rz{elts:List Expr}{k:Nat}{tpos:Pos}(b:Bool){a:Expr}{fs:List XE}{p pos:Pos}(hg:Gl X "enumerate")(hm:X.mg "enumerate" = none)(ha:VA X [a] fs)(hs:starEach [a] X.env=[(false,eval a X.env)]:=by rfl) :
  VI X (.Tuple elts k tpos) (.Call (.Name "enumerate" p) [a] [] pos) (Vb b fs):=PI.imp (OM b hg hm ha hs) fun Z H R ⟨Rm,s,ls,hd,env,e,k⟩=>by
 unfold Vb at e
 split at e
 ·rename_i l he
  obtain⟨m,e1,rfl⟩:=map_some e
  refine⟨Rm,s,_,hd,env,he,fun vs H1 fp s1 i1 n1=>?_⟩
  obtain⟨v,rfl,i⟩:=i1.one_inv
  have hd1:∀p,Rm p->Xb (H1 p):=fun p hp=>Same.mut s1 (hd p hp)
  obtain⟨a,xs,fq,rfl,hi,sub,keep⟩:=OZ (K:=X.K) i e1
  have kp:=fun H' ab=>keep Rm H' ab hd1 n1
  refine⟨a,rfl,⟨xs,kp H1 (Same.ab (Same.refl H1))⟩,k _ H1 s1 ⟨fun H' ab=>⟨xs,kp H' ab,by rw[UC,hi.len]⟩,fun H' i l ab hl=>?_,fun H' i l x H'' ab hl y=>?_⟩⟩
  ·obtain⟨c,hc,rfl⟩:=UB hl
   obtain⟨x,f1,hx,_,_⟩:=hi.get hc
   exact⟨xs,x,kp H' ab,hx⟩
  ·obtain⟨c,hc,rfl⟩:=UB hl
   obtain⟨x',f1,hx,ix,sb⟩:=hi.get hc
   obtain⟨q,z,hq,rfl,rfl,y⟩:=y
   have:=y xs (kp _ ab)
   rw[hx] at this;cases this
   have n1':∀p∈f1,¬Rm p:=fun p hp=>n1 p (sub p (sb p hp))
   refine⟨Same.new hq _,f1,Is.tup upd_same ?_,fun p hp=>⟨Is.dom _ _ _ ix p hp,n1' p hp⟩⟩
   exact Iss.cons (f1:=[]) (Is.int _) (Iss.one ((ix.ab ab hd1 n1').mono (Same.new hq _)))
 ·cases e
end
inductive Tgt where
 | one (i:Nat) | many (is:List Nat)
def Tgt.slots:Tgt->List Nat
 | .one i=>[i]
 | .many is=>is
def setAll:List Nat->List PV->Zy->Zy
 | i::is,l::ls,s=>setAll is ls (s.set i (some l))
 | _,_,s=>s
def ZX:List Nat->List V->W9->W9
 | i::is,l::ls,s=>ZX is ls (s.set i (some l))
 | _,_,s=>s
def Wi:Tgt->PV->Zy->Option Zy
 | .one i,l,s=>some (s.set i (some l))
 | .many is,.tup ls,s=>if ls.length=is.length then some (setAll is ls s) else none
 | _,_,_=>none
def SJ:List Nat->Nw
 | []=>Lg
 | i::is=>Nx (W5 i) (SJ is)
def gT(K:PySem.W.Frag):Tgt->TG
 | .one i=>W5 i
 | .many is=>Lh K is.length (SJ is)
theorem VU:∀{is:List Nat}{vs:List V}{Z:W9}{H:Hp}{Q:W9->Hp->Prop},vs.length=is.length->Q (ZX is vs Z) H->SJ is vs Z H Q
 | [],[],_,_,_,_,q=>⟨rfl,q⟩
 | [],_::_,_,_,_,h,_=>by simp at h
 | _::_,[],_,_,_,h,_=>by simp at h
 | i::is,v::vs,Z,H,Q,h,q=>⟨v,vs,rfl,VU (is:=is) (vs:=vs) (by simpa using h) q⟩
theorem SK{T:Tgt}{l:PV}{v:V}{fp:List Addr}{s s':Zy}{H:Hp}(h:Is K H l v fp)(e:Wi T l s=some s') :
  ∃ls vs fs,s'=setAll T.slots ls s/\Iss K H ls vs fs/\ls.length=T.slots.length/\(∀p∈fs,p∈fp)/\∀Z (Q:W9->Hp->Prop),Q (ZX T.slots vs Z) H->gT K T v Z H Q:=by
 cases T with
 | one i=>
  cases e
  exact⟨[l],[v],fp,rfl,Iss.one h,rfl,fun p hp=>hp,fun Z Q q=>q⟩
 | many is=>
  cases l with
  | tup ls=>
   have e:(if ls.length=is.length then some (VL.setAll is ls s) else none)=some s':=e
   split at e
   ·cases e
    obtain⟨p,xs,rfl,hp,hi⟩:=h.tup_inv
    exact⟨ls,xs,fp,rfl,hi,by assumption,fun p hp=>hp,fun Z Q q=>⟨p,xs,rfl,SqT.of hp,by rw[hi.len];assumption,VU (by rw[hi.len];assumption) q⟩⟩
   ·cases e
  | _=>cases e
theorem Xf:∀{is:List Nat}{vs:List V}{Z:W9}{n:Nat},(∀i∈is,i<n)->(ZX is vs Z).drop n=Z.drop n
 | [],_,_,_,_=>rfl
 | _::_,[],_,_,_=>rfl
 | i::is,v::vs,Z,n,h=>by
  show(ZX is vs (Z.set i (some v))).drop n=_
  rw[Xf (fun j hj=>h j (List.mem_cons_of_mem _ hj))]
  have:=h i List.mem_cons_self
  rw[List.drop_set,if_pos this]
theorem EnvIs.set{Rm:Addr->Prop}{H:Hp}{s:Zy}{Z:W9}{i:Nat}{l:PV}{v:V}{fp:List Addr}(h:EnvIs K Rm H s Z)(hl:s.length=Z.length)(hi:Is K H l v fp)(n:∀p∈fp,¬Rm p):EnvIs K Rm H (s.set i (some l)) (Z.set i (some v)):=⟨fun j a e=>by
 rw[List.getElem?_set] at e
 by_cases hj:i=j
 ·subst hj
  rw[if_pos rfl] at e
  split at e
  ·cases e
   exact⟨v,fp,by rw[List.getElem?_set,if_pos rfl,if_pos (by omega)],hi,n⟩
  ·cases e
 ·rw[if_neg hj] at e
  obtain⟨w,f,h1,h2,h3⟩:=h.is j a e
  exact⟨w,f,by rw[List.getElem?_set,if_neg hj];exact h1,h2,h3⟩⟩
theorem EnvIs.setAll{Rm:Addr->Prop}{H:Hp}:∀{is:List Nat}{ls:List PV}{vs:List V}{fs:List Addr}{s:Zy}{Z:W9},EnvIs K Rm H s Z->s.length=Z.length->Iss K H ls vs fs->(∀p∈fs,¬Rm p)->EnvIs K Rm H (VL.setAll is ls s) (ZX is vs Z)
 | [],_,_,_,_,_,h,_,_,_=>by unfold VL.setAll ZX;exact h
 | i::is,[],vs,fs,s,Z,h,_,hi,_=>by
  simp only[Iss] at hi;rw[hi.1];exact h
 | i::is,l::ls,vs,fs,s,Z,h,hl,hi,n=>by
  obtain⟨x,r,f1,f2,rfl,h1,h2,rfl⟩:=hi.inv
  show EnvIs K Rm H (VL.setAll is ls (s.set i (some l))) (ZX is r (Z.set i (some x)))
  exact EnvIs.setAll (h.set hl h1 fun p hp=>n p (List.mem_append_left _ hp)) (by rw[List.length_set,List.length_set];exact hl) h2 fun p hp=>n p (List.mem_append_right _ hp)
def Zv(n:Nat)(ix:List Nat)(s:Zy):Zy:=List.replicate n none++ix.map (fun i=>(s[i]?).join)
def Y8(T:Tgt)(ft:XT)(fe:XE)(s0:Zy):List PV->Option (List PV)
 | []=>some []
 | l::r=>(Wi T l s0).bind fun s1=>(ft s1).bind fun c=>if c=true then(fe s1).bind fun y=>(Y8 T ft fe s0 r).map (y::·) else Y8 T ft fe s0 r
def ZO(n:Nat)(ix:List Nat)(fi:XL)(T:Tgt)(ft:XT)(fe:XE):XE:=fun s=>(fi s).bind fun ls=>if ls.length<=10000 then(Y8 T ft fe (Zv n ix s) ls).map .lst else none
def Z0:XT:=fun _=>some true
theorem join_some{α:Type}{o:Option (Option α)}{a:α}(h:o.join=some a):o=some (some a):=by
 cases o with
 | none=>cases h
 | some b=>cases b with
  | none=>cases h
  | some c=>cases h;rfl
theorem EnvIs.comp{Rm:Addr->Prop}{H:Hp}{s:Zy}{Z:W9}{n:Nat}{ix:List Nat}(h:EnvIs K Rm H s Z):EnvIs K Rm H (Zv n ix s) (ZG n ix Z):=⟨fun i l e=>by
 unfold Zv at e;unfold ZG
 by_cases hi:i<n
 ·rw[List.getElem?_append_left (by simpa using hi),List.getElem?_replicate,if_pos hi] at e
  cases e
 ·rw[List.getElem?_append_right (by simpa using hi),List.length_replicate,List.getElem?_map] at e
  rw[List.getElem?_append_right (by simpa using hi),List.length_replicate,List.getElem?_map]
  cases q:ix[i-n]? with
  | none=>rw[q] at e;cases e
  | some j=>
   rw[q] at e
   have e:=join_some (Option.some.inj e)
   obtain⟨v,fp,a,b,c⟩:=h.is j l e
   exact⟨v,fp,by show some ((Z[j]?).join)=_;rw[a];rfl,b,c⟩⟩
theorem TN(n:Nat)(ix:List Nat)(s:Zy)(Z:W9):(Zv n ix s).length=(ZG n ix Z).length:=by unfold Zv ZG;simp
theorem VV{T:Tgt}{ft:XT}{fe:XE}{s0:Zy}{l:PV}{r ys:List PV}(h:Y8 T ft fe s0 (l::r)=some ys):∃s1 c,Wi T l s0=some s1/\ft s1=some c/\((c=true/\∃y zs,fe s1=some y/\Y8 T ft fe s0 r=some zs/\ys=y::zs)\/(c=false/\Y8 T ft fe s0 r=some ys)):=by
 unfold Y8 at h
 obtain⟨s1,e1,h⟩:=Zd h
 obtain⟨c,e2,h⟩:=Zd h
 refine⟨s1,c,e1,e2,?_⟩
 cases c with
 | true=>
  rw[if_pos rfl] at h
  obtain⟨y,e3,h⟩:=Zd h
  obtain⟨zs,e4,rfl⟩:=map_some h
  exact .inl ⟨rfl,y,zs,e3,e4,rfl⟩
 | false=>
  rw[if_neg Bool.false_ne_true] at h
  exact .inr ⟨rfl,h⟩
theorem VX{α:Type}{l:List α}{i:Nat}{a:α}{r:List α}(h:l.drop i=a::r):l[i]?=some a/\l.drop (i+1)=r:=by
 constructor
 ·have:=congrArg (fun z=>z[0]?) h
  simpa [List.getElem?_drop] using this
 ·rw[<-List.drop_drop,h];rfl
section
variable {n:Nat} {ix:List Nat} {fi:XL} {T:Tgt} {ft:XT} {fe:XE}
theorem O0(hT:∀i∈T.slots,i<n):∀Z H Q,tF K (ZO n ix fi T ft fe) Z H Q->Uw n ix (iF K fi) (gT K T) (Sx K ft) (tF K fe) Z H Q:=fun Z H Q ⟨Rm,s,L,hd,env,e,k⟩=>by
 obtain⟨ls,e1,e⟩:=Zd e
 split at e
 case isFalse=>cases e
 rename_i hlen
 obtain⟨ys,e2,rfl⟩:=map_some e
 refine⟨Rm,s,ls,hd,env,e1,fun J H1 s1 jis=>?_⟩
 have hd1:∀p,Rm p->Xb (H1 p):=fun p hp=>Same.mut s1 (hd p hp)
 refine⟨fun i m vs Hc=>m=ls.length-i/\i<=ls.length/\Same H1 Hc/\∃dn Zj fp,ys=dn++Zj/\dn.length<=i/\Y8 T ft fe (Zv n ix s) (ls.drop i)=some Zj/\Iss K Hc dn vs fp/\∀p∈fp,¬Rm p,
  ⟨ls.length,by simp,Nat.zero_le _,Same.refl H1,[],ys,[],rfl,Nat.le_refl _,e2,Iss.nil,fun p hp=>by simp at hp⟩,?_⟩
 rintro i m vs Hc ⟨rfl,hi,sc,dn,Zj,fp,rfl,hdl,ec,iv,nv⟩
 refine⟨by rw[iv.len];exact Nat.le_of_lt (lt_size (by omega)),?_⟩
 cases q:ls.drop i with
 | nil=>
  have hil:i=ls.length:=by
   have:=congrArg List.length q
   rw[List.length_drop] at this
   simp at this;omega
  subst hil;rw[q] at ec;cases ec
  refine .inl ⟨jis.stop Hc (Same.ab sc),fun p hp=>k _ _ (p::fp) (s1.trans (sc.trans (Same.new hp _))) ?_ fun a ha z=>?_⟩
  ·rw[List.append_nil]
   exact Is.lst upd_same (iv.mono (Same.new hp _))
  ·rcases List.mem_cons.mp ha with rfl | ha
   ·exact Z8 (Same.mut (s1.trans sc) (hd a z)) hp
   ·exact nv a ha z
 | cons l r=>
  obtain⟨hl,hr⟩:=VX q
  have hilt:i<ls.length:=(List.getElem?_eq_some_iff.mp hl).1
  rw[q] at ec
  obtain⟨sb,c,eb,et,alt⟩:=VV ec
  refine .inr ⟨jis.go Hc i l (Same.ab sc) hl,fun vs' H'=>Same H1 H'/\∃dn' rest' fp',dn++Zj=dn'++rest'/\dn'.length<=i+1/\Y8 T ft fe (Zv n ix s) (ls.drop (i+1))=some rest'/\Iss K H' dn' vs' fp'/\∀p∈fp',¬Rm p,
   fun vs' H' h'=>⟨ls.length-(i+1),by omega,rfl,hilt,h'.1,h'.2⟩,fun x H2 y=>?_⟩
  obtain⟨s2,fx,ix',nx⟩:=jis.yld Hc i l x H2 (Same.ab sc) hl y
  have hd2:∀p,Rm p->Xb (H2 p):=fun p hp=>Same.mut (sc.trans s2) (hd1 p hp)
  obtain⟨bl,bv,bf,rfl,bi,_,bsub,buse⟩:=SK (K:=K) ix' eb
  have env2:EnvIs K Rm H2 (Zv n ix s) (ZG n ix Z):=(env.mono (s1.trans (sc.trans s2))).comp
  have env3:=env2.setAll (is:=T.slots) (TN n ix s Z) bi fun p hp=>(nx p (bsub p hp)).2
  refine buse _ _ ⟨Xf hT,Rm,_,c,hd2,env3,et,fun H3 s3=>?_⟩
  have hd3:∀p,Rm p->Xb (H3 p):=fun p hp=>Same.mut s3 (hd2 p hp)
  rcases alt with⟨rfl,y',zs,ey,ez,rfl⟩ | ⟨rfl,ez⟩
  ·refine LD ?_
   refine⟨Rm,_,y',hd3,env3.mono s3,ey,fun v H4 f4 s4 i4 n4=>?_⟩
   refine⟨sc.trans (s2.trans (s3.trans s4)),dn++[y'],zs,fp++f4,by rw[List.append_assoc];rfl,by rw[List.length_append];simp;exact hdl,by rw[hr];exact ez,(iv.mono (s2.trans (s3.trans s4))).append (Iss.one i4),fun p hp=>?_⟩
   rcases List.mem_append.mp hp with h | h
   ·exact nv p h
   ·exact n4 p h
  ·refine LC ?_
   exact⟨sc.trans (s2.trans s3),dn,Zj,fp,rfl,Nat.le_succ_of_le hdl,by rw[hr];exact ez,iv.mono (s2.trans s3),nv⟩
theorem O1(hT:∀i∈T.slots,i<n):∀Z H Q,tM K (ZO n ix fi T ft fe) Z H Q->Uw n ix (iF K fi) (gT K T) (Sx K ft) (tM K fe) Z H Q:=fun Z H Q ⟨s,L,env,e,k⟩=>by
 obtain⟨ls,e1,e⟩:=Zd e
 split at e
 case isFalse=>cases e
 rename_i hlen
 obtain⟨ys,e2,rfl⟩:=map_some e
 have hd:∀(H:Hp) p,(fun _=>False:Addr->Prop) p->Xb (H p):=fun _ _ z=>z.elim
 refine⟨fun _=>False,s,ls,hd H,env,e1,fun J H1 s1 jis=>?_⟩
 refine⟨fun i m vs Hc=>m=ls.length-i/\i<=ls.length/\Same H1 Hc/\∃dn Zj fp,ys=dn++Zj/\dn.length<=i/\Y8 T ft fe (Zv n ix s) (ls.drop i)=some Zj/\Iss K Hc dn vs fp/\fp.Nodup/\∀p∈fp,H1 p=none/\Xb (Hc p),
  ⟨ls.length,by simp,Nat.zero_le _,Same.refl H1,[],ys,[],rfl,Nat.le_refl _,e2,Iss.nil,List.nodup_nil,fun p hp=>by simp at hp⟩,?_⟩
 rintro i m vs Hc ⟨rfl,hi,sc,dn,Zj,fp,rfl,hdl,ec,iv,dv,nv⟩
 refine⟨by rw[iv.len];exact Nat.le_of_lt (lt_size (by omega)),?_⟩
 cases q:ls.drop i with
 | nil=>
  have hil:i=ls.length:=by
   have:=congrArg List.length q
   rw[List.length_drop] at this
   simp at this;omega
  subst hil;rw[q] at ec;cases ec
  refine .inl ⟨jis.stop Hc (Same.ab sc),fun p hp=>k _ _ (p::fp) (s1.trans (sc.trans (Same.new hp _))) ?_ (List.nodup_cons.mpr ⟨fun z=>Z8 (nv p z).2 hp,dv⟩) fun a ha=>?_⟩
  ·rw[List.append_nil]
   exact Is.lst upd_same (iv.mono (Same.new hp _))
  ·rcases List.mem_cons.mp ha with rfl | ha
   ·exact⟨Same.off (s1.trans sc) hp,by rw[upd_same];exact True.intro⟩
   ·exact⟨Same.off s1 (nv a ha).1,Same.mut (Same.new hp _) (nv a ha).2⟩
 | cons l r=>
  obtain⟨hl,hr⟩:=VX q
  have hilt:i<ls.length:=(List.getElem?_eq_some_iff.mp hl).1
  rw[q] at ec
  obtain⟨sb,c,eb,et,alt⟩:=VV ec
  refine .inr ⟨jis.go Hc i l (Same.ab sc) hl,fun vs' H'=>Same H1 H'/\∃dn' rest' fp',dn++Zj=dn'++rest'/\dn'.length<=i+1/\Y8 T ft fe (Zv n ix s) (ls.drop (i+1))=some rest'/\Iss K H' dn' vs' fp'/\fp'.Nodup/\∀p∈fp',H1 p=none/\Xb (H' p),
   fun vs' H' h'=>⟨ls.length-(i+1),by omega,rfl,hilt,h'.1,h'.2⟩,fun x H2 y=>?_⟩
  obtain⟨s2,fx,ix',nx⟩:=jis.yld Hc i l x H2 (Same.ab sc) hl y
  obtain⟨bl,bv,bf,rfl,bi,_,bsub,buse⟩:=SK (K:=K) ix' eb
  have env2:EnvIs K (fun _=>False) H2 (Zv n ix s) (ZG n ix Z):=(env.mono (s1.trans (sc.trans s2))).comp
  have env3:=env2.setAll (is:=T.slots) (TN n ix s Z) bi fun p hp=>(nx p (bsub p hp)).2
  refine buse _ _ ⟨Xf hT,fun _=>False,_,c,hd H2,env3,et,fun H3 s3=>?_⟩
  rcases alt with⟨rfl,y',zs,ey,ez,rfl⟩ | ⟨rfl,ez⟩
  ·refine LD ?_
   refine⟨_,y',env3.mono s3,ey,fun v H4 f4 s4 i4 d4 n4=>?_⟩
   refine⟨sc.trans (s2.trans (s3.trans s4)),dn++[y'],zs,fp++f4,by rw[List.append_assoc];rfl,by rw[List.length_append];simp;exact hdl,by rw[hr];exact ez,(iv.mono (s2.trans (s3.trans s4))).append (Iss.one i4),List.nodup_append.mpr ⟨dv,d4,fun a ha b hb z=>?_⟩,fun p hp=>?_⟩
   ·subst z
    exact Z8 (Same.mut (s2.trans s3) (nv a ha).2) (n4 a hb).1
   ·rcases List.mem_append.mp hp with h | h
    ·exact⟨(nv p h).1,Same.mut (s2.trans (s3.trans s4)) (nv p h).2⟩
    ·exact⟨Same.off (sc.trans (s2.trans s3)) (n4 p h).1,(n4 p h).2⟩
  ·refine LC ?_
   exact⟨sc.trans (s2.trans s3),dn,Zj,fp,rfl,Nat.le_succ_of_le hdl,by rw[hr];exact ez,iv.mono (s2.trans s3),dv,fun p hp=>⟨(nv p hp).1,Same.mut (s2.trans s3) (nv p hp).2⟩⟩
end
def Ku(X:Cx)(ifs:List Expr)(f:XT):Prop:=OI X ifs (Sx X.K f)
section
variable {X:Cx} {tg elt iter c:Expr} {ifs:List Expr} {scope:Scope} {pos:Pos} {fi:XL} {T:Tgt} {ft:XT} {fe:XE}
theorem YU:Ku X [] Z0:=fun pins s Z H Q I ⟨Rm,s',c,hd,env,e,k⟩=>by
 cases e
 exact OJ pins s Z H Q I (k H (Same.refl H))
theorem Xg(own fr:List Str)(ix:List Nat)(hcalm:X.calm=true)(hi:VI X tg iter fi)(S:WI X.N X.env.scope scope own fr ix=true)
  (hg:∀cl C s H ex,PG (Zu X (own++fr) scope cl C s H ex) tg (gT X.K T)) (ht:∀cl C s H ex,Ku (Zu X (own++fr) scope cl C s H ex) ifs ft) (he:∀cl C s H ex,VE (Zu X (own++fr) scope cl C s H ex) elt fe)
  (hT:∀i∈T.slots,i<own.length:=by decide) (hs:∀x,foldedSetIterable iter X.env x=pure x:=by intro _;rfl):VE X (.ListComp elt [⟨tg,iter,ifs,0⟩] scope pos) (ZO own.length ix fi T ft fe):=
 PE.imp (Q6 own fr ix hcalm hi S hg (fun cl C s H ex=>(show OI (Zu X (own++fr) scope cl C s H ex) ifs (Sx X.K ft) from ht cl C s H ex)) (fun cl C s H ex=>(show PE (Zu X (own++fr) scope cl C s H ex) elt (tF X.K fe) from he cl C s H ex)) hs) (O0 hT)
end
def Xh(xs:List PV)(lo hi:Option Int):List PV:=(xs.drop (HT.sIx xs.length 0 lo)).take (HT.sIx xs.length xs.length hi-HT.sIx xs.length 0 lo)
theorem Iss.cut{H:Hp}{l:List PV}{xs:List V}{fp:List Addr}(lo hi:Option Int)(h:Iss K H l xs fp):∃f1,Iss K H (Xh l lo hi) (Tx xs lo hi) f1/\∀p∈f1,p∈fp:=by
 unfold Xh Tx;rw[h.len]
 obtain⟨f1,a,b⟩:=h.drop (HT.sIx l.length 0 lo)
 obtain⟨f2,c,d⟩:=a.take (HT.sIx l.length l.length hi-HT.sIx l.length 0 lo)
 exact⟨f2,c,fun p hp=>b p (d p hp)⟩
abbrev XO:=Zy->Option (Option Int)
def KO(K:PySem.W.Frag)(f:XO):TO:=fun Z H Q=>∃(Rm:Addr->Prop) (s:Zy) (i:Option Int),(∀p,Rm p->Xb (H p))/\EnvIs K Rm H s Z/\f s=some i/\∀H',Same H H'->Q i H'
def VO(X:Cx)(e:Option Expr)(f:XO):Prop:=PO X e (KO X.K f)
def NG:XO:=fun _=>some none
def Tb(f:XE):XO:=fun s=>match f s with | some (.int i)=>some (some i) | _=>none
def SL(x:PV)(lo hi:Option Int):Option PV:=match x with | .lst l=>some (.lst (Xh l lo hi)) | .cst l=>some (.lst (Xh l lo hi)) | _=>none
def Vg(x:PV)(lo hi:Option Int):Option PV:=match x with | .tup l=>if HT.sIx l.length 0 lo=0/\HT.sIx l.length l.length hi=l.length then none else some (.tup (Xh l lo hi)) | _=>none
def Qv(g:PV->Option Int->Option Int->Option PV)(a:XE)(lo hi:XO):XE:=fun s=>(a s).bind fun x=>(lo s).bind fun l=>(hi s).bind fun u=>g x l u
theorem Qw{l:List PV}(lo hi:Option Int)(h:Zn l=true):Zn (Xh l lo hi)=true:=by
 rw[YH,List.all_eq_true] at *
 intro x hx;unfold Xh at hx
 exact h x (List.mem_of_mem_drop (List.mem_of_mem_take hx))
section
variable {X:Cx} {e:Expr} {lo hi:Option Expr} {p2 pos:Pos} {fa:XE} {fl fh:XO}
theorem RA:VO X none NG:=fun pins s Z H Q I ⟨Rm,s',i,hd,env,e,k⟩=>by
 cases e
 exact Oy pins s Z H Q I (k H (Same.refl H))
theorem XG{e:Expr}(h:VE X e fa):VO X (some e) (Tb fa):=fun pins s Z H Q I ⟨Rm,s',i,hd,env,e,k⟩=>by
 unfold Tb at e
 split at e
 ·cases e
  rename_i j hj
  exact Oz h pins s Z H Q I ⟨Rm,s',.int j,hd,env,hj,fun v H' fp sm i n=>⟨j,i.int_inv.1,k H' sm⟩⟩
 ·cases e
theorem UD(ha:VE X e fa)(hl:VO X lo fl)(hh:VO X hi fh):VE X (.Subscript e (.Slice lo hi none p2) pos) (Qv SL fa fl fh):=PE.imp (Tw OC ha hl hh) fun Z H Q ⟨Rm,s,l,hd,env,e,k⟩=>by
 obtain⟨x,e1,e⟩:=Zd e
 obtain⟨a,e2,e⟩:=Zd e
 obtain⟨b,e3,e⟩:=Zd e
 refine⟨Rm,s,x,hd,env,e1,fun v H1 fp s1 i1 n1=>⟨Rm,s,a,fun p hp=>Same.mut s1 (hd p hp),env.mono s1,e2,fun H2 s2=>⟨Rm,s,b,fun p hp=>Same.mut (s1.trans s2) (hd p hp),env.mono (s1.trans s2),e3,fun H3 s3=>?_⟩⟩⟩
 cases x with
 | lst l=>
  cases e
  obtain⟨p,xs,fq,rfl,hp,hi,rfl⟩:=(i1.mono (s2.trans s3)).lst_inv
  obtain⟨f1,c,d⟩:=hi.cut a b
  refine⟨p,xs,rfl,SqL.of hp,fun q hq=>k _ _ (q::f1) (s1.trans (s2.trans (s3.trans (Same.new hq _)))) (Is.lst upd_same (c.mono (Same.new hq _))) fun r hr z=>?_⟩
  rcases List.mem_cons.mp hr with rfl | hr
  ·exact Z8 (Same.mut (s1.trans (s2.trans s3)) (hd r z)) hq
  ·exact n1 r (List.mem_cons_of_mem _ (d r hr)) z
 | cst l=>
  cases e
  obtain⟨p,xs,rfl,hp,hi⟩:=(i1.mono (s2.trans s3)).cst_inv
  obtain⟨f1,c,d⟩:=hi.cut a b
  refine⟨p,xs,rfl,hp.sq,fun q hq=>k _ _ (q::f1) (s1.trans (s2.trans (s3.trans (Same.new hq _)))) (Is.lst upd_same (c.mono (Same.new hq _))) fun r hr z=>?_⟩
  rcases List.mem_cons.mp hr with rfl | hr
  ·exact Z8 (Same.mut (s1.trans (s2.trans s3)) (hd r z)) hq
  ·exact n1 r (d r hr) z
 | _=>cases e
theorem UE(ha:VE X e fa)(hl:VO X lo fl)(hh:VO X hi fh):VE X (.Subscript e (.Slice lo hi none p2) pos) (Qv Vg fa fl fh):=PE.imp (Tw Mi ha hl hh) fun Z H Q ⟨Rm,s,l,hd,env,e,k⟩=>by
 obtain⟨x,e1,e⟩:=Zd e
 obtain⟨a,e2,e⟩:=Zd e
 obtain⟨b,e3,e⟩:=Zd e
 refine⟨Rm,s,x,hd,env,e1,fun v H1 fp s1 i1 n1=>⟨Rm,s,a,fun p hp=>Same.mut s1 (hd p hp),env.mono s1,e2,fun H2 s2=>⟨Rm,s,b,fun p hp=>Same.mut (s1.trans s2) (hd p hp),env.mono (s1.trans s2),e3,fun H3 s3=>?_⟩⟩⟩
 cases x with
 | tup l=>
  unfold Vg at e
  simp only at e
  split at e
  ·cases e
  ·rename_i hne
   cases e
   obtain⟨p,xs,rfl,hp,hi⟩:=(i1.mono (s2.trans s3)).tup_inv
   obtain⟨f1,c,d⟩:=hi.cut a b
   refine⟨p,xs,rfl,SqT.of hp,by rw[hi.len];exact hne,fun q hq=>k _ _ f1 (s1.trans (s2.trans (s3.trans (Same.new hq _)))) (Is.tup upd_same (c.mono (Same.new hq _))) fun r hr=>n1 r (d r hr)⟩
 | _=>cases e
end
end VL
namespace VL
open PySem PySem.Spec PyProof.Rows L2
variable {K:PySem.W.Frag}
structure Rel(K:PySem.W.Frag)(O:List Nat)(H0:Hp)(fps:Nat->List Addr)(s:Zy)(Z:W9)(H:Hp):Prop where
 same:Same H0 H
 len:s.length=Z.length
 is:∀(i:Nat) l,s[i]?=some (some l)->∃v,Z[i]?=some (some v)/\Is K H l v (fps i)
 emp:∀(i:Nat),(∀l,s[i]?≠some (some l))->fps i=[]
 nd:∀i∈O,(fps i).Nodup
 own:∀i∈O,∀p∈fps i,H0 p=none/\Xb (H p)
 dis:∀i∈O,∀j,j≠i->∀p∈fps i,p∉fps j
def Ow(O:List Nat)(fps:Nat->List Addr)(p:Addr):Prop:=∃i∈O,p∈fps i
def ZD(O:List Nat)(s:Zy):Zy:=O.foldl (fun s i=>s.set i none) s
theorem VY:∀{O:List Nat}{s:Zy}{i:Nat}{l:PV},(ZD O s)[i]?=some (some l)->i∉O/\s[i]?=some (some l)
 | [],s,i,l,h=>⟨by simp,h⟩
 | o::O,s,i,l,h=>by
  obtain⟨h1,h2⟩:=VY (O:=O) (s:=s.set o none) h
  rw[List.getElem?_set] at h2
  by_cases e:o=i
  ·rw[if_pos e] at h2;split at h2<;>cases h2
  ·rw[if_neg e] at h2
   exact⟨by simp only[List.mem_cons,not_or];exact⟨fun z=>e z.symm,h1⟩,h2⟩
section
variable {O:List Nat} {H0 H H':Hp} {fps:Nat->List Addr} {s:Zy} {Z:W9}
theorem Rel.at(r:Rel K O H0 fps s Z H)(i:Nat){p:Addr}(hp:p∈fps i):∃l v,s[i]?=some (some l)/\Z[i]?=some (some v)/\Is K H l v (fps i):=by
 cases q:s[i]? with
 | none=>rw[r.emp i (fun l z=>by rw[q] at z;cases z)] at hp;simp at hp
 | some o=>cases o with
  | none=>rw[r.emp i (fun l z=>by rw[q] at z;cases z)] at hp;simp at hp
  | some l=>
   obtain⟨v,a,b⟩:=r.is i l q
   exact⟨l,v,rfl,a,b⟩
theorem Rel.dom(r:Rel K O H0 fps s Z H)(i:Nat):∀p∈fps i,H p≠none:=fun p hp=>by
 obtain⟨l,v,_,_,b⟩:=r.at i hp
 exact Is.dom _ _ _ b p hp
theorem Rel.env(r:Rel K O H0 fps s Z H):EnvIs K (fun _=>False) H s Z:=⟨fun i l e=>by
 obtain⟨v,a,b⟩:=r.is i l e
 exact⟨v,_,a,b,fun _ _ z=>z⟩⟩
theorem Rel.envO(r:Rel K O H0 fps s Z H):EnvIs K (Ow O fps) H (ZD O s) Z:=⟨fun i l e=>by
 obtain⟨n,e⟩:=VY e
 obtain⟨v,a,b⟩:=r.is i l e
 exact⟨v,_,a,b,fun p hp ⟨j,hj,hpj⟩=>r.dis j hj i (fun z=>n (z▸hj)) p hpj hp⟩⟩
theorem Rel.owMut(r:Rel K O H0 fps s Z H):∀p,Ow O fps p->Xb (H p):=fun p ⟨i,hi,hp⟩=>(r.own i hi p hp).2
theorem Rel.grow(r:Rel K O H0 fps s Z H)(e:Same H H'):Rel K O H0 fps s Z H':=
 ⟨r.same.trans e,r.len,fun i l q=>by obtain⟨v,a,b⟩:=r.is i l q;exact⟨v,a,b.mono e⟩,r.emp,r.nd,fun i hi p hp=>⟨(r.own i hi p hp).1,Same.mut e (r.own i hi p hp).2⟩,r.dis⟩
theorem Rel.less{F:Hp}(r:Rel K O F fps s Z H)(e:Same H0 F):Rel K O H0 fps s Z H:=
 ⟨e.trans r.same,r.len,r.is,r.emp,r.nd,fun i hi p hp=>⟨Same.off e (r.own i hi p hp).1,(r.own i hi p hp).2⟩,r.dis⟩
open Classical in
noncomputable def Yv(H:Hp)(Rm:Addr->Prop):Hp:=fun b=>if Rm b then none else H b
theorem UF{Rm:Addr->Prop}:Same (Yv H Rm) H:=fun b o h=>by
 unfold Yv at h
 split at h
 ·cases h
 ·exact h
theorem Rel.frame(r:Rel K O H0 fps s Z H):Rel K O (Yv H (Ow O fps)) fps s Z H:=
 ⟨UF,r.len,r.is,r.emp,r.nd,fun i hi p hp=>⟨by unfold Yv;rw[if_pos ⟨i,hi,hp⟩],(r.own i hi p hp).2⟩,r.dis⟩
theorem Rel.under(r:Rel K O H0 fps s Z H):Same H0 (Yv H (Ow O fps)):=fun b o h=>by
 unfold Yv
 rw[if_neg (fun⟨i,hi,hp⟩=>by rw[(r.own i hi b hp).1] at h;cases h)]
 exact r.same b o h
open Classical in
noncomputable def Vh(fps:Nat->List Addr)(n:Nat)(i:Nat)(fp:List Addr):Nat->List Addr:=fun j=>if j=i/\i<n then fp else fps j
theorem ZE{n i j:Nat}{fp:List Addr}(h:j≠i):Vh fps n i fp j=fps j:=by unfold Vh;rw[if_neg (fun z=>h z.1)]
theorem RD{n i:Nat}{fp:List Addr}(h:i<n):Vh fps n i fp i=fp:=by unfold Vh;rw[if_pos ⟨rfl,h⟩]
theorem Rel.set(r:Rel K O H0 fps s Z H){i:Nat}{l:PV}{v:V}{fp:List Addr}(hi:Is K H l v fp)(ho:i∈O->fp.Nodup/\∀p∈fp,H0 p=none/\Xb (H p))
  (hd:∀j,j≠i->(j∈O\/i∈O)->∀p∈fp,p∉fps j):Rel K O H0 (Vh fps s.length i fp) (s.set i (some l)) (Z.set i (some v)) H:=by
 by_cases hlt:i<s.length
 ·have e1:Vh fps s.length i fp i=fp:=RD hlt
  refine⟨r.same,by rw[List.length_set,List.length_set];exact r.len,fun j a e=>?_,fun j h=>?_,fun j hj=>?_,fun j hj p hp=>?_,fun j hj k hk p hp=>?_⟩
  ·rw[List.getElem?_set] at e
   by_cases hj:i=j
   ·subst hj
    rw[if_pos rfl,if_pos hlt] at e;cases e;rw[e1]
    exact⟨v,by rw[List.getElem?_set,if_pos rfl,if_pos (by rw[<-r.len];exact hlt)],hi⟩
   ·rw[if_neg hj] at e
    obtain⟨w,h1,h2⟩:=r.is j a e
    rw[ZE (Ne.symm hj)]
    exact⟨w,by rw[List.getElem?_set,if_neg hj];exact h1,h2⟩
  ·by_cases hj:i=j
   ·subst hj
    exact absurd (by rw[List.getElem?_set,if_pos rfl,if_pos hlt]) (h l)
   ·rw[ZE (Ne.symm hj)]
    exact r.emp j fun a z=>h a (by rw[List.getElem?_set,if_neg hj];exact z)
  ·by_cases e:j=i
   ·subst e;rw[e1];exact(ho hj).1
   ·rw[ZE e];exact r.nd j hj
  ·by_cases e:j=i
   ·subst e;rw[e1] at hp;exact(ho hj).2 p hp
   ·rw[ZE e] at hp;exact r.own j hj p hp
  ·by_cases e:j=i
   ·subst e
    rw[e1] at hp;rw[ZE hk]
    exact hd k hk (.inr hj) p hp
   ·rw[ZE e] at hp
    by_cases e2:k=i
    ·subst e2
     rw[e1]
     exact fun z=>hd j e (.inl hj) p z hp
    ·rw[ZE e2];exact r.dis j hj k hk p hp
 ·have e1:s.set i (some l)=s:=List.set_eq_of_length_le (by omega)
  have e2:Z.set i (some v)=Z:=List.set_eq_of_length_le (by rw[<-r.len];omega)
  have e3:Vh fps s.length i fp=fps:=by funext j;unfold Vh;rw[if_neg (fun z=>hlt z.2)]
  rw[e1,e2,e3];exact r
theorem Rel.mutate(r:Rel K O H0 fps s Z H){i:Nat}(hi:i∈O){p:Addr}(hp:p∈fps i){o:HO}{l':PV}{v:V}{fp':List Addr}(hv:Z[i]?=some (some v))(hlt:i<s.length)
  (h':Is K (upd H p o) l' v fp') (nd:fp'.Nodup) (hm:∀q∈fp',H0 q=none/\Xb (upd H p o q)) (hd:∀j,j≠i->∀q∈fp',q∉fps j) (hmo:Xb (some o)):Rel K O H0 (Vh fps s.length i fp') (s.set i (some l')) Z (upd H p o):=by
 have mu:=(r.own i hi p hp).2
 have pn:H0 p=none:=(r.own i hi p hp).1
 have e1:Vh fps s.length i fp' i=fp':=RD hlt
 have tk:TK2 H (upd H p o):=⟨fun b xs h=>by
  rw[upd_ne (fun z=>by rw[z] at h;rw[h] at mu;exact mu)];exact h,fun b o xs h=>by
  rw[upd_ne (fun z=>by rw[z] at h;rw[h] at mu;exact mu)];exact h,fun b o x h=>by
  rw[upd_ne (fun z=>by rw[z] at h;rw[h] at mu;exact mu)];exact h⟩
 refine⟨fun b u h=>by rw[upd_ne (Zq h pn)];exact r.same b u h,by rw[List.length_set];exact r.len,fun j a e=>?_,fun j h=>?_,fun j hj=>?_,fun j hj q hq=>?_,fun j hj k hk q hq=>?_⟩
 ·rw[List.getElem?_set] at e
  by_cases hj:i=j
  ·subst hj
   rw[if_pos rfl,if_pos hlt] at e;cases e
   rw[e1];exact⟨v,hv,h'⟩
  ·rw[if_neg hj] at e
   obtain⟨w,h1,h2⟩:=r.is j a e
   rw[ZE (Ne.symm hj)]
   refine⟨w,h1,Is.tr tk _ _ _ (fun q hq=>RdK.of fun u hu=>?_) h2⟩
   have ne:q≠p:=fun z=>r.dis i hi j (Ne.symm hj) p hp (z▸hq)
   rw[upd_ne ne];exact hu
 ·by_cases hj:i=j
  ·subst hj
   exact absurd (by rw[List.getElem?_set,if_pos rfl,if_pos hlt]) (h l')
  ·rw[ZE (Ne.symm hj)]
   exact r.emp j fun a z=>h a (by rw[List.getElem?_set,if_neg hj];exact z)
 ·by_cases e:j=i
  ·subst e;rw[e1];exact nd
  ·rw[ZE e];exact r.nd j hj
 ·by_cases e:j=i
  ·subst e;rw[e1] at hq;exact hm q hq
  ·rw[ZE e] at hq
   refine⟨(r.own j hj q hq).1,?_⟩
   have ne:q≠p:=fun z=>r.dis j hj i (Ne.symm e) q hq (z▸hp)
   rw[upd_ne ne];exact(r.own j hj q hq).2
 ·by_cases e:j=i
  ·subst e
   rw[e1] at hq;rw[ZE hk]
   exact hd k hk q hq
  ·rw[ZE e] at hq
   by_cases e2:k=i
   ·subst e2
    rw[e1]
    exact fun z=>hd j e q z hq
   ·rw[ZE e2];exact r.dis j hj k hk q hq
end
def Kep(a b:List Addr):Prop:=a=b\/a=[]
theorem Kep.refl(a:List Addr):Kep a a:=.inl rfl
theorem Kep.trans{a b c:List Addr}(h:Kep a b)(k:Kep b c):Kep a c:=by
 rcases h with rfl | h
 ·exact k
 ·exact .inr h
inductive Pm where
 | nx (s:Zy) | rt (l:PV) | bk (s:Zy) | ct (s:Zy)
abbrev XS:=Zy->Option Pm
def OutOk(K:PySem.W.Frag)(O W:List Nat)(H0:Hp)(fps:Nat->List Addr)(Z:W9)(D:X2):Pm->Prop
 | .nx s'=>∀fps' Z' H',Rel K O H0 fps' s' Z' H'->(∀j,j∉W->Z'[j]?=Z[j]?/\Kep (fps' j) (fps j))->D.nx Z' H'
 | .bk s'=>∀fps' Z' H',Rel K O H0 fps' s' Z' H'->(∀j,j∉W->Z'[j]?=Z[j]?/\Kep (fps' j) (fps j))->D.bk Z' H'
 | .ct s'=>∀fps' Z' H',Rel K O H0 fps' s' Z' H'->(∀j,j∉W->Z'[j]?=Z[j]?/\Kep (fps' j) (fps j))->D.ct Z' H'
 | .rt l=>∀v fp H',Same H0 H'->Is K H' l v fp->fp.Nodup->(∀p∈fp,H0 p=none/\Xb (H' p))->D.rt v H'
def O2(K:PySem.W.Frag)(O W:List Nat)(f:XS):TS:=fun D Z H=>∃H0 fps s out,Rel K O H0 fps s Z H/\f s=some out/\OutOk K O W H0 fps Z D out
def VS(X:Cx)(O W:List Nat)(st:Stmt)(f:XS):Prop:=PS X st (O2 X.K O W f)
def O3(X:Cx)(O W:List Nat)(st:List Stmt)(f:XS):Prop:=PSs X st (O2 X.K O W f)
theorem OutOk.same{O W W':List Nat}{H0:Hp}{fps fps1:Nat->List Addr}{Z Z1:W9}{D:X2}{out:Pm}(h:OutOk K O W' H0 fps Z D out)(k:∀j,j∉W'->Z1[j]?=Z[j]?/\Kep (fps1 j) (fps j))(hs:∀j,j∉W'->j∉W):OutOk K O W H0 fps1 Z1 D out:=by
 cases out with
 | nx s'=>exact fun fps' Z' H' r q=>h fps' Z' H' r fun j hj=>⟨(q j (hs j hj)).1.trans (k j hj).1,(q j (hs j hj)).2.trans (k j hj).2⟩
 | bk s'=>exact fun fps' Z' H' r q=>h fps' Z' H' r fun j hj=>⟨(q j (hs j hj)).1.trans (k j hj).1,(q j (hs j hj)).2.trans (k j hj).2⟩
 | ct s'=>exact fun fps' Z' H' r q=>h fps' Z' H' r fun j hj=>⟨(q j (hs j hj)).1.trans (k j hj).1,(q j (hs j hj)).2.trans (k j hj).2⟩
 | rt l=>exact h
theorem OutOk.less{O W:List Nat}{H0 F:Hp}{fps:Nat->List Addr}{Z:W9}{D:X2}{out:Pm}(h:OutOk K O W H0 fps Z D out)(e:Same H0 F):OutOk K O W F fps Z D out:=by
 cases out with
 | nx s'=>exact fun fps' Z' H' r q=>h fps' Z' H' (r.less e) q
 | bk s'=>exact fun fps' Z' H' r q=>h fps' Z' H' (r.less e) q
 | ct s'=>exact fun fps' Z' H' r q=>h fps' Z' H' (r.less e) q
 | rt l=>exact fun v fp H' sm i d n=>h v fp H' (e.trans sm) i d fun p hp=>⟨Same.off e (n p hp).1,(n p hp).2⟩
def Z1:XS:=fun s=>some (.nx s)
def Zl(f g:XS):XS:=fun s=>(f s).bind fun o=>match o with | .nx s'=>g s' | r=>some r
def Ui(c:XT)(f g:XS):XS:=fun s=>(c s).bind fun k=>if k=true then f s else g s
def Yy(f:XE):XS:=fun s=>(f s).map .rt
def Zp(i:Nat)(f:XE):XS:=fun s=>(f s).map fun l=>.nx (s.set i (some l))
section
variable {X:Cx} {O W W1 W2:List Nat} {st:Stmt} {Zj:List Stmt} {f g:XS} {pos:Pos}
theorem PS.imp{t t':TS}(h:PS X st t)(i:∀D Z H,t' D Z H->t D Z H):PS X st t':=fun pins s Z H D I q=>h pins s Z H D I (i D Z H q)
theorem PSs.imp{t t':TS}(h:PSs X Zj t)(i:∀D Z H,t' D Z H->t D Z H):PSs X Zj t':=fun pins s Z H D I q=>h pins s Z H D I (i D Z H q)
theorem Pn:∀D Z H,O2 K O W Z1 D Z H->Nv D Z H:=fun D Z H ⟨H0,fps,s,out,r,e,k⟩=>by
 cases e
 exact k fps Z H r fun j _=>⟨rfl,Kep.refl _⟩
theorem YF:O3 X O [] [] Z1:=PSs.imp Oi Pn
theorem Zm(h:VS X O W st f):O3 X O W [st] f:=Oj h
theorem Zh(h1:VS X O W1 st f)(h2:O3 X O W2 Zj g):O3 X O (W1++W2) (st::Zj) (Zl f g):=PSs.imp (QR h1 h2) fun D Z H ⟨H0,fps,s,out,r,e,k⟩=>by
 obtain⟨o1,e1,e⟩:=Zd e
 have sub1:∀j,j∉W1++W2->j∉W1:=fun j hj z=>hj (List.mem_append_left _ z)
 have sub2:∀j,j∉W1++W2->j∉W2:=fun j hj z=>hj (List.mem_append_right _ z)
 refine⟨H0,fps,s,o1,r,e1,?_⟩
 cases o1 with
 | nx s1=>
  intro fps1 Z1 H1 r1 q1
  exact⟨H0,fps1,s1,out,r1,e,k.same (fun j hj=>q1 j (sub1 j hj)) sub2⟩
 | bk s1=>cases e;exact fun fps' Z' H' r' q'=>k fps' Z' H' r' fun j hj=>q' j (sub1 j hj)
 | ct s1=>cases e;exact fun fps' Z' H' r' q'=>k fps' Z' H' r' fun j hj=>q' j (sub1 j hj)
 | rt l=>cases e;exact k
theorem Wj{c:Expr}{a b:List Stmt}{fc:XT}(hc:VT X c fc)(ha:O3 X O W1 a f)(hb:O3 X O W2 b g):VS X O (W1++W2) (.If c a b pos) (Ui fc f g):=PS.imp (Ld hc ha hb) fun D Z H ⟨H0,fps,s,out,r,e,k⟩=>by
 obtain⟨c,e1,e⟩:=Zd e
 have sub1:∀j,j∉W1++W2->j∉W1:=fun j hj z=>hj (List.mem_append_left _ z)
 have sub2:∀j,j∉W1++W2->j∉W2:=fun j hj z=>hj (List.mem_append_right _ z)
 refine⟨fun _=>False,s,c,fun _ z=>z.elim,r.env,e1,fun H1 s1=>?_⟩
 cases c with
 | true=>
  rw[if_pos rfl] at e ⊢
  exact⟨H0,fps,s,out,r.grow s1,e,k.same (fun j _=>⟨rfl,Kep.refl _⟩) sub1⟩
 | false=>
  rw[if_neg Bool.false_ne_true] at e ⊢
  exact⟨H0,fps,s,out,r.grow s1,e,k.same (fun j _=>⟨rfl,Kep.refl _⟩) sub2⟩
theorem ZW{e:Expr}{fe:XE}(he:VM X e fe):VS X O [] (.Return (some e) pos) (Yy fe):=PS.imp (Sd he) fun D Z H ⟨H0,fps,s,out,r,e,k⟩=>by
 obtain⟨l,e1,rfl⟩:=map_some e
 exact⟨s,l,r.env,e1,fun v H' fp sm i d n=>k v fp H' (r.same.trans sm) i d fun p hp=>⟨Same.off r.same (n p hp).1,(n p hp).2⟩⟩
theorem O4{e:Expr}{i:Nat}(he:PE X e (Wu i))(hi:i∈O:=by decide):VS X O [] (.Return (some e) pos) (Yy (Za i)):=PS.imp (Sd he) fun D Z H ⟨H0,fps,s,out,r,e,k⟩=>by
 obtain⟨l,e1,rfl⟩:=map_some e
 obtain⟨v,a,b⟩:=r.is i l (WL e1)
 exact⟨v,a,k v _ H r.same b (r.nd i hi) (r.own i hi)⟩
theorem RE{t:TE}{i:Nat}{fe:XE}(ht:∀Z H Q,tM K fe Z H Q->t Z H Q):∀D Z H,O2 K O [i] (Zp i fe) D Z H->Sf t (W5 i) D Z H:=fun D Z H ⟨H0,fps,s,out,r,e,k⟩=>by
 obtain⟨l,e1,rfl⟩:=map_some e
 refine ht Z H _ ⟨s,l,r.env,e1,fun v H' fp sm is d n=>?_⟩
 refine k _ _ H' ((r.grow sm).set (i:=i) is (fun _=>⟨d,fun p hp=>⟨Same.off r.same (n p hp).1,(n p hp).2⟩⟩) fun j _ _ p hp z=>r.dom j p z (n p hp).1) fun j hj=>?_
 have:j≠i:=by simpa using hj
 exact⟨by rw[List.getElem?_set,if_neg (Ne.symm this)],.inl (ZE this)⟩
theorem Zr{i:Nat}{x:Str}{e:Expr}{fe:XE}{pos':Pos}(hN:X.N.Nodup)(hi:X.N[i]?=some x)(hx:M7 X.env.scope x)(he:VM X e fe)(hs:swapsWith e (some (.Name x pos')) pos.line X.env=pure false:=by rfl)(hf:X.fn x=true\/X.env.scope.names.lookup x=some .local:=by first | exact .inl rfl | exact .inr rfl | assumption) :
  VS X O [i] (.Assign [.Name x pos'] e pos) (Zp i fe):=PS.imp (N5 hN hi hx he hs hf) (RE fun _ _ _ h=>h)
end
def YL(T:Tgt)(fb:XS):List PV->Zy->Option Pm
 | [],s=>some (.nx s)
 | l::r,s=>(Wi T l s).bind fun s1=>(fb s1).bind fun o=>match o with | .nx s2=>YL T fb r s2 | .ct s2=>YL T fb r s2 | .bk s2=>some (.nx s2) | .rt v=>some (.rt v)
def YG(O:List Nat)(fi:XL)(T:Tgt)(fb:XS):XS:=fun s=>(fi (ZD O s)).bind fun ls=>YL T fb ls s
theorem Rel.setAll{O:List Nat}{H0 H:Hp}:∀{is:List Nat}{ls:List PV}{vs:List V}{fs:List Addr}{fps:Nat->List Addr}{s:Zy}{Z:W9},Rel K O H0 fps s Z H->Iss K H ls vs fs->ls.length=is.length->(∀i∈is,i∉O)->(∀i∈O,∀p∈fps i,p∉fs)->
  ∃fps',Rel K O H0 fps' (VL.setAll is ls s) (ZX is vs Z) H/\∀j,j∉is->(ZX is vs Z)[j]?=Z[j]?/\Kep (fps' j) (fps j)
 | [],ls,vs,fs,fps,s,Z,r,_,_,_,_=>⟨fps,by unfold VL.setAll ZX;exact r,fun j _=>⟨by unfold ZX;rfl,Kep.refl _⟩⟩
 | i::is,[],vs,fs,fps,s,Z,r,_,hl,_,_=>by simp at hl
 | i::is,l::ls,vs,fs,fps,s,Z,r,hi,hl,hO,hd=>by
  obtain⟨x,rr,f1,f2,rfl,h1,h2,rfl⟩:=hi.inv
  have hiO:=hO i List.mem_cons_self
  have r1:=r.set (i:=i) h1 (fun z=>absurd z hiO) fun j hj hjo p hp z=>by
   rcases hjo with hjo | hjo
   ·exact hd j hjo p z (List.mem_append_left _ hp)
   ·exact absurd hjo hiO
  obtain⟨fps',r2,q2⟩:=Rel.setAll (is:=is) r1 h2 (by simpa using hl) (fun j hj=>hO j (List.mem_cons_of_mem _ hj)) fun j hj p hp z=>by
   have hji:j≠i:=fun e=>hiO (by rw[<-e];exact hj)
   rw[ZE hji] at hp
   exact hd j hj p hp (List.mem_append_right _ z)
  refine⟨fps',r2,fun j hj=>?_⟩
  have hji:j≠i:=fun e=>hj (e▸List.mem_cons_self)
  obtain⟨a,b⟩:=q2 j (fun z=>hj (List.mem_cons_of_mem _ z))
  exact⟨a.trans (by rw[List.getElem?_set,if_neg (Ne.symm hji)]),b.trans (.inl (ZE hji))⟩
section
variable {O W:List Nat} {T:Tgt} {fb:XS}
theorem VZ{H1:Hp}{fps:Nat->List Addr}{s:Zy}{Z:W9}{D:X2}{J:It}{ls:List PV}{out:Pm}(r:Rel K O (Yv H1 (Ow O fps)) fps s Z H1)(jis:L4 K (Ow O fps) H1 J ls)(e:YL T fb ls s=some out)(hT:∀i∈T.slots,i∉O)
  (k:OutOk K O (T.slots++W) (Yv H1 (Ow O fps)) fps Z D out):Mu (gT K T) (O2 K O W fb) D Z J H1:=by
 have subT:∀j,j∉T.slots++W->j∉T.slots:=fun j hj z=>hj (List.mem_append_left _ z)
 have subW:∀j,j∉T.slots++W->j∉W:=fun j hj z=>hj (List.mem_append_right _ z)
 refine⟨fun i m Z' H'=>m=ls.length-i/\i<=ls.length/\∃fps' s',Rel K O (Yv H1 (Ow O fps)) fps' s' Z' H'/\YL T fb (ls.drop i) s'=some out/\∀j,j∉T.slots++W->Z'[j]?=Z[j]?/\Kep (fps' j) (fps j),
  ⟨ls.length,by simp,Nat.zero_le _,fps,s,r,e,fun j _=>⟨rfl,Kep.refl _⟩⟩,?_⟩
 rintro i m Z' H' ⟨rfl,hi,fps',s',r',e',q'⟩
 have ab:Ab (Ow O fps) H1 H':=fun b o h n=>r'.same b o (by unfold Yv;rw[if_neg n];exact h)
 cases q:ls.drop i with
 | nil=>
  have hil:i=ls.length:=by
   have:=congrArg List.length q
   rw[List.length_drop] at this
   simp at this;omega
  subst hil
  rw[q] at e'
  cases e'
  exact .inl ⟨jis.stop H' ab,k fps' Z' H' r' q'⟩
 | cons l rr=>
  obtain⟨hl,hr⟩:=VX q
  have hilt:i<ls.length:=(List.getElem?_eq_some_iff.mp hl).1
  rw[q] at e'
  unfold YL at e'
  obtain⟨sb,eb,e'⟩:=Zd e'
  obtain⟨o,eo,e'⟩:=Zd e'
  refine .inr ⟨jis.go H' i l ab hl,fun Z2 H2=>∃fps2 s2,Rel K O (Yv H1 (Ow O fps)) fps2 s2 Z2 H2/\YL T fb (ls.drop (i+1)) s2=some out/\∀j,j∉T.slots++W->Z2[j]?=Z[j]?/\Kep (fps2 j) (fps j),
   fun Z2 H2 h2=>⟨ls.length-(i+1),by omega,rfl,hilt,h2⟩,fun x H2 y=>?_⟩
  obtain⟨s2,fx,ix,nx⟩:=jis.yld H' i l x H2 ab hl y
  obtain⟨bl,bv,bf,rfl,bi,blen,bsub,buse⟩:=SK (K:=K) ix eb
  obtain⟨fps3,r3,q3⟩:=Rel.setAll (is:=T.slots) (r'.grow s2) bi blen hT fun j hj p hp z=>by
   obtain⟨n1,n2⟩:=nx p (bsub p z)
   have:=(r'.own j hj p hp).1
   unfold Yv at this;rw[if_neg n2] at this
   exact n1 this
  refine buse _ _ ⟨_,fps3,_,o,r3,eo,?_⟩
  have keep:∀j,j∉T.slots++W->(ZX T.slots bv Z')[j]?=Z[j]?/\Kep (fps3 j) (fps j):=fun j hj=>⟨(q3 j (subT j hj)).1.trans (q' j hj).1,(q3 j (subT j hj)).2.trans (q' j hj).2⟩
  cases o with
  | nx s4=>exact fun fps4 Z4 H4 r4 q4=>⟨fps4,s4,r4,by rw[hr];exact e',fun j hj=>⟨(q4 j (subW j hj)).1.trans (keep j hj).1,(q4 j (subW j hj)).2.trans (keep j hj).2⟩⟩
  | ct s4=>exact fun fps4 Z4 H4 r4 q4=>⟨fps4,s4,r4,by rw[hr];exact e',fun j hj=>⟨(q4 j (subW j hj)).1.trans (keep j hj).1,(q4 j (subW j hj)).2.trans (keep j hj).2⟩⟩
  | bk s4=>
   cases e'
   exact fun fps4 Z4 H4 r4 q4=>k fps4 Z4 H4 r4 fun j hj=>⟨(q4 j (subW j hj)).1.trans (keep j hj).1,(q4 j (subW j hj)).2.trans (keep j hj).2⟩
  | rt v=>
   cases e'
   exact k
end
section
variable {X:Cx} {O W:List Nat} {tg iter:Expr} {body:List Stmt} {fi:XL} {T:Tgt} {fb:XS} {pos:Pos}
theorem Xt(hp:PassesOwn (model X.prog X.w) X.A X.env X.xe)(hc:X.calm=true)(hi:VI X tg iter fi)(hg:PG X tg (gT X.K T))(hb:O3 X O W body fb)(hT:∀i∈T.slots,i∉O:=by decide)
  (hs:∀x,foldedSetIterable iter X.env x=pure x:=by intro _;rfl):VS X O (T.slots++W) (.For tg iter body [] pos) (YG O fi T fb):=PS.imp (UQ hp hc hi hg hb hs) fun D Z H ⟨H0,fps,s,out,r,e,k⟩=>by
 obtain⟨ls,e1,e⟩:=Zd e
 refine⟨Ow O fps,ZD O s,ls,r.owMut,r.envO,e1,fun J H1 s1 jis=>?_⟩
 exact VZ (r.grow s1).frame jis e hT (k.less (r.grow s1).under)
end
end VL
namespace VL
open PySem PySem.Spec PyProof.Rows L2
variable {K:PySem.W.Frag}
section
variable {O:List Nat} {H0 H H':Hp} {fps:Nat->List Addr} {s:Zy} {Z:W9}
theorem Rel.lst_at(r:Rel K O H0 fps s Z H){i:Nat}(hi:i∈O){m:List PV}(e:s[i]?=some (some (.lst m))):∃p xs fq,Z[i]?=some (some (.ref p))/\H p=some (.lst xs)/\Iss K H m xs fq/\fps i=p::fq:=by
 obtain⟨v,a,b⟩:=r.is i _ e
 obtain⟨p,xs,fq,rfl,hp,hm,ef⟩:=b.lst_inv
 exact⟨p,xs,fq,a,hp,hm,ef⟩
theorem Rel.dT_at(r:Rel K O H0 fps s Z H){i:Nat}(hi:i∈O){ks:List (List ZR)}{m:List PV}(e:s[i]?=some (some (.dT ks m))):∃p kvs fq,Z[i]?=some (some (.ref p))/\H p=some (.dT kvs)/\kvs.map (·.1)=ks/\Iss K H m (kvs.map (·.2)) fq/\fps i=p::fq:=by
 obtain⟨v,a,b⟩:=r.is i _ e
 obtain⟨p,xs,fq,rfl,hp,hk,hm,ef⟩:=b.dT_inv
 refine⟨p,xs,fq,a,?_,hk,hm,ef⟩
 have mu:=(r.own i hi p (by rw[ef];exact List.mem_cons_self)).2
 rcases hp with hp | ⟨o,hp⟩
 ·exact hp
 ·rw[hp] at mu;exact mu.elim
theorem Rel.dK_at(r:Rel K O H0 fps s Z H){i:Nat}(hi:i∈O){ks:List ZR}{m:List PV}(e:s[i]?=some (some (.dK ks m))):∃p kvs fq,Z[i]?=some (some (.ref p))/\H p=some (.dK kvs)/\kvs.map (·.1)=ks/\Iss K H m (kvs.map (·.2)) fq/\fps i=p::fq:=by
 obtain⟨v,a,b⟩:=r.is i _ e
 obtain⟨p,xs,fq,rfl,hp,hk,hm,ef⟩:=b.dK_inv
 refine⟨p,xs,fq,a,?_,hk,hm,ef⟩
 have mu:=(r.own i hi p (by rw[ef];exact List.mem_cons_self)).2
 rcases hp with hp | ⟨o,hp⟩
 ·exact hp
 ·rw[hp] at mu;exact mu.elim
theorem XH{α:Type}{l:List α}{i:Nat}{a:α}(h:l[i]?=some a):i<l.length:=(List.getElem?_eq_some_iff.mp h).1
theorem TK.upd'{p:Addr}{o:HO}(mu:Xb (H p)):TK2 H (L2.upd H p o):=⟨fun b xs h=>by
 rw[upd_ne (fun z=>by rw[z] at h;rw[h] at mu;exact mu)];exact h,fun b o xs h=>by
 rw[upd_ne (fun z=>by rw[z] at h;rw[h] at mu;exact mu)];exact h,fun b o x h=>by
 rw[upd_ne (fun z=>by rw[z] at h;rw[h] at mu;exact mu)];exact h⟩
theorem RdK.upd_ne{p q:Addr}{o:HO}(ne:q≠p):RdK H (L2.upd H p o) q:=RdK.of fun u hu=>by rw[L2.upd_ne ne];exact hu
theorem Rel.relist(r:Rel K O H0 fps s Z H){i:Nat}(hi:i∈O){m m':List PV}(e:s[i]?=some (some (.lst m))){p:Addr}{fq fq':List Addr}{xs':List V}(ef:fps i=p::fq)(hv:Z[i]?=some (some (.ref p)))
  (h':Iss K H m' xs' fq') (nd:(p::fq').Nodup) (hf:∀q∈fq',q∈fq\/((H0 q=none/\Xb (H q))/\∀j,q∉fps j)):Rel K O H0 (Vh fps s.length i (p::fq')) (s.set i (some (.lst m'))) Z (L2.upd H p (.lst xs')):=by
 have hp:p∈fps i:=by rw[ef];exact List.mem_cons_self
 have mu:=(r.own i hi p hp).2
 have np:p∉fq':=(List.nodup_cons.mp nd).1
 refine r.mutate hi hp hv (XH e) (Is.lst upd_same (Iss.tr (TK.upd' mu) _ _ _ (fun q hq=>RdK.upd_ne fun z=>np (z▸hq)) h')) nd (fun q hq=>?_) (fun j hj q hq z=>?_) True.intro
 ·rcases List.mem_cons.mp hq with rfl | hq
  ·exact⟨(r.own i hi q hp).1,by rw[upd_same];exact True.intro⟩
  ·have ne:q≠p:=fun z=>np (z▸hq)
   rw[L2.upd_ne ne]
   rcases hf q hq with h | h
   ·exact r.own i hi q (by rw[ef];exact List.mem_cons_of_mem _ h)
   ·exact h.1
 ·rcases List.mem_cons.mp hq with rfl | hq
  ·exact r.dis i hi j hj q hp z
  ·rcases hf q hq with h | h
   ·exact r.dis i hi j hj q (by rw[ef];exact List.mem_cons_of_mem _ h) z
   ·exact h.2 j z
end
def Ob(s:Zy)(i:Nat):Option (List PV):=match s[i]? with | some (some (.lst m))=>some m | _=>none
def Qx:PV->Option Int
 | .int k=>some k
 | _=>none
def L5:PV->Option (List PV)
 | .lst k=>some k
 | _=>none
theorem Wk{s:Zy}{i:Nat}{m:List PV}(h:Ob s i=some m):s[i]?=some (some (.lst m)):=by
 unfold Ob at h;split at h
 ·cases h;assumption
 ·cases h
theorem Xu{a:PV}{k:Int}(h:Qx a=some k):a = .int k:=by
 unfold Qx at h;split at h
 ·cases h;rfl
 ·cases h
theorem Po{a:PV}{k:List PV}(h:L5 a=some k):a = .lst k:=by
 unfold L5 at h;split at h
 ·cases h;rfl
 ·cases h
def gd(c:Bool):Option Unit:=if c=true then some () else none
theorem XI{c:Bool}{u:Unit}(h:gd c=some u):c=true:=by
 unfold gd at h;split at h
 ·assumption
 ·cases h
def YV(i:Nat)(f:XE):XS:=fun s=>(f s).bind fun l=>(Ob s i).bind fun m=>(gd (decide (m.length<=10000))).bind fun _=>some (.nx (s.set i (some (.lst (m++[l])))))
def XJ(i:Nat)(fk:XE)(f:XE):XS:=fun s=>(fk s).bind fun k=>(f s).bind fun l=>(Qx k).bind fun k=>(Ob s i).bind fun m=>(gd (Zn m&&Zx l&&decide (0<=k/\k<=1000000/\m.length<=10000))).bind fun _=>some (.nx (s.set i (some (.lst (m.take k.toNat++l::m.drop k.toNat)))))
def WP(i:Nat)(fk:XE)(f:XE):XS:=fun s=>(f s).bind fun l=>(fk s).bind fun k=>(Qx k).bind fun k=>(Ob s i).bind fun m=>(gd (Zn m&&Zx l)).bind fun _=>(Sc m.length k).map fun j=>.nx (s.set i (some (.lst (m.set j l))))
section
variable {X:Cx} {O:List Nat} {i:Nat} {st:Stmt} {f fk:XE}
theorem KD{H:Hp}{p:Addr}{xs:List V}(h:H p=some (.lst xs)):Kp K "list" (.ref p) H:=.inl ⟨rfl,_,SqL.of h⟩
theorem UG{s:Zy}{Z:W9}{fps:Nat->List Addr}{fp:List Addr}:∀j,j∉[i]->Z[j]?=Z[j]?/\Kep (Vh fps s.length i fp j) (fps j):=fun j hj=>⟨rfl,.inl (ZE (by simpa using hj))⟩
theorem UH(h:PS X st (QS (Kq X.K "list" Rh (Wu i) (Uo (tM X.K f) Ot))))(hi:i∈O:=by decide):VS X O [i] st (YV i f):=PS.imp h fun D Z H ⟨H0,fps,s,out,r,e,k⟩=>by
 obtain⟨l,e1,e⟩:=Zd e
 obtain⟨m,em,e⟩:=Zd e
 obtain⟨_,eg,e⟩:=Zd e
 have em:=Wk em
 have hlen:=of_decide_eq_true (XI eg)
 cases e
 obtain⟨p,xs,fq,hv,hp,hm,ef⟩:=r.lst_at hi em
 refine⟨.ref p,hv,KD hp,s,l,r.env,e1,fun y H2 fe s2 i2 d2 n2=>?_⟩
 refine⟨p,xs,y,rfl,rfl,s2 _ _ hp,by rw[hm.len];exact lt_size (by omega),?_⟩
 have r2:=r.grow s2
 have fr:∀q∈fe,∀j,q∉fps j:=fun q hq j z=>r.dom j q z (n2 q hq).1
 refine k _ _ _ (r2.relist hi em ef hv ((hm.mono s2).append (Iss.one i2)) ?_ fun q hq=>?_) UG
 ·have nd:=r.nd i hi
  rw[ef] at nd;rw[<-List.cons_append]
  exact List.nodup_append.mpr ⟨nd,d2,fun a ha b hb z=>fr b hb i (by rw[ef,<-z];exact ha)⟩
 ·rcases List.mem_append.mp hq with h | h
  ·exact .inl h
  ·exact .inr ⟨⟨Same.off r.same (n2 q h).1,(n2 q h).2⟩,fr q h⟩
theorem Iss.pureEq{H:Hp}{l:List PV}{xs:List V}{fp:List Addr}(h:Iss K H l xs fp)(hp:Zn l=true):Iss K H l xs []:=by
 have:=Iss.pure _ _ _ hp h
 subst this;exact h
theorem SM{l:List PV}(n:Nat)(h:Zn l=true):Zn (l.take n)=true:=by
 rw[YH,List.all_eq_true] at *
 exact fun x hx=>h x (List.mem_of_mem_take hx)
theorem SN{l:List PV}(n:Nat)(h:Zn l=true):Zn (l.drop n)=true:=by
 rw[YH,List.all_eq_true] at *
 exact fun x hx=>h x (List.mem_of_mem_drop hx)
theorem Qy(h:PS X st (QS (Kq X.K "list" Rq (Wu i) (Uo (tF X.K fk) (Uo (tF X.K f) Ot)))))(hi:i∈O:=by decide):VS X O [i] st (XJ i fk f):=PS.imp h fun D Z H ⟨H0,fps,s,out,r,e,k⟩=>by
 obtain⟨kk,e0,e⟩:=Zd e
 obtain⟨l,e1,e⟩:=Zd e
 obtain⟨ki,ek,e⟩:=Zd e
 obtain⟨m,em,e⟩:=Zd e
 obtain⟨_,eg,e⟩:=Zd e
 rw[Xu ek] at e0;have em:=Wk em;have hc:=XI eg;simp only[Bool.and_eq_true,decide_eq_true_eq] at hc
 obtain⟨⟨pm,pl⟩,k0,k1,hlen⟩:=hc
 cases e
 obtain⟨p,xs,fq,hv,hp,hm,ef⟩:=r.lst_at hi em
 refine⟨.ref p,hv,KD hp,fun _=>False,s,_,fun _ z=>z.elim,r.env,e0,fun z H1 fz s1 i1 _=>⟨fun _=>False,s,l,fun _ z=>z.elim,r.env.mono s1,e1,fun y H2 fe s2 i2 _=>?_⟩⟩
 have s12:=s1.trans s2
 obtain⟨rfl,_⟩:=i1.int_inv
 have:=Is.pure _ _ _ pl i2
 subst this
 refine⟨p,xs,ki,y,rfl,rfl,s12 _ _ hp,k0,by omega,by rw[hm.len];exact lt_size (by omega),?_⟩
 have hm':=(hm.mono s12).pureEq pm
 obtain⟨f1,a1,_⟩:=hm'.take ki.toNat
 obtain⟨f2,a2,_⟩:=hm'.drop ki.toNat
 have a1:=a1.pureEq (SM _ pm)
 have a2:=a2.pureEq (SN _ pm)
 exact k _ _ _ ((r.grow s12).relist hi em ef hv (a1.append (Iss.cons i2 a2)) (by simp) fun q hq=>by simp at hq) UG
theorem Pp(h:PS X st (Sf (tF X.K f) (N4 (Wu i) (tF X.K fk) QZ)))(hi:i∈O:=by decide):VS X O [i] st (WP i fk f):=PS.imp h fun D Z H ⟨H0,fps,s,out,r,e,k⟩=>by
 obtain⟨l,e0,e⟩:=Zd e
 obtain⟨kk,e1,e⟩:=Zd e
 obtain⟨ki,ek,e⟩:=Zd e
 obtain⟨m,em,e⟩:=Zd e
 obtain⟨_,eg,e⟩:=Zd e
 rw[Xu ek] at e1;have em:=Wk em;have hc:=XI eg;simp only[Bool.and_eq_true] at hc
 obtain⟨pm,pl⟩:=hc
 obtain⟨j,ej,rfl⟩:=map_some e
 obtain⟨p,xs,fq,hv,hp,hm,ef⟩:=r.lst_at hi em
 refine⟨fun _=>False,s,l,fun _ z=>z.elim,r.env,e0,fun y H1 fy s1 i1 _=>?_⟩
 refine⟨.ref p,hv,fun _=>False,s,_,fun _ z=>z.elim,r.env.mono s1,e1,fun z H2 fz s2 i2 _=>?_⟩
 have s12:=s1.trans s2
 obtain⟨rfl,_⟩:=i2.int_inv
 have:=Is.pure _ _ _ pl i1
 subst this
 refine⟨p,xs,ki,j,rfl,rfl,s12 _ _ hp,by rw[hm.len];exact ej,?_⟩
 exact k _ _ _ ((r.grow s12).relist hi em ef hv (Iss.setP j pm pl ((hm.mono s12).pureEq pm) (i1.mono s2)) (by simp) fun q hq=>by simp at hq) UG
end
theorem Iss.setRow{H:Hp}{o:List V}:∀{m:List PV}{xs:List V}{fq:List Addr}{j:Nat}{n n':List PV}{q:Addr},Iss K H m xs fq->m[j]?=some (.lst n)->xs[j]?=some (.ref q)->fq.Nodup->Xb (H q)->Zn n=true->Iss K (L2.upd H q (.lst o)) n' o []->
  Iss K (L2.upd H q (.lst o)) (m.set j (.lst n')) xs fq
 | [],_,_,_,_,_,_,_,e,_,_,_,_,_=>by simp at e
 | a::m,xs,fq,0,n,n',q,h,e,ex,nd,mu,pn,h'=>by
  obtain⟨x,r,f1,f2,rfl,h1,h2,rfl⟩:=h.inv
  simp at e ex
  subst e ex
  obtain⟨p',zs,fz,e,hp,hz,rfl⟩:=h1.lst_inv
  cases e
  have:=Iss.pure _ _ _ pn hz
  subst this
  have nq:q∉f2:=(List.nodup_cons.mp nd).1
  exact Iss.cons (Is.lst upd_same h') (Iss.tr (TK.upd' mu) _ _ _ (fun z hz=>RdK.upd_ne fun e=>nq (e▸hz)) h2)
 | a::m,xs,fq,j+1,n,n',q,h,e,ex,nd,mu,pn,h'=>by
  obtain⟨x,r,f1,f2,rfl,h1,h2,rfl⟩:=h.inv
  simp at e ex
  obtain⟨nd1,nd2,nd3⟩:=List.nodup_append.mp nd
  obtain⟨y,fy,hy,iy,suby⟩:=h2.get e
  rw[ex] at hy;cases hy
  obtain⟨p',zs,fz,e',_,_,rfl⟩:=iy.lst_inv
  cases e'
  have nq:q∉f1:=fun z=>nd3 q z q (suby q List.mem_cons_self) rfl
  exact Iss.cons (Is.tr (TK.upd' mu) _ _ _ (fun z hz=>RdK.upd_ne fun e=>nq (e▸hz)) h1) (Iss.setRow h2 e ex nd2 mu pn h')
def YW(i:Nat)(fa fb:XE)(f:XE):XS:=fun s=>(f s).bind fun l=>(fa s).bind fun a=>(fb s).bind fun b=>(Qx a).bind fun a=>(Qx b).bind fun b=>(Ob s i).bind fun m=>(Sc m.length a).bind fun j=>(m[j]?).bind fun r=>(L5 r).bind fun n=>
 (gd (Zn n&&Zx l)).bind fun _=>(Sc n.length b).map fun c=>.nx (s.set i (some (.lst (m.set j (.lst (n.set c l))))))
theorem UI{X:Cx}{O:List Nat}{i:Nat}{st:Stmt}{f fa fb:XE}(h:PS X st (Sf (tF X.K f) (N4 (N7 (OB X.K) (Wu i) (tF X.K fa)) (tF X.K fb) QZ)))(hi:i∈O:=by decide):VS X O [i] st (YW i fa fb f):=PS.imp h fun D Z H ⟨H0,fps,s,out,r,e,k⟩=>by
 obtain⟨l,e0,e⟩:=Zd e
 obtain⟨a,e1,e⟩:=Zd e
 obtain⟨b,e2,e⟩:=Zd e
 obtain⟨ai,ea,e⟩:=Zd e
 obtain⟨bi,eb,e⟩:=Zd e
 obtain⟨m,em,e⟩:=Zd e
 obtain⟨j,ej,e⟩:=Zd e
 obtain⟨rw',en,e⟩:=Zd e
 obtain⟨n,er,e⟩:=Zd e
 obtain⟨_,eg,e⟩:=Zd e
 rw[Xu ea] at e1;rw[Xu eb] at e2;rw[Po er] at en;have em:=Wk em;have hc:=XI eg;simp only[Bool.and_eq_true] at hc
 obtain⟨pn,pl⟩:=hc
 obtain⟨c,ec,rfl⟩:=map_some e
 obtain⟨p,xs,fq,hv,hp,hm,ef⟩:=r.lst_at hi em
 refine⟨fun _=>False,s,l,fun _ z=>z.elim,r.env,e0,fun y H1 fy s1 i1 _=>?_⟩
 refine⟨.ref p,hv,fun _=>False,s,_,fun _ z=>z.elim,r.env.mono s1,e1,fun z H2 fz s2 i2 _=>?_⟩
 obtain⟨rfl,_⟩:=i2.int_inv
 have s12:=s1.trans s2
 obtain⟨q,f1,hq,iq,subq⟩:=(hm.mono s12).get en
 obtain⟨qa,zs,fz',rfl,hqa,hz,rfl⟩:=id iq.lst_inv
 refine⟨p,xs,ai,.ref qa,rfl,rfl,SqL.of (s12 _ _ hp),?_,fun _=>False,s,_,fun _ z=>z.elim,r.env.mono s12,e2,fun w H3 fw s3 i3 _=>?_⟩
 ·unfold Ve;rw[hm.len,ej];exact hq
 obtain⟨rfl,_⟩:=i3.int_inv
 have s123:=s12.trans s3;have r3:=r.grow s123
 have hqf:qa∈fps i:=by rw[ef];exact List.mem_cons_of_mem _ (subq qa List.mem_cons_self)
 have mu:=(r3.own i hi qa hqf).2
 have hqa3:H3 qa=some (.lst zs):=s3 _ _ hqa
 have:=Is.pure _ _ _ pl i1
 subst this
 refine⟨qa,zs,bi,c,rfl,rfl,hqa3,by rw[hz.len];exact ec,?_⟩
 have nd:=r.nd i hi;rw[ef] at nd
 have hqp:qa≠p:=fun z=>(List.nodup_cons.mp nd).1 (z▸subq qa List.mem_cons_self)
 have newrow:Iss X.K (L2.upd H3 qa (.lst (zs.set c y))) (n.set c l) (zs.set c y) []:=Iss.tr (TK.upd' mu) _ _ _ (fun q hq=>by simp at hq) (Iss.setP c pn pl ((hz.mono s3).pureEq pn) (i1.mono (s2.trans s3)))
 have rows:=Iss.setRow (hm.mono s123) en hq (List.nodup_cons.mp nd).2 mu pn newrow
 refine k _ _ _ (r3.mutate (o:=.lst (zs.set c y)) (l':=.lst (m.set j (.lst (n.set c l)))) (fp':=p::fq) hi hqf hv (XH em) (Is.lst (by rw[L2.upd_ne (Ne.symm hqp)];exact s123 _ _ hp) rows) nd (fun q hq=>?_) (fun j hj q hq z=>r.dis i hi j hj q (by rw[ef];exact hq) z) True.intro) UG
 refine⟨(r.own i hi q (by rw[ef];exact hq)).1,?_⟩
 by_cases e:q=qa
 ·subst e;rw[upd_same];exact True.intro
 ·rw[L2.upd_ne e];exact(r3.own i hi q (by rw[ef];exact hq)).2
end VL
namespace VL
open PySem PySem.Spec PyProof.Rows L2
variable {K:PySem.W.Frag}
def V0:PV->Option ZR
 | .int i=>some (.inl i)
 | .str x=>some (.inr x)
 | _=>none
def TQ:List PV->Option (List ZR)
 | []=>some []
 | a::r=>(V0 a).bind fun k=>(TQ r).map (k::·)
def V1:PV->Option (List ZR)
 | .tup l=>TQ l
 | _=>none
def kP:ZR->PV
 | .inl i=>.int i
 | .inr x=>.str x
theorem Tc{H:Hp}{a:PV}{k:ZR}{v:V}{fp:List Addr}(e:V0 a=some k)(h:Is K H a v fp):v=kV k/\fp=[]:=by
 cases a with
 | int i=>cases e;exact h.int_inv
 | str x=>cases e;exact h.str_inv
 | _=>cases e
theorem TR{H:Hp}:∀{l:List PV}{ks:List ZR}{xs:List V}{fp:List Addr},TQ l=some ks->Iss K H l xs fp->xs=ks.map kV/\fp=[]
 | [],ks,xs,fp,e,h=>by
  cases e
  simpa only[List.map_nil,Iss] using h
 | a::r,ks,xs,fp,e,h=>by
  obtain⟨k,e1,e⟩:=Zd (show(V0 a).bind (fun k=>(TQ r).map (k::·))=some ks from e)
  obtain⟨kr,e2,rfl⟩:=map_some e
  obtain⟨x,rr,f1,f2,rfl,h1,h2,rfl⟩:=h.inv
  obtain⟨rfl,rfl⟩:=Tc e1 h1
  obtain⟨rfl,rfl⟩:=TR e2 h2
  exact⟨rfl,rfl⟩
theorem RF{H:Hp}{a:PV}{k:List ZR}{v:V}{fp:List Addr}(e:V1 a=some k)(h:Is K H a v fp):∃b,v = .ref b/\H b=some (.tup (k.map kV)):=by
 cases a with
 | tup l=>
  obtain⟨p,xs,rfl,hp,hi⟩:=h.tup_inv
  obtain⟨rfl,_⟩:=TR (show TQ l=some k from e) hi
  exact⟨p,rfl,hp⟩
 | _=>cases e
theorem LP{H:Hp}(k:ZR):Is K H (kP k) (kV k) []:=by
 cases k with
 | inl i=>exact Is.int i
 | inr x=>exact Is.str x
theorem Pq{H:Hp}:∀(ks:List ZR),Iss K H (ks.map kP) (ks.map kV) []
 | []=>Iss.nil
 | k::r=>Iss.cons (f1:=[]) (LP k) (Pq r)
section
variable {κ:Type} [DecidableEq κ]
def YR(ks:List κ)(vs:List PV)(k:κ):Option PV:=((ks.zip vs).find? fun z=>decide (z.1=k)).map (·.2)
def Xv(ks:List κ)(k:κ):List κ:=if k∈ks then ks else ks++[k]
def Xw(ks:List κ)(vs:List PV)(k:κ)(v:PV):List PV:=if k∈ks then(ks.zip vs).map fun z=>if z.1=k then v else z.2 else vs++[v]
theorem V2{H:Hp}:∀{kvs:List (κ×V)}{l:List PV}{fq:List Addr}(k:κ),Iss K H l (kvs.map (·.2)) fq->
  (YR (kvs.map (·.1)) l k=none/\Xq kvs k=none)\/∃a x f,YR (kvs.map (·.1)) l k=some a/\Xq kvs k=some x/\Is K H a x f/\∀p∈f,p∈fq
 | [],l,fq,k,h=>.inl ⟨by unfold YR;simp,rfl⟩
 | kv::r,[],fq,k,h=>by have:=h.len;simp at this
 | kv::r,a::l,fq,k,h=>by
  obtain⟨x,rr,f1,f2,e,h1,h2,rfl⟩:=h.inv
  cases e
  by_cases hk:kv.1=k
  ·refine .inr ⟨a,kv.2,f1,?_,X4 hk,h1,fun p hp=>List.mem_append_left _ hp⟩
   unfold YR;rw[List.map_cons,List.zip_cons_cons,List.find?_cons];simp[hk]
  ·have e1:YR ((kv::r).map (·.1)) (a::l) k=YR (r.map (·.1)) l k:=by
    unfold YR;rw[List.map_cons,List.zip_cons_cons,List.find?_cons];simp[hk]
   rw[e1,X5 hk]
   rcases V2 (l:=l) k h2 with z | ⟨b,y,f,z1,z2,z3,z4⟩
   ·exact .inl z
   ·exact .inr ⟨b,y,f,z1,z2,z3,fun p hp=>List.mem_append_right _ (z4 p hp)⟩
theorem any_mem{kvs:List (κ×V)}{k:κ}:(kvs.any fun kv=>decide (kv.1=k))=true↔k∈kvs.map (·.1):=by
 rw[List.any_eq_true,List.mem_map];constructor
 ·rintro⟨x,hx,e⟩;exact⟨x,hx,of_decide_eq_true e⟩
 ·rintro⟨x,hx,e⟩;exact⟨x,hx,decide_eq_true e⟩
theorem RG{kvs:List (κ×V)}{k:κ}{x:V}:(Y4 kvs k x).map (·.1)=Xv (kvs.map (·.1)) k:=by
 unfold Y4 Xv
 by_cases h:k∈kvs.map (·.1)
 ·rw[if_pos (any_mem.mpr h),if_pos h,List.map_map]
  apply List.map_congr_left
  intro z _
  show(if z.1=k then(z.1,x) else z).1=z.1
  split<;>rfl
 ·rw[if_neg (fun z=>h (any_mem.mp z)),if_neg h,List.map_append];rfl
theorem RH{H:Hp}{kvs:List (κ×V)}{l:List PV}{k:κ}{a:PV}{x:V}(h:Iss K H l (kvs.map (·.2)) [])(hp:Zn l=true)(ha:Is K H a x [])(pa:Zx a=true):Iss K H (Xw (kvs.map (·.1)) l k a) ((Y4 kvs k x).map (·.2)) []:=by
 unfold Y4 Xw
 by_cases hk:k∈kvs.map (·.1)
 ·rw[if_pos (any_mem.mpr hk),if_pos hk]
  clear hk
  induction kvs generalizing l with
  | nil=>
   have:=h.len
   cases l with
   | nil=>exact Iss.nil
   | cons _ _=>simp at this
  | cons kv r ih=>
   cases l with
   | nil=>have:=h.len;simp at this
   | cons b l=>
    obtain⟨y,rr,f1,f2,e,h1,h2,e2⟩:=h.inv
    cases e;simp only[Zn,Bool.and_eq_true] at hp;have z1:=Is.pure _ _ _ hp.1 h1;have z2:=Iss.pure _ _ _ hp.2 h2
    subst z1 z2
    have ih:=ih h2 hp.2;rw[List.map_cons,List.zip_cons_cons,List.map_cons,List.map_cons,List.map_cons]
    by_cases e:kv.1=k
    ·rw[if_pos e,if_pos e]
     exact Iss.cons (f1:=[]) ha ih
    ·rw[if_neg e,if_neg e]
     exact Iss.cons (f1:=[]) h1 ih
 ·rw[if_neg (fun z=>hk (any_mem.mp z)),if_neg hk,List.map_append]
  exact h.append (Iss.one ha)
end
def YM:PV->PV->Option PV
 | .dK ks vs,k=>(V0 k).bind fun k=>YR ks vs k
 | .dT ks vs,k=>(V1 k).bind fun k=>YR ks vs k
 | _,_=>none
def L6:PV->PV->Option Bool
 | .dK ks vs,k=>(V0 k).map fun k=>(YR ks vs k).isSome
 | .dT ks vs,k=>(V1 k).map fun k=>(YR ks vs k).isSome
 | _,_=>none
theorem RI{H:Hp}{d k:PV}{x y:V}{fd fk:List Addr}(hd:Is K H d x fd)(hk:Is K H k y fk){b:Bool}(e:L6 d k=some b):∃a o,x = .ref a/\Qf H a y o/\o.isSome=b/\((YM d k=none/\o=none)\/∃c v f,YM d k=some c/\o=some v/\Is K H c v f/\∀p∈f,p∈fd):=by
 cases d with
 | dK ks vs=>
  obtain⟨kk,e1,rfl⟩:=map_some (show(V0 k).map (fun k=>(YR ks vs k).isSome)=some b from e)
  obtain⟨p,kvs,fq,rfl,hp,rfl,hi,rfl⟩:=hd.dK_inv
  obtain⟨rfl,_⟩:=Tc e1 hk
  refine⟨p,Xq kvs kk,rfl,.inl ⟨kvs,kk,hp,rfl,rfl⟩,?_,?_⟩
  ·rcases V2 kk hi with⟨z1,z2⟩ | ⟨a,v,f,z1,z2,_⟩<;>rw[z1,z2]<;>rfl
  ·show(YM (.dK _ vs) k=none/\_)\/_
   have eg:YM (.dK (kvs.map (·.1)) vs) k=YR (kvs.map (·.1)) vs kk:=by show(V0 k).bind _=_;rw[e1];rfl
   rw[eg]
   rcases V2 kk hi with z | ⟨a,v,f,z1,z2,z3,z4⟩
   ·exact .inl z
   ·exact .inr ⟨a,v,f,z1,z2,z3,fun q hq=>List.mem_cons_of_mem _ (z4 q hq)⟩
 | dT ks vs=>
  obtain⟨kk,e1,rfl⟩:=map_some (show(V1 k).map (fun k=>(YR ks vs k).isSome)=some b from e)
  obtain⟨p,kvs,fq,rfl,hp,rfl,hi,rfl⟩:=hd.dT_inv
  obtain⟨b,rfl,hb⟩:=RF e1 hk
  refine⟨p,Xq kvs kk,rfl,.inr ⟨kvs,kk,b,hp,rfl,hb,rfl⟩,?_,?_⟩
  ·rcases V2 kk hi with⟨z1,z2⟩ | ⟨a,v,f,z1,z2,_⟩<;>rw[z1,z2]<;>rfl
  ·have eg:YM (.dT (kvs.map (·.1)) vs) k=YR (kvs.map (·.1)) vs kk:=by show(V1 k).bind _=_;rw[e1];rfl
   rw[eg]
   rcases V2 kk hi with z | ⟨a,v,f,z1,z2,z3,z4⟩
   ·exact .inl z
   ·exact .inr ⟨a,v,f,z1,z2,z3,fun q hq=>List.mem_cons_of_mem _ (z4 q hq)⟩
 | _=>cases e
theorem O5{d k c:PV}(h:YM d k=some c):L6 d k=some true:=by
 cases d with
 | dK ks vs=>
  obtain⟨kk,e1,e2⟩:=Zd (show(V0 k).bind (fun k=>YR ks vs k)=some c from h)
  show(V0 k).map _=_
  rw[e1];show some ((YR ks vs kk).isSome)=_;rw[e2];rfl
 | dT ks vs=>
  obtain⟨kk,e1,e2⟩:=Zd (show(V1 k).bind (fun k=>YR ks vs k)=some c from h)
  show(V1 k).map _=_
  rw[e1];show some ((YR ks vs kk).isSome)=_;rw[e2];rfl
 | _=>cases h
section
variable {X:Cx} {o i e f:Expr} {fd fk fx:XE} {pos apos cpos:Pos}
theorem Pr:∀Z H Q,tF K (Zi YM fd fk) Z H Q->NB (tF K fd) (tF K fk) Z H Q:=fun Z H Q ⟨Rm,s,l,hd,env,e,k⟩=>by
 obtain⟨d,kk,e1,e2,e3⟩:=X9 e
 refine⟨Rm,s,d,hd,env,e1,fun x H1 f1 s1 i1 n1=>⟨Rm,s,kk,fun p hp=>Same.mut s1 (hd p hp),env.mono s1,e2,fun y H2 f2 s2 i2 n2=>?_⟩⟩
 obtain⟨a,ov,rfl,dg,_,alt⟩:=RI (i1.mono s2) i2 (O5 e3)
 rcases alt with⟨z,_⟩ | ⟨c,v,fv,z1,rfl,z3,z4⟩
 ·rw[z] at e3;cases e3
 ·rw[z1] at e3;cases e3
  exact⟨a,v,rfl,dg,k v H2 fv (s1.trans s2) z3 fun p hp=>n1 p (z4 p hp)⟩
theorem Td(hu:X.A.units+1<cLine)(ho:VE X o fd)(hi:VE X i fk)(hs:Mp i:=by exact fun _ _=>rfl):VE X (.Subscript o i pos) (Zi YM fd fk):=PE.imp (OG hu ho hi hs) Pr
def SO(neg:Bool)(fk fd:XE):XE:=fun s=>(fk s).bind fun k=>(fd s).bind fun d=>(L6 d k).map fun b=>.bl (if neg then !b else b)
theorem SQ:∀Z H Q,tF K (SO true fk fd) Z H Q->Rn (tF K fk) (tF K fd) Z H Q:=fun Z H Q ⟨Rm,s,l,hd,env,e,k⟩=>by
 obtain⟨kk,e1,e⟩:=Zd e
 obtain⟨d,e2,e⟩:=Zd e
 obtain⟨b,e3,rfl⟩:=map_some e
 refine⟨Rm,s,kk,hd,env,e1,fun y H1 f1 s1 i1 n1=>⟨Rm,s,d,fun p hp=>Same.mut s1 (hd p hp),env.mono s1,e2,fun x H2 f2 s2 i2 n2=>?_⟩⟩
 obtain⟨a,ov,rfl,dg,rfl,_⟩:=RI i2 (i1.mono s2) e3
 exact⟨a,ov,rfl,dg,k _ H2 [] (s1.trans s2) (Is.bl _) fun p hp=>by simp at hp⟩
theorem Qz(hu:X.A.units+1<cLine)(hi:VE X i fk)(ho:VE X o fd)(hm:behindInMarks .NotIn o=false:=by with_unfolding_all rfl):VT X (.Compare i [.NotIn] [o] pos) (xB (SO true fk fd)):=PT.imp (QP (Qi hu hi ho) hm) fun Z H Q h=>Rv SQ Z H Q (ND Z H Q h)
end
def O6(d k v:PV):Option PV:=match d with
 | .dT ks vs=>(gd (Zn vs&&Zx v&&decide (ks.length<=10000))).bind fun _=>(V1 k).map fun k=>.dT (Xv ks k) (Xw ks vs k v)
 | .dK ks vs=>(gd (Zn vs&&Zx v&&decide (ks.length<=10000))).bind fun _=>(V0 k).map fun k=>.dK (Xv ks k) (Xw ks vs k v)
 | _=>none
def sDPut(i:Nat)(fk fv:XE):XS:=fun s=>(fv s).bind fun v=>(fk s).bind fun k=>((s[i]?).join).bind fun d=>(O6 d k v).map fun d=>.nx (s.set i (some d))
theorem Vn{X:Cx}{O:List Nat}{i:Nat}{st:Stmt}{fk fv:XE}(h:PS X st (L2.sDPut (Wu i) (tF X.K fk) (tF X.K fv)))(hi:i∈O:=by decide):VS X O [i] st (sDPut i fk fv):=PS.imp h fun D Z H ⟨H0,fps,s,out,r,e,k⟩=>by
 obtain⟨v,e1,e⟩:=Zd e
 obtain⟨kk,e2,e⟩:=Zd e
 obtain⟨d,em,e⟩:=Zd e
 obtain⟨d',ed,rfl⟩:=map_some e
 have em:=join_some em
 cases d with
 | dT ks vs=>
  obtain⟨_,eg,ed⟩:=Zd (show(gd (Zn vs&&Zx v&&decide (ks.length<=10000))).bind (fun _=>(V1 kk).map fun k=>PV.dT (Xv ks k) (Xw ks vs k v))=some d' from ed)
  have hc:=XI eg;simp only[Bool.and_eq_true,decide_eq_true_eq] at hc
  obtain⟨⟨pm,pl⟩,hlen⟩:=hc
  obtain⟨kt,e3,rfl⟩:=map_some ed
  obtain⟨p,kvs,fq,hv,hp,rfl,hm,ef⟩:=r.dT_at hi em
  refine⟨fun _=>False,s,v,fun _ z=>z.elim,r.env,e1,fun y H1 fy s1 i1 _=>⟨.ref p,hv,fun _=>False,s,kk,fun _ z=>z.elim,r.env.mono s1,e2,fun z H2 fz s2 i2 _=>?_⟩⟩
  have s12:=s1.trans s2
  obtain⟨b,rfl,hb⟩:=RF e3 i2
  have z1:=Is.pure _ _ _ pl i1;subst z1
  have hm':=(hm.mono s12).pureEq pm
  have z2:=Iss.pure _ _ _ pm hm;subst z2;have r2:=r.grow s12
  have hpf:p∈fps i:=by rw[ef];exact List.mem_cons_self
  have mu:=(r2.own i hi p hpf).2
  refine⟨p,_,rfl,.inr ⟨kvs,kt,b,s12 _ _ hp,rfl,hb,by rw[<-List.length_map (·.1)];exact lt_size hlen,rfl⟩,?_⟩
  refine k _ _ _ (r2.mutate (o:=.dT (Y4 kvs kt y)) (l':=.dT (Xv (kvs.map (·.1)) kt) (Xw (kvs.map (·.1)) vs kt v)) (fp':=[p]) hi hpf hv (XH em) (Is.dT upd_same RG (Iss.tr (TK.upd' mu) _ _ _ (fun q hq=>by simp at hq) (RH hm' pm (i1.mono s2) pl))) (by simp) (fun q hq=>?_) (fun j hj q hq z=>r.dis i hi j hj q (by rw[ef];exact hq) z) True.intro) UG
  rw[List.mem_singleton.mp hq]
  exact⟨(r.own i hi p hpf).1,by rw[upd_same];exact True.intro⟩
 | dK ks vs=>
  obtain⟨_,eg,ed⟩:=Zd (show(gd (Zn vs&&Zx v&&decide (ks.length<=10000))).bind (fun _=>(V0 kk).map fun k=>PV.dK (Xv ks k) (Xw ks vs k v))=some d' from ed)
  have hc:=XI eg;simp only[Bool.and_eq_true,decide_eq_true_eq] at hc
  obtain⟨⟨pm,pl⟩,hlen⟩:=hc
  obtain⟨kt,e3,rfl⟩:=map_some ed
  obtain⟨p,kvs,fq,hv,hp,rfl,hm,ef⟩:=r.dK_at hi em
  refine⟨fun _=>False,s,v,fun _ z=>z.elim,r.env,e1,fun y H1 fy s1 i1 _=>⟨.ref p,hv,fun _=>False,s,kk,fun _ z=>z.elim,r.env.mono s1,e2,fun z H2 fz s2 i2 _=>?_⟩⟩
  have s12:=s1.trans s2
  obtain⟨rfl,_⟩:=Tc e3 i2
  have z1:=Is.pure _ _ _ pl i1;subst z1
  have hm':=(hm.mono s12).pureEq pm
  have z2:=Iss.pure _ _ _ pm hm;subst z2;have r2:=r.grow s12
  have hpf:p∈fps i:=by rw[ef];exact List.mem_cons_self
  have mu:=(r2.own i hi p hpf).2
  refine⟨p,_,rfl,.inl ⟨kvs,kt,s12 _ _ hp,rfl,by rw[<-List.length_map (·.1)];exact lt_size hlen,rfl⟩,?_⟩
  refine k _ _ _ (r2.mutate (o:=.dK (Y4 kvs kt y)) (l':=.dK (Xv (kvs.map (·.1)) kt) (Xw (kvs.map (·.1)) vs kt v)) (fp':=[p]) hi hpf hv (XH em) (Is.dK upd_same RG (Iss.tr (TK.upd' mu) _ _ _ (fun q hq=>by simp at hq) (RH hm' pm (i1.mono s2) pl))) (by simp) (fun q hq=>?_) (fun j hj q hq z=>r.dis i hi j hj q (by rw[ef];exact hq) z) True.intro) UG
  rw[List.mem_singleton.mp hq]
  exact⟨(r.own i hi p hpf).1,by rw[upd_same];exact True.intro⟩
 | _=>cases ed
end VL
namespace VL
open PySem PySem.Spec PyProof.Rows L2
variable {K:PySem.W.Frag}
section
variable {X:Cx} {a b c d:Expr} {fa fb fc fd:XE} {pos:Pos}
theorem Ps(hu:X.A.units+64<cLine)(ha:VE X a fa)(hb:VE X b fb):VE X (.Compare a [.Eq] [b] pos) (Zi (Wt false) fa fb):=My (Pj hu) (SG false) ha hb (UR _)
theorem Pt(hu:X.A.units+64<cLine)(ha:VE X a fa)(hb:VE X b fb):VT X (.Compare a [.Eq] [b] pos) (xB (Zi (Wt false) fa fb)):=VG (Pj hu) (SG false) ha hb (UR _)
theorem RJ(hu:X.A.units+64<cLine)(ha:VE X a fa)(hb:VE X b fb):VT X (.Compare a [.NotEq] [b] pos) (xB (Zi (Wt true) fa fb)):=VG (MG hu) (SG true) ha hb (UR _)
theorem NH(hu:X.A.units+64<cLine)(ha:VE X a fa)(hb:VE X b fb)(hm:behindInMarks .In b=false:=by with_unfolding_all rfl):VT X (.Compare a [.In] [b] pos) (xB (Zi (TM false) fa fb)):=VG (MI hu) (Pk false) ha hb hm
theorem TU(hu:X.A.units+64<cLine)(ha:VE X a fa)(hb:VE X b fb)(hm:behindInMarks .NotIn b=false:=by with_unfolding_all rfl):VT X (.Compare a [.NotIn] [b] pos) (xB (Zi (TM true) fa fb)):=VG (Qt hu) (Pk true) ha hb hm
def LQ:PV->Option Bool
 | .bl c=>some c
 | _=>none
theorem Pu{a:PV}{k:Bool}(h:LQ a=some k):a = .bl k:=by
 unfold LQ at h;split at h
 ·cases h;rfl
 ·cases h
def NI(g h:PV->PV->Option PV)(a b c:XE):XE:=fun s=>(a s).bind fun x=>(b s).bind fun y=>((g x y).bind LQ).bind fun k=>if k=true then(c s).bind fun z=>h y z else some (.bl false)
theorem Pv{r r':R2}{g h:PV->PV->Option PV}(hr:RB K r g)(hr':RB K r' h):∀Z H Q,tF K (NI g h fa fb fc) Z H Q->QU r r' (tF K fa) (tF K fb) (tF K fc) Z H Q:=fun Z H Q ⟨Rm,s,l,hd,env,e,k⟩=>by
 obtain⟨x',e1,e⟩:=Zd e
 obtain⟨y',e2,e⟩:=Zd e
 obtain⟨b,e3,e⟩:=Zd e
 obtain⟨z',e3,eb⟩:=Zd e3
 rw[Pu eb] at e3
 refine⟨Rm,s,x',hd,env,e1,fun x H1 f1 s1 i1 n1=>⟨Rm,s,y',fun p hp=>Same.mut s1 (hd p hp),env.mono s1,e2,fun y H2 f2 s2 i2 n2=>?_⟩⟩
 refine hr H2 x y x' y' _ f1 f2 (i1.mono s2) i2 e3 _ fun v H3 fp s3 i3 n3=>⟨b,i3.bl_inv.1,?_⟩
 have s123:=s1.trans (s2.trans s3)
 cases b with
 | false=>
  rw[if_neg Bool.false_ne_true] at e ⊢
  cases e
  exact k _ H3 [] s123 (Is.bl _) fun p hp=>by simp at hp
 | true=>
  rw[if_pos rfl] at e ⊢
  obtain⟨w',e4,e⟩:=Zd e
  refine⟨Rm,s,w',fun p hp=>Same.mut s123 (hd p hp),env.mono s123,e4,fun w H4 f4 s4 i4 n4=>?_⟩
  refine hr' H4 y w y' w' l f2 f4 (i2.mono (s3.trans s4)) i4 e Q fun v H5 fp5 s5 i5 n5=>k v H5 fp5 (s123.trans (s4.trans s5)) i5 fun p hp z=>?_
  rcases n5 p hp with q | q | q
  ·exact n2 p q z
  ·exact n4 p q z
  ·exact Z8 (Same.mut (s123.trans s4) (hd p z)) q
theorem Pw{op op':CmpOp}{r r':R2}{g h:PV->PV->Option PV}(ho:XX X (compareOp op) r)(ho':XX X (compareOp op') r')(hr:RB X.K r g)(hr':RB X.K r' h)(ha:VE X a fa)(hb:VE X b fb)(hc:VE X c fc)
  (hm:lastMarks [op,op'] [b,c]=false:=by with_unfolding_all rfl):VT X (.Compare a [op,op'] [b,c] pos) (xB (NI g h fa fb fc)):=PT.imp (QV ho ho' ha hb hc hm) fun Z H Q q=>VF (Pv hr hr') Z H Q (TJ Z H Q q)
end
section
variable {X:Cx} {a b:Expr} {fa fb:XE} {pos:Pos}
def gCat:PV->PV->Option PV
 | .lst m,.lst n=>if m.length+n.length<=10000 then some (.lst (m++n)) else none
 | _,_=>none
def Px:PV->PV->Option PV
 | .lst m,.lst n=>if m.length+n.length<=10000/\Zn m=true/\Zn n=true then some (.lst (m++n)) else none
 | _,_=>none
theorem O7(ha:VE X a fa)(hb:VE X b fb):VM X (.BinOp a .Add b pos) (Zi Px fa fb):=PE.imp (QT Mm ha hb) fun Z H Q ⟨s,l,env,e,k⟩=>by
 obtain⟨x',y',e1,e2,e⟩:=X9 e
 refine⟨fun _=>False,s,x',fun _ z=>z.elim,env,e1,fun x H1 f1 s1 i1 _=>⟨fun _=>False,s,y',fun _ z=>z.elim,env.mono s1,e2,fun y H2 f2 s2 i2 _=>?_⟩⟩
 cases x' with
 | lst m=>cases y' with
  | lst n=>
   have e:(if m.length+n.length<=10000/\Zn m=true/\Zn n=true then some (PV.lst (m++n)) else none)=some l:=e
   split at e
   case isFalse=>cases e
   rename_i hl
   cases e
   obtain⟨p,xs,fq,rfl,hp,hi,rfl⟩:=i1.lst_inv
   obtain⟨p',ys,fq',rfl,hp',hi',rfl⟩:=i2.lst_inv
   refine⟨p,p',xs,ys,rfl,rfl,s2 _ _ hp,hp',by rw[hi.len,hi'.len];exact Nat.le_of_lt (lt_size hl.1),fun q hq=>?_⟩
   refine k _ _ [q] (s1.trans (s2.trans (Same.new hq _))) (Is.lst upd_same ((((hi.mono s2).pureEq hl.2.1).append (hi'.pureEq hl.2.2)).mono (Same.new hq _))) (by simp) fun r hr=>?_
   rw[List.mem_singleton.mp hr]
   exact⟨Same.off (s1.trans s2) hq,by rw[upd_same];exact True.intro⟩
  | _=>cases e
 | _=>cases e
def Te:PV->PV->Option PV
 | .lst m,.int k=>if Zn m=true/\-1000000<=k/\k<=1000000/\m.length*k.toNat<=10000 then some (.lst (List.replicate k.toNat m).flatten) else none
 | _,_=>none
theorem Iss.rep{H:Hp}{m:List PV}{xs:List V}(h:Iss K H m xs []):∀k:Nat,Iss K H (List.replicate k m).flatten (List.replicate k xs).flatten []
 | 0=>Iss.nil
 | k+1=>by
  rw[List.replicate_succ,List.replicate_succ,List.flatten_cons,List.flatten_cons]
  exact h.append (Iss.rep h k)
theorem Py(ha:VE X a fa)(hb:VE X b fb):VM X (.BinOp a .Mult b pos) (Zi Te fa fb):=PE.imp (QT Mn ha hb) fun Z H Q ⟨s,l,env,e,k⟩=>by
 obtain⟨x',y',e1,e2,e⟩:=X9 e
 refine⟨fun _=>False,s,x',fun _ z=>z.elim,env,e1,fun x H1 f1 s1 i1 _=>⟨fun _=>False,s,y',fun _ z=>z.elim,env.mono s1,e2,fun y H2 f2 s2 i2 _=>?_⟩⟩
 cases x' with
 | lst m=>cases y' with
  | int n=>
   have e:(if Zn m=true/\-1000000<=n/\n<=1000000/\m.length*n.toNat<=10000 then some (PV.lst (List.replicate n.toNat m).flatten) else none)=some l:=e
   split at e
   case isFalse=>cases e
   rename_i hl
   cases e
   obtain⟨p,xs,fq,rfl,hp,hi,rfl⟩:=i1.lst_inv
   refine⟨p,n,xs,rfl,i2.int_inv.1,s2 _ _ hp,by omega,by omega,by rw[hi.len];exact Nat.le_of_lt (lt_size hl.2.2.2),fun q hq=>?_⟩
   refine k _ _ [q] (s1.trans (s2.trans (Same.new hq _))) (Is.lst upd_same ((Iss.rep ((hi.mono s2).pureEq hl.1) n.toNat).mono (Same.new hq _))) (by simp) fun r hr=>?_
   rw[List.mem_singleton.mp hr]
   exact⟨Same.off (s1.trans s2) hq,by rw[upd_same];exact True.intro⟩
  | _=>cases e
 | _=>cases e
end
theorem Iss.fps{H:Hp}:∀{ls:List PV}{vs:List V}{fp:List Addr},Iss K H ls vs fp->∃fps:Nat->List Addr,(∀(i:Nat) l,ls[i]?=some l->∃v,vs[i]?=some v/\Is K H l v (fps i))/\∀i,ls.length<=i->fps i=[]
 | [],vs,fp,h=>⟨fun _=>[],fun i l e=>by simp at e,fun _ _=>rfl⟩
 | a::ls,vs,fp,h=>by
  obtain⟨x,r,f1,f2,rfl,h1,h2,rfl⟩:=h.inv
  obtain⟨fps,p1,p2⟩:=h2.fps
  refine⟨fun i=>match i with | 0=>f1 | k+1=>fps k,fun i l e=>?_,fun i hi=>?_⟩
  ·cases i with
   | zero=>simp at e;subst e;exact⟨x,rfl,h1⟩
   | succ k=>
    obtain⟨v,a,b⟩:=p1 k l (by simpa using e)
    exact⟨v,by simpa using a,b⟩
  ·cases i with
   | zero=>simp at hi
   | succ k=>exact p2 k (by simpa using hi)
def ZH(m:Nat)(ls:List PV):Zy:=ls.map some++List.replicate (m-ls.length) none
def WQ:Pm->Option PV
 | .rt v=>some v
 | .nx _=>some .non
 | _=>none
def Xp(m:Nat)(f:XS):List PV->Option PV:=fun ls=>(f (ZH m ls)).bind WQ
theorem RK{N:List Str}{n:Nat}{O W:List Nat}{f:XS}{vs:List V}{H:Hp}{Q:VK}{E:XK}(hO:∀i∈O,n<=i)(h:Y7 K (Xp N.length f) n vs H Q E):O2 K O W f { nx:=fun _ H'=>Q .non H',rt:=Q } (L2.start N vs) H:=by
 obtain⟨hl,ls,fp,l,hi,e,q⟩:=h
 obtain⟨out,e1,e2⟩:=Zd e
 obtain⟨fps,p1,p2⟩:=hi.fps
 have hlen:=hi.len
 have hout:∀i:Nat,ls.length<=i->∀l,(ZH N.length ls)[i]?≠some (some l):=fun i hi l z=>by
  unfold ZH at z;rw[List.getElem?_append_right (by simpa using hi),List.getElem?_replicate] at z
  split at z<;>cases z
 have rel:Rel K O H fps (ZH N.length ls) (L2.start N vs) H:=by
  refine⟨Same.refl H,?_,fun i a z=>?_,fun i hne=>?_,fun i hi=>?_,fun i hi p hp=>?_,fun i hi j hj p hp=>?_⟩
  ·unfold ZH L2.start;simp[hlen]
  ·by_cases hil:i<ls.length
   ·unfold ZH at z
    rw[List.getElem?_append_left (by simpa using hil),List.getElem?_map] at z
    cases q:ls[i]? with
    | none=>rw[q] at z;cases z
    | some b=>
     rw[q] at z;cases z
     obtain⟨v,a1,b1⟩:=p1 i a q
     refine⟨v,?_,b1⟩
     unfold L2.start
     rw[List.getElem?_append_left (by simpa [hlen] using hil),List.getElem?_map,a1];rfl
   ·exact absurd z (hout i (by omega) a)
  ·by_cases hil:i<ls.length
   ·exact absurd (by unfold ZH;rw[List.getElem?_append_left (by simpa using hil),List.getElem?_map,List.getElem?_eq_getElem hil];rfl) (hne ls[i])
   ·exact p2 i (by omega)
  ·rw[p2 i (by have:=hO i hi;omega)];exact List.nodup_nil
  ·rw[p2 i (by have:=hO i hi;omega)] at hp;simp at hp
  ·rw[p2 i (by have:=hO i hi;omega)] at hp;simp at hp
 refine⟨H,fps,ZH N.length ls,out,rel,e1,?_⟩
 cases out with
 | nx s'=>
  cases e2
  exact fun fps' Z' H' r' _=>q .non H' [] r'.same Is.non List.nodup_nil fun p hp=>by simp at hp
 | rt v=>
  cases e2
  exact fun v fp H' sm i d n=>q v H' fp sm i d n
 | bk s'=>cases e2
 | ct s'=>cases e2
section
variable {P:Program} {w:World} {mg:Str->Option Value} {base:Heap}
theorem Yq{x:Str}{st:Stmt}{N ps:List Str}{k n:Nat}{O W:List Nat}(m:Nat)(f:XS)(D:Def K mg x st)(S:Zz N ps (Zk st))
  (hb:∀(kV doc pm:Value)(an:Option Addr)(cdv ct:Value)(us:List Value),us.length=ps.length->bindArgs (PySem.W.fnOf x x (YT st) (Z7 st) (Zk st) .none kV doc pm an cdv ct) ⟨us,[]⟩=pure (ps.zip us))
  (hn:ps.length=n) (hm:N.length=m) (hO:∀i∈O,n<=i)
  (hbody:∀(fa:Addr)(cdv:Value)(A:Around)(outer:List Env)(s:Shared)(H:Hp)(E:XK),Room k (A.deeper (envOfC x (Zk st) s.heap.objs.size fa cdv))->O3 (US Ro P w K mg base N x (Zk st) fa cdv A outer s H E).nox O W (Z7 st) f) :
  XQ P w K mg base x ps (Y7 K (Xp m f) n) (k+1):=by
 subst hm
 refine D.cal S hb (fun vs H Q E h=>by rw[hn];exact h.1) fun fa cdv A outer s H vs Q E hr h=>⟨_,hbody fa cdv A outer s H E hr,RK hO h⟩
end
end VL
namespace VL
open PySem PySem.Spec PyProof.Rows L2
variable {K:PySem.W.Frag}
theorem Inv.thaw{X:Cx}{pins:List (Addr×Obj)}{Z:W9}{H:Hp}{s:Shared}{d:Addr}{kvs:List (List ZR×V)}{o:Obj}(I:L2.Inv X pins Z H s)(hd:H d=some (.frz o (.dT kvs)))(h0:∀o u,X.H₀ d≠some (.frz o u)) :
  L2.Inv X pins Z (upd H d (.dT kvs)) s:=by
 have ne:∀b u,H b=some u->(∀o v,u≠.frz o v)->b≠d:=fun b u q n z=>by rw[z,hd] at q;exact n _ _ (Option.some.inj q).symm
 have nn:∀b,H b=none->b≠d:=fun b q z=>by rw[z,hd] at q;cases q
 have hok:HOk X.prog X.w (upd H d (.dT kvs)) s.heap:=fun b u q=>by
  have hown:∀c y,H c=some (.own y)->upd H d (.dT kvs) c=some (.own y):=fun c y z=>by rw[upd_ne (ne c _ z fun _ _ z=>nomatch z)];exact z
  have htup:∀c xs,H c=some (.tup xs)->upd H d (.dT kvs) c=some (.tup xs):=fun c y z=>by rw[upd_ne (ne c _ z fun _ _ z=>nomatch z)];exact z
  by_cases hb:b=d
  ·subst hb
   rw[upd_same] at q;cases q
   obtain⟨_,x⟩:=(show ObjOk X.prog X.w H s.heap b (.frz o (.dT kvs)) from I.hok b _ hd)
   exact ObjOk.stay x (fun _ _ _ z=>z) (fun c z=>hown c _ z) htup
  ·rw[upd_ne hb] at q
   exact(I.hok b u q).stay (fun _ _ _ z=>z) (fun c z=>hown c _ z) htup
 refine⟨I.ok,I.os,I.bare,⟨I.base.keep,I.base.slot,fun b o q n hx=>?_,I.base.there,fun b xs q=>?_,fun b o u q=>?_,fun b ps q=>?_⟩,I.loc,I.cell,?_,fun x c e=>?_,fun p hp=>?_,hok,I.len⟩
 ·have z:=I.base.free b o q n hx
  rw[upd_ne (nn b z)];exact z
 ·have z:=I.base.tups b xs q
  rw[upd_ne (ne b _ z fun _ _ z=>nomatch z)];exact z
 ·have z:=I.base.frzs b o u q
  have hb:b≠d:=fun e=>h0 o u (by rw[<-e];exact q)
  rw[upd_ne hb];exact z
 ·obtain⟨more,z⟩:=I.base.tbls b ps q
  exact⟨more,by rw[upd_ne (ne b _ z fun _ _ z=>nomatch z)];exact z⟩
 ·rw[upd_ne (nn _ I.free)];exact I.free
 ·rw[upd_ne (nn _ (I.freeC x c e))];exact I.freeC x c e
 ·obtain⟨a,b,c⟩:=I.pin p hp
  exact⟨a,by rw[upd_ne (nn _ b)];exact b,c⟩
def thaw(d:Addr)(kvs:List (List ZR×V))(D:X2):X2 where
 nx:=fun Z H=>(∃o,H d=some (.frz o (.dT kvs)))/\D.nx Z (upd H d (.dT kvs))
 bk:=fun Z H=>(∃o,H d=some (.frz o (.dT kvs)))/\D.bk Z (upd H d (.dT kvs))
 ct:=fun Z H=>(∃o,H d=some (.frz o (.dT kvs)))/\D.ct Z (upd H d (.dT kvs))
 rt:=fun v H=>(∃o,H d=some (.frz o (.dT kvs)))/\D.rt v (upd H d (.dT kvs))
def NJ(i:Nat)(g:TG)(tb:TS):TS:=fun D Z H=>∃d kvs,Z[i]?=some (some (.ref d))/\
 ((H d=some (.dT kvs)/\∀o,Mu g tb (thaw d kvs D) Z (Ms d o kvs) (upd H d (.frz o (.dT kvs))))\/∃o,H d=some (.frz o (.dT kvs))/\Mu g tb D Z (Ms d o kvs) H)
theorem RL{X:Cx}{st:Stmt}{i:Nat}{g:TG}{tb:TS}(h:PS X st (Om (Rp (Wu i)) g tb)):PS X st (NJ i g tb):=by
 intro pins s Z H D I hq
 obtain⟨d,kvs,hv,alt⟩:=hq
 rcases alt with⟨hd,q⟩ | ⟨o,hd,q⟩
 ·have h0:∀o u,X.H₀ d≠some (.frz o u):=fun o u z=>by
   have:=I.base.frzs d o u z
   rw[hd] at this;cases this
  have main:=h pins s Z H (thaw d kvs D) I ⟨.ref d,hv,d,kvs,rfl,.inl ⟨hd,q⟩⟩
  refine ZV main fun f s' hsp=>?_
  cases f with
  | next=>
   obtain⟨Z',H',I',⟨o,ho⟩,q'⟩:=hsp
   exact⟨Z',_,Inv.thaw I' ho h0,q'⟩
  | brk=>
   obtain⟨Z',H',I',⟨o,ho⟩,q'⟩:=hsp
   exact⟨Z',_,Inv.thaw I' ho h0,q'⟩
  | cont=>
   obtain⟨Z',H',I',⟨o,ho⟩,q'⟩:=hsp
   exact⟨Z',_,Inv.thaw I' ho h0,q'⟩
  | ret u=>
   obtain⟨v,Z',H',I',r',⟨o,ho⟩,q'⟩:=hsp
   exact⟨v,Z',_,Inv.thaw I' ho h0,r',q'⟩
 ·exact h pins s Z H D I ⟨.ref d,hv,d,kvs,rfl,.inr ⟨o,hd,q⟩⟩
def O8(k:List ZR):PV:=.tup (k.map kP)
theorem TV{Rm:Addr->Prop}{H1:Hp}{d:Addr}{o:Obj}{kvs:List (List ZR×V)}(hd:H1 d=some (.frz o (.dT kvs)))(hn:¬Rm d):L4 K Rm H1 (Ms d o kvs) ((kvs.map (·.1)).map O8):=by
 refine⟨fun H' ab=>⟨ab d _ hd hn,by simp⟩,fun H' i l ab hl=>⟨ab d _ hd hn,by have:=(List.getElem?_eq_some_iff.mp hl).1;simpa using this⟩,fun H' i l x H'' ab hl y=>?_⟩
 obtain⟨rfl,b,k,v,hk,rfl,hb⟩:=y
 rw[List.getElem?_map,List.getElem?_map,hk] at hl;cases hl
 exact⟨Same.refl _,[],Is.tup hb (Pq k),fun p hp=>by simp at hp⟩
def UJ:PV->Option (List PV)
 | .dT ks _=>some (ks.map O8)
 | _=>none
def V3(i:Nat)(T:Tgt)(fb:XS):XS:=fun s=>((s[i]?).join.bind UJ).bind fun ls=>YL T fb ls s
theorem Rd.dT_inj{H:Hp}{p:Addr}{xs ys:List (List ZR×V)}(a:Rd H p (.dT xs))(b:Rd H p (.dT ys)):xs=ys:=by
 rcases a with a | ⟨o,a⟩<;>rcases b with b | ⟨o',b⟩<;>rw[a] at b<;>cases b<;>rfl
theorem RdK.swap{H H':Hp}{d:Addr}{kvs:List (List ZR×V)}(h:Rd H d (.dT kvs))(h':Rd H' d (.dT kvs))(hs:∀b,b≠d->H' b=H b)(p:Addr):RdK H H' p:=by
 by_cases hp:p=d
 ·subst hp
  refine⟨fun xs z=>?_,fun k z=>?_,fun k z=>?_⟩
  ·rcases h with h | ⟨o,h⟩<;>rw[h] at z<;>cases z
  ·rcases h with h | ⟨o,h⟩<;>rcases z with z | ⟨o',z⟩<;>rw[h] at z<;>cases z
  ·rw[<-Rd.dT_inj h z];exact h'
 ·exact RdK.of fun o z=>by rw[hs p hp];exact z
theorem TK2.swap{H H':Hp}{d:Addr}{kvs:List (List ZR×V)}(h:Rd H d (.dT kvs))(hs:∀b,b≠d->H' b=H b):TK2 H H':=by
 have ne:∀b u,H b=some u->(∀k,u≠.dT k)->(∀o k,u≠.frz o (.dT k))->b≠d:=fun b u q n n' z=>by
  rw[z] at q
  rcases h with h | ⟨o,h⟩<;>rw[h] at q<;>cases q
  ·exact n _ rfl
  ·exact n' _ _ rfl
 exact⟨fun b xs z=>by rw[hs b (ne b _ z (fun _ z=>nomatch z) fun _ _ z=>nomatch z)];exact z,fun b o xs z=>by rw[hs b (ne b _ z (fun _ z=>nomatch z) fun o k z=>by cases z)];exact z,fun b o xs z=>by rw[hs b (ne b _ z (fun _ z=>nomatch z) fun o k z=>by cases z)];exact z⟩
section
variable {O W:List Nat} {T:Tgt} {fb:XS} {i:Nat}
theorem UK{O':List Nat}{H0 H:Hp}{fps:Nat->List Addr}{s:Zy}{Z:W9}{D:X2}{out:Pm}{ks:List (List ZR)}{vs:List PV}(r:Rel K O H0 fps s Z H)(hO':∀j∈O',j∈O/\j≠i)(e:s[i]?=some (some (.dT ks vs)))
  (ef:YL T fb (ks.map O8) s=some out) (hT:∀j∈T.slots,j∉O')
  (k:∀(F:Hp)(th:Hp->Hp),(∀b,H b≠none->¬Ow O' fps b->F b≠none)->Same H0 (th F)->(∀H',Same F H'->Same (th F) (th H')/\TK2 H' (th H')/\(∀p,RdK H' (th H') p)/\(∀p,F p=none->th H' p=H' p)/\(∀p,p∈fps i->¬Ow O' fps p->H p=th H' p))->(∀p,F p=none->H0 p=none)->
   ∀out',out=out'->match out' with
    | .nx s'=>∀fps' Z' H',Rel K O' F fps' s' Z' H'->(∀j,j∉T.slots++W->Z'[j]?=Z[j]?/\Kep (fps' j) (fps j))->D.nx Z' (th H')
    | .rt l=>∀v fp H',Same F H'->Is K H' l v fp->fp.Nodup->(∀p∈fp,F p=none/\Xb (H' p))->D.rt v (th H')
    | _=>True):NJ i (gT K T) (O2 K O' W fb) D Z H:=by
 obtain⟨v,hv,iv⟩:=r.is i _ e
 obtain⟨d,kvs,fq,rfl,hd,rfl,hi,efp⟩:=iv.dT_inv
 have dO:¬Ow O' fps d:=fun⟨j,hj,hp⟩=>r.dis j (hO' j hj).1 i (Ne.symm (hO' j hj).2) d hp (by rw[efp];exact List.mem_cons_self)
 have owm:∀p,Ow O' fps p->H0 p=none/\Xb (H p):=fun p ⟨j,hj,hp⟩=>r.own j (hO' j hj).1 p hp
 -- the frame and the relation at the loop's start,in a heap that differs from H at d alone
 have start:∀H2:Hp,Rd H2 d (.dT kvs)->(∀b,b≠d->H2 b=H b)->Rel K O' (Yv H2 (Ow O' fps)) fps s Z H2:=fun H2 h2 hs=>by
  refine⟨UF,r.len,fun j l q=>?_,r.emp,fun j hj=>r.nd j (hO' j hj).1,fun j hj p hp=>⟨by unfold Yv;rw[if_pos ⟨j,hj,hp⟩],?_⟩,fun j hj=>r.dis j (hO' j hj).1⟩
  ·obtain⟨w,a,b⟩:=r.is j l q
   exact⟨w,a,Is.tr (TK2.swap hd hs) _ _ _ (fun p _=>RdK.swap hd h2 hs p) b⟩
  ·have pd:p≠d:=fun z=>dO ⟨j,hj,z▸hp⟩
   rw[hs p pd];exact(r.own j (hO' j hj).1 p hp).2
 have outk:∀(F:Hp)(th:Hp->Hp)(D':X2),(∀Z' H',Same F H'->D.nx Z' (th H')->D'.nx Z' H')->(∀v H',Same F H'->D.rt v (th H')->D'.rt v H')->(∀b,H b≠none->¬Ow O' fps b->F b≠none)->Same H0 (th F)->(∀H',Same F H'->Same (th F) (th H')/\TK2 H' (th H')/\(∀p,RdK H' (th H') p)/\(∀p,F p=none->th H' p=H' p)/\(∀p,p∈fps i->¬Ow O' fps p->H p=th H' p))->(∀p,F p=none->H0 p=none)->(∀s',out≠.bk s')->(∀s',out≠.ct s')->OutOk K O' (T.slots++W) F fps Z D' out:=fun F th D' h1 h2 h3 h4 h5 h6 hb hc=>by
  have kk:=k F th h3 h4 h5 h6 out rfl
  cases out with
  | nx s'=>exact fun fps' Z' H' r' q'=>h1 Z' H' r'.same (kk fps' Z' H' r' q')
  | rt l=>exact fun v fp H' sm i d n=>h2 v H' sm (kk v fp H' sm i d n)
  | bk s'=>exact absurd rfl (hb s')
  | ct s'=>exact absurd rfl (hc s')
 have nobc:(∀s',out≠.bk s')/\(∀s',out≠.ct s'):=by
  have:∀(ls:List PV)(s:Zy)(o:Pm),YL T fb ls s=some o->(∀s',o≠.bk s')/\(∀s',o≠.ct s'):=by
   intro ls
   induction ls with
   | nil=>intro s o h;cases h;exact⟨fun _ z=>(nomatch z),fun _ z=>(nomatch z)⟩
   | cons l rr ih=>
    intro s o h;unfold YL at h
    obtain⟨s1,_,h⟩:=Zd h
    obtain⟨o1,_,h⟩:=Zd h
    cases o1 with
    | nx s2=>exact ih s2 o h
    | ct s2=>exact ih s2 o h
    | bk s2=>cases h;exact⟨fun _ z=>(nomatch z),fun _ z=>(nomatch z)⟩
    | rt v=>cases h;exact⟨fun _ z=>(nomatch z),fun _ z=>(nomatch z)⟩
  exact this _ _ _ ef
 rcases hd with hd | ⟨o,hd⟩
 ·refine⟨d,kvs,hv,.inl ⟨hd,fun o=>?_⟩⟩
  have h2:upd H d (.frz o (.dT kvs)) d=some (.frz o (.dT kvs)):=upd_same
  have hs:∀b,b≠d->upd H d (.frz o (.dT kvs)) b=H b:=fun b hb=>upd_ne hb
  have Fd:Yv (upd H d (.frz o (.dT kvs))) (Ow O' fps) d=some (.frz o (.dT kvs)):=by unfold Yv;rw[if_neg dO];exact h2
  refine VZ (K:=K) (start _ (.inr ⟨o,h2⟩) hs) (TV h2 dO) ef hT (outk _ (fun Hx=>upd Hx d (.dT kvs)) (thaw d kvs D) (fun Z' H' sm q=>⟨⟨o,sm d _ Fd⟩,q⟩) (fun v H' sm q=>⟨⟨o,sm d _ Fd⟩,q⟩) (fun b hb nb=>?_) (fun b u h=>?_) (fun H' sm=>⟨?_,?_,fun p=>?_,fun p hp=>?_,fun p hp np=>?_⟩) (fun p hp=>?_) nobc.1 nobc.2)
  ·unfold Yv;rw[if_neg nb]
   by_cases e:b=d
   ·subst e;rw[h2];simp
   ·rw[hs b e];exact hb
  ·by_cases e:b=d
   ·subst e
    have:=r.same b u h
    rw[hd] at this;cases this;exact upd_same
   ·rw[upd_ne e]
    unfold Yv
    rw[if_neg (fun z=>by rw[(owm b z).1] at h;cases h),hs b e]
    exact r.same b u h
  ·intro b u h
   by_cases e:b=d
   ·subst e;rw[upd_same] at h ⊢;exact h
   ·rw[upd_ne e] at h ⊢;exact sm b u h
  ·exact TK2.swap (d:=d) (kvs:=kvs) (.inr ⟨o,sm d _ Fd⟩) fun b hb=>upd_ne hb
  ·exact RdK.swap (d:=d) (kvs:=kvs) (.inr ⟨o,sm d _ Fd⟩) (.inl upd_same) (fun b hb=>upd_ne hb) p
  ·exact upd_ne fun e=>by rw[e,Fd] at hp;cases hp
  ·by_cases e:p=d
   ·subst e;rw[hd];exact upd_same.symm
   ·show H p=upd H' d (.dT kvs) p
    rw[upd_ne e];have hpn:=r.dom i p hp
    cases q:H p with
    | none=>exact absurd q hpn
    | some u=>exact(sm p u (by unfold Yv;rw[if_neg np,hs p e];exact q)).symm
  ·cases q:H0 p with
   | none=>rfl
   | some u=>
    exfalso
    have hpd:p≠d:=fun e=>by rw[e,Fd] at hp;cases hp
    unfold Yv at hp
    rw[if_neg (fun z=>by rw[(owm p z).1] at q;cases q),hs p hpd,r.same p u q] at hp
    cases hp
 ·refine⟨d,kvs,hv,.inr ⟨o,hd,?_⟩⟩
  have Fd:Yv H (Ow O' fps) d=some (.frz o (.dT kvs)):=by unfold Yv;rw[if_neg dO];exact hd
  refine VZ (K:=K) (start H (.inr ⟨o,hd⟩) fun _ _=>rfl) (TV hd dO) ef hT (outk _ (fun Hx=>Hx) D (fun Z' H' sm q=>q) (fun v H' sm q=>q) (fun b hb nb=>by unfold Yv;rw[if_neg nb];exact hb) (fun b u h=>?_) (fun H' sm=>⟨sm,Same.tk2 (Same.refl _),fun p=>RdK.of fun _ z=>z,fun p _=>rfl,fun p hp np=>?_⟩) (fun p hp=>?_) nobc.1 nobc.2)
  ·unfold Yv
   rw[if_neg (fun z=>by rw[(owm b z).1] at h;cases h)]
   exact r.same b u h
  ·have hpn:=r.dom i p hp
   cases q:H p with
   | none=>exact absurd q hpn
   | some u=>exact(sm p u (by unfold Yv;rw[if_neg np];exact q)).symm
  ·cases q:H0 p with
   | none=>rfl
   | some u=>
    exfalso;unfold Yv at hp
    rw[if_neg (fun z=>by rw[(owm p z).1] at q;cases q),r.same p u q] at hp
    cases hp
end
section
variable {X:Cx} {O O' W:List Nat} {T:Tgt} {fb:XS} {i:Nat} {st:Stmt}
theorem RM(h:PS X st (Om (Rp (Wu i)) (gT X.K T) (O2 X.K O W fb)))(hi:i∉O:=by decide)(hT:∀j∈T.slots,j∉O:=by decide):VS X O (T.slots++W) st (V3 i T fb):=PS.imp (RL h) fun D Z H ⟨H0,fps,s,out,r,e,k⟩=>by
 obtain⟨ls,e1,e⟩:=Zd e
 obtain⟨d,e2,e3⟩:=Zd e1
 have e2:=join_some e2
 cases d with
 | dT ks vs=>
  cases e3
  refine UK (O':=O) r (fun j hj=>⟨hj,fun z=>hi (z▸hj)⟩) e2 e hT fun F th _ h4 h5 h6 out' eo=>?_
  subst eo
  cases out with
  | nx s'=>
   intro fps' Z' H' r' q'
   obtain⟨t1,t2,t3,t4,_⟩:=h5 H' r'.same
   refine k fps' Z' (th H') ⟨h4.trans t1,r'.len,fun j l q=>?_,r'.emp,r'.nd,fun j hj p hp=>⟨h6 p (r'.own j hj p hp).1,by rw[t4 p (r'.own j hj p hp).1];exact(r'.own j hj p hp).2⟩,r'.dis⟩ q'
   obtain⟨v,a,b⟩:=r'.is j l q
   exact⟨v,a,Is.tr t2 _ _ _ (fun p _=>t3 p) b⟩
  | rt l=>
   intro v fp H' sm is nd fr
   obtain⟨t1,t2,t3,t4,_⟩:=h5 H' sm
   exact k v fp (th H') (h4.trans t1) (Is.tr t2 _ _ _ (fun p _=>t3 p) is) nd fun p hp=>⟨h6 p (fr p hp).1,by rw[t4 p (fr p hp).1];exact(fr p hp).2⟩
  | bk s'=>trivial
  | ct s'=>trivial
 | _=>cases e3
def Yi(O:List Nat):Nat->Zy->Zy
 | _,[]=>[]
 | k,o::r=>(if k∈O then o else match o with | some l=>if Zx l=true then some l else none | none=>none)::Yi O (k+1) r
theorem XZ{O:List Nat}:∀{s:Zy}{k j:Nat}{l:PV},(Yi O k s)[j]?=some (some l)->s[j]?=some (some l)/\(k+j∈O\/Zx l=true)
 | [],k,j,l,h=>by simp[Yi] at h
 | o::r,k,0,l,h=>by
  unfold Yi at h;simp only[List.getElem?_cons_zero,Option.some.injEq] at h
  by_cases hk:k∈O
  ·rw[if_pos hk] at h;exact⟨by simp[h],.inl hk⟩
  ·rw[if_neg hk] at h
   cases o with
   | none=>cases h
   | some a=>
    simp only at h
    split at h
    ·cases h;exact⟨rfl,.inr (by assumption)⟩
    ·cases h
 | o::r,k,j+1,l,h=>by
  unfold Yi at h;rw[List.getElem?_cons_succ] at h
  obtain⟨a,b⟩:=XZ h
  exact⟨by simpa using a,by rw[show k+(j+1)=k+1+j by omega];exact b⟩
theorem V4{O:List Nat}:∀{s:Zy}{k:Nat},(Yi O k s).length=s.length
 | [],_=>rfl
 | o::r,k=>by unfold Yi;rw[List.length_cons,List.length_cons,V4]
def SR(O:List Nat):Pm->Pm
 | .nx s=>.nx (Yi O 0 s)
 | o=>o
def X0(O:List Nat)(i:Nat)(T:Tgt)(fb:XS):XS:=fun s=>((s[i]?).join.bind UJ).bind fun ls=>(YL T fb ls s).map (SR O)
open Classical in
theorem Pz(h:PS X st (Om (Rp (Wu i)) (gT X.K T) (O2 X.K O' W fb)))(hi:i∈O:=by decide)(hO:∀j,j∈O'↔(j∈O/\j≠i))(hT:∀j∈T.slots,j∉O:=by decide)(hW:i∉T.slots++W:=by decide):VS X O (T.slots++W) st (X0 O i T fb):=PS.imp (RL h) fun D Z H ⟨H0,fps,s,out,r,e,k⟩=>by
 obtain⟨ls,e1,e⟩:=Zd e
 obtain⟨d,e2,e3⟩:=Zd e1
 obtain⟨out0,e5,rfl⟩:=map_some e
 have e2:=join_some e2
 cases d with
 | dT ks vs=>
  cases e3
  refine UK (O':=O') r (fun j hj=>(hO j).mp hj) e2 e5 (fun j hj z=>hT j hj ((hO j).mp z).1) fun F th h3 h4 h5 h6 out' eo=>?_
  subst eo
  cases out0 with
  | nx s'=>
   intro fps' Z' H' r' q'
   obtain⟨t1,t2,t3,t4,t5⟩:=h5 H' r'.same
   have ki:=q' i hW
   have fi:∀p∈fps i,¬Ow O' fps p:=fun p hp ⟨j,hj,z⟩=>r.dis i hi j ((hO j).mp hj).2 p hp z
   have Fi:∀p∈fps i,F p≠none:=fun p hp=>h3 p (r.dom i p hp) (fi p hp)
   have sub:∀p,p∈fps' i->p∈fps i:=fun p hp=>by
    rcases ki.2 with z | z
    ·rw[<-z];exact hp
    ·rw[z] at hp;simp at hp
   have ow':∀j∈O',∀p∈fps' j,F p=none:=fun j hj p hp=>(r'.own j hj p hp).1
   have inO:∀j∈O,j≠i->j∈O':=fun j hj n=>(hO j).mpr ⟨hj,n⟩
   have get:∀j p,p∈(if(Yi O 0 s')[j]?=s'[j]? then fps' j else [])->p∈fps' j/\(Yi O 0 s')[j]?=s'[j]?:=fun j p hp=>by
    split at hp
    ·exact⟨hp,by assumption⟩
    ·simp at hp
   refine k (fun j=>if(Yi O 0 s')[j]?=s'[j]? then fps' j else []) Z' (th H') ⟨h4.trans t1,by rw[V4];exact r'.len,fun j l q=>?_,fun j hne=>?_,fun j hj=>?_,fun j hj p hp=>?_,fun j hj m hm p hp z=>?_⟩ fun j hj=>⟨(q' j hj).1,?_⟩
   ·obtain⟨q1,_⟩:=XZ q
    obtain⟨v,a,b⟩:=r'.is j l q1
    rw[if_pos (q.trans q1.symm)]
    exact⟨v,a,Is.tr t2 _ _ _ (fun p _=>t3 p) b⟩
   ·show(if(Yi O 0 s')[j]?=s'[j]? then fps' j else [])=[]
    split
    ·rename_i h;exact r'.emp j fun l z=>hne l (by rw[h];exact z)
    ·rfl
   ·show(if(Yi O 0 s')[j]?=s'[j]? then fps' j else []).Nodup
    split
    ·by_cases e:j=i
     ·subst e
      rcases ki.2 with z | z
      ·rw[z];exact r.nd j hi
      ·rw[z];exact List.nodup_nil
     ·exact r'.nd j (inO j hj e)
    ·exact List.nodup_nil
   ·obtain⟨hp,_⟩:=get j p hp
    by_cases e:j=i
    ·subst e
     have hp:=sub p hp
     exact⟨(r.own j hi p hp).1,by rw[<-t5 p hp (fi p hp)];exact(r.own j hi p hp).2⟩
    ·have o:=r'.own j (inO j hj e) p hp
     exact⟨h6 p o.1,by rw[t4 p o.1];exact o.2⟩
   ·obtain⟨hp,_⟩:=get j p hp
    obtain⟨zp,zc⟩:=get m p z
    by_cases e:j=i
    ·subst e
     have hpi:=sub p hp
     by_cases hmO:m∈O'
     ·exact Fi p hpi (ow' m hmO p zp)
     ·obtain⟨l,v,ql,_,b⟩:=r'.at m zp
      rw[ql] at zc
      obtain⟨_,alt⟩:=XZ zc
      rcases alt with alt | alt
      ·rw[Nat.zero_add] at alt
       exact hmO (inO m alt hm)
      ·rw[Is.pure _ _ _ alt b] at zp;simp at zp
    ·exact r'.dis j (inO j hj e) m hm p hp zp
   ·show Kep (if(Yi O 0 s')[j]?=s'[j]? then fps' j else []) (fps j)
    split
    ·exact(q' j hj).2
    ·exact .inr rfl
  | rt l=>
   intro v fp H' sm is nd fr
   obtain⟨t1,t2,t3,t4,_⟩:=h5 H' sm
   exact k v fp (th H') (h4.trans t1) (Is.tr t2 _ _ _ (fun p _=>t3 p) is) nd fun p hp=>⟨h6 p (fr p hp).1,by rw[t4 p (fr p hp).1];exact(fr p hp).2⟩
  | bk s'=>trivial
  | ct s'=>trivial
 | _=>cases e3
end
end VL
namespace VL
open PySem PySem.Spec PyProof.Rows L2
variable {K:PySem.W.Frag}
section
variable {X:Cx} {O:List Nat} {tg elt iter:Expr} {ifs:List Expr} {scope:Scope} {pos:Pos} {fi:XL} {T:Tgt} {ft:XT} {fe:XE}
theorem O9(own fr:List Str)(ix:List Nat){i:Nat}{y:Str}{py spos:Pos}(hN:X.N.Nodup)(hy:X.N[i]?=some y)(hloc:X.env.scope.names.lookup y=some .local)(hcalm:X.calm=true)(hi:VI X tg iter fi)(S:WI X.N X.env.scope scope own fr ix=true)
  (hg:∀cl C s H ex,PG (Zu X (own++fr) scope cl C s H ex) tg (gT X.K T)) (ht:∀cl C s H ex,Ku (Zu X (own++fr) scope cl C s H ex) ifs ft) (he:∀cl C s H ex,VM (Zu X (own++fr) scope cl C s H ex) elt fe)
  (hT:∀i∈T.slots,i<own.length:=by decide)
  (hsw:swapsWith (.ListComp elt [⟨tg,iter,ifs,0⟩] scope pos) (some (.Name y py)) spos.line X.env=pure true:=by rfl)
  (hs:∀x,foldedSetIterable iter X.env x=pure x:=by intro _;rfl):VS X O [i] (.Assign [.Name y py] (.ListComp elt [⟨tg,iter,ifs,0⟩] scope pos) spos) (Zp i (ZO own.length ix fi T ft fe)):=
 PS.imp (Q7 own fr ix hN hy hloc hcalm hi S hg (fun cl C s H ex=>(show OI (Zu X (own++fr) scope cl C s H ex) ifs (Sx X.K ft) from ht cl C s H ex)) (fun cl C s H ex=>(show PE (Zu X (own++fr) scope cl C s H ex) elt (tM X.K fe) from he cl C s H ex)) hsw hs) (RE (O1 hT))
end
def Tf(i:Nat)(fk:XE):XS:=fun s=>(Za i s).bind fun a=>((fk s).bind Qx).bind fun k=>if k=0 then some (.rt .non) else if k=1 then some (.rt a) else none
theorem QA{X:Cx}{O:List Nat}{e:Expr}{i:Nat}{fk:XE}{pos:Pos}(he:PE X e (N7 (OB X.K) (Lr (Uo (tC .non) (Uo (Wu i) Ot))) (tF X.K fk)))(hi:i∈O:=by decide):VS X O [] (.Return (some e) pos) (Tf i fk):=PS.imp (Sd he) fun D Z H ⟨H0,fps,s,out,r,e,k⟩=>by
 obtain⟨a,e0,e⟩:=Zd e
 obtain⟨n,e1,e⟩:=Zd e
 obtain⟨l,e1,e2⟩:=Zd e1
 rw[Xu e2] at e1
 obtain⟨v,hv,iv⟩:=r.is i a (WL e0)
 refine⟨v,hv,(by show 2<=sizeLine;decide),fun p hp=>?_⟩
 have sn:Same H (upd H p (.lst [V.non,v])):=Same.new hp _
 refine⟨fun _=>False,s,_,fun _ z=>z.elim,r.env.mono sn,e1,fun y H2 fy s2 i2 _=>?_⟩
 have hp2:H2 p=some (.lst [V.non,v]):=s2 _ _ upd_same
 by_cases h0:n=0
 ·rw[if_pos h0] at e;cases e
  exact⟨p,[V.non,v],n,V.non,rfl,i2.int_inv.1,SqL.of hp2,by rw[h0];rfl,k .non [] H2 (r.same.trans (sn.trans s2)) Is.non List.nodup_nil fun p hp=>by simp at hp⟩
 ·rw[if_neg h0] at e
  split at e
  ·rename_i h1
   cases e;have s12:=sn.trans s2
   exact⟨p,[V.non,v],n,v,rfl,i2.int_inv.1,SqL.of hp2,by rw[h1];rfl,k v (fps i) H2 (r.same.trans s12) (iv.mono s12) (r.nd i hi) fun q hq=>⟨(r.own i hi q hq).1,Same.mut s12 (r.own i hi q hq).2⟩⟩
  ·cases e
section
variable {P:Program} {w:World} {mg:Str->Option Value} {base:Heap}
theorem MK{x:Str}{st:Stmt}{N ps:List Str}{k n:Nat}{O W:List Nat}{fa:Addr}{fd:FuncData}(m:Nat)(f:XS)(F:Fun K x x st fa fd)(S:Zz N ps (Zk st))
  (hn:ps.length=n) (hm:N.length=m) (hO:∀i∈O,n<=i)
  (hbody:∀(fa:Addr)(cdv:Value)(A:Around)(outer:List Env)(s:Shared)(H:Hp)(E:XK),Room k (A.deeper (envOfC x (Zk st) s.heap.objs.size fa cdv))->O3 (US Ro P w K mg base N x (Zk st) fa cdv A outer s H E).nox O W (Z7 st) f) :
  WB P w K mg base Ro (k+1) fa fd ps (Y7 K (Xp m f) n):=by
 subst hm
 refine F.ok S (fun vs H Q E h=>by rw[hn];exact h.1) fun cdv A outer s H vs Q E hr h=>⟨_,hbody fa cdv A outer s H E hr,?_⟩
 exact RK hO h
theorem PB{st:Stmt}{x:Str}{D:List PV->Option PV}{k:Nat}{fa:Addr}(Df:Def K mg "law" st)(hfa:mg "law" = some (.ref fa))
  (hb:∀(kV doc pm:Value)(an:Option Addr)(cdv ct u:Value),bindArgs (PySem.W.fnOf "law" "law" (YT st) (Z7 st) (Zk st) .none kV doc pm an cdv ct) ⟨[u],[]⟩=pure [(x,u)])
  (H:∀(base:Heap)(f:Addr)(fd:FuncData),K.In base->base.Ns mainGlobals mg->Fun K "law" "law" st f fd->WB P w K mg base Ro k f fd [x] (Y7 K D 1)) :
  ∃fd:FuncData,(∀(s:Shared)(u:Value),BindsTo s fd ⟨[u],[]⟩ [(x,u)])/\∀base:Heap,K.In base->base.Ns mainGlobals mg->WB P w K mg base Ro k fa fd [x] (Y7 K D 1):=by
 obtain⟨f,fd,hm,F⟩:=Df.ex
 have e:=hfa.symm.trans hm;cases e
 refine⟨fd,?_,fun base h1 h2=>H base fa fd h1 h2 F⟩
 obtain⟨oc,od,kV,doc,pm,an,cdv,ct,osl,rfl,lk,hcd⟩:=F.ex
 exact fun s u=>.of_eq (hb kV doc pm an cdv ct u)
end
theorem ML{H:Hp}{a:Addr}{ns:List Int}{D:List PV->Option PV}{E:XK}(hD:D [.cst (iL ns)]=some (.bl true))(hO:OH H)(hS:SqL K H a (ns.map V.int)):Y7 K D 1 [.ref a] H (fun v _=>v = .bl true) E:=by
 have cs:CsK K H a (ns.map V.int):=by
  rcases hS with h | h
  ·rcases h with h | ⟨o,h⟩
   ·rcases hO a with z | ⟨o,xs,z⟩
    ·rw[h] at z;cases z
    ·rw[h] at z;cases z
   ·exact .inl ⟨o,h⟩
  ·exact .inr h
 exact⟨rfl,[.cst (iL ns)],[],.bl true,Iss.one (Is.cst cs (Iss.ofInts ns)),hD,fun v H' fq _ i _ _=>i.bl_inv.1⟩
theorem law_walk{l:PySem.W.OpenLaw}{q:Program}{loose:List Str}{XP:(Str->Option Value)->Heap->Prop}{YP:World->Heap->Prop}{d:DefRec}{KK:Params->PySem.W.Frag}{x:Str}{D:List PV->Option PV}(k:Nat)(hn:l.most=some 63)(hdf:d.params.defaults=[])
  (hr:Room k callerA) (hD:∀ns:List Int,ns.length<=63->D [.cst (iL ns)]=some (.bl true))
  (hY:∀(w:World)(h:Heap),YP w h->(KK w.params).In h)
  (F:∀(w:World)(mg:Str->Option Value)(fa:Addr)(h:Heap),(KK w.params).In h->h.Ns mainGlobals mg->mg d.name=some (.ref fa)->
   ∃fd:FuncData,(∀(s:Shared)(u:Value),BindsTo s fd ⟨[u],[]⟩ [(x,u)])/\∀base:Heap,(KK w.params).In base->base.Ns mainGlobals mg->WB l.prog w (KK w.params) mg base Ro k fa fd [x] (Y7 (KK w.params) D 1)) :
  PySem.W.WalkO q loose XP YP l.row.toRowW d [] (fun f vs=>PySem.call f vs):=
 L2.walk_of (n:=63) (k:=k) (x:=x) (CX:=fun _=>Ro) (sp:=fun w=>Y7 (KK w.params) D 1) hn (by decide) hdf hr hY F (fun w H a ns hl hO hS=>ML (hD ns hl) hO hS) fun _ _ _ _ _ z=>z
end VL
namespace VL
open PySem L2
@[simp] theorem TW(i:Nat)(s:Zy):Za i s=(s[i]?).join:=rfl
@[simp] theorem eC_def(l:PV)(s:Zy):eC l s=some l:=rfl
@[simp] theorem Na(g:PV->PV->Option PV)(a b:XE)(s:Zy):Zi g a b s=(a s).bind fun x=>(b s).bind fun y=>g x y:=rfl
@[simp] theorem eUn_def(g:PV->Option PV)(a:XE)(s:Zy):KM g a s=(a s).bind g:=rfl
@[simp] theorem MM(f:XE)(s:Zy):eP f s=(f s).bind fun l=>if Zx l=true then some l else none:=rfl
@[simp] theorem evs_nil(s:Zy):Uz [] s=some []:=rfl
@[simp] theorem evs_cons'(f:XE)(fs:List XE)(s:Zy):Uz (f::fs) s=(f s).bind fun x=>(Uz fs s).map (x::·):=rfl
@[simp] theorem eCall_def(D:List PV->Option PV)(fs:List XE)(s:Zy):Zf D fs s=(Uz fs s).bind D:=rfl
@[simp] theorem eTup_def(fs:List XE)(s:Zy):Yl fs s=(Uz fs s).map .tup:=rfl
@[simp] theorem eLst_def(fs:List XE)(s:Zy):Y6 fs s=(Uz fs s).map .lst:=rfl
@[simp] theorem eSl_def(g:PV->Option Int->Option Int->Option PV)(a:XE)(lo hi:XO)(s:Zy):Qv g a lo hi s=(a s).bind fun x=>(lo s).bind fun l=>(hi s).bind fun u=>g x l u:=rfl
@[simp] theorem xoN_def(s:Zy):NG s=some none:=rfl
@[simp] theorem gI_ii(g:Int->Int->Int)(i j:Int):gI g (.int i) (.int j)=some (.int (g i j)):=rfl
@[simp] theorem gB_ii(g:Int->Int->Bool)(i j:Int):gB g (.int i) (.int j)=some (.bl (g i j)):=rfl
@[simp] theorem gIC_ii(C:Int->Int->Prop)[∀i j,Decidable (C i j)](g:Int->Int->Int)(i j:Int):NC C g (.int i) (.int j)=if C i j then some (.int (g i j)) else none:=rfl
@[simp] theorem gIx_ti(l:List PV)(i:Int):Yp (.tup l) (.int i)=Ve l i:=rfl
@[simp] theorem gIx_li(l:List PV)(i:Int):Yp (.lst l) (.int i)=Ve l i:=rfl
@[simp] theorem gIx_ci(l:List PV)(i:Int):Yp (.cst l) (.int i)=Ve l i:=rfl
@[simp] theorem MN(f:XE)(s:Zy):xB f s=(f s).bind LQ:=by
 unfold xB
 cases f s with
 | none=>rfl
 | some a=>cases a<;>rfl
@[simp] theorem MO(b:Bool):LQ (.bl b)=some b:=rfl
@[simp] theorem TX(a b:XT)(s:Zy):XY a b s=(a s).bind fun c=>if c=true then b s else some false:=rfl
@[simp] theorem xOr_def(a b:XT)(s:Zy):Sz a b s=(a s).bind fun c=>if c=true then some true else b s:=rfl
@[simp] theorem xNot_def(a:XT)(s:Zy):VH a s=(a s).map not:=rfl
@[simp] theorem eAnd_def(a b:XE)(s:Zy):Qq a b s=(xB a s).bind fun c=>if c=true then b s else some (.bl false):=rfl
@[simp] theorem eOr_def(a b:XE)(s:Zy):KJ a b s=(xB a s).bind fun c=>if c=true then some (.bl true) else b s:=rfl
@[simp] theorem eNot_def(a:XE)(s:Zy):OU a s=(xB a s).map fun c=>.bl !c:=rfl
@[simp] theorem eIf_def(c:XT)(a b:XE)(s:Zy):LN c a b s=(c s).bind fun k=>if k=true then a s else b s:=rfl
@[simp] theorem eIsN_def(neg:Bool)(a:XE)(s:Zy):Qr neg a s=(a s).bind (MD neg):=rfl
@[simp] theorem QB(s:Zy):Z1 s=some (.nx s):=rfl
@[simp] theorem ZP(f g:XS)(s:Zy):Zl f g s=(f s).bind fun o=>match o with | .nx s'=>g s' | r=>some r:=rfl
@[simp] theorem Wl(c:XT)(f g:XS)(s:Zy):Ui c f g s=(c s).bind fun k=>if k=true then f s else g s:=rfl
@[simp] theorem sRet_def(f:XE)(s:Zy):Yy f s=(f s).map .rt:=rfl
@[simp] theorem V5(i:Nat)(f:XE)(s:Zy):Zp i f s=(f s).map fun l=>.nx (s.set i (some l)):=rfl
@[simp] theorem retO_rt(v:PV):WQ (.rt v)=some v:=rfl
@[simp] theorem QC(i:Int):Zx (.int i)=true:=rfl
@[simp] theorem pureV_bl(i:Bool):Zx (.bl i)=true:=rfl
@[simp] theorem pureV_str(i:Str):Zx (.str i)=true:=rfl
@[simp] theorem pureV_non:Zx .non=true:=rfl
@[simp] theorem pureV_tup(l:List PV):Zx (.tup l)=Zn l:=by rw[Zx]
@[simp] theorem pureL_nil:Zn []=true:=rfl
@[simp] theorem pureL_cons(a:PV)(l:List PV):Zn (a::l)=(Zx a&&Zn l):=rfl
theorem UL{α:Type}{l:List α}{f:α->PV}(h:∀a∈l,Zx (f a)=true):Zn (l.map f)=true:=by
 rw[YH,List.all_map,List.all_eq_true];exact h
@[simp] theorem pureL_iL(l:List Int):Zn (l.map PV.int)=true:=Y5 l
abbrev pP(l:List Int):PV:=.tup (iL l)
abbrev wP(W:List (List Int)):PV:=.tup (W.map pP)
@[simp] theorem pureL_wP(W:List (List Int)):Zn (W.map pP)=true:=UL fun a _=>by simp
theorem PD{l:List Int}{k:Nat}(h:k<l.length):(iL l)[k]?=some (.int (Zw l k)):=by
 rw[List.getElem?_map,List.getElem?_eq_getElem h];simp[Zw,List.getD_eq_getElem?_getD,List.getElem?_eq_getElem h]
theorem Xx{l:List Int}{k:Nat}(h:k<l.length):Ve (iL l) (k:Int)=some (.int (Zw l k)):=UU (PD h)
theorem Tg{W:List (List Int)}{k:Nat}(h:k<W.length):Ve (W.map pP) (k:Int)=some (pP (ZA W k)):=by
 refine UU ?_
 rw[List.getElem?_map,TF h];rfl
@[simp] theorem gSum_t(l:List Int):Wf [.tup (l.map PV.int)]=some (.int l.sum):=by
 simp[Wf,VQ,Xs l]
@[simp] theorem gSum_l(l:List Int):Wf [.lst (l.map PV.int)]=some (.int l.sum):=by
 simp[Wf,VQ,Xs l]
@[simp] theorem MP(l:List Bool):Qs [.lst (l.map PV.bl)]=some (.bl (l.all id)):=by
 simp[Qs,VQ,XV l]
@[simp] theorem gLen_t(l:List PV):U7 [.tup l]=some (.int l.length):=rfl
@[simp] theorem gLen_l(l:List PV):U7 [.lst l]=some (.int l.length):=rfl
@[simp] theorem gLen_c(l:List PV):U7 [.cst l]=some (.int l.length):=rfl
@[simp] theorem gTuple_l(l:List PV):Z3 [.lst l]=some (.tup l):=rfl
@[simp] theorem gTuple_t(l:List PV):Z3 [.tup l]=some (.tup l):=rfl
@[simp] theorem gListP_t(l:List PV):Pg [.tup l]=if Zn l=true then some (.lst l) else none:=rfl
@[simp] theorem gListP_l(l:List PV):Pg [.lst l]=if Zn l=true then some (.lst l) else none:=rfl
@[simp] theorem gMin2_ii(i j:Int):Xm [.int i,.int j]=some (.int (if j<i then j else i)):=rfl
@[simp] theorem gMax2_ii(i j:Int):UA [.int i,.int j]=some (.int (if j>i then j else i)):=rfl
@[simp] theorem gInt1_b(c:Bool):TL [.bl c]=some (.int (if c then 1 else 0)):=rfl
@[simp] theorem gInt1_i(c:Int):TL [.int c]=some (.int c):=rfl
@[simp] theorem gInst_ii(i:Int):Wg [.int i,.ty "int"]=some (.bl true):=rfl
@[simp] theorem gInst_ib(i:Int):Wg [.int i,.ty "bool"]=some (.bl false):=rfl
@[simp] theorem gInst_tt(l:List PV):Wg [.tup l,.ty "tuple"]=some (.bl true):=rfl
@[simp] theorem gInst_ll(l:List PV):Wg [.lst l,.ty "list"]=some (.bl true):=rfl
theorem RN(n:Nat)(i j:Int):YE (n+1) (.int i) (.int j)=true:=rfl
theorem Vc{α β:Type}{f:α->PV}{g:β->PV}{p:PV->PV->Bool}(h:∀a b,p (f a) (g b)=true):∀(l:List α)(m:List β),((l.map f).zip (m.map g)).all (fun z=>p z.1 z.2)=true
 | [],_=>by simp
 | _::_,[]=>by simp
 | a::l,b::m=>by
  rw[List.map_cons,List.map_cons,List.zip_cons_cons,List.all_cons,Vc h l m,h a b];rfl
theorem Nb(n:Nat)(l m:List Int):YE (n+2) (pP l) (pP m)=true:=Vc (fun a b=>RN n a b) l m
theorem MQ{l m:List Int}:iL l=iL m↔l=m:=by
 constructor
 ·intro h
  exact(List.map_inj_right (fun a b e=>PV.int.inj e)).mp h
 ·intro h;rw[h]
theorem MR{l m:List Int}:pP l=pP m↔l=m:=by
 rw[PV.tup.injEq];exact MQ
@[simp] theorem gEq_ii(neg:Bool)(i j:Int):Wt neg (.int i) (.int j)=some (.bl (if neg then !decide (i=j) else decide (i=j))):=by
 unfold Wt;rw[if_pos (RN 7 i j)]
 congr 2
 cases neg<;>simp
@[simp] theorem gEq_pp(neg:Bool)(l m:List Int):Wt neg (.tup (l.map PV.int)) (.tup (m.map PV.int))=some (.bl (if neg then !decide (l=m) else decide (l=m))):=by
 unfold Wt;rw[if_pos (Nb 6 l m)]
 have:decide ((PV.tup (l.map PV.int)) = .tup (m.map PV.int))=decide (l=m):=decide_eq_decide.mpr MR
 rw[this]
theorem UM{α:Type}{T:Tgt}{ft:XT}{fe:XE}{s0:Zy}{q g:α->PV}:∀{ls:List α},(∀a∈ls,∃s1,Wi T (q a) s0=some s1/\ft s1=some true/\fe s1=some (g a))->Y8 T ft fe s0 (ls.map q)=some (ls.map g)
 | [],_=>rfl
 | a::r,h=>by
  obtain⟨s1,h1,h2,h3⟩:=h a List.mem_cons_self
  have ih:=UM (ls:=r) fun b hb=>h b (List.mem_cons_of_mem _ hb)
  rw[List.map_cons,List.map_cons];unfold Y8;rw[h1];simp only[Option.bind_some,h2,if_true,h3,ih,Option.map_some]
theorem Yr{α:Type}{n:Nat}{ix:List Nat}{fi:XL}{T:Tgt}{ft:XT}{fe:XE}{s:Zy}(ls:List α)(q g:α->PV)(hfi:fi s=some (ls.map q))(hl:ls.length<=10000)
  (h:∀a∈ls,∃s1,Wi T (q a) (Zv n ix s)=some s1/\ft s1=some true/\fe s1=some (g a)):ZO n ix fi T ft fe s=some (.lst (ls.map g)):=by
 unfold ZO;rw[hfi];simp only[Option.bind_some,List.length_map,if_pos hl,UM h,Option.map_some]
theorem ZT{T:Tgt}{fb:XS}:∀{ls:List PV}{s:Zy}(Jv:Nat->Zy->Prop),Jv 0 s->(∀(i:Nat) l st,ls[i]?=some l->Jv i st->∃s1 s2,Wi T l st=some s1/\fb s1=some (.nx s2)/\Jv (i+1) s2)->
  ∃s',YL T fb ls s=some (.nx s')/\Jv ls.length s'
 | [],s,Jv,h0,_=>⟨s,rfl,h0⟩
 | l::r,s,Jv,h0,h=>by
  obtain⟨s1,s2,a,b,c⟩:=h 0 l s rfl h0
  obtain⟨s',d,e⟩:=ZT (ls:=r) (s:=s2) (fun i=>Jv (i+1)) c fun i l' st hl hi=>h (i+1) l' st (by simpa using hl) hi
  refine⟨s',?_,e⟩
  unfold YL;rw[a];simp only[Option.bind_some,b];exact d
theorem Wm{n i:Nat}{l:PV}(h:(Y2 n)[i]?=some l):i<n/\l = .int (i:Int):=by
 have hi:=(List.getElem?_eq_some_iff.mp h).1
 unfold Y2 at hi h;rw[List.length_map,List.length_range] at hi;rw[List.getElem?_map,List.getElem?_range hi] at h
 exact⟨hi,(Option.some.inj h).symm⟩
theorem V6{lo:Int}{n i:Nat}{l:PV}(h:(Y3 lo n)[i]?=some l):i<n/\l = .int (lo+(i:Int)):=by
 have hi:=(List.getElem?_eq_some_iff.mp h).1
 unfold Y3 at hi h;rw[List.length_map,List.length_range] at hi;rw[List.getElem?_map,List.getElem?_range hi] at h
 exact⟨hi,(Option.some.inj h).symm⟩
@[simp] theorem Wn(n:Nat):(Y2 n).length=n:=by unfold Y2;simp
@[simp] theorem V7(lo:Int)(n:Nat):(Y3 lo n).length=n:=by unfold Y3;simp
@[simp] theorem bindT_one(i:Nat)(l:PV)(s:Zy):Wi (.one i) l s=some (s.set i (some l)):=rfl
theorem TY(m:List PV):XW m=(List.range m.length).map fun(i:Nat)=>.tup [.int (i:Int),m.getD i .non]:=by
 apply List.ext_getElem?
 intro i;rw[List.getElem?_map]
 by_cases h:i<m.length
 ·have:(XW m)[i]?=some (.tup [.int (i:Int),m[i]]):=by
   unfold XW;rw[List.getElem?_map,List.getElem?_zipIdx,List.getElem?_eq_getElem h]
   simp
  rw[this,List.getElem?_range h];simp[List.getD_eq_getElem?_getD,List.getElem?_eq_getElem h]
 ·rw[List.getElem?_eq_none (by rw[UC];omega),List.getElem?_eq_none (by simpa using h)];rfl
theorem Nc(l:List Int)(i:Nat)(h:i<l.length):(iL l).getD i .non = .int (Zw l i):=by
 rw[List.getD_eq_getElem?_getD,PD h];rfl
@[simp] theorem Nd(f:XE)(s:Zy):ZK [f] s=(f s).bind fun a=>(Qx a).bind fun j=>if -1000000<=j/\j<=1000000 then some (Y2 j.toNat) else none:=by
 unfold ZK
 cases h:f s with
 | none=>simp[h]
 | some a=>cases a<;>simp[h,Qx]
@[simp] theorem Nf(f g:XE)(s:Zy):Yn [f,g] s=(f s).bind fun a=>(g s).bind fun b=>(Qx a).bind fun i=>(Qx b).bind fun j=>if -1000000<=i/\i<=1000000/\-1000000<=j/\j<=1000000 then some (Y3 i (j-i).toNat) else none:=by
 unfold Yn
 cases h:f s with
 | none=>simp[h]
 | some a=>cases h2:g s with
  | none=>simp[h,h2]
  | some b=>cases a<;>cases b<;>simp[h,h2,Qx]
@[simp] theorem Wo(i:Int):Qx (.int i)=some i:=rfl
@[simp] theorem Ng(i:List PV):L5 (.lst i)=some i:=rfl
@[simp] theorem xEnum_def(b:Bool)(f:XE)(s:Zy):Vb b [f] s=(f s).bind fun l=>(seqB b l).map XW:=by
 unfold Vb
 cases h:f s<;>simp[h]
@[simp] theorem seqB_f(l:List PV):seqB false (.tup l)=some l:=rfl
@[simp] theorem seqB_t(l:List PV):seqB true (.lst l)=some l:=rfl
@[simp] theorem seqB_c(l:List PV):seqB true (.cst l)=some l:=rfl
@[simp] theorem xLst_def(f:XE)(s:Zy):SH f s=(f s).bind M4:=rfl
@[simp] theorem asS_l(l:List PV):M4 (.lst l)=some l:=rfl
@[simp] theorem asS_c(l:List PV):M4 (.cst l)=some l:=rfl
theorem PF{f:XE}{s:Zy}{l:List PV}(h:f s=some (.tup l)):SI f s=some l:=by unfold SI;rw[h]
@[simp] theorem Yz(O:List Nat)(fi:XL)(T:Tgt)(fb:XS)(s:Zy):YG O fi T fb s=(fi (ZD O s)).bind fun ls=>YL T fb ls s:=rfl
@[simp] theorem xTrue_def(s:Zy):Z0 s=some true:=rfl
theorem Yd{f:XE}{s:Zy}{n:Nat}(h:f s=some (.int (n:Int)))(hn:n<=10000):ZK [f] s=some (Y2 n):=by
 rw[Nd,h];simp only[Option.bind_some,Wo];rw[if_pos ⟨by omega,by omega⟩,Int.toNat_natCast]
theorem WR{f g:XE}{s:Zy}{i j:Int}(h:f s=some (.int i))(h':g s=some (.int j))(hi : -10000<=i/\i<=10000)(hj : -10000<=j/\j<=10000):Yn [f,g] s=some (Y3 i (j-i).toNat):=by
 rw[Nf,h,h'];simp only[Option.bind_some,Wo];rw[if_pos ⟨by omega,by omega,by omega,by omega⟩]
theorem PH{i j:Int}(h0 : -10000<=i)(h:i<=10000):CMul i j:=by
 refine .inl ?_
 have e:(2^64:Int)=18446744073709551616:=by decide
 rw[e];omega
theorem Wp{c:Bool}(h:c=true):gd c=some ():=by unfold gd;rw[if_pos h]
theorem SS{i:Nat}{f:XE}{s:Zy}{m:List PV}{l:PV}(h:f s=some l)(hm:Ob s i=some m)(hl:m.length<=10000):YV i f s=some (.nx (s.set i (some (.lst (m++[l]))))):=by
 unfold YV;rw[h];simp only[Option.bind_some,hm,Wp (decide_eq_true hl)]
theorem SU{i:Nat}{fk f:XE}{s:Zy}{m:List PV}{l:PV}{k:Int}(hk:fk s=some (.int k))(h:f s=some l)(hm:Ob s i=some m)(hp:Zn m=true)(hq:Zx l=true)(h0:0<=k)(h1:k<=1000000)(hl:m.length<=10000) :
  XJ i fk f s=some (.nx (s.set i (some (.lst (m.take k.toNat++l::m.drop k.toNat))))):=by
 unfold XJ;rw[hk,h]
 have c:(Zn m&&Zx l&&decide (0<=k/\k<=1000000/\m.length<=10000))=true:=by rw[hp,hq,decide_eq_true ⟨h0,h1,hl⟩];rfl
 simp only[Option.bind_some,Wo,hm,Wp c]
theorem QD{i:Nat}{fk f:XE}{s:Zy}{m:List PV}{l:PV}{k:Int}{j:Nat}(h:f s=some l)(hk:fk s=some (.int k))(hm:Ob s i=some m)(hp:Zn m=true)(hq:Zx l=true)(hj:Sc m.length k=some j) :
  WP i fk f s=some (.nx (s.set i (some (.lst (m.set j l))))):=by
 unfold WP;rw[hk,h]
 have c:(Zn m&&Zx l)=true:=by rw[hp,hq];rfl
 simp only[Option.bind_some,Wo,hm,Wp c,hj,Option.map_some]
theorem V8{i:Nat}{fa fb f:XE}{s:Zy}{m n:List PV}{l:PV}{a b:Int}{j c:Nat}(h:f s=some l)(ha:fa s=some (.int a))(hb:fb s=some (.int b))(hm:Ob s i=some m)(hj:Sc m.length a=some j)(hn:m[j]?=some (.lst n))(hp:Zn n=true)(hq:Zx l=true)(hc:Sc n.length b=some c) :
  YW i fa fb f s=some (.nx (s.set i (some (.lst (m.set j (.lst (n.set c l))))))):=by
 unfold YW;rw[h,ha,hb]
 have cc:(Zn n&&Zx l)=true:=by rw[hp,hq];rfl
 simp only[Option.bind_some,Wo,Ng,hm,hj,hn,Wp cc,hc,Option.map_some]
theorem Wq{n k:Nat}(h:k<n):Sc n (k:Int)=some k:=by
 unfold Sc
 rw[if_pos (by omega),if_pos (by omega)];rfl
theorem WS{i j:Int}(h0:0<j)(h:j<=10000):Wx i j:=⟨h0,by omega⟩
end VL
namespace VL
open PySem PySem.Spec PyProof.Rows L2
variable {K:PySem.W.Frag}
def NK(K:PySem.W.Frag):R2:=fun x y H Q=>∃a b xs ys,x = .ref a/\y = .ref b/\SqT K H a xs/\SqT K H b ys/\xs.length+ys.length<=sizeLine/\
 (xs=[]->Q (.ref b) H)/\(ys=[]->Q (.ref a) H)/\∀p,H p=none->Q (.ref p) (upd H p (.tup (xs++ys)))
theorem RO{X:Cx}:XX X (binaryOp .Add) (NK X.K):=by
 intro pins s Z H x y v u Q I rx ry h
 obtain⟨a,b,xs,ys,rfl,rfl,ha,hb,hz,q0,q1,q2⟩:=h
 by_cases hx:xs=[]
 ·cases rx
  cases ry
  obtain⟨its,r1,p1,_⟩:=I.tuple ha
  obtain⟨its2,r2,p2,_⟩:=I.tuple hb
  obtain⟨⟨cls,dd,data,sl⟩,ho,hc,n,hd⟩:=id p1
  obtain⟨⟨cls2,dd2,data2,sl2⟩,ho2,hc2,n2,hd2⟩:=id p2
  simp only at hc hd hc2 hd2
  subst hc hd hc2 hd2
  exact concat_meets ⟨_,ho,rfl⟩ ⟨_,ho2,rfl⟩ noFill_tuple_add seq_tuple_add PySem.F.slot_tuple_add PySem.F.entry_tuple_add (PySem.F.args_tuple_add_2 _ _)
   (tuple_addW0 a b its.toArray its2.toArray n n2 dd dd2 sl sl2 (by simp[r1.nil_iff.mpr hx])) ⟨ho,ho2,.ref b,H,I,rfl,q0 hx⟩
 ·exact OA _ _ _ _ _ _ _ _ _ I rx ry ⟨a,b,xs,ys,rfl,rfl,ha,hb,hx,hz,q1,fun _=>q2⟩
def Xy:PV->PV->Option PV
 | .tup m,.tup n=>if m.length+n.length<=10000 then some (.tup (m++n)) else none
 | _,_=>none
theorem RP:RB K (NK K) Xy:=fun H x y a b l fa fb ha hb e Q k=>by
 cases a with
 | tup m=>cases b with
  | tup n=>
   have e:(if m.length+n.length<=10000 then some (PV.tup (m++n)) else none)=some l:=e
   split at e
   case isFalse=>cases e
   rename_i hl
   cases e
   obtain⟨p,xs,rfl,hp,hi⟩:=ha.tup_inv
   obtain⟨p',ys,rfl,hp',hi'⟩:=hb.tup_inv
   refine⟨p,p',xs,ys,rfl,rfl,SqT.of hp,SqT.of hp',by rw[hi.len,hi'.len];exact Nat.le_of_lt (lt_size hl),fun z=>?_,fun z=>?_,fun q hq=>?_⟩
   ·have:m=[]:=List.length_eq_zero_iff.mp (by rw[<-hi.len,z];rfl)
    subst this
    exact k _ _ fb (Same.refl _) hb fun r hr=>.inr (.inl hr)
   ·have:n=[]:=List.length_eq_zero_iff.mp (by rw[<-hi'.len,z];rfl)
    subst this;rw[List.append_nil] at k
    exact k _ _ fa (Same.refl _) ha fun r hr=>.inl hr
   ·exact k _ _ (fa++fb) (Same.new hq _) (Is.tup upd_same ((hi.append hi').mono (Same.new hq _))) fun r hr=>(List.mem_append.mp hr).elim .inl fun z=>.inr (.inl z)
  | _=>cases e
 | _=>cases e
end VL
namespace VL
open PySem
open PySem.Sem (wp)
open PySem.Builtin
theorem WT:fillsNumberSlot (.type "tuple") "mul" = pure false:=
 fillsNumberSlot_seq (id:="tuple.__mul__") (r:=some (.builtin "tuple.__rmul__")) F.slot_tuple_mul.lookup (by decide +kernel) F.slot_tuple_rmul.lookup (by decide +kernel)
theorem Th:seqRepeat? (.type "tuple")=pure (some (.builtin "tuple.__mul__")):=by
 unfold seqRepeat?
 rw[seqSlot_of (T:="tuple") (name:="__mul__") (id:="tuple.__mul__") F.slot_tuple_mul.lookup (by decide +kernel),seqSlot_of (T:="tuple") (name:="__rmul__") (id:="tuple.__rmul__") F.slot_tuple_rmul.lookup (by decide +kernel)];rfl
theorem V9(a:Int)(t:Tok)(l:Addr)(items:Array Value)(n:Nat)(dd:Option Addr)(sl:Array (Option Value)) :
  Meets (Builtin.«int.__rmul__» ⟨[.int a t,.ref l],[]⟩) (fun _ R s=>s.heap.get? l=some { cls:=.type "tuple",dict:=dd,data:=.seq items n,slots:=sl }/\R (.ok (.ret Value.notImplemented)) s):=
 .of_wp fun prog w A R s h=>by obtain⟨hp,g,d,tk,os⟩:=s;obtain⟨hl,h⟩:=h;wp_walk;exact⟨_,rfl,h⟩
theorem Ua(l:Addr)(items:Array Value)(n:Nat)(dd:Option Addr)(sl:Array (Option Value))(x:Int)(u:Tok)(h1:1<x)(h2:x<2^63)(he:items.isEmpty=false)(hz:items.size*x.toNat<=sizeLine)
  (ys:Array Value) (hf:List.foldl (fun x1 x2=>x1++x2) #[] (List.replicate x.toNat items)=ys) (hy:ys.size<=sizeLine) :
  Meets (Builtin.«tuple.__mul__» ⟨[.ref l,.int x u],[]⟩) (fun _ R s=>s.heap.get? l=some { cls:=.type "tuple",dict:=dd,data:=.seq items n,slots:=sl }/\R (.ok (.ret (Value.ref s.heap.objs.size))) { s with heap:=s.heap.push { cls:=Value.type "tuple",data:=Data.seq ys },toks:=s.toks }):=
 .of_wp fun prog w A R s h=>by
  obtain⟨hp,g,d,tk,os⟩:=s;obtain⟨hl,h⟩:=h
  have hlen:items.size*x.toNat<=2^40:=by rw[sizeLine_eq] at hz;omega
  have hx:(items.size:Int)*x=((items.size*x.toNat:Nat):Int):=by rw[Int.natCast_mul,Int.toNat_of_nonneg (by omega)]
  wp_walk
  refine wpAny_ite_false (by simp;omega) ?_
  wp_walk
  refine wpAny_ite_false (by simp[he];omega) ?_
  wp_walk
  refine wpAny_ite_false (by simp[he];omega) ?_
  wp_walk
  refine wpAny_ite_false (decide_eq_false (by rw[hx];omega)) ?_
  wp_walk
  refine wpAny_ite_false (decide_eq_false (by rw[hx];unfold Tuple.tupleTooMany;simp only[decide_eq_true_eq];omega)) ?_
  wp_walk
  rw[hf]
  exact⟨_,rfl,h⟩
theorem Uj(l:Addr)(items:Array Value)(n:Nat)(dd:Option Addr)(sl:Array (Option Value))(u:Tok) :
  Meets (Builtin.«tuple.__mul__» ⟨[.ref l,.int 1 u],[]⟩) (fun _ R s=>s.heap.get? l=some { cls:=.type "tuple",dict:=dd,data:=.seq items n,slots:=sl }/\R (.ok (.ret (Value.ref l))) s):=
 .of_wp fun prog w A R s h=>by
  obtain⟨hp,g,d,tk,os⟩:=s;obtain⟨hl,h⟩:=h
  wp_walk
  exact⟨_,rfl,h⟩
end VL
namespace VL
open PySem PySem.Spec PyProof.Rows L2
def NL(K:PySem.W.Frag):R2:=fun x y H Q=>∃a k xs,x = .ref a/\y = .int k/\SqT K H a xs/\xs≠[]/\1<=k/\k<2^62/\xs.length*k.toNat<=sizeLine/\
 (k=1->Q (.ref a) H)/\∀p,H p=none->Q (.ref p) (upd H p (.tup (List.replicate k.toNat xs).flatten))
theorem Nh{X:Cx}:XX X (binaryOp .Mult) (NL X.K):=by
 intro pins s Z H x y v u Q I rx ry h
 obtain⟨a,k,xs,rfl,rfl,ha,hx,h1,h2,hz,q1,q2⟩:=h
 cases rx
 obtain⟨t,rfl⟩:=ry
 obtain⟨its,r1,p1,_⟩:=I.tuple ha
 obtain⟨⟨cls,dd,data,sl⟩,ho,hc,n,hd⟩:=id p1
 simp only at hc hd
 subst hc hd
 have hl:xs.length=its.length:=r1.length
 refine wpAny_binaryOp_repeat_ref (T:="tuple") (U:="int") (by decide) ⟨_,ho,rfl⟩ (fun s'=>typeIs_int s' k t) WT F.fills_int_mul F.slot_int_rmul Th F.slot_int_index.lookup
  (call_meets F.slot_int_rmul (typeIs_int s k t) F.entry_int_rmul (F.args_int_rmul_2 _ _) (V9 k t a its.toArray n dd sl) ⟨ho,rfl,⟨_,ho,rfl⟩,?_⟩)
 by_cases hk:k=1
 ·subst hk
  exact call_meets F.slot_tuple_mul ⟨_,ho,rfl⟩ F.entry_tuple_mul (F.args_tuple_mul_2 _ _) (Uj a its.toArray n dd sl t) ⟨ho,.ref a,H,I,rfl,q1 rfl⟩
 ·have hne:its.toArray.isEmpty=false:=by
   cases its with
   | nil=>exact absurd (r1.nil_iff.mp rfl) hx
   | cons _ _=>rfl
  have hf:List.foldl (fun x1 x2=>x1++x2) #[] (List.replicate k.toNat its.toArray)=(List.replicate k.toNat its).flatten.toArray:=by
   have:=WD its k.toNat []
   rw[List.nil_append] at this;exact this
  have hw:(List.replicate k.toNat its).flatten.length<=sizeLine:=by rw[UX,Nat.mul_comm,<-hl];exact hz
  refine call_meets F.slot_tuple_mul ⟨_,ho,rfl⟩ F.entry_tuple_mul (F.args_tuple_mul_2 _ _) (Ua a its.toArray n dd sl k t (by omega) (by omega) hne (by rw[List.size_toArray,<-hl];exact hz) _ hf (by rw[List.size_toArray];exact hw)) ⟨ho,?_⟩
  refine⟨.ref s.heap.objs.size,_,I.laid (t':=s.toks) (o:=.tup (List.replicate k.toNat xs).flatten) (fun b ob q=>Heap.get?_push_of_some _ q) (Nat.le_refl _) ?_,rfl,q2 _ (I.hok.fresh (Nat.le_refl _))⟩
  exact⟨by rw[UX,Nat.mul_comm];exact hz,_,r1.rep k.toNat,IsTup.new _ _⟩
def TZ:PV->PV->Option PV
 | .tup m,.int k=>if Zn m=true/\m≠[]/\1<=k/\k<=1000000/\m.length*k.toNat<=10000 then some (.tup (List.replicate k.toNat m).flatten) else none
 | _,_=>none
theorem Ni{K:PySem.W.Frag}:RB K (NL K) TZ:=fun H x y a b l fa fb ha hb e Q k=>by
 cases a with
 | tup m=>cases b with
  | int n=>
   unfold TZ at e
   simp only at e
   split at e
   case isFalse=>cases e
   rename_i hl
   cases e
   obtain⟨p,xs,rfl,hp,hi⟩:=ha.tup_inv
   refine⟨p,n,xs,rfl,hb.int_inv.1,SqT.of hp,fun z=>hl.2.1 (List.length_eq_zero_iff.mp (by rw[<-hi.len,z];rfl)),hl.2.2.1,by omega,by rw[hi.len];exact Nat.le_of_lt (lt_size hl.2.2.2.2),fun z=>?_,fun q hq=>?_⟩
   ·subst z
    have e1:(List.replicate (Int.toNat 1) m).flatten=m:=by simp
    rw[e1] at k
    exact k _ _ fa (Same.refl _) ha fun r hr=>.inl hr
   ·exact k _ _ [] (Same.new hq _) (Is.tup upd_same ((Iss.rep (hi.pureEq hl.1) n.toNat).mono (Same.new hq _))) fun r hr=>by simp at hr
  | _=>cases e
 | _=>cases e
end VL
namespace PW
open PySem L2 VL
noncomputable def Ti:XS:=(Yy (eP (Zf Wf [(Za 0)])))
noncomputable def Ys:List PV->Option PV:=Xp 1 Ti
noncomputable def SV:XS:=(Yy (eP (Zf Wf [(ZO 2 [1,2] (Vb false [(Zi Yp (Za 0) (Za 2))]) (.many [0,1]) Z0 (Zi Su (Za 1) (Zi YI (Zi Yp (Za 2) (Za 0)) (Zi Yp (Za 2) (Za 3)))))])))
noncomputable def WU:List PV->Option PV:=Xp 3 SV
noncomputable def PJ:XS:=(Yy (eP (Zf Z3 [(ZO 2 [0,2] (Vb false [(Za 1)]) (.many [0,1]) Z0 (Zi ZF (Za 1) (Zf WU [(Za 2),(Za 3),(Za 0)])))])))
noncomputable def Wr:List PV->Option PV:=Xp 3 PJ
noncomputable def Ub:XS:=(Yy (eP (Zi Yp (Zi Px (Qv SL (Za 0) (Tb (Za 1)) (Tb (Zi ZF (Za 1) (eC (.int 1))))) (Y6 [(eC (.int 0))])) (eC (.int 0)))))
noncomputable def Zo:List PV->Option PV:=Xp 2 Ub
noncomputable def WV:XS:=(Yy (eP (Qq (Zf Wg [(Za 0),(eC (.ty "int"))]) (OU (Zf Wg [(Za 0),(eC (.ty "bool"))])))))
noncomputable def ZU:List PV->Option PV:=Xp 1 WV
noncomputable def YX:XS:=(Zl (Zp 3 (Y6 []))
  (Zl (YG [3,5] (ZK [(Za 2)]) (.one 4) (Zl (XJ 3 (Zi Z5 (Za 1) (Zi ZF (Za 4) (eC (.int 1)))) (Za 4))
  (Zp 1 (eP (Zi YB (Za 1) (Zi ZF (Za 4) (eC (.int 1))))))))
  (Zl (Zp 5 (eC (.dT [] [])))
  (Zl (V3 0 (.many [6,7]) (Zl (Zp 8 (eP (Yl [(Zf Xm [(Zi Yp (Za 3) (Za 6)),(Zi Yp (Za 3) (Za 7))]),(Zf UA [(Zi Yp (Za 3) (Za 6)),(Zi Yp (Za 3) (Za 7))])])))
  (sDPut 5 (Za 8) (Zi YM (Za 0) (Yl [(Za 6),(Za 7)])))))
  (Yy (Za 5))))))
noncomputable def YY:List PV->Option PV:=Xp 9 YX
noncomputable def Yj:XS:=(Zl (Zp 4 (eC (.dT [] [])))
  (Zl (Zp 5 (Y6 [(eP (eC (.int 0)))]))
  (Zl (YG [4,5] (ZK [(Za 1)]) (.one 6) (YG [4,5] (Yn [(Zi ZF (Za 6) (eC (.int 1))),(Za 1)]) (.one 7) (Zl (Zp 8 (eP (Zf Xm [(Zi Su (Zi Z5 (Za 0) (eC (.int 2))) (Zi ZF (eC (.int 1)) (Zi Z5 (Zi YB (Za 0) (eC (.int 2))) (Za 3)))),(Za 2)])))
  (Zl (Zp 0 (eP (Zi Yp (Y6 [(Zi YB (Za 0) (eC (.int 2))),(Zi YB (Zi YB (Za 0) (eC (.int 2))) (Za 3))]) (Zi Z5 (Za 0) (eC (.int 2))))))
  (Ui (xB (Zi LK (Za 8) (eC (.int 0)))) (Zl (sDPut 4 (Yl [(Za 6),(Za 7)]) (Za 8))
  (Zp 2 (eP (Zi YI (Za 2) (Za 8))))) Z1)))))
  (Zl (YG [4,5] (ZK [(Za 1)]) (.one 9) (X0 [4,5] 4 (.many [6,7]) (Zl (Ui (XY (xB (Zi (TM false) (Za 6) (Za 5))) (xB (Zi (TM true) (Za 7) (Za 5)))) (YV 5 (eP (Za 7))) Z1)
  (Ui (XY (xB (Zi (TM false) (Za 7) (Za 5))) (xB (Zi (TM true) (Za 6) (Za 5)))) (YV 5 (eP (Za 6))) Z1))))
  (Tf 4 (Zf TL [(Zi (Wt false) (Zf U7 [(Za 5)]) (Za 1))]))))))
noncomputable def ZQ:List PV->Option PV:=Xp 10 Yj
noncomputable def XM:XS:=(Zl (Zp 3 (Zf Zo [(Za 0),(Za 1)]))
  (Zl (Ui (XY (xB (Zi (Wt false) (Zi Z5 (Za 3) (eC (.int 2))) (eC (.int 1)))) (xB (Qr true (Zf ZQ [(Zi YB (Za 3) (eC (.int 2))),(Za 2),(eC (.int 30)),(eC (.int 9))])))) (Yy (Zf ZQ [(Zi YB (Za 3) (eC (.int 2))),(Za 2),(eC (.int 30)),(eC (.int 9))])) Z1)
  (Zl (Zp 4 (eC (.dT [] [])))
  (Zl (Zp 5 (eP (eC (.int 30))))
  (Zl (YG [4] (Yn [(eC (.int 1)),(Za 2)]) (.one 6) (Zl (Zp 7 (Zf Zo [(Za 0),(Zi ZF (Za 1) (Za 6))]))
  (Zl (Zp 8 (eP (Zf Xm [(Zi Yp (Y6 [(eC (.int 1)),(eC (.int 1)),(eC (.int 1)),(eC (.int 2)),(eC (.int 3)),(eC (.int 9))]) (Zi Z5 (Zi YB (Za 7) (Za 6)) (eC (.int 6)))),(Zi YI (Za 5) (Zi YI (Zi YI (Za 2) (eC (.int 1))) (Za 6)))])))
  (Zl (sDPut 4 (Yl [(Zi Z5 (Za 7) (Za 6)),(Za 6)]) (Za 8))
  (Zp 5 (eP (Zi YI (Za 5) (Za 8))))))))
  (Zl (Zp 9 (eP (Zi ZF (Za 1) (eC (.int 7)))))
  (Zl (YG [4] (ZK [(Za 2)]) (.one 10) (YG [4] (Yn [(Zi ZF (Za 10) (eC (.int 1))),(Za 2)]) (.one 11) (Zl (Zp 8 (eP (Zi Yp (Y6 [(eC (.int 0)),(eC (.int 0)),(eC (.int 0)),(eC (.int 1)),(eC (.int 1)),(eC (.int 2)),(eC (.int 4)),(eC (.int 9))]) (Zi Z5 (Zf Zo [(Za 0),(Za 9)]) (eC (.int 8))))))
  (Zl (Zp 9 (eP (Zi ZF (Za 9) (eC (.int 1)))))
  (Ui (XY (xB (SO true (Yl [(Za 10),(Za 11)]) (Za 4))) (xB (NI L0 L1 (eC (.int 0)) (Za 8) (Za 5)))) (Zl (sDPut 4 (Yl [(Za 10),(Za 11)]) (Za 8))
  (Zp 5 (eP (Zi YI (Za 5) (Za 8))))) Z1)))))
  (Yy (Zf YY [(Za 4),(Zi YB (Zf Zo [(Za 0),(Za 1)]) (eC (.int 7))),(Za 2)])))))))))
noncomputable def Yf:List PV->Option PV:=Xp 12 XM
noncomputable def Xi:XS:=(Zl (Zp 2 (ZO 1 [1] (ZK [(Za 1)]) (.one 0) Z0 (Zi Te (Y6 [(eC (.int 0))]) (Za 1))))
  (Zl (V3 0 (.many [3,4]) (Zl (YW 2 (Za 3) (Za 4) (Zi YM (Za 0) (Yl [(Za 3),(Za 4)])))
  (YW 2 (Za 4) (Za 3) (Zi YM (Za 0) (Yl [(Za 3),(Za 4)])))))
  (Yy (eP (Zf Z3 [(ZO 1 [] (SH (Za 2)) (.one 0) Z0 (Zf Z3 [(Za 0)]))])))))
noncomputable def Z9:List PV->Option PV:=Xp 5 Xi
noncomputable def XN:XS:=(Zl (Ui (xB (Zi (Wt false) (Zi Z5 (Za 0) (eC (.int 4))) (eC (.int 3)))) (Yy (eP (Zi YI (Zi Z5 (Zi YB (Za 0) (eC (.int 4))) (Zi ZF (Zi Su (eC (.int 2)) (Zi MA (eC (.int 10)) (eC (.int 29)))) (eC (.int 1)))) (Zi MA (eC (.int 10)) (eC (.int 29)))))) Z1)
  (Yy (eP (Zi YI (Zi Z5 (Zi YB (Za 0) (eC (.int 4))) (eC (.int 41))) (eC (.int 20))))))
noncomputable def Yg:List PV->Option PV:=Xp 1 XN
noncomputable def WW:XS:=(Yy (eP (Qq (Zf Wg [(Za 0),(eC (.ty "tuple"))]) (Qq (Zi (Wt false) (Zf U7 [(Za 0)]) (Za 1)) (Zf Qs [(ZO 1 [] (SI (Za 0)) (.one 0) Z0 (Zf ZU [(Za 0)]))])))))
noncomputable def ZY:List PV->Option PV:=Xp 2 WW
end PW
namespace VL
open PySem PySem.Spec PyProof.Rows L2
variable {K:PySem.W.Frag}
def NM(i j:Int):Prop:=i.natAbs.log2<67108863/\j.natAbs.log2<67108863
def NN(i j:Int):Prop:=j≠0/\j.natAbs.log2<9000
instance (i j:Int):Decidable (NM i j):=by unfold NM;infer_instance
instance (i j:Int):Decidable (NN i j):=by unfold NN;infer_instance
end VL
namespace L2
open PySem PySem.Spec PyProof.Rows
abbrev WJ:=Addr->Obj->List (List ZR×V)->It
end L2
namespace PW
open PySem L2 VL
noncomputable def WX:XS:=(Yy (eP (Zf Z3 [(ZO 1 [1] (ZK [(Zf U7 [(Za 0)])]) (.one 0) Z0 (LN (xB (Zi (Wt false) (Za 0) (Za 1))) (eC (.int 1)) (eC (.int 0))))])))
noncomputable def Y9:List PV->Option PV:=Xp 2 WX
noncomputable def Tj:XS:=(Yy (Zf Wr [(Za 0),(Za 1),(Zf Y9 [(Za 0),(Za 2)])]))
noncomputable def Xj:List PV->Option PV:=Xp 3 Tj
noncomputable def RQ:XS:=(Zl (Zp 1 (eP (Zi ZF (eC (.int 1)) (Zi Z5 (Zf Zo [(Za 0),(eC (.int 0))]) (eC (.int 7))))))
  (Zl (Zp 2 (Zf Z9 [(Zf Yf [(Za 0),(eC (.int 1)),(Za 1)]),(Za 1)]))
  (Zl (Zp 3 (eP (Zf Z3 [(ZO 1 [0] (ZK [(Za 1)]) (.one 0) Z0 (Zf Yg [(Zf Zo [(Za 1),(Zi ZF (eC (.int 29)) (Za 0))])]))])))
  (Zl (Zp 4 (eP (Za 3)))
  (Zl (Zp 5 (Zi Te (Y6 [(eC (.int 0))]) (Za 1)))
  (Zl (YG [5] (SH (Qv SL (Za 0) (Tb (eC (.int 36))) (Tb (eC (.int 62))))) (.one 6) (Zl (Zp 7 (eP (Zi Z5 (Za 6) (Za 1))))
  (Zl (Zp 8 (Zf Xj [(Za 2),(Za 4),(Za 7)]))
  (Zl (Zp 9 (eP (Zf Z3 [(ZO 1 [4,2,7] (ZK [(Za 1)]) (.one 0) Z0 (Zi ZF (Zi Yp (Za 1) (Za 0)) (Zi Yp (Zi Yp (Za 2) (Za 3)) (Za 0))))])))
  (Zl (Zp 9 (eP (Zi Xy (Zi Xy (Qv Vg (Za 9) NG (Tb (Za 7))) (Yl [(Zi YI (Zi Yp (Za 4) (Za 7)) (Zf Wf [(Zi Yp (Za 2) (Za 7))]))])) (Qv Vg (Za 9) (Tb (Zi ZF (Za 7) (eC (.int 1)))) NG))))
  (Zl (Ui (Sz (VH (xB (Zf ZY [(Za 8),(Za 1)]))) (xB (Zi (Wt true) (Za 8) (Za 9)))) (Yy (eP (eC (.bl false)))) Z1)
  (Zl (Zp 10 (Zf Ys [(Za 8)]))
  (Zl (Ui (Sz (VH (xB (Zf ZU [(Za 10)]))) (Sz (xB (Zi (Wt true) (Za 10) (Zf Wf [(Za 3)]))) (xB (Zi (Wt true) (Zf Ys [(Za 4)]) (Za 10))))) (Yy (eP (eC (.bl false)))) Z1)
  (Zl (Zp 4 (eP (Za 8)))
  (WP 5 (Za 7) (Zi ZF (Zi Yp (Za 5) (Za 7)) (eC (.int 1)))))))))))))
  (Zl (Zp 11 (Zf Wr [(Za 2),(Za 3),(Zf Z3 [(Za 5)])]))
  (Zl (Ui (Sz (VH (xB (Zf ZY [(Za 11),(Za 1)]))) (xB (Zi (Wt true) (Za 11) (Za 4)))) (Yy (eP (eC (.bl false)))) Z1)
  (Yy (eP (Zi (Wt false) (Zf Wr [(Za 2),(Za 3),(Zi TZ (Yl [(eC (.int 0))]) (Za 1))]) (Za 3))))))))))))
noncomputable def D_law:List PV->Option PV:=Xp 12 RQ
def RS(i:Nat):Stmt:=PySem.Challenge.pw_purseweb_k11_a_house_lends.main.body.getD i (.Pass ⟨0,0,0,0⟩)
section
variable {P:Program} {w:World} {K:PySem.W.Frag} {mg:Str->Option Value} {base:Heap}
abbrev X1:Stmt:=RS 12
theorem sc_l_square:Zz (["_law_times_here","_law_many","_law_rows","_law_one","_law_other"]:List Str) (["_law_times_here","_law_many"]:List Str) (Zk X1):=⟨rfl,rfl,rfl,by decide +kernel,rfl,by decide +kernel,by decide +kernel⟩
theorem T0(Df:Def K mg "_law_square" X1)(B:Sr mg):XQ P w K mg base "_law_square" (["_law_times_here","_law_many"]:List Str) (Y7 K Z9 2) 1:=
 Yq (O:=[2]) (k:=0) 5 Xi Df sc_l_square (fun _ _ _ _ _ _ us hl=>match us,hl with | [_,_],_=>rfl) rfl rfl (by decide) (fun fa cdv A outer s H E hr=>
  (Zh (O9 (["_law_house"]:List Str) (["_law_many"]:List Str) [1] (i:=2) sc_l_square.nd rfl rfl rfl (Yc rfl B.range (Zb (Zc (pv 1)) Ze)) (by kernel_rfl) (fun _ _ _ _ _=>(Zs (i:=0) (show((["_law_house"]:List Str)++(["_law_many"]:List Str)).Nodup by decide +kernel) rfl (Or.inl rfl) (.inr rfl))) (fun _ _ _ _ _=>YU) (fun _ _ _ _ _=>(Py (WM (Zb Zg Ze)) (Zc (pv 1)))))
  (Zh (RM (UQ PassesOwn.never rfl (U2 (pv 0)) (Vr (n:=2) rfl (Z4 (Zs (i:=3) sc_l_square.nd rfl (Or.inl rfl)) (Z4 (Zs (i:=4) sc_l_square.nd rfl (Or.inl rfl)) X3))) (Zh (UI (Sg (Td (W8 hr) (Zc (pv 0)) (Y1 (Zb (Zc (pv 3)) (Zb (Zc (pv 4)) Ze)))) (Se (Rg ix_list (pv 2) (Zc (pv 3)) (fun _ _=>rfl)) (Zc (pv 4)) Vv)))
  (Zm (UI (Sg (Td (W8 hr) (Zc (pv 0)) (Y1 (Zb (Zc (pv 3)) (Zb (Zc (pv 4)) Ze)))) (Se (Rg ix_list (pv 2) (Zc (pv 4)) (fun _ _=>rfl)) (Zc (pv 3)) Vv)))))))
  (Zm (ZW (VE.pure (Yb ZL YJ rfl B.tuple (by decide +kernel) (Zb (Xg (["_law_row"]:List Str) ([]:List Str) [] rfl (Rx (Zc (pv 2))) (by kernel_rfl) (fun _ _ _ _ _=>(Zs (i:=0) (show((["_law_row"]:List Str)++([]:List Str)).Nodup by decide +kernel) rfl (Or.inl rfl) (.inr rfl))) (fun _ _ _ _ _=>YU) (fun _ _ _ _ _=>(Yb ZL YJ rfl B.tuple (by decide +kernel) (Zb (Zc (pv 0)) Ze)))) Ze))))))))
abbrev SW:Stmt:=RS 5
theorem Nj:Zz (["web","script","house"]:List Str) (["web","script","house"]:List Str) (Zk SW):=⟨rfl,rfl,rfl,by decide +kernel,rfl,by decide +kernel,by decide +kernel⟩
theorem Nk(Df:Def K mg "gain" SW)(B:Sr mg):XQ P w K mg base "gain" (["web","script","house"]:List Str) (Y7 K WU 3) 1:=
 Yq (O:=[]) (k:=0) 3 SV Df Nj (fun _ _ _ _ _ _ us hl=>match us,hl with | [_,_,_],_=>rfl) rfl rfl (by decide) (fun fa cdv A outer s H E hr=>
  (Zm (ZW (VE.pure (ZC (XC rfl) U8 rfl B.sum (by decide +kernel) (Zb (Xg (["other","times"]:List Str) (["script","house"]:List Str) [1,2] rfl (Rz false rfl B.enumerate (Zb (ZJ (Zc (pv 0)) (Zc (pv 2))) Ze)) (by kernel_rfl) (fun _ _ _ _ _=>(Vr (n:=2) rfl (Z4 (Zs (i:=0) (show((["other","times"]:List Str)++(["script","house"]:List Str)).Nodup by decide +kernel) rfl (Or.inl rfl) (.inr rfl)) (Z4 (Zs (i:=1) (show((["other","times"]:List Str)++(["script","house"]:List Str)).Nodup by decide +kernel) rfl (Or.inl rfl) (.inr rfl)) X3)))) (fun _ _ _ _ _=>YU) (fun _ _ _ _ _=>(Sv (Zc (pv 1)) (Y0 (ZJ (Zc (pv 2)) (Zc (pv 0))) (ZJ (Zc (pv 2)) (Zc (pv 3))))))) Ze))))))
abbrev PK:Stmt:=RS 4
theorem MS:Zz (["web","purse","script"]:List Str) (["web","purse","script"]:List Str) (Zk PK):=⟨rfl,rfl,rfl,by decide +kernel,rfl,by decide +kernel,by decide +kernel⟩
theorem MT(Df:Def K mg "run" PK)(B:Sr mg)(C_gain:XQ P w K mg base "gain" (["web","script","house"]:List Str) (Y7 K WU 3) 1):XQ P w K mg base "run" (["web","purse","script"]:List Str) (Y7 K Wr 3) 2:=
 Yq (O:=[]) (k:=1) 3 PJ Df MS (fun _ _ _ _ _ _ us hl=>match us,hl with | [_,_,_],_=>rfl) rfl rfl (by decide) (fun fa cdv A outer s H E hr=>
  (Zm (ZW (VE.pure (Yb ZL YJ rfl B.tuple (by decide +kernel) (Zb (Xg (["house","coins"]:List Str) (["web","script"]:List Str) [0,2] rfl (Rz false rfl B.enumerate (Zb (Zc (pv 1)) Ze)) (by kernel_rfl) (fun _ _ _ _ _=>(Vr (n:=2) rfl (Z4 (Zs (i:=0) (show((["house","coins"]:List Str)++(["web","script"]:List Str)).Nodup by decide +kernel) rfl (Or.inl rfl) (.inr rfl)) (Z4 (Zs (i:=1) (show((["house","coins"]:List Str)++(["web","script"]:List Str)).Nodup by decide +kernel) rfl (Or.inl rfl) (.inr rfl)) X3)))) (fun _ _ _ _ _=>YU) (fun _ _ _ _ _=>(Z2 (Zc (pv 1)) (VM.ve (Zt C_gain (hr.mono (by decide)) rfl (Zb (Zc (pv 2)) (Zb (Zc (pv 3)) (Zb (Zc (pv 0)) Ze)))))))) Ze))))))
abbrev Uc:Stmt:=RS 7
theorem QE:Zz (["_law_script","_law_k"]:List Str) (["_law_script","_law_k"]:List Str) (Zk Uc):=⟨rfl,rfl,rfl,by decide +kernel,rfl,by decide +kernel,by decide +kernel⟩
theorem QF(Df:Def K mg "_law_cell" Uc)(B:Sr mg):XQ P w K mg base "_law_cell" (["_law_script","_law_k"]:List Str) (Y7 K Zo 2) 1:=
 Yq (O:=[]) (k:=0) 2 Ub Df QE (fun _ _ _ _ _ _ us hl=>match us,hl with | [_,_],_=>rfl) rfl rfl (by decide) (fun fa cdv A outer s H E hr=>
  (Zm (ZW (VE.pure (ZJ (VM.ve (O7 (UD (Zc (pv 0)) (XG (Zc (pv 1))) (XG (Z2 (Zc (pv 1)) Zg))) (WM (Zb Zg Ze)))) Zg)))))
abbrev Xz:Stmt:=RS 9
theorem sc_l_renamed:Zz (["_law_found","_law_cell_here","_law_many","_law_names","_law_house","_law_told","_law_one","_law_other","_law_pair"]:List Str) (["_law_found","_law_cell_here","_law_many"]:List Str) (Zk Xz):=⟨rfl,rfl,rfl,by decide +kernel,rfl,by decide +kernel,by decide +kernel⟩
theorem Tk(Df:Def K mg "_law_renamed" Xz)(B:Sr mg):XQ P w K mg base "_law_renamed" (["_law_found","_law_cell_here","_law_many"]:List Str) (Y7 K YY 3) 1:=
 Yq (O:=[3,5]) (k:=0) 9 YX Df sc_l_renamed (fun _ _ _ _ _ _ us hl=>match us,hl with | [_,_,_],_=>rfl) rfl rfl (by decide) (fun fa cdv A outer s H E hr=>
  (Zh (Zr (i:=3) sc_l_renamed.nd rfl (Or.inl rfl) (Pf Rw))
  (Zh (Xt PassesOwn.never rfl (Yc rfl B.range (Zb (Zc (pv 2)) Ze)) (Zs (i:=4) sc_l_renamed.nd rfl (Or.inl rfl)) (Zh (Qy (UP (Q0 PySem.F.plainAttrs_list PySem.F.slot_list_insert PySem.F.type_list_insert Qo (pv 3) (YS (Yo (Zc (pv 1)) (Z2 (Zc (pv 4)) Zg)) (YS (Zc (pv 4)) WA)))))
  (Zm (Zr (i:=1) sc_l_renamed.nd rfl (Or.inl rfl) (VE.pure (Yh (Zc (pv 1)) (Z2 (Zc (pv 4)) Zg)))))))
  (Zh (Zr (i:=5) sc_l_renamed.nd rfl (Or.inl rfl) VP)
  (Zh (RM (UQ PassesOwn.never rfl (U2 (pv 0)) (Vr (n:=2) rfl (Z4 (Zs (i:=6) sc_l_renamed.nd rfl (Or.inl rfl)) (Z4 (Zs (i:=7) sc_l_renamed.nd rfl (Or.inl rfl)) X3))) (Zh (Zr (i:=8) sc_l_renamed.nd rfl (Or.inl rfl) (VE.pure (Y1 (Zb (ZC (Wz rfl) U9 rfl B.min (by decide +kernel) (Zb (ZJ (Zc (pv 3)) (Zc (pv 6))) (Zb (ZJ (Zc (pv 3)) (Zc (pv 7))) Ze))) (Zb (ZC (R7 rfl) OW rfl B.max (by decide +kernel) (Zb (ZJ (Zc (pv 3)) (Zc (pv 6))) (Zb (ZJ (Zc (pv 3)) (Zc (pv 7))) Ze))) Ze)))))
  (Zm (Vn (Vj (W8 hr) (pv 5) (Zc (pv 8)) (Td (W8 hr) (Zc (pv 0)) (Y1 (Zb (Zc (pv 6)) (Zb (Zc (pv 7)) Ze)))) rfl))))))
  (Zm (O4 (pv 5))))))))
abbrev YN:Stmt:=RS 10
theorem sc_l_read_times:Zz (["_law_rest","_law_many","_law_room","_law_most","_law_found","_law_met","_law_one","_law_other","_law_deep","_law_turn"]:List Str) (["_law_rest","_law_many","_law_room","_law_most"]:List Str) (Zk YN):=⟨rfl,rfl,rfl,by decide +kernel,rfl,by decide +kernel,by decide +kernel⟩
theorem Vi(Df:Def K mg "_law_read_times" YN)(B:Sr mg):XQ P w K mg base "_law_read_times" (["_law_rest","_law_many","_law_room","_law_most"]:List Str) (Y7 K ZQ 4) 1:=
 Yq (O:=[4,5]) (k:=0) 10 Yj Df sc_l_read_times (fun _ _ _ _ _ _ us hl=>match us,hl with | [_,_,_,_],_=>rfl) rfl rfl (by decide) (fun fa cdv A outer s H E hr=>
  (Zh (Zr (i:=4) sc_l_read_times.nd rfl (Or.inl rfl) VP)
  (Zh (Zr (i:=5) sc_l_read_times.nd rfl (Or.inl rfl) (Pf (Pe (VE.pure Zg) Rw)))
  (Zh (Xt PassesOwn.never rfl (Yc rfl B.range (Zb (Zc (pv 1)) Ze)) (Zs (i:=6) sc_l_read_times.nd rfl (Or.inl rfl)) (Zm (Xt PassesOwn.never rfl (WO rfl B.range (Zb (Z2 (Zc (pv 6)) Zg) (Zb (Zc (pv 1)) Ze))) (Zs (i:=7) sc_l_read_times.nd rfl (Or.inl rfl)) (Zh (Zr (i:=8) sc_l_read_times.nd rfl (Or.inl rfl) (VE.pure (ZC (Wz rfl) U9 rfl B.min (by decide +kernel) (Zb (Sv (Yo (Zc (pv 0)) Zg) (Z2 Zg (Yo (Yh (Zc (pv 0)) Zg) (Zc (pv 3))))) (Zb (Zc (pv 2)) Ze)))))
  (Zh (Zr (i:=0) sc_l_read_times.nd rfl (Or.inl rfl) (VE.pure (ZJ (WM (Zb (Yh (Zc (pv 0)) Zg) (Zb (Yh (Yh (Zc (pv 0)) Zg) (Zc (pv 3))) Ze))) (Yo (Zc (pv 0)) Zg))))
  (Zm (Wj (LM (Zc (pv 8)) Zg) (Zh (Vn (Vj (W8 hr) (pv 4) (Y1 (Zb (Zc (pv 6)) (Zb (Zc (pv 7)) Ze))) (Zc (pv 8)) rfl))
  (Zm (Zr (i:=2) sc_l_read_times.nd rfl (Or.inl rfl) (VE.pure (Y0 (Zc (pv 2)) (Zc (pv 8))))))) YF)))))))
  (Zh (Xt PassesOwn.never rfl (Yc rfl B.range (Zb (Zc (pv 1)) Ze)) (Zs (i:=9) sc_l_read_times.nd rfl (Or.inl rfl)) (Zm (Pz (O':=[5]) (UQ PassesOwn.never rfl (U2 (pv 4)) (Vr (n:=2) rfl (Z4 (Zs (i:=6) sc_l_read_times.nd rfl (Or.inl rfl)) (Z4 (Zs (i:=7) sc_l_read_times.nd rfl (Or.inl rfl)) X3))) (Zh (Wj (VW.vt (U6 (NH hr.units (Zc (pv 6)) (Zc (pv 5))) (Vl (TU hr.units (Zc (pv 7)) (Zc (pv 5)))))) (Zm (UH (UP (Q0 PySem.F.plainAttrs_list PySem.F.slot_list_append PySem.F.type_list_append Ut (pv 5) (YS (VE.pure (Zc (pv 7))) WA))))) YF)
  (Zm (Wj (VW.vt (U6 (NH hr.units (Zc (pv 7)) (Zc (pv 5))) (Vl (TU hr.units (Zc (pv 6)) (Zc (pv 5)))))) (Zm (UH (UP (Q0 PySem.F.plainAttrs_list PySem.F.slot_list_append PySem.F.type_list_append Ut (pv 5) (YS (VE.pure (Zc (pv 6))) WA))))) YF)))) (by decide) (by intro j;simp;try omega))))
  (Zm (QA (Rg ix_list (Sl (YS NV (YS (pv 4) WA))) (Yb R8 OX rfl B.int (by decide +kernel) (Zb (Ps hr.units (ZC Vt SE rfl B.len (by decide +kernel) (Zb (Zc (pv 5)) Ze)) (Zc (pv 1))) Ze)) (fun _ _=>rfl)))))))))
abbrev WY:Stmt:=RS 11
theorem sc_l_times:Zz (["_law_script","_law_at","_law_many","_law_first","_law_found","_law_room","_law_house","_law_cell_here","_law_deep","_law_k","_law_one","_law_other"]:List Str) (["_law_script","_law_at","_law_many"]:List Str) (Zk WY):=⟨rfl,rfl,rfl,by decide +kernel,rfl,by decide +kernel,by decide +kernel⟩
theorem SX(Df:Def K mg "_law_times" WY)(B:Sr mg)(C_l_cell:XQ P w K mg base "_law_cell" (["_law_script","_law_k"]:List Str) (Y7 K Zo 2) 1)(C_l_read_times:XQ P w K mg base "_law_read_times" (["_law_rest","_law_many","_law_room","_law_most"]:List Str) (Y7 K ZQ 4) 1)(C_l_renamed:XQ P w K mg base "_law_renamed" (["_law_found","_law_cell_here","_law_many"]:List Str) (Y7 K YY 3) 1):XQ P w K mg base "_law_times" (["_law_script","_law_at","_law_many"]:List Str) (Y7 K Yf 3) 2:=
 Yq (O:=[4]) (k:=1) 12 XM Df sc_l_times (fun _ _ _ _ _ _ us hl=>match us,hl with | [_,_,_],_=>rfl) rfl rfl (by decide) (fun fa cdv A outer s H E hr=>
  (Zh (Zr (i:=3) sc_l_times.nd rfl (Or.inl rfl) (Zt C_l_cell (hr.mono (by decide)) rfl (Zb (Zc (pv 0)) (Zb (Zc (pv 1)) Ze))))
  (Zh (Wj (VW.vt (U6 (Pt hr.units (Yo (Zc (pv 3)) Zg) Zg) (Vl (OV (VM.ve (Zt C_l_read_times (hr.mono (by decide)) rfl (Zb (Yh (Zc (pv 3)) Zg) (Zb (Zc (pv 2)) (Zb Zg (Zb Zg Ze)))))))))) (Zm (ZW (Zt C_l_read_times (hr.mono (by decide)) rfl (Zb (Yh (Zc (pv 3)) Zg) (Zb (Zc (pv 2)) (Zb Zg (Zb Zg Ze))))))) YF)
  (Zh (Zr (i:=4) sc_l_times.nd rfl (Or.inl rfl) VP)
  (Zh (Zr (i:=5) sc_l_times.nd rfl (Or.inl rfl) (VE.pure Zg))
  (Zh (Xt PassesOwn.never rfl (WO rfl B.range (Zb Zg (Zb (Zc (pv 2)) Ze))) (Zs (i:=6) sc_l_times.nd rfl (Or.inl rfl)) (Zh (Zr (i:=7) sc_l_times.nd rfl (Or.inl rfl) (Zt C_l_cell (hr.mono (by decide)) rfl (Zb (Zc (pv 0)) (Zb (Z2 (Zc (pv 1)) (Zc (pv 6))) Ze))))
  (Zh (Zr (i:=8) sc_l_times.nd rfl (Or.inl rfl) (VE.pure (ZC (Wz rfl) U9 rfl B.min (by decide +kernel) (Zb (ZJ (WM (Zb Zg (Zb Zg (Zb Zg (Zb Zg (Zb Zg (Zb Zg Ze))))))) (Yo (Yh (Zc (pv 7)) (Zc (pv 6))) Zg)) (Zb (Y0 (Zc (pv 5)) (Y0 (Y0 (Zc (pv 2)) Zg) (Zc (pv 6)))) Ze)))))
  (Zh (Vn (Vj (W8 hr) (pv 4) (Y1 (Zb (Yo (Zc (pv 7)) (Zc (pv 6))) (Zb (Zc (pv 6)) Ze))) (Zc (pv 8)) rfl))
  (Zm (Zr (i:=5) sc_l_times.nd rfl (Or.inl rfl) (VE.pure (Y0 (Zc (pv 5)) (Zc (pv 8))))))))))
  (Zh (Zr (i:=9) sc_l_times.nd rfl (Or.inl rfl) (VE.pure (Z2 (Zc (pv 1)) Zg)))
  (Zh (Xt PassesOwn.never rfl (Yc rfl B.range (Zb (Zc (pv 2)) Ze)) (Zs (i:=10) sc_l_times.nd rfl (Or.inl rfl)) (Zm (Xt PassesOwn.never rfl (WO rfl B.range (Zb (Z2 (Zc (pv 10)) Zg) (Zb (Zc (pv 2)) Ze))) (Zs (i:=11) sc_l_times.nd rfl (Or.inl rfl)) (Zh (Zr (i:=8) sc_l_times.nd rfl (Or.inl rfl) (VE.pure (ZJ (WM (Zb Zg (Zb Zg (Zb Zg (Zb Zg (Zb Zg (Zb Zg (Zb Zg (Zb Zg Ze))))))))) (Yo (VM.ve (Zt C_l_cell (hr.mono (by decide)) rfl (Zb (Zc (pv 0)) (Zb (Zc (pv 9)) Ze)))) Zg))))
  (Zh (Zr (i:=9) sc_l_times.nd rfl (Or.inl rfl) (VE.pure (Z2 (Zc (pv 9)) Zg)))
  (Zm (Wj (VW.vt (U6 (Qz (W8 hr) (Y1 (Zb (Zc (pv 10)) (Zb (Zc (pv 11)) Ze))) (Zc (pv 4))) (Vl (Pw Ln Lo (Mz _) (Mz _) Zg (Zc (pv 8)) (Zc (pv 5)))))) (Zh (Vn (Vj (W8 hr) (pv 4) (Y1 (Zb (Zc (pv 10)) (Zb (Zc (pv 11)) Ze))) (Zc (pv 8)) rfl))
  (Zm (Zr (i:=5) sc_l_times.nd rfl (Or.inl rfl) (VE.pure (Y0 (Zc (pv 5)) (Zc (pv 8))))))) YF)))))))
  (Zm (ZW (Zt C_l_renamed (hr.mono (by decide)) rfl (Zb (Zc (pv 4)) (Zb (Yh (VM.ve (Zt C_l_cell (hr.mono (by decide)) rfl (Zb (Zc (pv 0)) (Zb (Zc (pv 1)) Ze)))) Zg) (Zb (Zc (pv 2)) Ze))))))))))))))
abbrev WZ:Stmt:=RS 3
theorem SY:Zz (["web","house"]:List Str) (["web","house"]:List Str) (Zk WZ):=⟨rfl,rfl,rfl,by decide +kernel,rfl,by decide +kernel,by decide +kernel⟩
theorem SZ(Df:Def K mg "one_at" WZ)(B:Sr mg):XQ P w K mg base "one_at" (["web","house"]:List Str) (Y7 K Y9 2) 1:=
 Yq (O:=[]) (k:=0) 2 WX Df SY (fun _ _ _ _ _ _ us hl=>match us,hl with | [_,_],_=>rfl) rfl rfl (by decide) (fun fa cdv A outer s H E hr=>
  (Zm (ZW (VE.pure (Yb ZL YJ rfl B.tuple (by decide +kernel) (Zb (Xg (["other"]:List Str) (["house"]:List Str) [1] rfl (Yc rfl B.range (Zb (ZC Vt SE rfl B.len (by decide +kernel) (Zb (Zc (pv 0)) Ze)) Ze)) (by kernel_rfl) (fun _ _ _ _ _=>(Zs (i:=0) (show((["other"]:List Str)++(["house"]:List Str)).Nodup by decide +kernel) rfl (Or.inl rfl) (.inr rfl))) (fun _ _ _ _ _=>YU) (fun _ _ _ _ _=>(LO (Pt hr.units (Zc (pv 0)) (Zc (pv 1))) Zg Zg))) Ze))))))
abbrev Tl:Stmt:=RS 2
theorem PL:Zz (["web","purse","house"]:List Str) (["web","purse","house"]:List Str) (Zk Tl):=⟨rfl,rfl,rfl,by decide +kernel,rfl,by decide +kernel,by decide +kernel⟩
theorem PM(Df:Def K mg "lent" Tl)(B:Sr mg)(C_run:XQ P w K mg base "run" (["web","purse","script"]:List Str) (Y7 K Wr 3) 2)(C_one_at2:XQ P w K mg base "one_at" (["web","house"]:List Str) (Y7 K Y9 2) 1):XQ P w K mg base "lent" (["web","purse","house"]:List Str) (Y7 K Xj 3) 3:=
 Yq (O:=[]) (k:=2) 3 Tj Df PL (fun _ _ _ _ _ _ us hl=>match us,hl with | [_,_,_],_=>rfl) rfl rfl (by decide) (fun fa cdv A outer s H E hr=>
  (Zm (ZW (Zt C_run (hr.mono (by decide)) rfl (Zb (Zc (pv 0)) (Zb (Zc (pv 1)) (Zb (VM.ve (Zt C_one_at2 (hr.mono (by decide)) rfl (Zb (Zc (pv 0)) (Zb (Zc (pv 2)) Ze)))) Ze)))))))
abbrev Tm:Stmt:=RS 1
theorem PN:Zz (["purse"]:List Str) (["purse"]:List Str) (Zk Tm):=⟨rfl,rfl,rfl,by decide +kernel,rfl,by decide +kernel,by decide +kernel⟩
theorem PP(Df:Def K mg "total" Tm)(B:Sr mg):XQ P w K mg base "total" (["purse"]:List Str) (Y7 K Ys 1) 1:=
 Yq (O:=[]) (k:=0) 1 Ti Df PN (fun _ _ _ _ _ _ us hl=>match us,hl with | [_],_=>rfl) rfl rfl (by decide) (fun fa cdv A outer s H E hr=>
  (Zm (ZW (VE.pure (ZC (XC rfl) U8 rfl B.sum (by decide +kernel) (Zb (Zc (pv 0)) Ze))))))
abbrev W0:Stmt:=RS 13
theorem S0:Zz (["_law_cell_here"]:List Str) (["_law_cell_here"]:List Str) (Zk W0):=⟨rfl,rfl,rfl,by decide +kernel,rfl,by decide +kernel,by decide +kernel⟩
theorem S1(Df:Def K mg "_law_coins" W0)(B:Sr mg):XQ P w K mg base "_law_coins" (["_law_cell_here"]:List Str) (Y7 K Yg 1) 1:=
 Yq (O:=[]) (k:=0) 1 XN Df S0 (fun _ _ _ _ _ _ us hl=>match us,hl with | [_],_=>rfl) rfl rfl (by decide) (fun fa cdv A outer s H E hr=>
  (Zh (Wj (Pt hr.units (Yo (Zc (pv 0)) Zg) Zg) (Zm (ZW (VE.pure (Y0 (Yo (Yh (Zc (pv 0)) Zg) (Z2 (Sv Zg (Pb Zg Zg)) Zg)) (Pb Zg Zg))))) YF)
  (Zm (ZW (VE.pure (Y0 (Yo (Yh (Zc (pv 0)) Zg) Zg) Zg))))))
abbrev W3:Stmt:=RS 8
theorem S2:Zz (["_law_thing"]:List Str) (["_law_thing"]:List Str) (Zk W3):=⟨rfl,rfl,rfl,by decide +kernel,rfl,by decide +kernel,by decide +kernel⟩
theorem S3(Df:Def K mg "_law_whole" W3)(B:Sr mg):XQ P w K mg base "_law_whole" (["_law_thing"]:List Str) (Y7 K ZU 1) 1:=
 Yq (O:=[]) (k:=0) 1 WV Df S2 (fun _ _ _ _ _ _ us hl=>match us,hl with | [_],_=>rfl) rfl rfl (by decide) (fun fa cdv A outer s H E hr=>
  (Zm (ZW (VE.pure (SC (ZC Xr Ta rfl B.isinstance (by decide +kernel) (Zb (Zc (pv 0)) (Zb (Pi rfl B.int (by decide +kernel)) Ze))) (Pc (MC (ZC Xr Ta rfl B.isinstance (by decide +kernel) (Zb (Zc (pv 0)) (Zb (Pi rfl B.bool (by decide +kernel)) Ze))))))))))
abbrev W4:Stmt:=RS 14
theorem S4:Zz (["_law_found","_law_many"]:List Str) (["_law_found","_law_many"]:List Str) (Zk W4):=⟨rfl,rfl,rfl,by decide +kernel,rfl,by decide +kernel,by decide +kernel⟩
theorem S5(Df:Def K mg "_law_tuple" W4)(B:Sr mg)(C_l_whole:XQ P w K mg base "_law_whole" (["_law_thing"]:List Str) (Y7 K ZU 1) 1):XQ P w K mg base "_law_tuple" (["_law_found","_law_many"]:List Str) (Y7 K ZY 2) 2:=
 Yq (O:=[]) (k:=1) 2 WW Df S4 (fun _ _ _ _ _ _ us hl=>match us,hl with | [_,_],_=>rfl) rfl rfl (by decide) (fun fa cdv A outer s H E hr=>
  (Zm (ZW (VE.pure (SC (ZC Xr Ta rfl B.isinstance (by decide +kernel) (Zb (Zc (pv 0)) (Zb (Pi rfl B.tuple (by decide +kernel)) Ze))) (SC (Ps hr.units (ZC Vt SE rfl B.len (by decide +kernel) (Zb (Zc (pv 0)) Ze)) (Zc (pv 1))) (Pc (ZC (Qn rfl) ME rfl B.all (by decide +kernel) (Zb (Xg (["_law_number"]:List Str) ([]:List Str) [] rfl (MJ (Zc (pv 0))) (by kernel_rfl) (fun _ _ _ _ _=>(Zs (i:=0) (show((["_law_number"]:List Str)++([]:List Str)).Nodup by decide +kernel) rfl (Or.inl rfl) (.inr rfl))) (fun _ _ _ _ _=>YU) (fun _ _ _ _ _=>(VM.ve (Zt C_l_whole (hr.mono (by decide)) rfl (Zb (Zc (pv 0)) Ze))))) Ze)))))))))
abbrev PQ:Stmt:=RS 15
theorem sc_law:Zz (["_law_script","_law_many","_law_web","_law_purse","_law_here","_law_often","_law_cell_here","_law_house","_law_found","_law_due","_law_coins_here","_law_last"]:List Str) (["_law_script"]:List Str) (Zk PQ):=⟨rfl,rfl,rfl,by decide +kernel,rfl,by decide +kernel,by decide +kernel⟩
theorem MU{ff:Addr}{fd:FuncData}(Fn:Fun K "law" "law" PQ ff fd)(B:Sr mg)(C_l_cell:XQ P w K mg base "_law_cell" (["_law_script","_law_k"]:List Str) (Y7 K Zo 2) 1)(C_l_square:XQ P w K mg base "_law_square" (["_law_times_here","_law_many"]:List Str) (Y7 K Z9 2) 1)(C_l_times:XQ P w K mg base "_law_times" (["_law_script","_law_at","_law_many"]:List Str) (Y7 K Yf 3) 2)(C_l_coins:XQ P w K mg base "_law_coins" (["_law_cell_here"]:List Str) (Y7 K Yg 1) 1)(C_lent2:XQ P w K mg base "lent" (["web","purse","house"]:List Str) (Y7 K Xj 3) 3)(C_l_tuple:XQ P w K mg base "_law_tuple" (["_law_found","_law_many"]:List Str) (Y7 K ZY 2) 2)(C_total:XQ P w K mg base "total" (["purse"]:List Str) (Y7 K Ys 1) 1)(C_l_whole:XQ P w K mg base "_law_whole" (["_law_thing"]:List Str) (Y7 K ZU 1) 1)(C_run:XQ P w K mg base "run" (["web","purse","script"]:List Str) (Y7 K Wr 3) 2):WB P w K mg base Ro 4 ff fd (["_law_script"]:List Str) (Y7 K D_law 1):=
 MK (O:=[5]) (k:=3) 12 RQ Fn sc_law rfl rfl (by decide) (fun fa cdv A outer s H E hr=>
  (Zh (Zr (i:=1) sc_law.nd rfl (Or.inl rfl) (VE.pure (Z2 Zg (Yo (VM.ve (Zt C_l_cell (hr.mono (by decide)) rfl (Zb (Zc (pv 0)) (Zb Zg Ze)))) Zg))))
  (Zh (Zr (i:=2) sc_law.nd rfl (Or.inr rfl) (Zt C_l_square (hr.mono (by decide)) rfl (Zb (VM.ve (Zt C_l_times (hr.mono (by decide)) rfl (Zb (Zc (pv 0)) (Zb Zg (Zb (Zc (pv 1)) Ze))))) (Zb (Zc (pv 1)) Ze))))
  (Zh (Zr (i:=3) sc_law.nd rfl (Or.inl rfl) (VE.pure (Yb ZL YJ rfl B.tuple (by decide +kernel) (Zb (Xg (["_law_house"]:List Str) (["_law_script"]:List Str) [0] rfl (Yc rfl B.range (Zb (Zc (pv 1)) Ze)) (by kernel_rfl) (fun _ _ _ _ _=>(Zs (i:=0) (show((["_law_house"]:List Str)++(["_law_script"]:List Str)).Nodup by decide +kernel) rfl (Or.inl rfl) (.inr rfl))) (fun _ _ _ _ _=>YU) (fun _ _ _ _ _=>(VM.ve (Zt C_l_coins (hr.mono (by decide)) rfl (Zb (VM.ve (Zt C_l_cell (hr.mono (by decide)) rfl (Zb (Zc (pv 1)) (Zb (Z2 Zg (Zc (pv 0))) Ze)))) Ze))))) Ze))))
  (Zh (Zr (i:=4) sc_law.nd rfl (Or.inr rfl) (VE.pure (Zc (pv 3))))
  (Zh (Zr (i:=5) sc_law.nd rfl (Or.inl rfl) (Py (WM (Zb Zg Ze)) (Zc (pv 1))))
  (Zh (Xt PassesOwn.never rfl (Rx (UD (Zc (pv 0)) (XG Zg) (XG Zg))) (Zs (i:=6) sc_law.nd rfl (Or.inl rfl)) (Zh (Zr (i:=7) sc_law.nd rfl (Or.inr rfl) (VE.pure (Yo (Zc (pv 6)) (Zc (pv 1)))))
  (Zh (Zr (i:=8) sc_law.nd rfl (Or.inl rfl) (Zt C_lent2 (hr.mono (by decide)) rfl (Zb (Zc (pv 2)) (Zb (Zc (pv 4)) (Zb (Zc (pv 7)) Ze)))))
  (Zh (Zr (i:=9) sc_law.nd rfl (Or.inl rfl) (VE.pure (Yb ZL YJ rfl B.tuple (by decide +kernel) (Zb (Xg (["_law_other"]:List Str) (["_law_here","_law_web","_law_house"]:List Str) [4,2,7] rfl (Yc rfl B.range (Zb (Zc (pv 1)) Ze)) (by kernel_rfl) (fun _ _ _ _ _=>(Zs (i:=0) (show((["_law_other"]:List Str)++(["_law_here","_law_web","_law_house"]:List Str)).Nodup by decide +kernel) rfl (Or.inl rfl) (.inr rfl))) (fun _ _ _ _ _=>YU) (fun _ _ _ _ _=>(Z2 (ZJ (Zc (pv 1)) (Zc (pv 0))) (ZJ (ZJ (Zc (pv 2)) (Zc (pv 3))) (Zc (pv 0)))))) Ze))))
  (Zh (Zr (i:=9) sc_law.nd rfl (Or.inl rfl) (VE.pure (Wa RO RP (Wa RO RP (UE (Zc (pv 9)) RA (XG (Zc (pv 7)))) (Y1 (Zb (Y0 (ZJ (Zc (pv 4)) (Zc (pv 7))) (ZC (XC rfl) U8 rfl B.sum (by decide +kernel) (Zb (ZJ (Zc (pv 2)) (Zc (pv 7))) Ze))) Ze))) (UE (Zc (pv 9)) (XG (Z2 (Zc (pv 7)) Zg)) RA))))
  (Zh (Wj (VW.vt (Ru (SB (Sy (VM.ve (Zt C_l_tuple (hr.mono (by decide)) rfl (Zb (Zc (pv 8)) (Zb (Zc (pv 1)) Ze)))))) (SA (RJ hr.units (Zc (pv 8)) (Zc (pv 9)))))) (Zm (ZW (VE.pure Q9))) YF)
  (Zh (Zr (i:=10) sc_law.nd rfl (Or.inl rfl) (Zt C_total (hr.mono (by decide)) rfl (Zb (Zc (pv 8)) Ze)))
  (Zh (Wj (VW.vt (Ru (SB (Sy (VM.ve (Zt C_l_whole (hr.mono (by decide)) rfl (Zb (Zc (pv 10)) Ze))))) (Ru (RJ hr.units (Zc (pv 10)) (ZC (XC rfl) U8 rfl B.sum (by decide +kernel) (Zb (Zc (pv 3)) Ze))) (SA (RJ hr.units (VM.ve (Zt C_total (hr.mono (by decide)) rfl (Zb (Zc (pv 4)) Ze))) (Zc (pv 10))))))) (Zm (ZW (VE.pure Q9))) YF)
  (Zh (Zr (i:=4) sc_law.nd rfl (Or.inr rfl) (VE.pure (Zc (pv 8))))
  (Zm (Pp (Sg (Z2 (ZJ (Zc (pv 5)) (Zc (pv 7))) Zg) (Se (pv 5) (Zc (pv 7)) Vv)))))))))))))
  (Zh (Zr (i:=11) sc_law.nd rfl (Or.inl rfl) (Zt C_run (hr.mono (by decide)) rfl (Zb (Zc (pv 2)) (Zb (Zc (pv 3)) (Zb (Yb ZL YJ rfl B.tuple (by decide +kernel) (Zb (Zc (pv 5)) Ze)) Ze)))))
  (Zh (Wj (VW.vt (Ru (SB (Sy (VM.ve (Zt C_l_tuple (hr.mono (by decide)) rfl (Zb (Zc (pv 11)) (Zb (Zc (pv 1)) Ze)))))) (SA (RJ hr.units (Zc (pv 11)) (Zc (pv 4)))))) (Zm (ZW (VE.pure Q9))) YF)
  (Zm (ZW (VE.pure (Ps hr.units (VM.ve (Zt C_run (hr.mono (by decide)) rfl (Zb (Zc (pv 2)) (Zb (Zc (pv 3)) (Zb (Wa Nh Ni (Y1 (Zb Zg Ze)) (Zc (pv 1))) Ze))))) (Zc (pv 3)))))))))))))))
end
end PW
namespace PW
open L2 VL
theorem PR(l:List PV)(lo hi:Option Int):(Xh l lo hi).length<=l.length:=by
 unfold Xh;rw[List.length_take,List.length_drop];omega
theorem QG(ns:List Int)(k:Nat):Ve (Xh (iL ns) (some (k:Int)) (some ((k:Int)+1))++[PV.int 0]) 0=some (.int (Zw ns k)):=by
 have e1:((k:Int)+1)=((k+1:Nat):Int):=by omega
 rw[e1]
 refine UU (j:=0) ?_
 unfold Xh;rw[HT.sIx_nat,HT.sIx_nat,List.length_map]
 by_cases h:k<ns.length
 ·rw[Nat.min_eq_left (by omega),Nat.min_eq_left (by omega),show k+1-k=1 by omega]
  rw[List.drop_eq_getElem_cons (by rw[List.length_map];exact h)]
  simp[Zw,List.getD_eq_getElem?_getD,List.getElem?_eq_getElem h]
 ·rw[Nat.min_eq_right (by omega),List.drop_eq_nil_of_le (by rw[List.length_map];omega)]
  simp[Zw,List.getD_eq_getElem?_getD,List.getElem?_eq_none (Nat.not_lt.mp h)]
theorem Vo{ns:List Int}(h:ns.length<=63)(k:Nat):Zo [.cst (iL ns),.int (k:Int)]=some (.int (Zw ns k)):=by
 have hl:=PR (iL ns) (some (k:Int)) (some ((k:Int)+1))
 rw[List.length_map] at hl
 have hp:Zn (Xh (iL ns) (some (k:Int)) (some ((k:Int)+1)))=true:=Qw _ _ (Y5 ns)
 have c:(Xh (iL ns) (some (k:Int)) (some ((k:Int)+1))).length+1<=10000:=by omega
 simp[Zo,Ub,Xp,ZH,Tb,SL,Px,hp,c,QG]
theorem T1(l:List Int):Ys [pP l]=some (.int l.sum):=by
 simp[Ys,Ti,Xp,ZH]
theorem T2(i:Int):ZU [.int i]=some (.bl true):=by
 simp[ZU,WV,Xp,ZH]
def Tn(c:Int):Int:=if c%4=3 then c/4%(2*10^29+1)-10^29 else c/4%41-20
theorem PU(c:Int):Yg [.int c]=some (.int (Tn c)):=by
 unfold Tn
 by_cases h:c%4=3
 ·simp[Yg,XN,Xp,ZH,h,Wx,R6,CMul]
 ·simp[Yg,XN,Xp,ZH,h,Wx,R6,CMul]
theorem RT(l:List Int):XW (iL l)=(List.range l.length).map fun(i:Nat)=>.tup [.int (i:Int),.int (Zw l i)]:=by
 rw[TY,List.length_map]
 apply List.map_congr_left
 intro i hi;rw[Nc l i (List.mem_range.mp hi)]
def Yk(W:List (List Int))(S:List Int)(h:Nat):Int:=((List.range W.length).map fun i=>YQ W h i*(Zw S i-Zw S h)).sum
theorem Nl{W:List (List Int)}{S:List Int}{h:Nat}(ok:Xl W)(hh:h<W.length)(hs:S.length=W.length):WU [wP W,pP S,.int (h:Int)]=some (.int (Yk W S h)):=by
 have hr:=ok.sq h hh;have hf:=ok.few
 have hc:ZO 2 [1,2] (Vb false [Zi Yp (Za 0) (Za 2)]) (.many [0,1]) Z0 (Zi Su (Za 1) (Zi YI (Zi Yp (Za 2) (Za 0)) (Zi Yp (Za 2) (Za 3)))) [some (wP W),some (pP S),some (.int (h:Int))]=some (.lst (iL ((List.range W.length).map fun i=>YQ W h i*(Zw S i-Zw S h)))):=by
  rw[Yr (List.range W.length) (fun(i:Nat)=>.tup [.int (i:Int),.int (YQ W h i)]) (fun i=>.int (YQ W h i*(Zw S i-Zw S h))) (by simp[Tg hh,RT,hr];intro a _;rfl) (by simp;omega) (fun i hi=>?_)]
  ·simp
  ·have hi:=List.mem_range.mp hi
   refine⟨_,rfl,rfl,?_⟩
   have b1:=ok.lo h i hh hi;have b2:=ok.hi h i hh hi
   have hm:∀j,CMul (YQ W h i) j:=fun j=>PH (by omega) (by omega)
   simp[setAll,Zv,Xx (show i<S.length by omega),Xx (show h<S.length by omega),hm]
 simp[WU,SV,Xp,ZH,hc,Yk,-List.map_map]
def Xa(W:List (List Int))(D S:List Int):List Int:=(List.range D.length).map fun h=>Zw D h+Yk W S h
theorem S6{W:List (List Int)}{D S:List Int}(ok:Xl W)(hd:D.length=W.length)(hs:S.length=W.length):Wr [wP W,pP D,pP S]=some (pP (Xa W D S)):=by
 have hf:=ok.few
 have hc:ZO 2 [0,2] (Vb false [Za 1]) (.many [0,1]) Z0 (Zi ZF (Za 1) (Zf WU [Za 2,Za 3,Za 0])) [some (wP W),some (pP D),some (pP S)]=some (.lst (iL (Xa W D S))):=by
  rw[Yr (List.range D.length) (fun(i:Nat)=>.tup [.int (i:Int),.int (Zw D i)]) (fun h=>.int (Zw D h+Yk W S h)) (by simp[RT]) (by simp;omega) (fun i hi=>?_)]
  ·simp[Xa]
  ·have hi:=List.mem_range.mp hi
   refine⟨_,rfl,rfl,?_⟩
   simp[setAll,Zv,Nl ok (show i<W.length by omega) hs]
 simp[Wr,PJ,Xp,ZH,hc]
def YO(n h:Nat):List Int:=(List.range n).map fun(i:Nat)=>if(i:Int)=(h:Int) then 1 else 0
theorem T3{l:List Int}(hl:l.length<=1000):ZY [pP l,.int (l.length:Int)]=some (.bl true):=by
 have hc:ZO 1 [] (SI (Za 0)) (.one 0) Z0 (Zf ZU [Za 0]) [some (pP l),some (.int (l.length:Int))]=some (.lst (bL (l.map fun _=>true))):=by
  rw[Yr l PV.int (fun _=>.bl true) (PF (by simp)) (by omega) (fun i hi=>⟨_,rfl,rfl,by simp[Zv,T2]⟩)]
  simp
 have ha:Qs [.lst (bL (l.map fun _=>true))]=some (.bl true):=by
  rw[MP]
  simp
 simp[ZY,WW,Xp,ZH,hc,ha,-List.map_map]
def tk(e:Ya):List ZR:=[.inl (e.1:Int),.inl (e.2.1:Int)]
def dP(ts:List Ya):PV:=.dT (ts.map tk) (ts.map fun e=>.int e.2.2)
theorem QH(ts:List Ya):Zn (ts.map fun e=>PV.int e.2.2)=true:=UL fun _ _=>rfl
theorem T4(a b:Int):V1 (.tup [.int a,.int b])=some [.inl a,.inl b]:=rfl
theorem S7{e:Ya}{a b:Nat}(h:tk e=[.inl (a:Int),.inl (b:Int)]):e.1=a/\e.2.1=b:=U4 h
theorem T5(ts:List Ya):(ts.map tk).zip (ts.map fun e=>PV.int e.2.2)=ts.map fun e=>(tk e,PV.int e.2.2):=by
 induction ts with
 | nil=>rfl
 | cons e r ih=>rw[List.map_cons,List.map_cons,List.zip_cons_cons,ih];rfl
theorem Nm{n:Nat}{ts:List Ya}(ok:DictOk n ts){a b:Nat}{t:Int}(h:(a,b,t)∈ts):YR (ts.map tk) (ts.map fun e=>PV.int e.2.2) [.inl (a:Int),.inl (b:Int)]=some (.int t):=by
 unfold YR;rw[T5];have nd:=ok.nd
 clear ok
 induction ts with
 | nil=>simp at h
 | cons e r ih=>
  rw[List.map_cons,List.find?_cons];rw[List.map_cons,List.nodup_cons] at nd
  rcases List.mem_cons.mp h with q | q
  ·subst q
   have:decide (tk (a,b,t)=[Sum.inl (a:Int),Sum.inl (b:Int)])=true:=decide_eq_true rfl
   simp only[this,Option.map_some]
  ·have:decide (tk e=[Sum.inl (a:Int),Sum.inl (b:Int)])=false:=decide_eq_false fun z=>by
    obtain⟨h1,h2⟩:=S7 z
    exact nd.1 (List.mem_map.mpr ⟨_,q,by simp[h1,h2]⟩)
   simp only[this]
   exact ih q nd.2
theorem T6{n:Nat}{ts:List Ya}(ok:DictOk n ts){a b:Nat}{t:Int}(h:(a,b,t)∈ts):YM (dP ts) (.tup [.int (a:Int),.int (b:Int)])=some (.int t):=by
 show(V1 (.tup [.int (a:Int),.int (b:Int)])).bind (fun k=>YR (ts.map tk) (ts.map fun e=>PV.int e.2.2) k)=_
 rw[T4];exact Nm ok h
theorem key_mem{ts:List Ya}{a b:Nat}:[Sum.inl (a:Int),Sum.inl (b:Int)]∈ts.map tk↔∃t,(a,b,t)∈ts:=by
 rw[List.mem_map];constructor
 ·rintro⟨e,he,z⟩
  obtain⟨h1,h2⟩:=S7 z
  exact⟨e.2.2,by rw[<-h1,<-h2];exact he⟩
 ·rintro⟨t,ht⟩;exact⟨_,ht,rfl⟩
def S8(ts:List Ya)(a b:Nat):Prop:=∃t,(a,b,t)∈ts
def Ext(ts ts':List Ya):Prop:=∀c d,S8 ts c d->S8 ts' c d
theorem Ext.refl(ts:List Ya):Ext ts ts:=fun _ _ h=>h
theorem Ext.trans{a b c:List Ya}(h:Ext a b)(g:Ext b c):Ext a c:=fun x y z=>g x y (h x y z)
theorem Vp{n:Nat}{ts:List Ya}{a b:Nat}{t:Int}(ok:DictOk n ts)(hab:a<b)(hb:b<n)(h1:1<=t)(h9:t<=9)(hl:ts.length<=10000) :
  ∃ts',O6 (dP ts) (.tup [.int (a:Int),.int (b:Int)]) (.int t)=some (dP ts')/\DictOk n ts'/\ts'.length<=ts.length+1/\S8 ts' a b/\Ext ts ts':=by
 have c:(Zn (ts.map fun e=>PV.int e.2.2)&&Zx (.int t)&&decide ((ts.map tk).length<=10000))=true:=by
  rw[QH,List.length_map,decide_eq_true hl];rfl
 have e0:O6 (dP ts) (.tup [.int (a:Int),.int (b:Int)]) (.int t)=some (.dT (Xv (ts.map tk) [.inl (a:Int),.inl (b:Int)]) (Xw (ts.map tk) (ts.map fun e=>PV.int e.2.2) [.inl (a:Int),.inl (b:Int)] (.int t))):=by
  show(gd _).bind _=_
  rw[Wp c,T4];rfl
 rw[e0]
 obtain⟨ts',p1,p2,p3⟩:=Mw ok hab hb h1 h9
 by_cases hm:∃t',(a,b,t')∈ts
 ·refine⟨ts.map fun e=>if(e.1,e.2.1)=(a,b) then(e.1,e.2.1,t) else e,?_,⟨?_,?_⟩,by simp,?_,?_⟩
  ·unfold Xv Xw dP
   rw[if_pos (key_mem.mpr hm),if_pos (key_mem.mpr hm),T5,List.map_map,List.map_map,List.map_map]
   congr 2
   ·apply List.map_congr_left
    intro e _
    show tk e=tk (if(e.1,e.2.1)=(a,b) then(e.1,e.2.1,t) else e)
    split<;>rfl
   ·apply List.map_congr_left
    intro e _
    show(if tk e=[Sum.inl (a:Int),Sum.inl (b:Int)] then PV.int t else PV.int e.2.2)=PV.int (if(e.1,e.2.1)=(a,b) then((e.1,e.2.1,t):Ya) else e).2.2
    by_cases q:(e.1,e.2.1)=(a,b)
    ·rw[if_pos q,if_pos (by have:=Prod.mk.inj q;show [Sum.inl (e.1:Int),Sum.inl (e.2.1:Int)]=_;rw[this.1,this.2])]
    ·rw[if_neg q,if_neg (fun z=>q (by obtain⟨h1,h2⟩:=S7 z;rw[h1,h2]))]
  ·intro e he
   obtain⟨e',he',rfl⟩:=List.mem_map.mp he
   have:=ok.ok e' he'
   split
   ·exact⟨this.1,this.2.1,h1,h9⟩
   ·exact this
  ·rw[List.map_map]
   have e:((fun e:Ya=>(e.1,e.2.1)) ∘ fun e:Ya=>if(e.1,e.2.1)=(a,b) then(e.1,e.2.1,t) else e)=fun e:Ya=>(e.1,e.2.1):=by
    funext e
    show((if(e.1,e.2.1)=(a,b) then((e.1,e.2.1,t):Ya) else e).1,(if(e.1,e.2.1)=(a,b) then((e.1,e.2.1,t):Ya) else e).2.1)=_
    split<;>rfl
   rw[e];exact ok.nd
  ·obtain⟨t',ht'⟩:=hm
   exact⟨t,List.mem_map.mpr ⟨(a,b,t'),ht',if_pos rfl⟩⟩
  ·rintro c d ⟨u,hu⟩
   by_cases q:(c,d)=(a,b)
   ·exact⟨t,List.mem_map.mpr ⟨(c,d,u),hu,if_pos q⟩⟩
   ·exact⟨u,List.mem_map.mpr ⟨(c,d,u),hu,if_neg q⟩⟩
 ·have hn:∀t',(a,b,t')∉ts:=fun t' h=>hm ⟨t',h⟩
  refine⟨ts++[(a,b,t)],?_,⟨?_,?_⟩,by simp,⟨t,by simp⟩,fun c d ⟨u,hu⟩=>⟨u,List.mem_append_left _ hu⟩⟩
  ·unfold Xv Xw dP
   rw[if_neg (fun z=>hm (key_mem.mp z)),if_neg (fun z=>hm (key_mem.mp z)),List.map_append,List.map_append];rfl
  ·intro e he
   rcases List.mem_append.mp he with q | q
   ·exact ok.ok e q
   ·rw[List.mem_singleton.mp q];exact⟨hab,hb,h1,h9⟩
  ·rw[List.map_append]
   refine UZ ok.nd ?_
   rw[List.mem_map]
   rintro⟨e,he,q⟩
   have:=Prod.mk.inj q
   obtain⟨a',b',t'⟩:=e
   simp only at this
   rw[this.1,this.2] at he
   exact hn t' he
theorem Ws{i:Nat}{fk fv:XE}{s:Zy}{d k v d':PV}(hv:fv s=some v)(hk:fk s=some k)(hd:(s[i]?).join=some d)(hp:O6 d k v=some d'):VL.sDPut i fk fv s=some (.nx (s.set i (some d'))):=by
 unfold VL.sDPut;rw[hv,hk];simp only[Option.bind_some,hd,hp,Option.map_some]
theorem To(ts:List Ya):UJ (dP ts)=some (ts.map fun e=>.tup [.int (e.1:Int),.int (e.2.1:Int)]):=by
 show some ((ts.map tk).map O8)=_
 rw[List.map_map];rfl
def Cl(ts:List Ya)(P:Nat->Prop):Prop:=∀a b,S8 ts a b->(P a↔P b)
def Hang(n:Nat)(ts:List Ya):Prop:=∀P:Nat->Prop,Cl ts P->∀i j,i<n->j<n->(P i↔P j)
def LR(W:List (List Int)):Prop:=∀P:Nat->Prop,(∀a b,a<W.length->b<W.length->0<YQ W a b->(P a↔P b))->∀i j,i<W.length->j<W.length->(P i↔P j)
theorem T7{n:Nat}{M:List (List Int)}{e:Ya}(ok:MatOk n M)(h:e.1<e.2.1/\e.2.1<n/\1<=e.2.2/\e.2.2<=9)(i j:Nat):YQ (ZM M e) i j=if e.2.1=i/\e.1=j then e.2.2 else if e.1=i/\e.2.1=j then e.2.2 else YQ M i j:=by
 obtain⟨a,b,t⟩:=e
 simp only at h ⊢
 obtain⟨l1,r1⟩:=Xe (t:=t) (b:=b) ok.len ok.row (show a<n by omega)
 show YQ (Yu (Yu M a b t) b a t) i j=_
 rw[X8 l1 r1 (by omega) (by omega),X8 ok.len ok.row (by omega) (by omega)]
theorem Nn{n:Nat}{ts:List Ya}(ok:DictOk n ts){a b:Nat}(h:S8 ts a b):a<n/\b<n/\0<YQ (OO n ts) a b:=by
 have keep:∀(l:List Ya)(M:List (List Int)),(∀e∈l,e.1<e.2.1/\e.2.1<n/\1<=e.2.2/\e.2.2<=9)->MatOk n M->0<YQ M a b->0<YQ (l.foldl ZM M) a b:=by
  intro l
  induction l with
  | nil=>exact fun M _ _ h=>h
  | cons e r ih=>
   intro M hl hM hp
   have he:=hl e (by simp)
   refine ih _ (fun e' h'=>hl e' (by simp[h'])) (hM.step he) ?_
   rw[T7 hM he]
   split
   ·omega
   ·split
    ·omega
    ·exact hp
 have gen:∀(l:List Ya)(M:List (List Int)),(∀e∈l,e.1<e.2.1/\e.2.1<n/\1<=e.2.2/\e.2.2<=9)->MatOk n M->S8 l a b->0<YQ (l.foldl ZM M) a b:=by
  intro l
  induction l with
  | nil=>rintro M _ _ ⟨t,ht⟩;simp at ht
  | cons e r ih=>
   rintro M hl hM ⟨t,ht⟩
   have he:=hl e (by simp)
   rcases List.mem_cons.mp ht with q | q
   ·refine keep r _ (fun e' h'=>hl e' (by simp[h'])) (hM.step he) ?_
    rw[T7 hM he];subst q
    simp only at he
    split
    ·show 0<t;omega
    ·rw[if_pos ⟨rfl,rfl⟩];show 0<t;omega
   ·exact ih _ (fun e' h'=>hl e' (by simp[h'])) (hM.step he) ⟨t,q⟩
 obtain⟨t,ht⟩:=id h
 have:=ok.ok _ ht
 simp only at this
 exact⟨by omega,by omega,gen ts _ ok.ok (MatOk.zero n) h⟩
theorem Hang.conn{n:Nat}{ts:List Ya}(h:Hang n ts)(ok:DictOk n ts):LR (OO n ts):=by
 intro P hP i j hi hj
 have hl:=(VC ok).len
 refine h P (fun a b hab=>?_) i j (by omega) (by omega)
 obtain⟨ha,hb,hp⟩:=Nn ok hab
 exact hP a b (by omega) (by omega) hp
theorem T8:∀{l m:List Int},l.Nodup->(∀x∈l,x∈m)->l.length<=m.length
 | [],m,_,_=>Nat.zero_le _
 | x::r,m,nd,h=>by
  have hx:x∈m:=h x (by simp)
  have nd':=List.nodup_cons.mp nd
  have:=T8 (l:=r) (m:=m.erase x) nd'.2 fun y hy=>(List.mem_erase_of_ne (show y≠x from fun z=>nd'.1 (by rw[<-z];exact hy))).mpr (h y (by simp[hy]))
  rw[List.length_erase_of_mem hx] at this;have hp:=List.length_pos_of_mem hx
  rw[List.length_cons];omega
theorem LS{n:Nat}{l:List Int}(nd:l.Nodup)(h:∀x∈l,∃k:Nat,k<n/\x=(k:Int))(hl:l.length=n){j:Nat}(hj:j<n):(j:Int)∈l:=by
 by_cases q:(j:Int)∈l
 ·exact q
 ·have:=T8 (l:=(j:Int)::l) (m:=(List.range n).map fun(k:Nat)=>(k:Int)) (List.nodup_cons.mpr ⟨q,nd⟩) (fun x hx=>by
   rcases List.mem_cons.mp hx with rfl | hx
   ·exact List.mem_map.mpr ⟨j,List.mem_range.mpr hj,rfl⟩
   ·obtain⟨k,hk,rfl⟩:=h x hx
    exact List.mem_map.mpr ⟨k,List.mem_range.mpr hk,rfl⟩)
  rw[List.length_cons,List.length_map,List.length_range] at this;omega
def rL(M:List (List Int)):List PV:=M.map fun r=>.lst (iL r)
theorem PX{M:List (List Int)}{a:Nat}(h:a<M.length):(rL M)[a]?=some (.lst (iL (ZA M a))):=by
 unfold rL
 rw[List.getElem?_map,TF h];rfl
theorem PY{M:List (List Int)}{a b:Nat}{t:Int}:(rL M).set a (.lst ((iL (ZA M a)).set b (.int t)))=rL (Yu M a b t):=by
 unfold rL Yu;rw[List.map_set]
 show _=(List.map (fun r=>PV.lst (iL r)) M).set a (PV.lst (((ZA M a).set b t).map PV.int))
 rw[List.map_set]
theorem QI{n:Nat}{ts:List Ya}(ok:DictOk n ts)(hn:n<=7):Z9 [dP ts,.int (n:Int)]=some (wP (OO n ts)):=by
 have hc:ZO 1 [1] (ZK [Za 1]) (.one 0) Z0 (Zi Te (Y6 [eC (.int 0)]) (Za 1)) [some (dP ts),some (.int (n:Int)),none,none,none]=some (.lst (rL (List.replicate n (List.replicate n 0)))):=by
  rw[Yr (List.range n) (fun(i:Nat)=>.int (i:Int)) (fun _=>.lst (iL (List.replicate n 0))) (Yd (by simp) (by omega)) (by simp;omega) (fun i _=>⟨_,rfl,rfl,?_⟩)]
  ·unfold rL
   rw[List.map_const',List.length_range,List.map_replicate]
  ·have e:Te (.lst [.int 0]) (.int (n:Int))=some (.lst (iL (List.replicate n 0))):=by
    show(if Zn [PV.int 0]=true/\(-1000000:Int)<=(n:Int)/\(n:Int)<=1000000/\[PV.int 0].length*((n:Int)).toNat<=10000 then some (PV.lst (List.replicate ((n:Int)).toNat [PV.int 0]).flatten) else none)=_
    rw[if_pos ⟨rfl,by omega,by omega,by simp;omega⟩,Int.toNat_natCast,Q8]
    simp
   simp[Zv,e]
 have mat:∀i,MatOk n ((ts.take i).foldl ZM (List.replicate n (List.replicate n 0))):=fun i=>VC (ts:=ts.take i) ⟨fun e he=>ok.ok e (List.mem_of_mem_take he),by rw[List.map_take];exact ok.nd.sublist (List.take_sublist _ _)⟩
 obtain⟨s',h1,x,y,h2⟩:=ZT (T:=.many [3,4]) (fb:=Zl (YW 2 (Za 3) (Za 4) (Zi YM (Za 0) (Yl [Za 3,Za 4]))) (YW 2 (Za 4) (Za 3) (Zi YM (Za 0) (Yl [Za 3,Za 4])))) (ls:=ts.map fun e=>.tup [.int (e.1:Int),.int (e.2.1:Int)]) (s:=[some (dP ts),some (.int (n:Int)),some (.lst (rL (List.replicate n (List.replicate n 0)))),none,none])
  (fun i st=>∃x y,st=[some (dP ts),some (.int (n:Int)),some (.lst (rL ((ts.take i).foldl ZM (List.replicate n (List.replicate n 0))))),x,y]) ⟨none,none,rfl⟩ (fun i l st hl hJ=>by
   obtain⟨x,y,rfl⟩:=hJ
   rw[List.getElem?_map] at hl
   cases he:ts[i]? with
   | none=>rw[he] at hl;cases hl
   | some e=>
    rw[he] at hl;cases hl
    obtain⟨a,b,t⟩:=e
    have hmem:(a,b,t)∈ts:=List.mem_of_getElem? he
    obtain⟨hab,hbn,t1,t9⟩:=ok.ok _ hmem
    simp only at hab hbn t1 t9
    have mi:=mat i;have hg:=T6 ok hmem
    refine⟨_,_,rfl,?_,some (.int (a:Int)),some (.int (b:Int)),rfl⟩
    show Zl _ _ [some (dP ts),some (.int (n:Int)),some (.lst (rL ((ts.take i).foldl ZM (List.replicate n (List.replicate n 0))))),some (.int (a:Int)),some (.int (b:Int))]=_
    have sh:=Xe (t:=t) (b:=b) mi.len mi.row (show a<n by omega)
    have lenM:(rL ((ts.take i).foldl ZM (List.replicate n (List.replicate n 0)))).length=n:=by unfold rL;rw[List.length_map];exact mi.len
    have lenM2:(rL (Yu ((ts.take i).foldl ZM (List.replicate n (List.replicate n 0))) a b t)).length=n:=by unfold rL;rw[List.length_map];exact sh.1
    rw[ZP,V8 (l:=.int t) (a:=(a:Int)) (b:=(b:Int)) (j:=a) (c:=b) (m:=rL ((ts.take i).foldl ZM (List.replicate n (List.replicate n 0)))) (n:=iL (ZA ((ts.take i).foldl ZM (List.replicate n (List.replicate n 0))) a)) (by simp[hg]) rfl rfl rfl (Wq (by rw[lenM];omega)) (PX (by rw[mi.len];omega)) (Y5 _) rfl (Wq (by rw[List.length_map,mi.row a (by omega)];omega))]
    simp only[Option.bind_some,PY]
    show YW _ _ _ _ [some (dP ts),some (.int (n:Int)),some (.lst (rL (Yu ((ts.take i).foldl ZM (List.replicate n (List.replicate n 0))) a b t))),some (.int (a:Int)),some (.int (b:Int))]=_
    rw[V8 (l:=.int t) (a:=(b:Int)) (b:=(a:Int)) (j:=b) (c:=a) (m:=rL (Yu ((ts.take i).foldl ZM (List.replicate n (List.replicate n 0))) a b t)) (n:=iL (ZA (Yu ((ts.take i).foldl ZM (List.replicate n (List.replicate n 0))) a b t) b)) (by simp[hg]) rfl rfl rfl (Wq (by rw[lenM2];omega)) (PX (by rw[sh.1];omega)) (Y5 _) rfl (Wq (by rw[List.length_map,sh.2 b (by omega)];omega)),PY]
    have e5:(ts.take (i+1)).foldl ZM (List.replicate n (List.replicate n 0))=ZM ((ts.take i).foldl ZM (List.replicate n (List.replicate n 0))) (a,b,t):=Ss _ _ he
    rw[e5];rfl)
 rw[List.length_map,List.take_length] at h2
 have hsq:(ts.foldl ZM (List.replicate n (List.replicate n 0)))=OO n ts:=rfl
 rw[hsq] at h2
 have hc2:ZO 1 [] (SH (Za 2)) (.one 0) Z0 (Zf Z3 [Za 0]) [some (dP ts),some (.int (n:Int)),some (.lst (rL (OO n ts))),x,y]=some (.lst ((OO n ts).map pP)):=by
  rw[Yr (OO n ts) (fun r=>.lst (iL r)) pP (by simp[rL]) (by rw[(VC ok).len];omega) (fun r _=>⟨_,rfl,rfl,by simp[Zv]⟩)]
 show Xp 5 Xi [dP ts,.int (n:Int)]=_
 unfold Xi;simp only[Xp,ZH,List.map_cons,List.map_nil,List.length_cons,List.length_nil,ZP,V5]
 show(((ZO 1 [1] (ZK [Za 1]) (.one 0) Z0 (Zi Te (Y6 [eC (.int 0)]) (Za 1)) [some (dP ts),some (.int (n:Int)),none,none,none]).map _).bind _).bind WQ=_
 rw[hc];simp only[Option.map_some,Option.bind_some]
 show((V3 0 _ _ [some (dP ts),some (.int (n:Int)),some (.lst (rL (List.replicate n (List.replicate n 0)))),none,none]).bind _).bind WQ=_
 unfold V3
 show(((UJ (dP ts)).bind fun ls=>YL _ _ ls [some (dP ts),some (.int (n:Int)),some (.lst (rL (List.replicate n (List.replicate n 0)))),none,none]).bind _).bind WQ=_
 rw[To];simp only[Option.bind_some];rw[h1,h2];simp[hc2]
theorem MV(l:List Int)(k:Nat)(x:Int):(iL l).take k++PV.int x::(iL l).drop k=iL (l.take k++x::l.drop k):=by
 show(l.map PV.int).take k++PV.int x::(l.map PV.int).drop k=(l.take k++x::l.drop k).map PV.int
 rw[List.map_append,List.map_cons,List.map_take,List.map_drop]
theorem S9{n:Nat}{ts:List Ya}(ok:DictOk n ts)(hn:n<=7)(hl:ts.length<=1000)(c:Int):∃ts',YY [dP ts,.int c,.int (n:Int)]=some (dP ts')/\DictOk n ts'/\ts'.length<=ts.length/\(Hang n ts->Hang n ts'):=by
 obtain⟨s1,h1,c1,x1,l1,e1,nk⟩:=ZT (T:=.one 4) (fb:=Zl (XJ 3 (Zi Z5 (Za 1) (Zi ZF (Za 4) (eC (.int 1)))) (Za 4)) (Zp 1 (eP (Zi YB (Za 1) (Zi ZF (Za 4) (eC (.int 1))))))) (ls:=Y2 n) (s:=[some (dP ts),some (.int c),some (.int (n:Int)),some (.lst []),none,none,none,none,none])
  (fun i st=>∃(c':Int) (x:Option PV) (l:List Int),st=[some (dP ts),some (.int c'),some (.int (n:Int)),some (.lst (iL l)),x,none,none,none,none]/\NamesOk i l) ⟨c,none,[],rfl,NamesOk.nil⟩ (fun i l st hl hJ=>by
   obtain⟨hi,rfl⟩:=Wm hl
   obtain⟨c',x,nl,rfl,nk⟩:=hJ
   have hd:0<(i:Int)+1:=by omega
   have hm0:=Int.emod_nonneg c' (show(i:Int)+1≠0 by omega)
   have hm1:=Int.emod_lt_of_pos c' hd
   refine⟨_,_,rfl,?_,c'/((i:Int)+1),some (.int (i:Int)),nl.take (c'%((i:Int)+1)).toNat++(i:Int)::nl.drop (c'%((i:Int)+1)).toNat,rfl,nk.ins _⟩
   show Zl _ _ [some (dP ts),some (.int c'),some (.int (n:Int)),some (.lst (iL nl)),some (.int (i:Int)),none,none,none,none]=_
   rw[ZP,SU (k:=c'%((i:Int)+1)) (l:=.int (i:Int)) (m:=iL nl) (by simp[hd]) rfl rfl (Y5 nl) rfl hm0 (by omega) (by rw[List.length_map,nk.len];omega),MV]
   have hcd:Wx c' ((i:Int)+1):=WS hd (by omega)
   simp[hcd])
 have nkn:=nk;rw[Wn] at nkn
 obtain⟨s2,h2,x6,x7,x8,ts',e2,ok',hle,hall⟩:=ZT (T:=.many [6,7]) (fb:=Zl (Zp 8 (eP (Yl [Zf Xm [Zi Yp (Za 3) (Za 6),Zi Yp (Za 3) (Za 7)],Zf UA [Zi Yp (Za 3) (Za 6),Zi Yp (Za 3) (Za 7)]]))) (VL.sDPut 5 (Za 8) (Zi YM (Za 0) (Yl [Za 6,Za 7])))) (ls:=ts.map fun e=>.tup [.int (e.1:Int),.int (e.2.1:Int)])
  (s:=[some (dP ts),some (.int c1),some (.int (n:Int)),some (.lst (iL l1)),x1,some (dP []),none,none,none])
  (fun i st=>∃(x6 x7 x8:Option PV) (ts':List Ya),st=[some (dP ts),some (.int c1),some (.int (n:Int)),some (.lst (iL l1)),x1,some (dP ts'),x6,x7,x8]/\DictOk n ts'/\ts'.length<=i/\∀(j:Nat)(e:Ya),j<i->ts[j]?=some e->S8 ts' (Zw l1 e.1).toNat (Zw l1 e.2.1).toNat\/S8 ts' (Zw l1 e.2.1).toNat (Zw l1 e.1).toNat) ⟨none,none,none,[],rfl,DictOk.nil n,Nat.le_refl _,fun j e hj _=>by omega⟩ (fun i l st hl' hJ=>by
   obtain⟨x6,x7,x8,ts',rfl,ok',hle,hall⟩:=hJ
   rw[List.getElem?_map] at hl'
   cases he:ts[i]? with
   | none=>rw[he] at hl';cases hl'
   | some e=>
    rw[he] at hl'
    cases hl'
    obtain⟨a,b,t⟩:=e
    have hil:=(List.getElem?_eq_some_iff.mp he).1
    have hmem:(a,b,t)∈ts:=List.mem_of_getElem? he
    obtain⟨hab,hbn,t1,t9⟩:=ok.ok _ hmem
    simp only at hab hbn t1 t9
    have hg:=T6 ok hmem;rw[Wn] at nk
    have na:=nk.at (x:=a) (by omega)
    have nb:=nk.at (x:=b) (by omega)
    have ne:=nk.ne (x:=a) (y:=b) (by omega) (by omega) (by omega)
    -- the pair
    obtain⟨p,q,ep,eq,hpq,hqn⟩:∃p q:Nat,(if Zw l1 b<Zw l1 a then Zw l1 b else Zw l1 a)=(p:Int)/\(if Zw l1 b>Zw l1 a then Zw l1 b else Zw l1 a)=(q:Int)/\p<q/\q<n:=by
     refine⟨(if Zw l1 b<Zw l1 a then Zw l1 b else Zw l1 a).toNat,(if Zw l1 b>Zw l1 a then Zw l1 b else Zw l1 a).toNat,?_,?_,?_,?_⟩<;>split<;>(try split)<;>omega
    obtain⟨ts2,pe,ok2,hle2,hh2,hx2⟩:=Vp (t:=t) ok' hpq hqn t1 t9 (by omega)
    have ia:=Xx (l:=l1) (k:=a) (by rw[nk.len];omega)
    have ib:=Xx (l:=l1) (k:=b) (by rw[nk.len];omega)
    refine⟨_,_,rfl,?_,some (.int (a:Int)),some (.int (b:Int)),some (.tup [.int (p:Int),.int (q:Int)]),ts2,rfl,ok2,by omega,fun j e hj hje=>by
     by_cases hji:j<i
     ·exact(hall j e hji hje).imp (hx2 _ _) (hx2 _ _)
     ·have hj':j=i:=by omega
      subst hj'
      rw[he] at hje;cases hje
      show S8 ts2 (Zw l1 a).toNat (Zw l1 b).toNat\/S8 ts2 (Zw l1 b).toNat (Zw l1 a).toNat
      by_cases hlt:Zw l1 b<Zw l1 a
      ·rw[if_pos hlt] at ep
       rw[if_neg (by omega)] at eq
       exact .inr (by rw[ep,eq];exact hh2)
      ·rw[if_neg hlt] at ep
       rw[if_pos (by omega)] at eq
       exact .inl (by rw[ep,eq];exact hh2)⟩
    show Zl _ _ [some (dP ts),some (.int c1),some (.int (n:Int)),some (.lst (iL l1)),x1,some (dP ts'),some (.int (a:Int)),some (.int (b:Int)),x8]=_
    have hset:Zp 8 (eP (Yl [Zf Xm [Zi Yp (Za 3) (Za 6),Zi Yp (Za 3) (Za 7)],Zf UA [Zi Yp (Za 3) (Za 6),Zi Yp (Za 3) (Za 7)]])) [some (dP ts),some (.int c1),some (.int (n:Int)),some (.lst (iL l1)),x1,some (dP ts'),some (.int (a:Int)),some (.int (b:Int)),x8]=some (.nx [some (dP ts),some (.int c1),some (.int (n:Int)),some (.lst (iL l1)),x1,some (dP ts'),some (.int (a:Int)),some (.int (b:Int)),some (.tup [.int (p:Int),.int (q:Int)])]):=by
     simp[ia,ib,ep,eq]
    rw[ZP,hset];simp only[Option.bind_some]
    rw[Ws (v:=.int t) (k:=.tup [.int (p:Int),.int (q:Int)]) (d:=dP ts') (by simp[hg]) rfl rfl pe]
    rfl)
 rw[List.length_map] at hle hall
 refine⟨ts',?_,ok',hle,fun hg P hP i j hi hj=>?_⟩
 rotate_left
 ·have sur:∀k,k<n->∃x,x<n/\(Zw l1 x).toNat=k:=fun k hk=>by
   have hm:=LS nkn.nd (fun x hx=>⟨x.toNat,by have:=nkn.lo x hx;have:=nkn.hi x hx;omega,by have:=nkn.lo x hx;omega⟩) nkn.len hk
   obtain⟨x,hx,ex⟩:=List.getElem_of_mem hm
   refine⟨x,by rw[<-nkn.len];exact hx,?_⟩
   unfold Zw
   rw[List.getD_eq_getElem?_getD,List.getElem?_eq_getElem hx,ex];rfl
  obtain⟨x,hx,rfl⟩:=sur i hi
  obtain⟨y,hy,rfl⟩:=sur j hj
  refine hg (fun k=>P (Zw l1 k).toNat) (fun a b hab=>?_) x y hx hy
  obtain⟨t,ht⟩:=hab
  obtain⟨k,hk,ek⟩:=List.getElem_of_mem ht
  rcases hall k (a,b,t) hk (by rw[List.getElem?_eq_getElem hk,ek]) with q | q
  ·exact hP _ _ q
  ·exact(hP _ _ q).symm
 show Xp 9 YX [dP ts,.int c,.int (n:Int)]=_
 unfold YX;simp only[Xp,ZH,List.map_cons,List.map_nil,List.length_cons,List.length_nil,ZP,V5]
 have hr:ZK [Za 2] (ZD [3,5] [some (dP ts),some (.int c),some (.int (n:Int)),some (.lst []),none,none,none,none,none])=some (Y2 n):=Yd (by simp[ZD]) (by omega)
 show((YG [3,5] (ZK [Za 2]) (.one 4) _ [some (dP ts),some (.int c),some (.int (n:Int)),some (.lst []),none,none,none,none,none]).bind _).bind WQ=_
 rw[Yz,hr];simp only[Option.bind_some]
 rw[show(YL (.one 4) (Zl (XJ 3 (Zi Z5 (Za 1) (Zi ZF (Za 4) (eC (.int 1)))) (Za 4)) (Zp 1 (eP (Zi YB (Za 1) (Zi ZF (Za 4) (eC (.int 1))))))) (Y2 n) [some (dP ts),some (.int c),some (.int (n:Int)),some (.lst []),none,none,none,none,none])=some (.nx s1) from h1,e1]
 show((V3 0 _ _ [some (dP ts),some (.int c1),some (.int (n:Int)),some (.lst (iL l1)),x1,some (dP []),none,none,none]).bind _).bind WQ=_
 unfold V3
 show(((UJ (dP ts)).bind fun ls=>YL _ _ ls [some (dP ts),some (.int c1),some (.int (n:Int)),some (.lst (iL l1)),x1,some (dP []),none,none,none]).bind _).bind WQ=_
 rw[To];simp only[Option.bind_some];rw[h2,e2];rfl
theorem PZ{r m:Int}(h1:1<=m)(h9:m<=9):0<=r%2*(1+r/2%m)/\r%2*(1+r/2%m)<=9:=by
 have a1:=Int.emod_nonneg (r/2) (show m≠0 by omega)
 have a2:=Int.emod_lt_of_pos (r/2) (show 0<m by omega)
 have a3:r%2=0\/r%2=1:=by omega
 rcases a3 with e | e<;>rw[e]<;>omega
theorem Kv{x y:PV}(c:Int):Ve [x,y] (c%2)=some (if c%2=0 then x else y):=by
 have h:c%2=0\/c%2=1:=by omega
 rcases h with h | h<;>rw[h]<;>rfl
theorem LT(neg:Bool)(a:Int)(l:List Int):TM neg (.int a) (.lst (iL l))=some (.bl (if neg then !decide (a∈l) else decide (a∈l))):=by
 unfold TM
 have c:((iL l).all fun z=>YE 8 z (.int a))=true:=by
  rw[List.all_map,List.all_eq_true]
  intro x _;rfl
 show(some (iL l)).bind _=_
 simp only[Option.bind_some,if_pos c]
 have:decide (PV.int a∈iL l)=decide (a∈l):=decide_eq_decide.mpr (by
  rw[List.mem_map];constructor
  ·rintro⟨x,hx,e⟩;cases e;exact hx
  ·intro h;exact⟨a,h,rfl⟩)
 rw[this]
noncomputable def NO:XS:=(Zl (Zp 8 (eP (Zf Xm [(Zi Su (Zi Z5 (Za 0) (eC (.int 2))) (Zi ZF (eC (.int 1)) (Zi Z5 (Zi YB (Za 0) (eC (.int 2))) (Za 3)))),(Za 2)])))
  (Zl (Zp 0 (eP (Zi Yp (Y6 [(Zi YB (Za 0) (eC (.int 2))),(Zi YB (Zi YB (Za 0) (eC (.int 2))) (Za 3))]) (Zi Z5 (Za 0) (eC (.int 2))))))
  (Ui (xB (Zi LK (Za 8) (eC (.int 0)))) (Zl (VL.sDPut 4 (Yl [(Za 6),(Za 7)]) (Za 8))
  (Zp 2 (eP (Zi YI (Za 2) (Za 8))))) Z1)))
def YC(n:Nat)(most:Int)(ts:List Ya)(Zj room:Int)(x6 x7 x8:Option Int)(x9:Option Int)(met:List Int):Zy:=
 [some (.int Zj),some (.int (n:Int)),some (.int room),some (.int most),some (dP ts),some (.lst (iL met)),x6.map PV.int,x7.map PV.int,x8.map PV.int,x9.map PV.int]
theorem MW{n:Nat}{most:Int}{ts:List Ya}{Zj room:Int}{a b:Nat}{x8 x9:Option Int}{met:List Int}(h1:1<=most)(h9:most<=9)(ok:DictOk n ts)(hl:ts.length<=1000)(hab:a<b)(hb:b<n) :
  ∃ts' rest' room' x8',NO (YC n most ts Zj room (some (a:Int)) (some (b:Int)) x8 x9 met)=some (.nx (YC n most ts' rest' room' (some (a:Int)) (some (b:Int)) (some x8') x9 met))/\DictOk n ts'/\ts'.length<=ts.length+1:=by
 obtain⟨d0,d9⟩:=PZ (r:=Zj) h1 h9
 have cm:CMul (Zj%2) (1+Zj/2%most):=PH (by omega) (by omega)
 have cd:Wx Zj 2:=WS (by omega) (by omega)
 have cd2:Wx (Zj/2) most:=WS (by omega) (by omega)
 have hm:0<most:=by omega
 generalize hdp:(if room<Zj%2*(1+Zj/2%most) then room else Zj%2*(1+Zj/2%most))=dp
 have hdp9:dp<=9:=by rw[<-hdp];split<;>omega
 generalize hrs:(if Zj%2=0 then Zj/2 else Zj/2/most)=rs
 have hif:(if Zj%2=0 then PV.int (Zj/2) else PV.int (Zj/2/most))=PV.int rs:=by rw[<-hrs];split<;>rfl
 have first:(Zl (Zp 8 (eP (Zf Xm [(Zi Su (Zi Z5 (Za 0) (eC (.int 2))) (Zi ZF (eC (.int 1)) (Zi Z5 (Zi YB (Za 0) (eC (.int 2))) (Za 3)))),(Za 2)]))) (Zp 0 (eP (Zi Yp (Y6 [(Zi YB (Za 0) (eC (.int 2))),(Zi YB (Zi YB (Za 0) (eC (.int 2))) (Za 3))]) (Zi Z5 (Za 0) (eC (.int 2)))))))
   (YC n most ts Zj room (some (a:Int)) (some (b:Int)) x8 x9 met)=some (.nx (YC n most ts rs room (some (a:Int)) (some (b:Int)) (some dp) x9 met)):=by
  simp[YC,cm,cd,cd2,hm,Kv,hif,hdp]
 have split3:∀(f g h:XS)(s s1:Zy),Zl f g s=some (.nx s1)->Zl f (Zl g h) s=h s1:=fun f g h s s1 e=>by
  simp only[ZP] at e ⊢
  cases q:f s with
  | none=>rw[q] at e;cases e
  | some o=>
   rw[q] at e
   cases o with
   | nx s2=>
    simp only[Option.bind_some] at e ⊢
    rw[e];rfl
   | _=>cases e
 by_cases hpos:0<dp
 ·obtain⟨ts2,pe,ok2,hle2,_,_⟩:=Vp (t:=dp) ok hab hb (by omega) hdp9 (by omega)
  refine⟨ts2,rs,room-dp,dp,?_,ok2,hle2⟩
  unfold NO;rw[split3 _ _ _ _ _ first]
  have hput:=Ws (i:=4) (fk:=Yl [Za 6,Za 7]) (fv:=Za 8) (s:=YC n most ts rs room (some (a:Int)) (some (b:Int)) (some dp) x9 met) (v:=.int dp) (k:=.tup [.int (a:Int),.int (b:Int)]) (d:=dP ts) rfl (by simp[YC]) rfl pe
  have ht:xB (Zi LK (Za 8) (eC (.int 0))) (YC n most ts rs room (some (a:Int)) (some (b:Int)) (some dp) x9 met)=some true:=by simp[YC,hpos]
  rw[Wl,ht];simp only[Option.bind_some,if_true];rw[ZP,hput];simp[YC]
 ·refine⟨ts,rs,room,dp,?_,ok,by omega⟩
  unfold NO;rw[split3 _ _ _ _ _ first]
  have ht:xB (Zi LK (Za 8) (eC (.int 0))) (YC n most ts rs room (some (a:Int)) (some (b:Int)) (some dp) x9 met)=some false:=by simp[YC,hpos]
  rw[Wl,ht]
  simp
theorem P0{n:Nat}{most:Int}{a:Nat}{ts:List Ya}{Zj room:Int}{x7 x8 x9:Option Int}{met:List Int}(h1:1<=most)(h9:most<=9)(ok:DictOk n ts)(hl:ts.length<=100)(ha:a<n)(hn:n<=7) :
  ∃ts' rest' room' y7 y8,YL (.one 7) NO (Y3 ((a:Int)+1) (n-(a+1))) (YC n most ts Zj room (some (a:Int)) x7 x8 x9 met)=some (.nx (YC n most ts' rest' room' (some (a:Int)) y7 y8 x9 met))/\DictOk n ts'/\ts'.length<=ts.length+7:=by
 obtain⟨s',h,ts',rest',room',y7,y8,e,ok',hle⟩:=ZT (T:=.one 7) (fb:=NO) (ls:=Y3 ((a:Int)+1) (n-(a+1))) (s:=YC n most ts Zj room (some (a:Int)) x7 x8 x9 met)
  (fun j st=>∃ts' rest' room' y7 y8,st=YC n most ts' rest' room' (some (a:Int)) y7 y8 x9 met/\DictOk n ts'/\ts'.length<=ts.length+j) ⟨ts,Zj,room,x7,x8,rfl,ok,by omega⟩ (fun j l st hl' hJ=>by
   obtain⟨hj,rfl⟩:=V6 hl'
   obtain⟨ts',rest',room',y7,y8,rfl,ok',hle⟩:=hJ
   have e1:(a:Int)+1+(j:Int)=((a+1+j:Nat):Int):=by omega
   rw[e1]
   obtain⟨ts2,r2,m2,z8,e2,ok2,hle2⟩:=MW (Zj:=rest') (room:=room') (x8:=y8) (x9:=x9) (met:=met) h1 h9 ok' (by omega) (show a<a+1+j by omega) (by omega)
   exact⟨_,_,rfl,e2,ts2,r2,m2,some ((a+1+j:Nat):Int),some z8,rfl,ok2,by omega⟩)
 rw[V7] at hle
 exact⟨ts',rest',room',y7,y8,by rw[h,e],ok',by omega⟩
theorem P1{n:Nat}{most:Int}{Zj room:Int}{met:List Int}(h1:1<=most)(h9:most<=9)(hn:n<=7) :
  ∃ts' rest' room' y6 y7 y8,YL (.one 6) (YG [4,5] (Yn [Zi ZF (Za 6) (eC (.int 1)),Za 1]) (.one 7) NO) (Y2 n) (YC n most [] Zj room none none none none met)=some (.nx (YC n most ts' rest' room' y6 y7 y8 none met))/\DictOk n ts'/\ts'.length<=49:=by
 obtain⟨s',h,ts',rest',room',y6,y7,y8,e,ok',hle⟩:=ZT (T:=.one 6) (fb:=YG [4,5] (Yn [Zi ZF (Za 6) (eC (.int 1)),Za 1]) (.one 7) NO) (ls:=Y2 n) (s:=YC n most [] Zj room none none none none met)
  (fun i st=>∃ts' rest' room' y6 y7 y8,st=YC n most ts' rest' room' y6 y7 y8 none met/\DictOk n ts'/\ts'.length<=7*i) ⟨[],Zj,room,none,none,none,rfl,DictOk.nil n,by simp⟩ (fun i l st hl' hJ=>by
   obtain⟨hi,rfl⟩:=Wm hl'
   obtain⟨ts',rest',room',y6,y7,y8,rfl,ok',hle⟩:=hJ
   obtain⟨ts2,r2,m2,z7,z8,e2,ok2,hle2⟩:=P0 (Zj:=rest') (room:=room') (x7:=y7) (x8:=y8) (x9:=none) (met:=met) h1 h9 ok' (by omega) hi hn
   refine⟨_,_,rfl,?_,ts2,r2,m2,some (i:Int),z7,z8,rfl,ok2,by omega⟩
   have hr:Yn [Zi ZF (Za 6) (eC (.int 1)),Za 1] (ZD [4,5] (YC n most ts' rest' room' (some (i:Int)) y7 y8 none met))=some (Y3 ((i:Int)+1) (n-(i+1))):=by
    rw[WR (i:=(i:Int)+1) (j:=(n:Int)) (by simp[ZD,YC]) (by simp[ZD,YC]) ⟨by omega,by omega⟩ ⟨by omega,by omega⟩]
    congr 2;omega
   show YG _ _ _ _ (YC n most ts' rest' room' (some (i:Int)) y7 y8 none met)=_
   rw[Yz,hr]
   exact e2)
 rw[Wn] at hle
 exact⟨ts',rest',room',y6,y7,y8,by rw[h,e],ok',by omega⟩
noncomputable def Ra:XS:=(Zl (Ui (XY (xB (Zi (TM false) (Za 6) (Za 5))) (xB (Zi (TM true) (Za 7) (Za 5)))) (YV 5 (eP (Za 7))) Z1)
  (Ui (XY (xB (Zi (TM false) (Za 7) (Za 5))) (xB (Zi (TM true) (Za 6) (Za 5)))) (YV 5 (eP (Za 6))) Z1))
structure MetOk(n:Nat)(ts:List Ya)(met:List Int):Prop where
 nd:met.Nodup
 ok:∀m∈met,∃k:Nat,k<n/\m=(k:Int)/\∀P:Nat->Prop,Cl ts P->(P k↔P 0)
theorem MetOk.add{n:Nat}{ts:List Ya}{met:List Int}{a b:Nat}(h:MetOk n ts met)(hab:S8 ts a b\/S8 ts b a)(hb:b<n)(ha:(a:Int)∈met)(hnb:(b:Int)∉met):MetOk n ts (met++[(b:Int)]):=by
 refine⟨?_,fun m hm=>?_⟩
 ·rw[List.nodup_append]
  refine⟨h.nd,by simp,fun x hx y hy z=>?_⟩
  rw[List.mem_singleton.mp hy] at z
  exact hnb (z▸hx)
 ·rcases List.mem_append.mp hm with hm | hm
  ·exact h.ok m hm
  ·refine⟨b,hb,List.mem_singleton.mp hm,fun P hP=>?_⟩
   obtain⟨k,hk,e,q⟩:=h.ok _ ha
   have:a=k:=by omega
   subst this
   rcases hab with z | z
   ·exact(hP _ _ z).symm.trans (q P hP)
   ·exact(hP _ _ z).trans (q P hP)
theorem MetOk.hang{n:Nat}{ts:List Ya}{met:List Int}(h:MetOk n ts met)(hl:met.length=n):Hang n ts:=by
 have all:∀P,Cl ts P->∀i,i<n->(P i↔P 0):=fun P hP i hi=>by
  have hm:=LS h.nd (fun x hx=>by obtain⟨k,hk,e,_⟩:=h.ok x hx;exact⟨k,hk,e⟩) hl hi
  obtain⟨k,hk,e,q⟩:=h.ok _ hm
  have:i=k:=by omega
  subst this
  exact q P hP
 exact fun P hP i j hi hj=>(all P hP i hi).trans (all P hP j hj).symm
theorem T9{n:Nat}{most:Int}{ts:List Ya}{Zj room:Int}{a b:Int}{x8 x9:Option Int}{met:List Int}(hl:met.length<=5000)(f g:Nat)(va vb:Int)(hf:∀met,(YC n most ts Zj room (some a) (some b) x8 x9 met)[f]?=some (some (.int va)))(hg:∀met,(YC n most ts Zj room (some a) (some b) x8 x9 met)[g]?=some (some (.int vb))) :
  ∃met',Ui (XY (xB (Zi (TM false) (Za f) (Za 5))) (xB (Zi (TM true) (Za g) (Za 5)))) (YV 5 (eP (Za g))) Z1 (YC n most ts Zj room (some a) (some b) x8 x9 met)=some (.nx (YC n most ts Zj room (some a) (some b) x8 x9 met'))/\met'.length<=met.length+1/\(met'=met\/(va∈met/\vb∉met/\met'=met++[vb])):=by
 have h5:(YC n most ts Zj room (some a) (some b) x8 x9 met)[5]?=some (some (.lst (iL met))):=rfl
 have t:XY (xB (Zi (TM false) (Za f) (Za 5))) (xB (Zi (TM true) (Za g) (Za 5))) (YC n most ts Zj room (some a) (some b) x8 x9 met)=some (decide (va∈met)&&!decide (vb∈met)):=by
  simp only[TX,MN,Na,TW,hf,hg,h5,Option.join_some,Option.bind_some,LT,MO]
  by_cases h:va∈met<;>simp[h]
 rw[Wl,t];simp only[Option.bind_some]
 split
 ·rename_i hc
  refine⟨met++[vb],?_,by simp,.inr ⟨by simp at hc;exact hc.1,by simp at hc;exact hc.2,rfl⟩⟩
  rw[SS (l:=.int vb) (m:=iL met) (by simp only[MM,TW,hg,Option.join_some,Option.bind_some,QC,if_true]) rfl (by rw[List.length_map];omega)]
  simp[YC]
 ·exact⟨met,rfl,by omega,.inl rfl⟩
theorem No{n:Nat}{most:Int}{ts:List Ya}{Zj room:Int}{a b:Int}{x8 x9:Option Int}{met:List Int}(hl:met.length<=4000) :
  ∃met',Ra (YC n most ts Zj room (some a) (some b) x8 x9 met)=some (.nx (YC n most ts Zj room (some a) (some b) x8 x9 met'))/\met'.length<=met.length+2/\(∀a' b':Nat,a=a'->b=b'->S8 ts a' b'->a'<n->b'<n->MetOk n ts met->MetOk n ts met'):=by
 obtain⟨m1,e1,l1,o1⟩:=T9 (n:=n) (most:=most) (ts:=ts) (Zj:=Zj) (room:=room) (a:=a) (b:=b) (x8:=x8) (x9:=x9) (met:=met) (by omega) 6 7 a b (fun _=>rfl) (fun _=>rfl)
 obtain⟨m2,e2,l2,o2⟩:=T9 (n:=n) (most:=most) (ts:=ts) (Zj:=Zj) (room:=room) (a:=a) (b:=b) (x8:=x8) (x9:=x9) (met:=m1) (by omega) 7 6 b a (fun _=>rfl) (fun _=>rfl)
 refine⟨m2,?_,by omega,fun a' b' ha hb hab han hbn mk=>?_⟩
 rotate_left
 ·subst ha hb
  have k1:MetOk n ts m1:=by
   rcases o1 with rfl | ⟨u,v,rfl⟩
   ·exact mk
   ·exact mk.add (.inl hab) hbn u v
  rcases o2 with rfl | ⟨u,v,rfl⟩
  ·exact k1
  ·exact k1.add (.inr hab) han u v
 unfold Ra;rw[ZP,e1];exact e2
theorem QJ{n:Nat}{most:Int}{ts:List Ya}{Zj room:Int}{x6 x7 x8 x9:Option Int}{met:List Int}:SR [4,5] (.nx (YC n most ts Zj room x6 x7 x8 x9 met)) = .nx (YC n most ts Zj room x6 x7 x8 x9 met):=by
 cases x6<;>cases x7<;>cases x8<;>cases x9<;>rfl
theorem P2{n:Nat}{most:Int}{ts:List Ya}{Zj room:Int}{x6 x7 x8 x9:Option Int}{met:List Int}(hl:met.length<=2000)(ht:ts.length<=49)(ok:DictOk n ts)(mk:MetOk n ts met) :
  ∃y6 y7 met',X0 [4,5] 4 (.many [6,7]) Ra (YC n most ts Zj room x6 x7 x8 x9 met)=some (.nx (YC n most ts Zj room y6 y7 x8 x9 met'))/\met'.length<=met.length+98/\MetOk n ts met':=by
 obtain⟨s',h,y6,y7,met',e,hle,mk'⟩:=ZT (T:=.many [6,7]) (fb:=Ra) (ls:=ts.map fun e=>.tup [.int (e.1:Int),.int (e.2.1:Int)]) (s:=YC n most ts Zj room x6 x7 x8 x9 met)
  (fun j st=>∃y6 y7 met',st=YC n most ts Zj room y6 y7 x8 x9 met'/\met'.length<=met.length+2*j/\MetOk n ts met') ⟨x6,x7,met,rfl,by omega,mk⟩ (fun j l st hl' hJ=>by
   obtain⟨y6,y7,met',rfl,hle,mk'⟩:=hJ
   rw[List.getElem?_map] at hl'
   cases he:ts[j]? with
   | none=>rw[he] at hl';cases hl'
   | some e=>
    rw[he] at hl'
    cases hl'
    have hj:=(List.getElem?_eq_some_iff.mp he).1
    have hmem:=List.mem_of_getElem? he
    have hoe:=ok.ok e hmem
    obtain⟨m2,e2,l2,o2⟩:=No (n:=n) (most:=most) (ts:=ts) (Zj:=Zj) (room:=room) (a:=(e.1:Int)) (b:=(e.2.1:Int)) (x8:=x8) (x9:=x9) (met:=met') (by omega)
    exact⟨_,_,rfl,e2,some (e.1:Int),some (e.2.1:Int),m2,rfl,by omega,o2 e.1 e.2.1 rfl rfl ⟨e.2.2,hmem⟩ (by omega) (by omega) mk'⟩)
 rw[List.length_map] at hle
 refine⟨y6,y7,met',?_,by omega,mk'⟩
 unfold X0
 show((UJ (dP ts)).bind fun ls=>(YL _ _ ls _).map (SR [4,5]))=_
 rw[To];simp only[Option.bind_some];rw[h,e,Option.map_some,QJ]
theorem Np{n:Nat}{most:Int}{ts:List Ya}{Zj room:Int}{x6 x7 x8:Option Int}(ht:ts.length<=49)(hn:n<=7)(ok:DictOk n ts)(hn1:1<=n) :
  ∃y6 y7 y9 met',YL (.one 9) (X0 [4,5] 4 (.many [6,7]) Ra) (Y2 n) (YC n most ts Zj room x6 x7 x8 none [0])=some (.nx (YC n most ts Zj room y6 y7 x8 y9 met'))/\MetOk n ts met':=by
 obtain⟨s',h,y6,y7,y9,met',e,hle,mk⟩:=ZT (T:=.one 9) (fb:=X0 [4,5] 4 (.many [6,7]) Ra) (ls:=Y2 n) (s:=YC n most ts Zj room x6 x7 x8 none [0])
  (fun i st=>∃y6 y7 y9 met',st=YC n most ts Zj room y6 y7 x8 y9 met'/\met'.length<=1+98*i/\MetOk n ts met') ⟨x6,x7,none,[0],rfl,by simp,⟨by simp,fun m hm=>⟨0,by omega,List.mem_singleton.mp hm,fun P _=>Iff.rfl⟩⟩⟩ (fun i l st hl' hJ=>by
   obtain⟨hi,rfl⟩:=Wm hl'
   obtain⟨y6,y7,y9,met',rfl,hle,mk⟩:=hJ
   obtain⟨z6,z7,m2,e2,l2,mk2⟩:=P2 (n:=n) (most:=most) (ts:=ts) (Zj:=Zj) (room:=room) (x6:=y6) (x7:=y7) (x8:=x8) (x9:=some (i:Int)) (met:=met') (by omega) ht ok mk
   exact⟨_,_,rfl,e2,z6,z7,some (i:Int),m2,rfl,by omega,mk2⟩)
 exact⟨y6,y7,y9,met',by rw[h,e],mk⟩
theorem Uk{n:Nat}{most Zj room:Int}(h1:1<=most)(h9:most<=9)(hn:n<=7)(hn1:1<=n):∃r,ZQ [.int Zj,.int (n:Int),.int room,.int most]=some r/\(r = .non\/∃ts,r=dP ts/\DictOk n ts/\ts.length<=49/\Hang n ts):=by
 obtain⟨ts,rest',room',y6,y7,y8,e1,ok,hle⟩:=P1 (n:=n) (Zj:=Zj) (room:=room) (met:=[0]) h1 h9 hn
 obtain⟨z6,z7,z9,met,e2,mk⟩:=Np (n:=n) (most:=most) (ts:=ts) (Zj:=rest') (room:=room') (x6:=y6) (x7:=y7) (x8:=y8) hle hn ok hn1
 refine⟨if met.length=n then dP ts else .non,?_,?_⟩
 ·show Xp 10 Yj [.int Zj,.int (n:Int),.int room,.int most]=_
  have r1:ZK [Za 1] (ZD [4,5] (YC n most [] Zj room none none none none [0]))=some (Y2 n):=Yd (by simp[ZD,YC]) (by omega)
  have r2:ZK [Za 1] (ZD [4,5] (YC n most ts rest' room' y6 y7 y8 none [0]))=some (Y2 n):=Yd (by simp[ZD,YC]) (by omega)
  unfold Yj;simp only[Xp,ZH,List.map_cons,List.map_nil,List.length_cons,List.length_nil,ZP,V5]
  show((YG [4,5] (ZK [Za 1]) (.one 6) (YG [4,5] (Yn [Zi ZF (Za 6) (eC (.int 1)),Za 1]) (.one 7) NO) (YC n most [] Zj room none none none none [0])).bind _).bind WQ=_
  rw[Yz,r1];simp only[Option.bind_some];rw[e1];simp only[Option.bind_some]
  show((YG [4,5] (ZK [Za 1]) (.one 9) (X0 [4,5] 4 (.many [6,7]) Ra) (YC n most ts rest' room' y6 y7 y8 none [0])).bind _).bind WQ=_
  rw[Yz,r2];simp only[Option.bind_some];rw[e2];simp only[Option.bind_some];unfold Tf
  by_cases h:met.length=n
  ·simp[YC,h]
  ·have h':¬((met.length:Int)=(n:Int)):=by omega
   simp[YC,h,h']
 ·by_cases h:met.length=n
  ·rw[if_pos h];exact .inr ⟨ts,rfl,ok,hle,mk.hang h⟩
  ·rw[if_neg h];exact .inl rfl
theorem Kw(c:Int):∃v:Int,1<=v/\v<=9/\Ve [PV.int 1,PV.int 1,PV.int 1,PV.int 2,PV.int 3,PV.int 9] (c%6)=some (.int v):=by
 have h:c%6=0\/c%6=1\/c%6=2\/c%6=3\/c%6=4\/c%6=5:=by omega
 rcases h with h | h | h | h | h | h<;>rw[h]
 ·exact⟨1,by decide,by decide,rfl⟩
 ·exact⟨1,by decide,by decide,rfl⟩
 ·exact⟨1,by decide,by decide,rfl⟩
 ·exact⟨2,by decide,by decide,rfl⟩
 ·exact⟨3,by decide,by decide,rfl⟩
 ·exact⟨9,by decide,by decide,rfl⟩
theorem Kx(c:Int):∃v:Int,0<=v/\v<=9/\Ve [PV.int 0,PV.int 0,PV.int 0,PV.int 1,PV.int 1,PV.int 2,PV.int 4,PV.int 9] (c%8)=some (.int v):=by
 have h:c%8=0\/c%8=1\/c%8=2\/c%8=3\/c%8=4\/c%8=5\/c%8=6\/c%8=7:=by omega
 rcases h with h | h | h | h | h | h | h | h<;>rw[h]
 ·exact⟨0,by decide,by decide,rfl⟩
 ·exact⟨0,by decide,by decide,rfl⟩
 ·exact⟨0,by decide,by decide,rfl⟩
 ·exact⟨1,by decide,by decide,rfl⟩
 ·exact⟨1,by decide,by decide,rfl⟩
 ·exact⟨2,by decide,by decide,rfl⟩
 ·exact⟨4,by decide,by decide,rfl⟩
 ·exact⟨9,by decide,by decide,rfl⟩
theorem MX(ts:List Ya)(a b:Int):∃c,L6 (dP ts) (.tup [.int a,.int b])=some c:=⟨_,rfl⟩
def Ym(ns:List Int)(at0 n:Nat)(first:Int)(ts:List Ya)(room:Int)(x6 x7 x8 x9 x10 x11:Option Int):Zy:=
 [some (.cst (iL ns)),some (.int (at0:Int)),some (.int (n:Int)),some (.int first),some (dP ts),some (.int room),x6.map PV.int,x7.map PV.int,x8.map PV.int,x9.map PV.int,x10.map PV.int,x11.map PV.int]
noncomputable def LU:XS:=(Zl (Zp 7 (Zf Zo [(Za 0),(Zi ZF (Za 1) (Za 6))]))
  (Zl (Zp 8 (eP (Zf Xm [(Zi Yp (Y6 [(eC (.int 1)),(eC (.int 1)),(eC (.int 1)),(eC (.int 2)),(eC (.int 3)),(eC (.int 9))]) (Zi Z5 (Zi YB (Za 7) (Za 6)) (eC (.int 6)))),(Zi YI (Za 5) (Zi YI (Zi YI (Za 2) (eC (.int 1))) (Za 6)))])))
  (Zl (VL.sDPut 4 (Yl [(Zi Z5 (Za 7) (Za 6)),(Za 6)]) (Za 8))
  (Zp 5 (eP (Zi YI (Za 5) (Za 8)))))))
theorem LV{f g h k:XS}{s s1 s2 s3:Zy}(e1:f s=some (.nx s1))(e2:g s1=some (.nx s2))(e3:h s2=some (.nx s3)):Zl f (Zl g (Zl h k)) s=k s3:=by
 simp only[ZP,e1,e2,e3,Option.bind_some]
theorem Xn{f g:XS}{s s1:Zy}(e1:f s=some (.nx s1)):Zl f g s=g s1:=by
 simp only[ZP,e1,Option.bind_some]
theorem MY{ns:List Int}{at0 n:Nat}{first:Int}{ts:List Ya}{room:Int}{x7 x8 x9 x10 x11:Option Int}{h:Nat}(hns:ns.length<=63)(ok:DictOk n ts)(hl:ts.length<=1000)(h1:1<=h)(hh:h<n)(hn:n<=7)(hr:(n:Int)-(h:Int)<=room) :
  ∃ts' room' y7 y8,LU (Ym ns at0 n first ts room (some (h:Int)) x7 x8 x9 x10 x11)=some (.nx (Ym ns at0 n first ts' room' (some (h:Int)) (some y7) (some y8) x9 x10 x11))/\DictOk n ts'/\ts'.length<=ts.length+1/\(n:Int)-((h:Int)+1)<=room'/\Ext ts ts'/\∃c,c<h/\S8 ts' c h:=by
 generalize hc:Zw ns (at0+h)=c
 have e1:Zp 7 (Zf Zo [(Za 0),(Zi ZF (Za 1) (Za 6))]) (Ym ns at0 n first ts room (some (h:Int)) x7 x8 x9 x10 x11)=some (.nx (Ym ns at0 n first ts room (some (h:Int)) (some c) x8 x9 x10 x11)):=by
  have z:(at0:Int)+(h:Int)=((at0+h:Nat):Int):=by omega
  have q:=Vo hns (at0+h)
  rw[hc] at q
  have q:Zo [PV.cst (ns.map PV.int),PV.int ((at0:Int)+(h:Int))]=some (PV.int c):=by rw[z];exact q
  simp[Ym,q]
 obtain⟨v,v1,v9,ev⟩:=Kw (c/(h:Int))
 have cd:Wx c (h:Int):=WS (by omega) (by omega)
 have hp:(0:Int)<(h:Int):=by omega
 generalize hd:(if room-((n:Int)-1-(h:Int))<v then room-((n:Int)-1-(h:Int)) else v)=dp
 have d1:1<=dp:=by rw[<-hd];split<;>omega
 have d9:dp<=9:=by rw[<-hd];split<;>omega
 have dr:dp<=room-((n:Int)-1-(h:Int)):=by rw[<-hd];split<;>omega
 have e2:Zp 8 (eP (Zf Xm [(Zi Yp (Y6 [(eC (.int 1)),(eC (.int 1)),(eC (.int 1)),(eC (.int 2)),(eC (.int 3)),(eC (.int 9))]) (Zi Z5 (Zi YB (Za 7) (Za 6)) (eC (.int 6)))),(Zi YI (Za 5) (Zi YI (Zi YI (Za 2) (eC (.int 1))) (Za 6)))])) (Ym ns at0 n first ts room (some (h:Int)) (some c) x8 x9 x10 x11)=some (.nx (Ym ns at0 n first ts room (some (h:Int)) (some c) (some dp) x9 x10 x11)):=by
  simp[Ym,cd,ev,hd]
 have m0:=Int.emod_nonneg c (show(h:Int)≠0 by omega)
 have m1:=Int.emod_lt_of_pos c hp
 obtain⟨ts2,pe,ok2,hle2,hh2,hx2⟩:=Vp (a:=(c%(h:Int)).toNat) (b:=h) (t:=dp) ok (by omega) hh d1 d9 (by omega)
 have hcast:(((c%(h:Int)).toNat:Nat):Int)=c%(h:Int):=by omega
 rw[hcast] at pe
 have e3:VL.sDPut 4 (Yl [(Zi Z5 (Za 7) (Za 6)),(Za 6)]) (Za 8) (Ym ns at0 n first ts room (some (h:Int)) (some c) (some dp) x9 x10 x11)=some (.nx (Ym ns at0 n first ts2 room (some (h:Int)) (some c) (some dp) x9 x10 x11)):=by
  rw[Ws (v:=.int dp) (k:=.tup [.int (c%(h:Int)),.int (h:Int)]) (d:=dP ts) rfl (by simp[Ym,show 0<h by omega]) rfl pe]
  rfl
 refine⟨ts2,room-dp,c,dp,?_,ok2,hle2,by omega,hx2,(c%(h:Int)).toNat,by omega,hh2⟩
 unfold LU;rw[LV e1 e2 e3];simp[Ym]
noncomputable def M5:XS:=(Zl (Zp 8 (eP (Zi Yp (Y6 [(eC (.int 0)),(eC (.int 0)),(eC (.int 0)),(eC (.int 1)),(eC (.int 1)),(eC (.int 2)),(eC (.int 4)),(eC (.int 9))]) (Zi Z5 (Zf Zo [(Za 0),(Za 9)]) (eC (.int 8))))))
  (Zl (Zp 9 (eP (Zi ZF (Za 9) (eC (.int 1)))))
  (Ui (XY (xB (SO true (Yl [(Za 10),(Za 11)]) (Za 4))) (xB (NI L0 L1 (eC (.int 0)) (Za 8) (Za 5)))) (Zl (VL.sDPut 4 (Yl [(Za 10),(Za 11)]) (Za 8))
  (Zp 5 (eP (Zi YI (Za 5) (Za 8))))) Z1)))
theorem LW{f g h:XS}{s s1 s2:Zy}(e1:f s=some (.nx s1))(e2:g s1=some (.nx s2)):Zl f (Zl g h) s=h s2:=by
 simp only[ZP,e1,e2,Option.bind_some]
theorem MZ{ns:List Int}{at0 n:Nat}{first:Int}{ts:List Ya}{room:Int}{x6 x7 x8:Option Int}{k a b:Nat}(hns:ns.length<=63)(ok:DictOk n ts)(hl:ts.length<=1000)(hab:a<b)(hb:b<n) :
  ∃ts' room' y8,M5 (Ym ns at0 n first ts room x6 x7 x8 (some (k:Int)) (some (a:Int)) (some (b:Int)))=some (.nx (Ym ns at0 n first ts' room' x6 x7 (some y8) (some ((k+1:Nat):Int)) (some (a:Int)) (some (b:Int))))/\DictOk n ts'/\ts'.length<=ts.length+1/\Ext ts ts':=by
 obtain⟨v,v0,v9,ev⟩:=Kx (Zw ns k)
 have e1:Zp 8 (eP (Zi Yp (Y6 [(eC (.int 0)),(eC (.int 0)),(eC (.int 0)),(eC (.int 1)),(eC (.int 1)),(eC (.int 2)),(eC (.int 4)),(eC (.int 9))]) (Zi Z5 (Zf Zo [(Za 0),(Za 9)]) (eC (.int 8))))) (Ym ns at0 n first ts room x6 x7 x8 (some (k:Int)) (some (a:Int)) (some (b:Int)))=some (.nx (Ym ns at0 n first ts room x6 x7 (some v) (some (k:Int)) (some (a:Int)) (some (b:Int)))):=by
  have q:Zo [PV.cst (ns.map PV.int),PV.int (k:Int)]=some (PV.int (Zw ns k)):=Vo hns k
  simp[Ym,q,ev]
 have e2:Zp 9 (eP (Zi ZF (Za 9) (eC (.int 1)))) (Ym ns at0 n first ts room x6 x7 (some v) (some (k:Int)) (some (a:Int)) (some (b:Int)))=some (.nx (Ym ns at0 n first ts room x6 x7 (some v) (some ((k+1:Nat):Int)) (some (a:Int)) (some (b:Int)))):=by
  simp[Ym]
 obtain⟨cc,ec⟩:=MX ts (a:Int) (b:Int)
 unfold M5;rw[LW e1 e2]
 have tst:∃q:Bool,XY (xB (SO true (Yl [(Za 10),(Za 11)]) (Za 4))) (xB (NI L0 L1 (eC (.int 0)) (Za 8) (Za 5))) (Ym ns at0 n first ts room x6 x7 (some v) (some ((k+1:Nat):Int)) (some (a:Int)) (some (b:Int)))=some q/\(q=true->0<v):=by
  have t1:xB (SO true (Yl [(Za 10),(Za 11)]) (Za 4)) (Ym ns at0 n first ts room x6 x7 (some v) (some ((k+1:Nat):Int)) (some (a:Int)) (some (b:Int)))=some !cc:=by
   simp[Ym,SO,ec]
  have t2:xB (NI L0 L1 (eC (.int 0)) (Za 8) (Za 5)) (Ym ns at0 n first ts room x6 x7 (some v) (some ((k+1:Nat):Int)) (some (a:Int)) (some (b:Int)))=some (decide (0<v)&&decide (v<=room)):=by
   by_cases hv:0<v
   ·simp[Ym,NI,hv]
   ·simp[Ym,NI,hv]
  rw[TX,t1,t2]
  cases cc with
  | true=>exact⟨false,rfl,fun z=>by cases z⟩
  | false=>exact⟨_,rfl,fun z=>by
    rw[Bool.and_eq_true] at z
    exact of_decide_eq_true z.1⟩
 obtain⟨q,eq,hq⟩:=tst
 rw[Wl,eq];simp only[Option.bind_some]
 cases q with
 | false=>exact⟨ts,room,v,rfl,ok,by omega,Ext.refl ts⟩
 | true=>
  have hv:=hq rfl
  obtain⟨ts2,pe,ok2,hle2,_,hx2⟩:=Vp (t:=v) ok hab hb (by omega) v9 (by omega)
  refine⟨ts2,room-v,v,?_,ok2,hle2,hx2⟩
  rw[if_pos rfl]
  have e3:VL.sDPut 4 (Yl [(Za 10),(Za 11)]) (Za 8) (Ym ns at0 n first ts room x6 x7 (some v) (some ((k+1:Nat):Int)) (some (a:Int)) (some (b:Int)))=some (.nx (Ym ns at0 n first ts2 room x6 x7 (some v) (some ((k+1:Nat):Int)) (some (a:Int)) (some (b:Int)))):=by
   rw[Ws (v:=.int v) (k:=.tup [.int (a:Int),.int (b:Int)]) (d:=dP ts) rfl (by simp[Ym]) rfl pe]
   rfl
  rw[Xn e3];simp[Ym]
theorem P3{ns:List Int}{at0 n:Nat}(hns:ns.length<=63)(h1:1<=n)(hn:n<=7):∃ts,Yf [.cst (iL ns),.int (at0:Int),.int (n:Int)]=some (dP ts)/\DictOk n ts/\Hang n ts:=by
 generalize hf:Zw ns at0=first
 have hcell:Zo [PV.cst (ns.map PV.int),PV.int (at0:Int)]=some (PV.int first):=by rw[<-hf];exact Vo hns at0
 obtain⟨r,er,alt⟩:=Uk (n:=n) (most:=9) (Zj:=first/2) (room:=30) (by omega) (by omega) hn h1
 have cd2:Wx first 2:=WS (by omega) (by omega)
 -- the first test
 have hstart:Zp 3 (Zf Zo [(Za 0),(Za 1)]) [some (.cst (iL ns)),some (.int (at0:Int)),some (.int (n:Int)),none,none,none,none,none,none,none,none,none]=some (.nx [some (.cst (iL ns)),some (.int (at0:Int)),some (.int (n:Int)),some (.int first),none,none,none,none,none,none,none,none]):=by
  simp[hcell]
 have htest:XY (xB (Zi (Wt false) (Zi Z5 (Za 3) (eC (.int 2))) (eC (.int 1)))) (xB (Qr true (Zf ZQ [(Zi YB (Za 3) (eC (.int 2))),(Za 2),(eC (.int 30)),(eC (.int 9))]))) [some (.cst (iL ns)),some (.int (at0:Int)),some (.int (n:Int)),some (.int first),none,none,none,none,none,none,none,none]=some (decide (first%2=1)&&!VJ r):=by
  have eb:MD true r=some (.bl (!VJ r)):=by cases r<;>rfl
  by_cases h:first%2=1
  ·simp[h,cd2,er,eb]
  ·simp[h]
 show ∃ts,Xp 12 XM [.cst (iL ns),.int (at0:Int),.int (n:Int)]=some (dP ts)/\DictOk n ts/\Hang n ts
 unfold XM;simp only[Xp,ZH,List.map_cons,List.map_nil,List.length_cons,List.length_nil]
 show ∃ts,(Zl (Zp 3 (Zf Zo [(Za 0),(Za 1)])) _ [some (.cst (iL ns)),some (.int (at0:Int)),some (.int (n:Int)),none,none,none,none,none,none,none,none,none]).bind WQ=some (dP ts)/\DictOk n ts/\Hang n ts
 rw[Xn hstart,ZP,Wl,htest];simp only[Option.bind_some]
 by_cases hc:(decide (first%2=1)&&!VJ r)=true
 ·rw[if_pos hc]
  rw[Bool.and_eq_true] at hc
  rcases alt with rfl | ⟨ts,rfl,ok,_,hg⟩
  ·exact absurd hc.2 (by decide)
  ·exact⟨ts,by simp[cd2,er],ok,hg⟩
 ·rw[if_neg hc]
  simp only[QB,Option.bind_some]
  -- the dict,the room
  have e45:∀g:XS,Zl (Zp 4 (eC (.dT [] []))) (Zl (Zp 5 (eP (eC (.int 30)))) g) [some (.cst (iL ns)),some (.int (at0:Int)),some (.int (n:Int)),some (.int first),none,none,none,none,none,none,none,none]=g (Ym ns at0 n first [] 30 none none none none none none):=fun g=>by
   rw[LW (s1:=[some (.cst (iL ns)),some (.int (at0:Int)),some (.int (n:Int)),some (.int first),some (dP []),none,none,none,none,none,none,none]) (s2:=Ym ns at0 n first [] 30 none none none none none none) (by simp;rfl) (by simp[Ym])]
  rw[e45]
  -- the first loop
  obtain⟨s1,l1,ts1,room1,y6,y7,y8,es1,ok1,hle1,_,tree⟩:=ZT (T:=.one 6) (fb:=LU) (ls:=Y3 1 (n-1)) (s:=Ym ns at0 n first [] 30 none none none none none none)
   (fun i st=>∃ts room y6 y7 y8,st=Ym ns at0 n first ts room y6 y7 y8 none none none/\DictOk n ts/\ts.length<=i/\(n:Int)-((i:Int)+1)<=room/\∀h,1<=h->h<=i->∃c,c<h/\S8 ts c h) ⟨[],30,none,none,none,rfl,DictOk.nil n,Nat.le_refl _,by omega,fun h h1 h2=>by omega⟩ (fun i l st hl' hJ=>by
    obtain⟨hi,rfl⟩:=V6 hl'
    obtain⟨ts,room,y6,y7,y8,rfl,ok,hle,hroom,tree⟩:=hJ
    have z:(1:Int)+(i:Int)=((i+1:Nat):Int):=by omega
    rw[z]
    obtain⟨ts2,room2,z7,z8,e2,ok2,hle2,hr2,hx2,hc2⟩:=MY (at0:=at0) (first:=first) (room:=room) (x7:=y7) (x8:=y8) (x9:=none) (x10:=none) (x11:=none) (h:=i+1) hns ok (by omega) (by omega) (by omega) hn (by omega)
    exact⟨_,_,rfl,e2,ts2,room2,some ((i+1:Nat):Int),some z7,some z8,rfl,ok2,by omega,by omega,fun h h1 h2=>by
     by_cases q:h<=i
     ·obtain⟨c,a,b⟩:=tree h h1 q
      exact⟨c,a,hx2 _ _ b⟩
     ·have:h=i+1:=by omega
      subst this
      exact hc2⟩)
  rw[V7] at hle1 tree
  have r1:Yn [eC (.int 1),Za 2] (ZD [4] (Ym ns at0 n first [] 30 none none none none none none))=some (Y3 1 (n-1)):=by
   rw[WR (i:=1) (j:=(n:Int)) rfl (by simp[ZD,Ym]) ⟨by omega,by omega⟩ ⟨by omega,by omega⟩]
   congr 2;omega
  have f1:YG [4] (Yn [eC (.int 1),Za 2]) (.one 6) LU (Ym ns at0 n first [] 30 none none none none none none)=some (.nx (Ym ns at0 n first ts1 room1 y6 y7 y8 none none none)):=by
   rw[Yz,r1]
   exact l1.trans (by rw[es1])
  have e9:Zp 9 (eP (Zi ZF (Za 1) (eC (.int 7)))) (Ym ns at0 n first ts1 room1 y6 y7 y8 none none none)=some (.nx (Ym ns at0 n first ts1 room1 y6 y7 y8 (some ((at0+7:Nat):Int)) none none)):=by simp[Ym]
  -- the second loops
  have inner:∀(a:Nat)(ts:List Ya)(room:Int)(x8:Option Int)(k:Nat)(x11:Option Int),a<n->DictOk n ts->ts.length<=500->∃ts' room' y8 k' y11,YL (.one 11) M5 (Y3 ((a:Int)+1) (n-(a+1))) (Ym ns at0 n first ts room y6 y7 x8 (some (k:Int)) (some (a:Int)) x11)=some (.nx (Ym ns at0 n first ts' room' y6 y7 y8 (some ((k':Nat):Int)) (some (a:Int)) y11))/\DictOk n ts'/\ts'.length<=ts.length+7/\Ext ts ts':=by
   intro a ts room x8 k x11 ha ok hl
   obtain⟨s',h,ts',room',z8,k',z11,e,ok',hle,hx⟩:=ZT (T:=.one 11) (fb:=M5) (ls:=Y3 ((a:Int)+1) (n-(a+1))) (s:=Ym ns at0 n first ts room y6 y7 x8 (some (k:Int)) (some (a:Int)) x11)
    (fun j st=>∃ts' room' z8 k' z11,st=Ym ns at0 n first ts' room' y6 y7 z8 (some ((k':Nat):Int)) (some (a:Int)) z11/\DictOk n ts'/\ts'.length<=ts.length+j/\Ext ts ts') ⟨ts,room,x8,k,x11,rfl,ok,by omega,Ext.refl ts⟩ (fun j l st hl' hJ=>by
     obtain⟨hj,rfl⟩:=V6 hl'
     obtain⟨ts',room',z8,k',z11,rfl,ok',hle,hx⟩:=hJ
     have z:(a:Int)+1+(j:Int)=((a+1+j:Nat):Int):=by omega
     rw[z]
     obtain⟨ts2,room2,w8,e2,ok2,hle2,hx2⟩:=MZ (at0:=at0) (first:=first) (room:=room') (x6:=y6) (x7:=y7) (x8:=z8) (k:=k') hns ok' (by omega) (show a<a+1+j by omega) (by omega)
     exact⟨_,_,rfl,e2,ts2,room2,some w8,k'+1,some ((a+1+j:Nat):Int),rfl,ok2,by omega,hx.trans hx2⟩)
   rw[V7] at hle
   exact⟨ts',room',z8,k',z11,by rw[h,e],ok',by omega,hx⟩
  obtain⟨s2,l2,ts2,room2,w8,w9,w10,w11,es2,ok2,hle2,hx2⟩:=ZT (T:=.one 10) (fb:=YG [4] (Yn [Zi ZF (Za 10) (eC (.int 1)),Za 2]) (.one 11) M5) (ls:=Y2 n) (s:=Ym ns at0 n first ts1 room1 y6 y7 y8 (some ((at0+7:Nat):Int)) none none)
   (fun i st=>∃ts room w8 k w10 w11,st=Ym ns at0 n first ts room y6 y7 w8 (some ((k:Nat):Int)) w10 w11/\DictOk n ts/\ts.length<=7+7*i/\Ext ts1 ts) ⟨ts1,room1,y8,at0+7,none,none,rfl,ok1,by omega,Ext.refl ts1⟩ (fun i l st hl' hJ=>by
    obtain⟨hi,rfl⟩:=Wm hl'
    obtain⟨ts,room,w8,k,w10,w11,rfl,ok,hle,hx⟩:=hJ
    obtain⟨ts',room',z8,k',z11,e2,ok',hle',hx'⟩:=inner i ts room w8 k w11 hi ok (by omega)
    refine⟨_,_,rfl,?_,ts',room',z8,k',some (i:Int),z11,rfl,ok',by omega,hx.trans hx'⟩
    have hr:Yn [Zi ZF (Za 10) (eC (.int 1)),Za 2] (ZD [4] (Ym ns at0 n first ts room y6 y7 w8 (some (k:Int)) (some (i:Int)) w11))=some (Y3 ((i:Int)+1) (n-(i+1))):=by
     rw[WR (i:=(i:Int)+1) (j:=(n:Int)) (by simp[ZD,Ym]) (by simp[ZD,Ym]) ⟨by omega,by omega⟩ ⟨by omega,by omega⟩]
     congr 2;omega
    show YG _ _ _ _ (Ym ns at0 n first ts room y6 y7 w8 (some (k:Int)) (some (i:Int)) w11)=_
    rw[Yz,hr]
    exact e2)
  rw[Wn] at hle2
  have r2:ZK [Za 2] (ZD [4] (Ym ns at0 n first ts1 room1 y6 y7 y8 (some ((at0+7:Nat):Int)) none none))=some (Y2 n):=Yd (by simp[ZD,Ym]) (by omega)
  have f2:YG [4] (ZK [Za 2]) (.one 10) (YG [4] (Yn [Zi ZF (Za 10) (eC (.int 1)),Za 2]) (.one 11) M5) (Ym ns at0 n first ts1 room1 y6 y7 y8 (some ((at0+7:Nat):Int)) none none)=some (.nx (Ym ns at0 n first ts2 room2 y6 y7 w8 (some ((w9:Nat):Int)) w10 w11)):=by
   rw[Yz,r2]
   exact l2.trans (by rw[es2])
  have hg:Hang n ts2:=by
   have all:∀P,Cl ts2 P->∀i,i<n->(P i↔P 0):=by
    intro P hP i
    induction i using Nat.strongRecOn with
    | _ i ih=>
     intro hi
     by_cases h0:i=0
     ·subst h0;exact Iff.rfl
     ·obtain⟨c,hc,hb⟩:=tree i (by omega) (by omega)
      exact(hP _ _ (hx2 _ _ hb)).symm.trans (ih c hc (by omega))
   exact fun P hP i j hi hj=>(all P hP i hi).trans (all P hP j hj).symm
  obtain⟨ts',eR,okR,_,hgR⟩:=S9 ok2 hn (by omega) (first/7)
  have cd7:Wx first 7:=WS (by omega) (by omega)
  refine⟨ts',?_,okR,hgR hg⟩
  refine Eq.trans (congrArg (fun o=>Option.bind o WQ) (LV (f:=YG [4] (Yn [eC (.int 1),Za 2]) (.one 6) LU) f1 e9 f2)) ?_
  simp[Ym,hcell,cd7,eR]
theorem P4{ns:List Int}{at0 n:Nat}(hns:ns.length<=63)(h1:1<=n)(hn:n<=7):∃ts W,Yf [.cst (iL ns),.int (at0:Int),.int (n:Int)]=some (dP ts)/\Z9 [dP ts,.int (n:Int)]=some (wP W)/\Xl W/\W.length=n/\LR W:=by
 obtain⟨ts,e,ok,hg⟩:=P3 (at0:=at0) hns h1 hn
 exact⟨ts,OO n ts,e,QI ok hn,(VC ok).web h1 hn,(VC ok).len,hg.conn ok⟩
theorem M0{ns:List Int}{at0 n:Nat}(hns:ns.length<=63)(h1:1<=n)(hn:n<=7):∃ts W,Yf [.cst (iL ns),.int (at0:Int),.int (n:Int)]=some (dP ts)/\Z9 [dP ts,.int (n:Int)]=some (wP W)/\Xl W/\W.length=n:=by
 obtain⟨ts,W,a,b,c,d,_⟩:=P4 (at0:=at0) hns h1 hn
 exact⟨ts,W,a,b,c,d⟩
theorem Z6(W:List (List Int))(D S:List Int):(Xa W D S).length=D.length:=by simp[Xa]
theorem XA{W:List (List Int)}{a b:List Int}{i:Nat}(h:i<a.length):Zw (Xa W a b) i=Zw a i+Yk W b i:=YZ h
theorem Tp{a b:List Int}(hl:a.length=b.length)(h:∀i,i<a.length->Zw a i=Zw b i):a=b:=by
 rw[<-WK a,<-WK b,hl]
 apply List.map_congr_left
 intro i hi
 exact h i (by rw[hl];exact List.mem_range.mp hi)
theorem Nq{W:List (List Int)}(ok:Xl W){i:Nat}(hi:i<W.length):(ZA W i).sum=((List.range W.length).map fun j=>YQ W i j).sum:=by
 rw[<-Rr (ZA W i),ok.sq i hi];rfl
theorem UN{n m:Nat}{ix:List Nat}{fi:XL}{ft:XT}{fe:XE}{s:Zy}(g:Nat->Int)(hfi:fi s=some (Y2 m))(hm:m<=1000)(h:∀i:Nat,i<m->∃s1,Wi (.one 0) (.int (i:Int)) (Zv n ix s)=some s1/\ft s1=some true/\fe s1=some (.int (g i))) :
  ZO n ix fi (.one 0) ft fe s=some (.lst (iL ((List.range m).map g))):=by
 rw[Yr (List.range m) (fun(i:Nat)=>.int (i:Int)) (fun i=>.int (g i)) hfi (by simp;omega) (fun i hi=>h i (List.mem_range.mp hi))]
 simp
theorem Ud(f g:Nat->Int)(n:Nat):((List.range n).map fun i=>f i+g i).sum=((List.range n).map f).sum+((List.range n).map g).sum:=by
 induction n with
 | zero=>rfl
 | succ n ih=>rw[ZB,ZB,ZB,ih];omega
theorem TH(f:Nat->Nat->Int)(n m:Nat):((List.range n).map fun i=>((List.range m).map fun j=>f i j).sum).sum=((List.range m).map fun j=>((List.range n).map fun i=>f i j).sum).sum:=by
 induction n with
 | zero=>
  have:((List.range m).map fun j=>((List.range 0).map fun i=>f i j).sum).sum=0:=by
   have:=XD 0 m
   simpa using this
  rw[this];rfl
 | succ n ih=>
  rw[ZB,ih,<-Ud]
  apply ZN
  intro j _;rw[ZB]
theorem VD{f:Nat->Int}{n:Nat}(h:∀i,i<n->f i=0):((List.range n).map f).sum=0:=by
 rw[ZN h,XD,Int.mul_zero]
theorem Sa(f:Nat->Int){n h:Nat}(hh:h<n):((List.range n).map fun i=>if i=h then f i else 0).sum=f h:=by
 induction n with
 | zero=>omega
 | succ n ih=>
  rw[ZB]
  by_cases e:h=n
  ·subst e
   rw[VD (fun i hi=>if_neg (by omega)),if_pos rfl,Int.zero_add]
  ·rw[ih (by omega),if_neg (by omega),Int.add_zero]
theorem QK{W:List (List Int)}{S U T:List Int}{h:Nat}(e:∀i,i<W.length->Zw T i=Zw S i+Zw U i)(hh:h<W.length):Yk W T h=Yk W S h+Yk W U h:=by
 unfold Yk;rw[<-Ud]
 apply ZN
 intro i hi;rw[e i hi,e h hh,<-Int.mul_add]
 congr 1
 omega
theorem Nr{W:List (List Int)}{D S U T:List Int}(hd:D.length=W.length)(e:∀i,i<W.length->Zw T i=Zw S i+Zw U i):Xa W (Xa W D S) U=Xa W D T:=Tp (by simp[Z6]) fun i hi=>by
 rw[Z6,Z6] at hi
 rw[XA (by rw[Z6];exact hi),XA hi,XA hi,QK e (by omega)]
 omega
theorem QL{W:List (List Int)}{S:List Int}{h:Nat}(e:∀i,i<W.length->Zw S i=0)(hh:h<W.length):Yk W S h=0:=by
 unfold Yk
 apply VD
 intro i hi;rw[e i hi,e h hh]
 simp
theorem Sb{W:List (List Int)}{D S:List Int}(hd:D.length=W.length)(e:∀i,i<W.length->Zw S i=0):Xa W D S=D:=Tp (by simp[Z6]) fun i hi=>by
 rw[Z6] at hi;rw[XA hi,QL e (by omega),Int.add_zero]
theorem P5{W:List (List Int)}(ok:Xl W)(S:List Int):((List.range W.length).map fun h=>Yk W S h).sum=0:=by
 have e1:((List.range W.length).map fun h=>Yk W S h).sum=((List.range W.length).map fun i=>((List.range W.length).map fun j=>YQ W i j*Zw S j).sum).sum-((List.range W.length).map fun i=>((List.range W.length).map fun j=>YQ W i j*Zw S i).sum).sum:=by
  rw[<-U5]
  apply ZN
  intro i _;unfold Yk;rw[<-U5]
  apply ZN
  intro j _;rw[Int.mul_sub]
 have e2:((List.range W.length).map fun i=>((List.range W.length).map fun j=>YQ W i j*Zw S i).sum).sum=((List.range W.length).map fun i=>((List.range W.length).map fun j=>YQ W i j*Zw S j).sum).sum:=by
  rw[TH]
  apply ZN
  intro i hi
  apply ZN
  intro j hj;rw[ok.sym j i hj hi]
 rw[e1,e2];omega
theorem RU{W:List (List Int)}{D S:List Int}(ok:Xl W)(hd:D.length=W.length):(Xa W D S).sum=D.sum:=by
 unfold Xa;rw[Ud,Rr,hd,P5 ok,Int.add_zero]
theorem XB{n h i:Nat}(hi:i<n):Zw (YO n h) i=if i=h then 1 else 0:=by
 unfold YO;rw[YZ hi]
 by_cases e:i=h
 ·rw[if_pos e,if_pos (by omega)]
 ·rw[if_neg e,if_neg (by omega)]
theorem QM{W:List (List Int)}(ok:Xl W){h i:Nat}(hh:h<W.length)(hi:i<W.length):Yk W (YO W.length h) i=if i=h then-(ZA W h).sum else YQ W h i:=by
 by_cases e:i=h
 ·subst e
  rw[if_pos rfl]
  have:Yk W (YO W.length i) i=((List.range W.length).map fun j=>if j=i then YQ W i j else 0).sum-((List.range W.length).map fun j=>YQ W i j).sum:=by
   unfold Yk;rw[<-U5]
   apply ZN
   intro j hj;rw[XB hj,XB hi,if_pos rfl]
   by_cases q:j=i
   ·rw[if_pos q,if_pos q];simp
   ·rw[if_neg q,if_neg q,show(0:Int)-1 = -1 by omega];simp
  rw[this,Sa (fun j=>YQ W i j) hi,ok.dia i hi,Nq ok hi];omega
 ·rw[if_neg e]
  have:Yk W (YO W.length h) i=((List.range W.length).map fun j=>if j=h then YQ W i j else 0).sum:=by
   unfold Yk
   apply ZN
   intro j hj;rw[XB hj,XB hi,if_neg e]
   by_cases q:j=h
   ·rw[if_pos q,if_pos q];simp
   ·rw[if_neg q,if_neg q];simp
  rw[this,Sa (fun j=>YQ W i j) hh,ok.sym i h hi hh]
theorem Vk{l:List Int}{h i:Nat}{v:Int}(hi:i<l.length):Zw (l.set h v) i=if i=h then v else Zw l i:=by
 unfold Zw;rw[List.getD_eq_getElem?_getD,List.getD_eq_getElem?_getD,List.getElem?_set]
 by_cases e:h=i
 ·subst e
  rw[if_pos rfl,if_pos rfl,if_pos hi];rfl
 ·rw[if_neg e,if_neg (Ne.symm e)]
theorem P6(n:Nat)(c:Int):(List.replicate n [PV.int c]).flatten=iL (List.replicate n c):=by
 induction n with
 | zero=>rfl
 | succ n ih=>rw[List.replicate_succ,List.flatten_cons,ih,List.replicate_succ];rfl
theorem RV{n i:Nat}(c:Int)(hi:i<n):Zw (List.replicate n c) i=c:=by
 unfold Zw
 rw[List.getD_eq_getElem?_getD,List.getElem?_replicate,if_pos hi];rfl
theorem M1(l:List Int)(k:Nat):Xh (iL l) none (some (k:Int))=iL (l.take k):=by
 unfold Xh;rw[HT.sIx_none,HT.sIx_nat,List.length_map,List.drop_zero,Nat.sub_zero,<-List.map_take]
 congr 1
 by_cases h:k<=l.length
 ·rw[Nat.min_eq_left h]
 ·rw[Nat.min_eq_right (by omega),List.take_of_length_le (Nat.le_refl _),List.take_of_length_le (by omega)]
theorem M2(l:List Int)(k:Nat):Xh (iL l) (some (k:Int)) none=iL (l.drop k):=by
 unfold Xh;rw[HT.sIx_none,HT.sIx_nat,List.length_map,<-List.map_drop,<-List.map_take]
 congr 1
 by_cases h:k<=l.length
 ·rw[Nat.min_eq_left h,List.take_of_length_le (by rw[List.length_drop];omega)]
 ·rw[Nat.min_eq_right (by omega),List.drop_eq_nil_of_le (Nat.le_refl _),List.drop_eq_nil_of_le (by omega)];simp
theorem P7(l:List Int)(lo hi:Option Int):∃m:List Int,Xh (iL l) lo hi=iL m/\m.length<=l.length:=by
 refine⟨(l.drop (HT.sIx l.length 0 lo)).take (HT.sIx l.length l.length hi-HT.sIx l.length 0 lo),?_,?_⟩
 ·unfold Xh
  rw[List.length_map,<-List.map_drop,<-List.map_take]
 ·rw[List.length_take,List.length_drop];omega
theorem Nt{l:List Int}{h:Nat}(v:Int)(hh:h<l.length):l.take h++[v]++l.drop (h+1)=l.set h v:=by
 rw[List.append_assoc,List.set_eq_take_append_cons_drop,if_pos hh];rfl
def Xo(W:List (List Int))(D:List Int)(h n:Nat):List Int:=(List.range n).map fun i=>Zw D i+YQ W h i
theorem P8{W:List (List Int)}{D:List Int}{h:Nat}(ok:Xl W)(hd:D.length=W.length):Xj [wP W,pP D,.int (h:Int)]=some (pP (Xa W D (YO W.length h))):=by
 have hf:=ok.few
 have hc:ZO 1 [1] (ZK [(Zf U7 [(Za 0)])]) (.one 0) Z0 (LN (xB (Zi (Wt false) (Za 0) (Za 1))) (eC (.int 1)) (eC (.int 0))) [some (wP W),some (.int (h:Int))]=some (.lst (iL (YO W.length h))):=by
  rw[Yr (List.range W.length) (fun(i:Nat)=>.int (i:Int)) (fun(i:Nat)=>.int (if(i:Int)=(h:Int) then 1 else 0)) ?_ (by simp;omega) (fun i hi=>?_)]
  ·simp[YO]
  ·exact Yd (by simp) (by omega)
  ·refine⟨_,rfl,rfl,?_⟩
   by_cases e:(i:Int)=(h:Int)
   ·simp[Zv,e]
   ·simp[Zv,e]
 have hu:(YO W.length h).length=W.length:=by simp[YO]
 have ho:Y9 [wP W,.int (h:Int)]=some (pP (YO W.length h)):=by simp[Y9,WX,Xp,ZH,hc]
 simp[Xj,Tj,Xp,ZH,ho,S6 ok hd hu]
theorem M3{W:List (List Int)}{D:List Int}{h:Nat}(ok:Xl W)(hd:D.length=W.length)(hh:h<W.length):(Xo W D h W.length).set h (Zw D h-(ZA W h).sum)=Xa W D (YO W.length h):=Tp (by simp[Xo,Z6,hd]) fun i hi=>by
 simp only[List.length_set,Xo,List.length_map,List.length_range] at hi
 rw[Vk (by simp[Xo];exact hi),XA (by omega),QM ok hh hi]
 by_cases e:i=h
 ·subst e;rw[if_pos rfl,if_pos rfl];omega
 ·rw[if_neg e,if_neg e];unfold Xo;rw[YZ hi]
def sK(ns:List Int)(n:Nat)(W:List (List Int))(purse here often:List Int)(x6 x7 x8 x9 x10:Option PV):Zy:=
 [some (.cst (iL ns)),some (.int (n:Int)),some (wP W),some (pP purse),some (pP here),some (.lst (iL often)),x6,x7,x8,x9,x10,none]
noncomputable abbrev RW:XS:=(Zl (Zp 7 (eP (Zi Z5 (Za 6) (Za 1))))
  (Zl (Zp 8 (Zf Xj [(Za 2),(Za 4),(Za 7)]))
  (Zl (Zp 9 (eP (Zf Z3 [(ZO 1 [4,2,7] (ZK [(Za 1)]) (.one 0) Z0 (Zi ZF (Zi Yp (Za 1) (Za 0)) (Zi Yp (Zi Yp (Za 2) (Za 3)) (Za 0))))])))
  (Zl (Zp 9 (eP (Zi Xy (Zi Xy (Qv Vg (Za 9) NG (Tb (Za 7))) (Yl [(Zi YI (Zi Yp (Za 4) (Za 7)) (Zf Wf [(Zi Yp (Za 2) (Za 7))]))])) (Qv Vg (Za 9) (Tb (Zi ZF (Za 7) (eC (.int 1)))) NG))))
  (Zl (Ui (Sz (VH (xB (Zf ZY [(Za 8),(Za 1)]))) (xB (Zi (Wt true) (Za 8) (Za 9)))) (Yy (eP (eC (.bl false)))) Z1)
  (Zl (Zp 10 (Zf Ys [(Za 8)]))
  (Zl (Ui (Sz (VH (xB (Zf ZU [(Za 10)]))) (Sz (xB (Zi (Wt true) (Za 10) (Zf Wf [(Za 3)]))) (xB (Zi (Wt true) (Zf Ys [(Za 4)]) (Za 10))))) (Yy (eP (eC (.bl false)))) Z1)
  (Zl (Zp 4 (eP (Za 8)))
  (WP 5 (Za 7) (Zi ZF (Zi Yp (Za 5) (Za 7)) (eC (.int 1))))))))))))
theorem P9{ns:List Int}{n:Nat}{W:List (List Int)}{purse here often:List Int}{x7 x8 x9 x10:Option PV}(c:Int)(ok:Xl W)(hW:W.length=n)(hn1:1<=n)(hn7:n<=7)(hp:here.length=n)(ho:often.length=n)(hs:here.sum=purse.sum) :
  ∃h,h<n/\∃y7 y8 y9 y10,RW (sK ns n W purse here often (some (.int c)) x7 x8 x9 x10)=some (.nx (sK ns n W purse (Xa W here (YO n h)) (often.set h (Zw often h+1)) (some (.int c)) y7 y8 y9 y10)):=by
 obtain⟨h,hh,eh⟩:∃h:Nat,h<n/\c%(n:Int)=(h:Int):=⟨(c%(n:Int)).toNat,by
  have a:=Int.emod_nonneg c (show(n:Int)≠0 by omega)
  have b:=Int.emod_lt_of_pos c (show(0:Int)<n by omega)
  omega,by
  have a:=Int.emod_nonneg c (show(n:Int)≠0 by omega)
  omega⟩
 have le:=P8 (W:=W) (D:=here) (h:=h) ok (by omega)
 have du:=M3 (W:=W) (D:=here) (h:=h) ok (by omega) (by omega)
 have su:=RU (W:=W) (D:=here) (S:=YO W.length h) ok (by omega)
 generalize hf:Xa W here (YO W.length h)=found at le du su
 have lf:found.length=n:=by rw[<-hf,Z6,hp]
 have tu:=T3 (l:=found) (by omega)
 rw[lf] at tu
 have e1:Zp 7 (eP (Zi Z5 (Za 6) (Za 1))) (sK ns n W purse here often (some (.int c)) x7 x8 x9 x10)=some (.nx (sK ns n W purse here often (some (.int c)) (some (.int (h:Int))) x8 x9 x10)):=by
  simp[sK,show 0<n by omega,eh]
 have e2:Zp 8 (Zf Xj [(Za 2),(Za 4),(Za 7)]) (sK ns n W purse here often (some (.int c)) (some (.int (h:Int))) x8 x9 x10)=some (.nx (sK ns n W purse here often (some (.int c)) (some (.int (h:Int))) (some (pP found)) x9 x10)):=by
  simp[sK,le]
 have k3:ZO 1 [4,2,7] (ZK [(Za 1)]) (.one 0) Z0 (Zi ZF (Zi Yp (Za 1) (Za 0)) (Zi Yp (Zi Yp (Za 2) (Za 3)) (Za 0))) (sK ns n W purse here often (some (.int c)) (some (.int (h:Int))) (some (pP found)) x9 x10)=some (.lst (iL (Xo W here h n))):=by
  refine UN (fun i=>Zw here i+YQ W h i) (Yd (by simp[sK]) (by omega)) (by omega) fun i hi=>⟨_,rfl,rfl,?_⟩
  simp[Zv,sK,Xx (show i<here.length by omega),Tg (show h<W.length by omega),Xx (show i<(ZA W h).length by rw[ok.sq h (by omega)];omega)]
  rfl
 have e3:Zp 9 (eP (Zf Z3 [(ZO 1 [4,2,7] (ZK [(Za 1)]) (.one 0) Z0 (Zi ZF (Zi Yp (Za 1) (Za 0)) (Zi Yp (Zi Yp (Za 2) (Za 3)) (Za 0))))])) (sK ns n W purse here often (some (.int c)) (some (.int (h:Int))) (some (pP found)) x9 x10)=some (.nx (sK ns n W purse here often (some (.int c)) (some (.int (h:Int))) (some (pP found)) (some (pP (Xo W here h n))) x10)):=by
  unfold sK at k3;simp[sK,k3]
 have ld:(Xo W here h n).length=n:=by simp[Xo]
 have c1:Vg (pP (Xo W here h n)) none (some (h:Int))=some (pP ((Xo W here h n).take h)):=by
  unfold Vg
  simp only
  rw[if_neg (by rw[HT.sIx_none,HT.sIx_nat,List.length_map,ld];omega),M1]
 have c2:Vg (pP (Xo W here h n)) (some ((h:Int)+1)) none=some (pP ((Xo W here h n).drop (h+1))):=by
  unfold Vg
  simp only
  rw[show((h:Int)+1)=((h+1:Nat):Int) by omega,if_neg (by rw[HT.sIx_none,HT.sIx_nat,List.length_map,ld];omega),M2]
 have c3:Xy (pP ((Xo W here h n).take h)) (.tup [.int (Zw here h-(ZA W h).sum)])=some (pP ((Xo W here h n).take h++[Zw here h-(ZA W h).sum])):=by
  unfold Xy
  simp only
  rw[if_pos (by simp[ld];omega)]
  simp
 have c4:Xy (pP ((Xo W here h n).take h++[Zw here h-(ZA W h).sum])) (pP ((Xo W here h n).drop (h+1)))=some (pP found):=by
  unfold Xy
  simp only
  rw[if_pos (by simp[ld];omega),<-du,hW,<-Nt _ (by omega)]
  simp
 have e4:Zp 9 (eP (Zi Xy (Zi Xy (Qv Vg (Za 9) NG (Tb (Za 7))) (Yl [(Zi YI (Zi Yp (Za 4) (Za 7)) (Zf Wf [(Zi Yp (Za 2) (Za 7))]))])) (Qv Vg (Za 9) (Tb (Zi ZF (Za 7) (eC (.int 1)))) NG))) (sK ns n W purse here often (some (.int c)) (some (.int (h:Int))) (some (pP found)) (some (pP (Xo W here h n))) x10)=some (.nx (sK ns n W purse here often (some (.int c)) (some (.int (h:Int))) (some (pP found)) (some (pP found)) x10)):=by
  simp[sK,Tb,c1,c2,c3,c4,Xx (show h<here.length by omega),Tg (show h<W.length by omega),-List.map_append,-List.map_take,-List.map_drop]
 have e5:Ui (Sz (VH (xB (Zf ZY [(Za 8),(Za 1)]))) (xB (Zi (Wt true) (Za 8) (Za 9)))) (Yy (eP (eC (.bl false)))) Z1 (sK ns n W purse here often (some (.int c)) (some (.int (h:Int))) (some (pP found)) (some (pP found)) x10)=some (.nx (sK ns n W purse here often (some (.int c)) (some (.int (h:Int))) (some (pP found)) (some (pP found)) x10)):=by
  simp[sK,tu]
 have e6:Zp 10 (Zf Ys [(Za 8)]) (sK ns n W purse here often (some (.int c)) (some (.int (h:Int))) (some (pP found)) (some (pP found)) x10)=some (.nx (sK ns n W purse here often (some (.int c)) (some (.int (h:Int))) (some (pP found)) (some (pP found)) (some (.int found.sum)))):=by
  simp[sK,T1]
 have e7:Ui (Sz (VH (xB (Zf ZU [(Za 10)]))) (Sz (xB (Zi (Wt true) (Za 10) (Zf Wf [(Za 3)]))) (xB (Zi (Wt true) (Zf Ys [(Za 4)]) (Za 10))))) (Yy (eP (eC (.bl false)))) Z1 (sK ns n W purse here often (some (.int c)) (some (.int (h:Int))) (some (pP found)) (some (pP found)) (some (.int found.sum)))=some (.nx (sK ns n W purse here often (some (.int c)) (some (.int (h:Int))) (some (pP found)) (some (pP found)) (some (.int found.sum)))):=by
  simp[sK,T1,T2,su,hs]
 have e8:Zp 4 (eP (Za 8)) (sK ns n W purse here often (some (.int c)) (some (.int (h:Int))) (some (pP found)) (some (pP found)) (some (.int found.sum)))=some (.nx (sK ns n W purse found often (some (.int c)) (some (.int (h:Int))) (some (pP found)) (some (pP found)) (some (.int found.sum)))):=by
  simp[sK]
 have e9:WP 5 (Za 7) (Zi ZF (Zi Yp (Za 5) (Za 7)) (eC (.int 1))) (sK ns n W purse found often (some (.int c)) (some (.int (h:Int))) (some (pP found)) (some (pP found)) (some (.int found.sum)))=some (.nx (sK ns n W purse found (often.set h (Zw often h+1)) (some (.int c)) (some (.int (h:Int))) (some (pP found)) (some (pP found)) (some (.int found.sum)))):=by
  rw[QD (m:=iL often) (l:=.int (Zw often h+1)) (k:=(h:Int)) (j:=h) (by simp[sK,Xx (show h<often.length by omega)]) (by simp[sK]) rfl (by simp) rfl (Wq (by simp;omega))]
  simp[sK,List.map_set]
 refine⟨h,hh,some (.int (h:Int)),some (pP found),some (pP found),some (.int found.sum),?_⟩
 rw[<-hW,hf,hW];unfold RW;rw[Xn e1,Xn e2,Xn e3,Xn e4,Xn e5,Xn e6,Xn e7,Xn e8,e9]
theorem law_true:∀ns:List Int,ns.length<=63->D_law [.cst (iL ns)]=some (.bl true):=by
 intro ns hns
 have cell:∀k:Nat,Zo [PV.cst (ns.map PV.int),PV.int (k:Int)]=some (PV.int (Zw ns k)):=fun k=>Vo hns k
 obtain⟨n,hn1,hn7,en⟩:∃n:Nat,1<=n/\n<=7/\1+Zw ns 0%7=(n:Int):=⟨(1+Zw ns 0%7).toNat,by omega,by omega,by omega⟩
 obtain⟨ts,W,et,ew,ok,hW⟩:=M0 (at0:=1) hns hn1 hn7
 generalize hone:(List.range n).map (fun h=>Tn (Zw ns (29+h)))=purse
 have l1:purse.length=n:=by rw[<-hone];simp
 have c0:Zo [PV.cst (ns.map PV.int),PV.int 0]=some (PV.int (Zw ns 0)):=cell 0
 have c29:∀h:Nat,Zo [PV.cst (ns.map PV.int),PV.int (29+(h:Int))]=some (PV.int (Zw ns (29+h))):=fun h=>by
  have:=cell (29+h)
  rw[show((29+h:Nat):Int)=29+(h:Int) by omega] at this;exact this
 have et':Yf [PV.cst (ns.map PV.int),PV.int 1,PV.int (n:Int)]=some (dP ts):=et
 have e1:Zp 1 (eP (Zi ZF (eC (.int 1)) (Zi Z5 (Zf Zo [(Za 0),(eC (.int 0))]) (eC (.int 7))))) [some (.cst (iL ns)),none,none,none,none,none,none,none,none,none,none,none]=some (.nx [some (.cst (iL ns)),some (.int (n:Int)),none,none,none,none,none,none,none,none,none,none]):=by
  simp[c0,en]
 have e2:Zp 2 (Zf Z9 [(Zf Yf [(Za 0),(eC (.int 1)),(Za 1)]),(Za 1)]) [some (.cst (iL ns)),some (.int (n:Int)),none,none,none,none,none,none,none,none,none,none]=some (.nx [some (.cst (iL ns)),some (.int (n:Int)),some (wP W),none,none,none,none,none,none,none,none,none]):=by
  simp[et',ew]
 have k3:ZO 1 [0] (ZK [(Za 1)]) (.one 0) Z0 (Zf Yg [(Zf Zo [(Za 1),(Zi ZF (eC (.int 29)) (Za 0))])]) [some (.cst (iL ns)),some (.int (n:Int)),some (wP W),none,none,none,none,none,none,none,none,none]=some (.lst (iL purse)):=by
  rw[<-hone]
  exact UN (fun h=>Tn (Zw ns (29+h))) (Yd (by simp) (by omega)) (by omega) fun i hi=>⟨_,rfl,rfl,by simp[Zv,c29,PU]⟩
 have e3:Zp 3 (eP (Zf Z3 [(ZO 1 [0] (ZK [(Za 1)]) (.one 0) Z0 (Zf Yg [(Zf Zo [(Za 1),(Zi ZF (eC (.int 29)) (Za 0))])]))])) [some (.cst (iL ns)),some (.int (n:Int)),some (wP W),none,none,none,none,none,none,none,none,none]=some (.nx [some (.cst (iL ns)),some (.int (n:Int)),some (wP W),some (pP purse),none,none,none,none,none,none,none,none]):=by
  simp[k3]
 have e4:Zp 4 (eP (Za 3)) [some (.cst (iL ns)),some (.int (n:Int)),some (wP W),some (pP purse),none,none,none,none,none,none,none,none]=some (.nx [some (.cst (iL ns)),some (.int (n:Int)),some (wP W),some (pP purse),some (pP purse),none,none,none,none,none,none,none]):=by
  simp
 have r5:Te (.lst [.int 0]) (.int (n:Int))=some (.lst (iL (List.replicate n 0))):=by
  unfold Te
  simp only
  rw[if_pos ⟨rfl,by omega,by omega,by simp;omega⟩,Int.toNat_natCast,P6]
 have r6:TZ (.tup [.int 0]) (.int (n:Int))=some (pP (List.replicate n 0)):=by
  unfold TZ
  simp only
  rw[if_pos ⟨rfl,by simp,by omega,by omega,by simp;omega⟩,Int.toNat_natCast,P6]
 have e5:Zp 5 (Zi Te (Y6 [(eC (.int 0))]) (Za 1)) [some (.cst (iL ns)),some (.int (n:Int)),some (wP W),some (pP purse),some (pP purse),none,none,none,none,none,none,none]=some (.nx (sK ns n W purse purse (List.replicate n 0) none none none none none)):=by
  simp[r5,sK,-List.map_replicate]
 obtain⟨cs,hcs,lcs⟩:=P7 ns (some 36) (some 62)
 obtain⟨often,x6,x7,x8,x9,x10,ho,e6⟩:∃often x6 x7 x8 x9 x10,often.length=n/\YG [5] (SH (Qv SL (Za 0) (Tb (eC (.int 36))) (Tb (eC (.int 62))))) (.one 6) RW (sK ns n W purse purse (List.replicate n 0) none none none none none)=some (.nx (sK ns n W purse (Xa W purse often) often x6 x7 x8 x9 x10)):=by
  obtain⟨s',q1,q2⟩:=ZT (T:=.one 6) (fb:=RW) (ls:=iL cs) (s:=sK ns n W purse purse (List.replicate n 0) none none none none none)
   (fun _ st=>∃often x6 x7 x8 x9 x10,often.length=n/\st=sK ns n W purse (Xa W purse often) often x6 x7 x8 x9 x10)
   ⟨List.replicate n 0,none,none,none,none,none,by simp,by rw[Sb (by omega) (fun i hi=>RV 0 (by omega))]⟩ (by
    rintro i l st hl ⟨often,x6,x7,x8,x9,x10,ho,rfl⟩
    obtain⟨c,rfl⟩:∃c:Int,l = .int c:=by
     rw[List.getElem?_map] at hl
     cases q:cs[i]? with
     | none=>rw[q] at hl;cases hl
     | some c=>rw[q] at hl;exact⟨c,(Option.some.inj hl).symm⟩
    obtain⟨h,hh,y7,y8,y9,y10,e⟩:=P9 (ns:=ns) (purse:=purse) (here:=Xa W purse often) (often:=often) (x7:=x7) (x8:=x8) (x9:=x9) (x10:=x10) c ok hW hn1 hn7 (by rw[Z6,l1]) ho (RU ok (by omega))
    refine⟨_,_,rfl,e,often.set h (Zw often h+1),some (.int c),y7,y8,y9,y10,by rw[List.length_set,ho],?_⟩
    rw[Nr (T:=often.set h (Zw often h+1)) (by omega) fun i hi=>?_];rw[Vk (by omega),XB (by omega)]
    by_cases q:i=h
    ·subst q;rw[if_pos rfl,if_pos rfl]
    ·rw[if_neg q,if_neg q,Int.add_zero])
  obtain⟨often,x6,x7,x8,x9,x10,ho,rfl⟩:=q2
  refine⟨often,x6,x7,x8,x9,x10,ho,?_⟩
  have q3:(SH (Qv SL (Za 0) (Tb (eC (.int 36))) (Tb (eC (.int 62))))) (ZD [5] (sK ns n W purse purse (List.replicate n 0) none none none none none))=some (iL cs):=by
   simp[sK,ZD,Tb,SL,hcs]
  rw[Yz,q3];exact q1
 have re:=S6 (W:=W) (D:=purse) (S:=often) ok (by omega) (by omega)
 have rz:=S6 (W:=W) (D:=purse) (S:=List.replicate n 0) ok (by omega) (by simp;omega)
 rw[Sb (by omega) (fun i hi=>RV 0 (by omega))] at rz;have hz:=Z6 W purse often
 generalize Xa W purse often=last at e6 re hz
 have tu:=T3 (l:=last) (by omega)
 rw[show last.length=n by omega] at tu
 have e7:Zp 11 (Zf Wr [(Za 2),(Za 3),(Zf Z3 [(Za 5)])]) (sK ns n W purse last often x6 x7 x8 x9 x10)=some (.nx [some (.cst (iL ns)),some (.int (n:Int)),some (wP W),some (pP purse),some (pP last),some (.lst (iL often)),x6,x7,x8,x9,x10,some (pP last)]):=by
  simp[sK,re]
 have e8:Ui (Sz (VH (xB (Zf ZY [(Za 11),(Za 1)]))) (xB (Zi (Wt true) (Za 11) (Za 4)))) (Yy (eP (eC (.bl false)))) Z1 [some (.cst (iL ns)),some (.int (n:Int)),some (wP W),some (pP purse),some (pP last),some (.lst (iL often)),x6,x7,x8,x9,x10,some (pP last)]=some (.nx [some (.cst (iL ns)),some (.int (n:Int)),some (wP W),some (pP purse),some (pP last),some (.lst (iL often)),x6,x7,x8,x9,x10,some (pP last)]):=by
  simp[tu]
 show Xp 12 RQ [.cst (iL ns)]=_
 unfold RQ
 show(Zl (Zp 1 _) _ [some (.cst (iL ns)),none,none,none,none,none,none,none,none,none,none,none]).bind WQ=_
 rw[Xn e1,Xn e2,Xn e3,Xn e4,Xn e5,Xn e6,Xn e7,Xn e8];simp[r6,rz,-List.map_replicate]
end PW
namespace PW
open PySem L2 VL
theorem all_mk{P:Program}{w:World}{K:PySem.W.Frag}{mg:Str->Option Value}{fa:Addr}(hfa:mg "law" = some (.ref fa))(B:Sr mg)
  (d0:Def K mg "_law_square" X1)
  (d1:Def K mg "gain" SW)
  (d2:Def K mg "run" PK)
  (d3:Def K mg "_law_cell" Uc)
  (d4:Def K mg "_law_renamed" Xz)
  (d5:Def K mg "_law_read_times" YN)
  (d6:Def K mg "_law_times" WY)
  (d7:Def K mg "one_at" WZ)
  (d8:Def K mg "lent" Tl)
  (d9:Def K mg "total" Tm)
  (d10:Def K mg "_law_coins" W0)
  (d11:Def K mg "_law_whole" W3)
  (d12:Def K mg "_law_tuple" W4)
  (d13:Def K mg "law" PQ)
  : ∃fd:FuncData,(∀(s:Shared)(u:Value),BindsTo s fd ⟨[u],[]⟩ [("_law_script",u)])/\∀base:Heap,K.In base->base.Ns mainGlobals mg->WB P w K mg base Ro 4 fa fd ["_law_script"] (Y7 K D_law 1):=by
 refine PB d13 hfa (fun _ _ _ _ _ _ _=>rfl) fun base f fd _ _ F=>?_
 have C_l_square:=T0 (P:=P) (w:=w) (base:=base) d0 B
 have C_gain:=Nk (P:=P) (w:=w) (base:=base) d1 B
 have C_run:=MT (P:=P) (w:=w) (base:=base) d2 B C_gain
 have C_l_cell:=QF (P:=P) (w:=w) (base:=base) d3 B
 have C_l_renamed:=Tk (P:=P) (w:=w) (base:=base) d4 B
 have C_l_read_times:=Vi (P:=P) (w:=w) (base:=base) d5 B
 have C_l_times:=SX (P:=P) (w:=w) (base:=base) d6 B C_l_cell C_l_read_times C_l_renamed
 have C_one_at2:=SZ (P:=P) (w:=w) (base:=base) d7 B
 have C_lent2:=PM (P:=P) (w:=w) (base:=base) d8 B C_run C_one_at2
 have C_total:=PP (P:=P) (w:=w) (base:=base) d9 B
 have C_l_coins:=S1 (P:=P) (w:=w) (base:=base) d10 B
 have C_l_whole:=S3 (P:=P) (w:=w) (base:=base) d11 B
 have C_l_tuple:=S5 (P:=P) (w:=w) (base:=base) d12 B C_l_whole
 exact MU F B C_l_cell C_l_square C_l_times C_l_coins C_lent2 C_l_tuple C_total C_l_whole C_run
end PW
def PySem.W.Fast.tw17385618912105035877:Unit:=()
def PySem.W.Fast.tw12229607061311093978:Unit:=()
def PySem.W.Fast.tw12358949049735574816:Unit:=()
def PySem.W.Fast.tw875808241831502884:Unit:=()
def PySem.W.Fast.tw5014930231083479425:Unit:=()
open PySem PySem.W PyProof.Rows
set_option maxRecDepth 100000 in
set_option maxHeartbeats 0 in
theorem PySem.Challenge.cw_purseweb_k11_a_house_lends_holds : PySem.Challenge.rw_purseweb_k11_a_house_lends.Holds := by
 w_on;o_law;k_head;(case hw=>w_witness2)
 k_fill
 refine VL.law_walk (l:=PySem.Challenge.rw_purseweb_k11_a_house_lends) (D:=PW.D_law) (x:="_law_script") 4 rfl rfl ⟨rfl,by decide,by decide,rfl⟩ PW.law_true (fun w h Y=>PySem.W.kIn_of Y) ?F
 case F=>
  intro w mg fa h KX G hmg
  refine' PW.all_mk hmg ?B ?d0 ?d1 ?d2 ?d3 ?d4 ?d5 ?d6 ?d7 ?d8 ?d9 ?d10 ?d11 ?d12 ?d13
  case B=>constructor<;>(refine PySem.W.mg_none_of KX G ?_;k_is)
  case d0 | d1 | d2 | d3 | d4 | d5 | d6 | d7 | d8 | d9 | d10 | d11 | d12 | d13=>(refine' L2.def_mk KX G ?a ?l ?c ?k;(case a=>k_is);(case l=>k_is);(case c=>k_is);(case k=>k_is))
