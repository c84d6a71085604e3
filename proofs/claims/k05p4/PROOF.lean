import PyProof.Rows.All
import Wide.All
import OpenK.AllK
import Wide.FinOn
import Lean
import PyProof.EqAt
import PyProof.EqKinds
import PyProof.TupleCall
import PyProof.NeKinds
import PyProof.ListMulRoad
import PyProof.WalkInts
import PyProof.ListRange
import KE.KRevIter
import PySem.Challenge.RW_purseweb_k05_numbers_written
set_option Elab.async false
set_option linter.all false
set_option maxRecDepth 100000
namespace L2
open PySem PySem.Spec PyProof.Rows
abbrev Vs:=Sum Int Str
def Nf:Vs->Value->Bool
 | .inl k,v=>Value.isInt k v
 | .inr x,v=>Value.isStrOf x v
def Kf(w:World):Vs->Int
 | .inl k=>hashInt k
 | .inr x=>hashStr w x
theorem ZP:∀{k:Vs}{v:Value},Nf k v=true->(∃i t,k=Sum.inl i/\v=Value.int i t)\/(∃x t,k=Sum.inr x/\v=Value.str x t)
 | .inl i,v,h=>by
  obtain⟨t,e⟩:=Value.isInt_shape (k:=i) (v:=v) h
  exact .inl ⟨i,t,rfl,e⟩
 | .inr x,v,h=>by
  obtain⟨t,e⟩:=Value.isStrOf_shape (x:=x) (v:=v) h
  exact .inr ⟨x,t,rfl,e⟩
theorem NK(a b:Int):decide ((Sum.inl a:Vs)=Sum.inl b)=(a==b):=by
 by_cases e:a=b
 ·subst e;simp
 ·have h:¬(Sum.inl a:Vs)=Sum.inl b:=fun q=>e (Sum.inl.inj q)
  rw[decide_eq_false h]
  exact(beq_eq_false_iff_ne.mpr e).symm
theorem NL(a b:Str):decide ((Sum.inr a:Vs)=Sum.inr b)=decide (a=b):=by
 by_cases e:a=b
 ·subst e;simp
 ·have h:¬(Sum.inr a:Vs)=Sum.inr b:=fun q=>e (Sum.inr.inj q)
  rw[decide_eq_false h,decide_eq_false e]
theorem NM(a:Int)(b:Str):decide ((Sum.inl a:Vs)=Sum.inr b)=false:=decide_eq_false (fun q=>nomatch q)
theorem NN(a:Str)(b:Int):decide ((Sum.inr a:Vs)=Sum.inl b)=false:=decide_eq_false (fun q=>nomatch q)
def UW(prog:Program)(w:World):PySem.KeyKind prog w Vs where
 is:=Nf
 hash:=Kf w
 inj:=fun v a b ha hb=>by
  rcases ZP ha with⟨i,t,rfl,rfl⟩ | ⟨x,t,rfl,rfl⟩
  ·rcases ZP hb with⟨j,u,rfl,e⟩ | ⟨y,u,rfl,e⟩
   ·injection e with e1 _;rw[e1]
   ·exact nomatch e
  ·rcases ZP hb with⟨j,u,rfl,e⟩ | ⟨y,u,rfl,e⟩
   ·exact nomatch e
   ·injection e with e1 _;rw[e1]
 byValue:=fun k v h=>by
  rcases ZP h with⟨i,t,rfl,rfl⟩ | ⟨x,t,rfl,rfl⟩<;>rfl
 pyHash:=fun hv h=>by
  rcases ZP hv with⟨i,t,rfl,rfl⟩ | ⟨x,t,rfl,rfl⟩
  ·exact wpAny_pyHash_int h
  ·exact wpAny_pyHash_str h
 eqBool:=fun hu hv h=>by
  rcases ZP hu with⟨i,t,rfl,rfl⟩ | ⟨x,t,rfl,rfl⟩
  ·rcases ZP hv with⟨j,u,rfl,rfl⟩ | ⟨y,u,rfl,rfl⟩
   ·rw[NK] at h;exact wpAny_eqBool_int h
   ·rw[NM] at h;exact SeqAt.EqAt.int_str i t y u _ _ _ _ h
  ·rcases ZP hv with⟨j,u,rfl,rfl⟩ | ⟨y,u,rfl,rfl⟩
   ·rw[NN] at h;exact SeqAt.EqAt.str_int x t j u _ _ _ _ h
   ·rw[NL] at h;exact wpAny_eqBool_str h
 «strs»:=fun k x t v h=>by
  rcases ZP h with⟨i,u,rfl,e⟩ | ⟨y,u,rfl,e⟩
  ·exact nomatch e
  ·injection e with e1 _
   subst e1
   cases v<;>rfl
inductive V where
 | non | bl (b:Bool) | int (i:Int) | str (x:Str) | byt (b:Array UInt8) | flt (b:UInt64) | ref (a:Addr) | ty (n:String)
 deriving DecidableEq
def RelV:V->Value->Prop
 | .non,u=>u=Value.none
 | .bl b,u=>u=Value.bool b
 | .int i,u=>∃t,u=Value.int i t
 | .str x,u=>∃t,u=Value.str x t
 | .byt b,u=>∃t,u=Value.bytes b t
 | .flt b,u=>∃t,u=Value.float b t
 | .ref a,u=>u=Value.ref a
 | .ty n,u=>u=Value.type n
abbrev Vals:List V->List Value->Prop:=Paired RelV
theorem Vals.length{xs:List V}{us:List Value}(r:Vals xs us):xs.length=us.length:=Paired.length r
theorem Vals.get:∀{xs:List V}{us:List Value}{i:Nat}{x:V},Vals xs us->xs[i]?=some x->∃u,us[i]?=some u/\RelV x u
 | _,_,_,_,.nil,e=>by simp at e
 | _,_,0,_,.cons r _,e=>by simp at e;subst e;exact⟨_,rfl,r⟩
 | _,_,i+1,x,.cons _ t,e=>by
  obtain⟨u,h1,h2⟩:=Vals.get (i:=i) (x:=x) t (by simpa using e)
  exact⟨u,by simpa using h1,h2⟩
theorem Vals.append:∀{xs ys:List V}{us ws:List Value},Vals xs us->Vals ys ws->Vals (xs++ys) (us++ws)
 | _,_,_,_,.nil,s=>s
 | _,_,_,_,.cons r t,s=>.cons r (Vals.append t s)
theorem Vals.take:∀{xs:List V}{us:List Value}(n:Nat),Vals xs us->Vals (xs.take n) (us.take n)
 | _,_,0,_=>.nil
 | _,_,_+1,.nil=>.nil
 | _,_,n+1,.cons r t=>.cons r (Vals.take n t)
theorem Vals.drop:∀{xs:List V}{us:List Value}(n:Nat),Vals xs us->Vals (xs.drop n) (us.drop n)
 | _,_,0,r=>r
 | _,_,_+1,.nil=>.nil
 | _,_,n+1,.cons _ t=>Vals.drop n t
def NO:Option V->Option Value->Prop
 | some v,some u=>RelV v u
 | none,none=>True
 | _,_=>False
def KV{κ:Type}:List (κ×V)->List (κ×Value)->Prop:=Paired fun(p:κ×V) (q:κ×Value)=>p.1=q.1/\RelV p.2 q.2
def kV:Vs->V
 | .inl i=>.int i
 | .inr x=>.str x
inductive HO where
 /-- a list -/
 | lst (xs:List V)
 /-- a tuple (never changes) -/
 | tup (xs:List V)
 /-- a dict whose keys are ints and texts;one whose keys are tuples of ints and texts (the empty one is both) -/
 | dK (kvs:List (Vs×V)) | dT (kvs:List (List Vs×V))
 /-- a set of ints: its members,its size -/
 | set (S:Int->Bool) (n:Nat)
 /-- an instance of the class at C,its dict at dx,its attributes -/
 | ins (C dx:Addr) (fs:List (Str×V))
 /-- the dict of the instance at x -/
 | own (x:Addr)
 /-- the dict of an exception -/
 | xd (fs:List (Str×V))
 /-- a bound method,f of x -/
 | met (f x:Addr)
 /-- a range object lo,lo+1,.. below hi -/
 | rng (lo hi:Int)
 /-- a thing that is known to the object (the script;a dict while a loop walks it): read,never written while it is so -/
 | frz (o:Obj) (u:HO)
 /-- a code object's table -/
 | tbl (ps:Array Value)
 /-- any other thing,by what is true of its one object (a def of one's own: SetO a S n:=HO.ext fun h=>..) -/
 | ext (φ:Heap->Prop)
abbrev Hp:=Addr->Option HO
def YG(H:Hp)(a:Addr)(o:HO):Hp:=fun b=>if b=a then some o else H b
theorem Zw{H:Hp}{a:Addr}{o:HO}:YG H a o a=some o:=by unfold YG;rw[if_pos rfl]
theorem Zq{H:Hp}{a b:Addr}{o:HO}(h:b≠a):YG H a o b=H b:=by unfold YG;rw[if_neg h]
theorem Zv{H:Hp}{a b:Addr}{o:HO}(h:H a=some o)(h':H b=none):a≠b:=by
 intro e;subst e;rw[h] at h';cases h'
section
variable (P:Program) (w:World)
def ObjOk(H:Hp)(h:Heap)(a:Addr):HO->Prop
 | .lst xs=>xs.length<=sizeLine/\∃(its:List Value) (n:Nat),Vals xs its/\h.get? a=some { cls:=.type "list",data:=.seq its.toArray n }
 | .tup xs=>xs.length<=sizeLine/\∃its:List Value,Vals xs its/\IsTup h a its.toArray
 | .dK kvs=>kvs.length<=sizeLine/\(a==sysModules)=false/\∃vs,KV kvs vs/\h.DictOf (UW P w) a vs
 | .dT kvs=>kvs.length<=sizeLine/\(a==sysModules)=false/\∃xs:List (List Vs×Addr×Value),
   Paired (fun(p:List Vs×V) (q:List Vs×Addr×Value)=>p.1=q.1/\H q.2.1=some (.tup (p.1.map kV))/\RelV p.2 q.2.2) kvs xs/\
   ∃o es ep,h.get? a=some o/\o.ExactDict/\o.data = .dict es ep/\es.toList=xs.map (entryOfKey (tupleKind (UW P w)))/\(xs.map (·.1)).Nodup
 | .set S n=>h.SetOf (intKind P w) a S n
 | .ins C dx fs=>H dx=some (.own a)/\fs.length<=1000/\dx≠a/\h.get? a=some (PySem.W.instObj C dx)/\
   ∃mA,h.Ns1 dx mA/\(∀f,NO (fs.lookup f) (mA f))/\PySem.Within mA (fs.map (·.1))
 | .own _=>∃o,h.get? a=some o
 | .xd fs=>∃mA,h.Ns1 a mA/\∀f,NO (fs.lookup f) (mA f)
 | .rng lo hi=>∃t u v,h.get? a=some { cls:=.type "range",data:=.fields #[.int lo t,.int hi u,.int 1 v] }
 | .frz o u=>h.get? a=some o/\ObjOk H h a u
 | .tbl ps=>h.get? a=some { cls:=.none,data:=.fields ps }
 | .met f x=>h.get? a=some (PySem.W.methodObj (.ref f) (.ref x))
 | .ext φ=>φ h/\(∃o,h.get? a=some o)/\∀h1 h2:Heap,φ h1->(∀o,h1.get? a=some o->h2.get? a=some o)->φ h2
def HOk(H:Hp)(h:Heap):Prop:=∀a o,H a=some o->ObjOk P w H h a o
end
section
variable {P:Program} {w:World} {H H':Hp} {h h':Heap} {a:Addr} {o:HO}
theorem ObjOk.lt(x:ObjOk P w H h a o):a<h.objs.size:=by
 cases o with
 | lst xs=>obtain⟨_,_,_,_,e⟩:=x;exact Heap.lt_size e
 | tup xs=>obtain⟨_,_,_,p⟩:=x;exact p.lt
 | dK kvs=>obtain⟨_,_,_,_,o,_,_,e,_⟩:=x;exact Heap.lt_size e
 | dT kvs=>obtain⟨_,_,_,_,o,_,_,e,_⟩:=x;exact Heap.lt_size e
 | set S n=>obtain⟨o,_,_,_,e,_⟩:=x;exact Heap.lt_size e
 | ins C dx fs=>obtain⟨_,_,_,e,_⟩:=x;exact Heap.lt_size e
 | own y=>obtain⟨_,e⟩:=x;exact Heap.lt_size e
 | xd fs=>obtain⟨_,⟨_,_,_,e,_⟩,_⟩:=x;exact Heap.lt_size e
 | rng lo hi=>obtain⟨_,_,_,e⟩:=x;exact Heap.lt_size e
 | frz ob u=>obtain⟨e,_⟩:=x;exact Heap.lt_size e
 | tbl ps=>exact Heap.lt_size (show h.get? a=some _ from x)
 | met f y=>exact Heap.lt_size (show h.get? a=some _ from x)
 | ext φ=>obtain⟨_,⟨_,e⟩,_⟩:=x;exact Heap.lt_size e
theorem Paired.mapP{α β:Type}{F G:α->β->Prop}:∀{l₁:List α}{l₂:List β},Paired F l₁ l₂->(∀a b,F a b->G a b)->Paired G l₁ l₂
 | _,_,.nil,_=>.nil
 | _,_,.cons r t,f=>.cons (f _ _ r) (Paired.mapP t f)
theorem ObjOk.stay(x:ObjOk P w H h a o)(k:∀b u,(b=a\/H b=some (.own a))->h.get? b=some u->h'.get? b=some u)
  (ho:∀b,H b=some (.own a)->H' b=some (.own a)) (ht:∀b xs,H b=some (.tup xs)->H' b=some (.tup xs)):ObjOk P w H' h' a o:=by
 induction o with
 | lst xs=>obtain⟨z,its,n,r,e⟩:=x;exact⟨z,its,n,r,k _ _ (.inl rfl) e⟩
 | tup xs=>obtain⟨z,its,r,ob,e,c⟩:=x;exact⟨z,its,r,ob,k _ _ (.inl rfl) e,c⟩
 | dK kvs=>obtain⟨z,y,vs,r,ob,es,ep,e,c⟩:=x;exact⟨z,y,vs,r,ob,es,ep,k _ _ (.inl rfl) e,c⟩
 | dT kvs=>
  obtain⟨z,y,xs,r,ob,es,ep,e,c⟩:=x
  exact⟨z,y,xs,Paired.mapP r fun p q z=>⟨z.1,ht _ _ z.2.1,z.2.2⟩,ob,es,ep,k _ _ (.inl rfl) e,c⟩
 | set S n=>obtain⟨ob,es,ep,t,e,c⟩:=x;exact⟨ob,es,ep,t,k _ _ (.inl rfl) e,c⟩
 | ins C dx fs=>
  obtain⟨d,z,ne,e,mA,⟨od,es,ep,e2,c⟩,r⟩:=x
  exact⟨ho _ d,z,ne,k _ _ (.inl rfl) e,mA,⟨od,es,ep,k _ _ (.inr d) e2,c⟩,r⟩
 | own y=>obtain⟨ob,e⟩:=x;exact⟨ob,k _ _ (.inl rfl) e⟩
 | xd fs=>obtain⟨mA,⟨od,es,ep,e,c⟩,r⟩:=x;exact⟨mA,⟨od,es,ep,k _ _ (.inl rfl) e,c⟩,r⟩
 | rng lo hi=>obtain⟨t,u,v,e⟩:=x;exact⟨t,u,v,k _ _ (.inl rfl) e⟩
 | frz ob u ih=>obtain⟨e,q⟩:=x;exact⟨k _ _ (.inl rfl) e,ih q⟩
 | tbl ps=>
  have e:h.get? a=some { cls:=.none,data:=.fields ps }:=x
  show h'.get? a=some { cls:=.none,data:=.fields ps }
  exact k a _ (.inl rfl) e
 | met f y=>
  have e:h.get? a=some (PySem.W.methodObj (.ref f) (.ref y)):=x
  show h'.get? a=some (PySem.W.methodObj (.ref f) (.ref y))
  exact k a _ (.inl rfl) e
 | ext φ=>obtain⟨p,⟨o,e⟩,st⟩:=x;exact⟨st _ _ p fun o q=>k _ _ (.inl rfl) q,⟨o,k _ _ (.inl rfl) e⟩,st⟩
theorem HOk.lt(x:HOk P w H h)(e:H a=some o):a<h.objs.size:=(x a o e).lt
theorem HOk.fresh(x:HOk P w H h)(e:h.objs.size<=a):H a=none:=by
 cases q:H a with
 | none=>rfl
 | some u=>exact absurd (Nat.lt_of_lt_of_le (x.lt q) e) (Nat.lt_irrefl _)
theorem HOk.kept(x:HOk P w H h)(k:∀b u,h.get? b=some u->h'.get? b=some u):HOk P w H h':=fun a o e=>
 (x a o e).stay (fun b u _ q=>k b u q) (fun _ q=>q) fun _ _ q=>q
theorem HOk.laid(x:HOk P w H h)(k:∀b u,h.get? b=some u->h'.get? b=some u)(hp:h.objs.size<=a)(new:ObjOk P w (YG H a o) h' a o):HOk P w (YG H a o) h':=fun b u e=>by
 have hn:=x.fresh hp
 by_cases hb:b=a
 ·subst hb;rw[Zw] at e;cases e;exact new
 ·rw[Zq hb] at e
  exact(x b u e).stay (fun c v _ q=>k c v q) (fun c q=>by rw[Zq (Zv q hn)];exact q) fun c xs q=>by rw[Zq (Zv q hn)];exact q
end
def Rd(H:Hp)(a:Addr)(u:HO):Prop:=H a=some u\/∃o,H a=some (.frz o u)
theorem Rd.ok{P:Program}{w:World}{H:Hp}{h:Heap}{a:Addr}{u:HO}(r:Rd H a u)(x:HOk P w H h):ObjOk P w H h a u:=by
 rcases r with r | ⟨o,r⟩
 ·exact x a u r
 ·obtain⟨_,q⟩:=x a _ r
  exact q
def Wc:Option HO->Prop
 | some (.lst _)=>True
 | some (.dK _)=>True
 | some (.dT _)=>True
 | some (.set _ _)=>True
 | some (.ins _ _ _)=>True
 | some (.ext _)=>True
 | _=>False
section
variable {P:Program} {w:World} {H:Hp} {h h':Heap} {x e:Addr} {o':HO}
theorem HOk.write(ok:HOk P w H h)(mu:Wc (H x))(he:e=x\/H e=some (.own x))(k:∀b u,b≠e->h.get? b=some u->h'.get? b=some u)(heo:∃u,h'.get? e=some u)
  (new:ObjOk P w (YG H x o') h' x o'):HOk P w (YG H x o') h':=fun b u q=>by
 have nown:∀c y,H c=some (.own y)->c≠x:=fun c y r z=>by subst z;rw[r] at mu;exact mu
 have ntup:∀c xs,H c=some (.tup xs)->c≠x:=fun c xs r z=>by subst z;rw[r] at mu;exact mu
 by_cases hb:b=x
 ·subst hb;rw[Zw] at q;cases q;exact new
 ·rw[Zq hb] at q
  by_cases hbe:b=e
  ·have q':H b=some (.own x):=by
    rcases he with z | z
    ·exact absurd (hbe.trans z) hb
    ·rw[hbe];exact z
   rw[q] at q';cases q'
   obtain⟨v,hv⟩:=heo
   exact⟨v,by rw[hbe];exact hv⟩
  ·refine(ok b u q).stay (fun c v hc r=>k c v ?_ r) (fun c r=>by rw[Zq (nown c b r)];exact r) fun c xs r=>by rw[Zq (ntup c xs r)];exact r
   rcases hc with rfl | hc
   ·exact hbe
   ·rintro rfl
    rcases he with z | z
    ·exact nown c b hc z
    ·rw[hc] at z;cases z;exact hb rfl
end
structure Un(fs ex:List Addr)(H H':Hp)(h h':Heap):Prop where
 keep:∀b o,h.get? b=some o->H b=none->b∉fs->b∉ex->h'.get? b=some o
 slot:∀b o,h.get? b=some o->H b=none->b∈fs->b∉ex->∃sl,h'.get? b=some { o with slots:=sl }
 free:∀b o,h.get? b=some o->H b=none->b∉ex->H' b=none
 there:∀b o,h.get? b=some o->b∉ex->∃o',h'.get? b=some o'
 tups:∀b xs,H b=some (.tup xs)->H' b=some (.tup xs)
 frzs:∀b o u,H b=some (.frz o u)->H' b=some (.frz o u)
 tbls:∀b ps,H b=some (.tbl ps)->∃more,H' b=some (.tbl (ps++more))
section
variable {fs fs' ex ex':List Addr} {H H1 H2:Hp} {h h1 h2 h':Heap} {a x e:Addr} {o:HO}
theorem Un.any(u:Un fs ex H H1 h h1){b:Addr}{ob:Obj}(q:h.get? b=some ob)(n:H b=none)(hx:b∉ex):∃sl,h1.get? b=some { ob with slots:=sl }:=by
 by_cases hb:b∈fs
 ·exact u.slot b ob q n hb hx
 ·exact⟨ob.slots,u.keep b ob q n hb hx⟩
theorem Un.kept(k:∀b u,h.get? b=some u->h'.get? b=some u):Un fs ex H H h h':=
 ⟨fun b ob q _ _ _=>k b ob q,fun b ob q _ _ _=>⟨ob.slots,k b ob q⟩,fun _ _ _ n _=>n,fun b ob q _=>⟨ob,k b ob q⟩,fun _ _ q=>q,fun _ _ _ q=>q,fun _ ps q=>⟨#[],by rw[q];simp⟩⟩
theorem Un.refl:Un fs ex H H h h:=Un.kept fun _ _ q=>q
theorem Un.laid(k:∀b u,h.get? b=some u->h'.get? b=some u)(hp:h.objs.size<=a)(hn:H a=none):Un fs ex H (YG H a o) h h' where
 keep:=fun b u q _ _ _=>k b u q
 slot:=fun b u q _ _ _=>⟨u.slots,k b u q⟩
 free:=fun b u q n _=>by rw[Zq (Nat.ne_of_lt (Nat.lt_of_lt_of_le (Heap.lt_size q) hp))];exact n
 there:=fun b u q _=>⟨u,k b u q⟩
 tups:=fun b xs q=>by rw[Zq (Zv q hn)];exact q
 frzs:=fun b u xs q=>by rw[Zq (Zv q hn)];exact q
 tbls:=fun b ps q=>⟨#[],by rw[Zq (Zv q hn),q];simp⟩
theorem Un.write(mu:Wc (H x))(he:e=x\/H e=some (.own x))(k:∀b u,b≠e->h.get? b=some u->h'.get? b=some u)(heo:∃u,h'.get? e=some u):Un fs ex H (YG H x o) h h':=by
 have hx:∀b,H b=none->b≠x:=fun b n z=>by subst z;rw[n] at mu;exact mu
 have hb:∀b,H b=none->b≠e:=fun b n z=>by
  subst z
  rcases he with r | r
  ·exact hx b n r
  ·rw[n] at r;cases r
 have hm:∀b u,H b=some u->¬Wc (some u)->b≠x:=fun b u q nm z=>by subst z;rw[q] at mu;exact nm mu
 refine⟨fun b u q n _ _=>k b u (hb b n) q,fun b u q n _ _=>⟨u.slots,k b u (hb b n) q⟩,fun b u q n _=>by rw[Zq (hx b n)];exact n,fun b u q _=>?_,
  fun b xs q=>by rw[Zq (hm b _ q fun z=>z)];exact q,fun b u xs q=>by rw[Zq (hm b _ q fun z=>z)];exact q,fun b ps q=>⟨#[],by rw[Zq (hm b _ q fun z=>z),q];simp⟩⟩
 by_cases hbe:b=e
 ·subst hbe;exact heo
 ·exact⟨u,k b u hbe q⟩
end
def Ka(h:Heap)(H:Hp):List Addr:=(List.range h.objs.size).filter fun a=>(H a).isSome
def UX(h:Heap)(H:Hp):Heap:=PySem.W.hideAll h (Ka h H)
theorem Rz(h:Heap)(H:Hp):(UX h H).objs.size=h.objs.size:=PySem.W.hideAll_size _ _
theorem Qt{h:Heap}{H:Hp}{b:Addr}{o:Obj}(e:h.get? b=some o)(n:H b=none):(UX h H).get? b=some o:=
 PySem.W.hideAll_get _ e fun hm=>by
  have q:(H b).isSome=true:=(List.mem_filter.mp hm).2
  rw[n] at q;simp at q
theorem PQ{h:Heap}{H:Hp}{b:Addr}{o:Obj}(e:(UX h H).get? b=some o):h.get? b=some o/\H b=none:=by
 have e':h.get? b=some o:=PySem.W.of_hideAll (Ka h H) e
 refine⟨e',?_⟩
 cases q:H b with
 | none=>rfl
 | some x=>
  have hm:b∈Ka h H:=List.mem_filter.mpr ⟨List.mem_range.mpr (Heap.lt_size e'),by simp[q]⟩
  have z:(UX h H).get? b=none:=PySem.W.hideAll_none (Ka h H) hm
  rw[z] at e;cases e
def PR(g h:Heap)(L:Addr):List (Addr×Obj):=(List.range h.objs.size).filterMap fun a=>if a=L\/(g.get? a).isSome=true then none else(h.get? a).map fun o=>(a,o)
def ZF(g h:Heap)(L d:Addr):List (Addr×Obj):=(PR g h L).filter fun p=>decide (p.1≠d)
structure Mod(K:PySem.W.Frag)(mg:Str->Option Value)(base:Heap):Prop where
 kin:K.In base
 glob:base.Ns mainGlobals mg
 blt:∃mb,base.Ns builtinsNs mb/\∀x:Str,x≠"__name__"->mb x=bootBuiltins x
 nolimit:base.NoLimit
structure Cx where
 prog:Program
 w:World
 K:PySem.W.Frag
 mg:Str->Option Value
 base:Heap
 A:Around
 N:List Str
 s₀:Shared
 H₀:Hp
 env:Env
 outer:List Env
 stack:List Env
 ex:List Addr
 fn:Str->Bool
 calm:Bool
 pn:List (Addr×Obj)
 xe:Value->Shared->Prop
def Tj(l:List Env):List Addr:=l.filterMap (·.frame)
abbrev Cx.fs(X:Cx):List Addr:=Tj X.outer
def Kg(sc:Scope)(x:Str):Prop:=sc.names.lookup x=some .local\/sc.names.lookup x=some .cell\/sc.names.lookup x=some .free
def M7(sc:Scope)(x:Str):Prop:=sc.names.lookup x=some .local\/sc.names.lookup x=some .cell
def Kh(env:Env)(h:Heap)(m:Str->Option Value)(x:Str)(u:Value):Prop:=
 (env.kindOf x=some .local/\m x=some u)\/((env.kindOf x=some .cell\/env.kindOf x=some .free)/\∃c,env.cells.lookup x=some c/\h.IsCell c (some u))
structure Cx.Ok(X:Cx):Prop where
 mod:Mod X.K X.mg X.base
 kind:X.env.scope.kind = .function
 glob:X.env.globals=mainGlobals
 blt:X.env.builtins=builtinsNs
 above:X.s₀.heap.objs.size<=X.env.locals
 inj:∀x y c,X.env.cells.lookup x=some c->X.env.cells.lookup y=some c->x=y
 has:∀x,(X.env.kindOf x=some .cell\/X.env.kindOf x=some .free)->∃c,X.env.cells.lookup x=some c
 cab:∀x c,X.fn x=true->X.env.cells.lookup x=some c->X.s₀.heap.objs.size<=c
 hd:X.calm=true->X.A.handled=none
 frames:X.A.frames=some X.stack
 stk:X.stack=X.outer\/(X.stack=X.env::X.outer/\X.env.frame=some X.env.locals)
 exf:∀b∈X.ex,b≠X.env.locals/\∀x c,X.env.cells.lookup x=some c->c≠b
 bs:∀b o,X.base.get? b=some o->X.s₀.heap.get? b=some o/\X.H₀ b=none
 bsz:X.base.objs.size<=X.s₀.heap.objs.size
 noex:∀b o,X.base.get? b=some o->b∉X.ex
 exfs:∀b∈X.ex,b∉X.fs
 funs:X.s₀.heap.FunFrames X.base X.outer
 frf:∀b∈X.fs,X.H₀ b=none
structure Inv(X:Cx)(pins:List (Addr×Obj))(U:List (Option V))(H:Hp)(s:Shared):Prop where
 ok:X.Ok
 os:s.os=X.s₀.os
 bare:AllBare s.gens
 base:Un X.fs X.ex X.H₀ H X.s₀.heap s.heap
 loc:∃m,s.heap.Ns X.env.locals m/\∀(i:Nat)(x:Str)(v:V),X.N[i]?=some x->U[i]?=some (some v)->Kg X.env.scope x->∃u,RelV v u/\Kh X.env s.heap m x u
 cell:∀x c,X.env.cells.lookup x=some c->∃v,s.heap.IsCell c v
 free:H X.env.locals=none
 freeC:∀x c,X.env.cells.lookup x=some c->H c=none
 pin:∀p∈X.pn++pins,s.heap.get? p.1=some p.2/\H p.1=none/\p.1≠X.env.locals/\p.1∉X.fs/\∀v,p.2.data≠.cell v
 hok:HOk X.prog X.w H s.heap
 len:U.length=X.N.length
section
variable {X:Cx} {pins:List (Addr×Obj)} {U:List (Option V)} {H H':Hp} {s:Shared} {h':Heap}
theorem Cx.Ok.nofr(ok:X.Ok){b:Addr}{o:Obj}(e:X.base.get? b=some o):b∉X.fs:=fun hb=>by
 have:=(ok.funs.mem hb).1
 rw[e] at this;cases this
theorem Inv.bs(I:Inv X pins U H s):∀b o,X.base.get? b=some o->s.heap.get? b=some o/\H b=none:=fun b o e=>
 ⟨I.base.keep b o (I.ok.bs b o e).1 (I.ok.bs b o e).2 (I.ok.nofr e) (I.ok.noex b o e),I.base.free b o (I.ok.bs b o e).1 (I.ok.bs b o e).2 (I.ok.noex b o e)⟩
theorem Inv.bk(I:Inv X pins U H s):∀b o,X.base.get? b=some o->s.heap.get? b=some o:=fun b o e=>(I.bs b o e).1
theorem Inv.mod(I:Inv X pins U H s):Mod X.K X.mg X.base:=I.ok.mod
theorem Inv.kIn(I:Inv X pins U H s):X.K.In s.heap:=I.ok.mod.kin.keeps I.bk
theorem Inv.fr(I:Inv X pins U H s):∃m,Fr X.base X.env.locals s.heap m:=
 let⟨m,hn,_⟩:=I.loc
 ⟨m,hn,I.bk,Nat.le_trans I.ok.bsz I.ok.above⟩
theorem Inv.lt(I:Inv X pins U H s):X.env.locals<s.heap.objs.size:=let⟨_,hn,_⟩:=I.loc;hn.lt
theorem Inv.sz(I:Inv X pins U H s):X.s₀.heap.objs.size<=s.heap.objs.size:=Nat.le_trans I.ok.above (Nat.le_of_lt I.lt)
theorem Inv.nofs(I:Inv X pins U H s){a:Addr}(h:s.heap.objs.size<=a):a∉X.fs:=fun hb=>by
 obtain⟨_,o,ho,_⟩:=I.ok.funs.mem hb
 exact absurd (Nat.lt_of_lt_of_le (Heap.lt_size ho) (Nat.le_trans I.sz h)) (Nat.lt_irrefl _)
theorem Inv.cne(I:Inv X pins U H s):∀x c,X.env.cells.lookup x=some c->c≠X.env.locals:=fun x c e z=>by
 obtain⟨v,o,ho,hd⟩:=I.cell x c e
 obtain⟨m,⟨o',es,ep,ho',hd',_⟩,_⟩:=I.loc
 rw[z,ho'] at ho;cases ho;rw[hd'] at hd;cases hd
theorem Inv.funs(I:Inv X pins U H s):s.heap.FunFrames X.base X.outer:=by
 have all:∀(l:List Env),(∀b∈Tj l,b∈X.fs)->X.s₀.heap.FunFrames X.base l->s.heap.FunFrames X.base l:=by
  intro l
  induction l with
  | nil=>intro _ _;trivial
  | cons env r ih=>
   intro hs hl
   obtain⟨hk,⟨L,o,hf,hn,ho,hd⟩,hr⟩:=hl
   have hL:L∈X.fs:=hs L (by unfold Tj;rw[List.filterMap_cons,hf];exact List.mem_cons_self)
   obtain⟨sl,e⟩:=I.base.slot L o ho (I.ok.frf L hL) hL fun z=>I.ok.exfs L z hL
   exact⟨hk,⟨L,_,hf,hn,e,hd⟩,ih (fun b hb=>hs b (by unfold Tj;rw[List.filterMap_cons,hf];exact List.mem_cons_of_mem _ hb)) hr⟩
 exact all X.outer (fun _ hb=>hb) I.ok.funs
theorem Inv.stack(I:Inv X pins U H s):s.heap.FunFrames X.base X.stack:=by
 rcases I.ok.stk with e | ⟨e,hf⟩
 ·rw[e];exact I.funs
 ·rw[e]
  obtain⟨m,hn,_⟩:=I.loc
  refine .cons (by rw[I.ok.kind];decide) hf hn ?_ I.funs
  exact Heap.get?_none_of_le (Nat.le_trans I.ok.bsz I.ok.above)
theorem Inv.stkSub(I:Inv X pins U H s):∀b∈Tj X.stack,b∈X.env.locals::X.fs:=fun b hb=>by
 rcases I.ok.stk with e | ⟨e,hf⟩
 ·rw[e] at hb;exact List.mem_cons_of_mem _ hb
 ·rw[e] at hb
  unfold Tj at hb;rw[List.filterMap_cons,hf] at hb;exact hb
theorem Inv.stkFree(I:Inv X pins U H s):∀b∈Tj X.stack,H b=none:=fun b hb=>by
 rcases List.mem_cons.mp (I.stkSub b hb) with e | hb
 ·rw[e];exact I.free
 ·obtain⟨_,o,ho,_⟩:=I.ok.funs.mem hb
  exact I.base.free b o ho (I.ok.frf b hb) fun z=>I.ok.exfs b z hb
theorem Inv.step{g':Array GenState}{t':Nat}{d':Drawn}{ch:List Addr}(I:Inv X pins U H s)
  (hch:∀b∈ch,(b∈X.ex\/X.s₀.heap.objs.size<=b)/\b≠X.env.locals/\(∀x c,X.env.cells.lookup x=some c->c≠b)/\∀p∈X.pn++pins,p.1≠b)
  (keep:∀b o,b≠X.env.locals->b∉X.fs->b∉ch->s.heap.get? b=some o->H b=none->h'.get? b=some o)
  (slot:∀b o,b≠X.env.locals->b∈X.fs->b∉ch->s.heap.get? b=some o->H b=none->∃sl,h'.get? b=some { o with slots:=sl }) (free:∀b o,b∉ch->s.heap.get? b=some o->H b=none->H' b=none)
  (there:∀b o,b∉ch->s.heap.get? b=some o->∃o',h'.get? b=some o')
  (tups:∀b xs,H b=some (.tup xs)->H' b=some (.tup xs)) (frzs:∀b o u,H b=some (.frz o u)->H' b=some (.frz o u)) (tbls:∀b ps,H b=some (.tbl ps)->∃more,H' b=some (.tbl (ps++more)))
  (ns:∀m,s.heap.Ns X.env.locals m->h'.Ns X.env.locals m) (hok:HOk X.prog X.w H' h') (hg:AllBare g') :
  Inv X pins U H' { s with heap:=h',gens:=g',drawn:=d',toks:=t' }:=by
 have neL:∀b o,X.s₀.heap.get? b=some o->b≠X.env.locals:=fun b o e=>Nat.ne_of_lt (Nat.lt_of_lt_of_le (Heap.lt_size e) I.ok.above)
 have neC:∀b o,X.s₀.heap.get? b=some o->b∉X.ex->b∉ch:=fun b o e hx hb=>by
  rcases(hch b hb).1 with z | z
  ·exact hx z
  ·exact absurd (Nat.lt_of_lt_of_le (Heap.lt_size e) z) (Nat.lt_irrefl _)
 have cellK:∀x c,X.env.cells.lookup x=some c->∀v,s.heap.IsCell c v->h'.IsCell c v:=fun x c e v ⟨o,ho,hd⟩=>by
  have nch:c∉ch:=fun z=>(hch c z).2.2.1 x c e rfl
  by_cases hc:c∈X.fs
  ·obtain⟨sl,q⟩:=slot c o (I.cne x c e) hc nch ho (I.freeC x c e)
   exact⟨_,q,hd⟩
  ·exact⟨o,keep c o (I.cne x c e) hc nch ho (I.freeC x c e),hd⟩
 refine⟨I.ok,I.os,hg,⟨fun b o e n hb hx=>?_,fun b o e n hb hx=>?_,fun b o e n hx=>?_,fun b o e hx=>?_,fun b xs e=>tups b xs (I.base.tups b xs e),fun b o xs e=>frzs b o xs (I.base.frzs b o xs e),fun b ps e=>?_⟩,?_,fun x c e=>?_,?_,fun x c e=>?_,fun p hp=>?_,hok,I.len⟩
 ·exact keep b o (neL b o e) hb (neC b o e hx) (I.base.keep b o e n hb hx) (I.base.free b o e n hx)
 ·obtain⟨sl,e1⟩:=I.base.slot b o e n hb hx
  obtain⟨sl',e2⟩:=slot b _ (neL b o e) hb (neC b o e hx) e1 (I.base.free b o e n hx)
  exact⟨sl',e2⟩
 ·obtain⟨o',e1⟩:=I.base.there b o e hx
  exact free b o' (neC b o e hx) e1 (I.base.free b o e n hx)
 ·obtain⟨o',e1⟩:=I.base.there b o e hx
  exact there b o' (neC b o e hx) e1
 ·obtain⟨m1,e1⟩:=I.base.tbls b ps e
  obtain⟨m2,e2⟩:=tbls b _ e1
  exact⟨m1++m2,by rw[e2,Array.append_assoc]⟩
 ·obtain⟨m,hn,hl⟩:=I.loc
  refine⟨m,ns m hn,fun i x v e1 e2 e3=>?_⟩
  obtain⟨u,r,l⟩:=hl i x v e1 e2 e3
  refine⟨u,r,?_⟩
  rcases l with l | ⟨k,c,e,z⟩
  ·exact .inl l
  ·exact .inr ⟨k,c,e,cellK x c e _ z⟩
 ·obtain⟨v,z⟩:=I.cell x c e
  exact⟨v,cellK x c e v z⟩
 ·obtain⟨m,⟨o,_,_,ho,_⟩,_⟩:=I.loc
  exact free _ o (fun z=>(hch _ z).2.1 rfl) ho I.free
 ·obtain⟨v,o,ho,hd⟩:=I.cell x c e
  exact free c o (fun z=>(hch c z).2.2.1 x c e rfl) ho (I.freeC x c e)
 ·obtain⟨e,n,ne,nf,d⟩:=I.pin p hp
  have nch:p.1∉ch:=fun z=>(hch p.1 z).2.2.2 p hp rfl
  exact⟨keep p.1 p.2 ne nf nch e n,free p.1 p.2 nch e n,ne,nf,d⟩
theorem Inv.un{t':Nat}(I:Inv X pins U H s)(u:Un X.fs [] H H' s.heap h')(hok:HOk X.prog X.w H' h'):Inv X pins U H' { s with heap:=h',toks:=t' }:=by
 obtain⟨m,⟨o,es,ep,ho,r⟩,_⟩:=id I.loc
 obtain⟨sl,hL⟩:=u.any ho I.free (by simp)
 exact I.step (g':=s.gens) (d':=s.drawn) (ch:=[]) (fun _ z=>nomatch z) (fun b o _ hb _ e n=>u.keep b o e n hb (by simp)) (fun b o _ hb _ e n=>u.slot b o e n hb (by simp)) (fun b o _ e n=>u.free b o e n (by simp)) (fun b o _ e=>u.there b o e (by simp)) u.tups u.frzs u.tbls (fun m' hm=>by
  obtain⟨o',es',ep',ho',r'⟩:=hm
  rw[ho] at ho';cases ho'
  exact⟨_,es',ep',hL,r'⟩) hok I.bare
theorem Inv.call{g':Array GenState}{t':Nat}{d':Drawn}{ch:List Addr}(I:Inv X pins U H s)(u:Un (Tj X.stack) ch H H' s.heap h')(hok:HOk X.prog X.w H' h')(hg:AllBare g')
  (hch:∀b∈ch,(b∈X.ex\/X.s₀.heap.objs.size<=b)/\b≠X.env.locals/\(∀x c,X.env.cells.lookup x=some c->c≠b)/\∀p∈X.pn++pins,p.1≠b) :
  Inv X pins U H' { s with heap:=h',gens:=g',drawn:=d',toks:=t' }:=by
 obtain⟨m,⟨o,es,ep,ho,r⟩,_⟩:=id I.loc
 obtain⟨sl,hL⟩:=u.any ho I.free fun z=>(hch _ z).2.1 rfl
 exact I.step (ch:=ch) hch (fun b o hL hb hc e n=>u.keep b o e n (fun z=>(List.mem_cons.mp (I.stkSub b z)).elim hL hb) hc) (fun b o _ _ hc e n=>u.any e n hc) (fun b o hc e n=>u.free b o e n hc) (fun b o hc e=>u.there b o e hc) u.tups u.frzs u.tbls (fun m' hm=>by
  obtain⟨o',es',ep',ho',r'⟩:=hm
  rw[ho] at ho';cases ho'
  exact⟨_,es',ep',hL,r'⟩) hok hg
theorem Inv.turned{t':Nat}{it:Addr}(I:Inv X pins U H s)(k:∀b o,b≠it->s.heap.get? b=some o->h'.get? b=some o)(hn:H it=none)(hL:it≠X.env.locals)
  (h1:it∈X.ex\/X.s₀.heap.objs.size<=it) (h2:∀x c,X.env.cells.lookup x=some c->c≠it) (h3:∀p∈X.pn++pins,p.1≠it):Inv X pins U H { s with heap:=h',toks:=t' }:=by
 have nit:∀b u,H b=some u->b≠it:=fun b u e z=>by rw[z,hn] at e;cases e
 refine I.step (g':=s.gens) (d':=s.drawn) (ch:=[it]) (fun b hb=>?_) (fun b o _ _ hc e _=>k b o (fun z=>hc (by simp[z])) e) (fun b o _ _ hc e _=>⟨o.slots,k b o (fun z=>hc (by simp[z])) e⟩) (fun _ _ _ _ n=>n)
  (fun b o hc e=>⟨o,k b o (fun z=>hc (by simp[z])) e⟩) (fun _ _ e=>e) (fun _ _ _ e=>e) (fun b ps e=>⟨#[],by rw[e];simp⟩) (fun m hm=>?_) (fun b u e=>?_) I.bare
 ·have e:b=it:=by simpa using hb
  subst e
  exact⟨h1,hL,h2,h3⟩
 ·obtain⟨o,es,ep,ho,r⟩:=hm
  exact⟨o,es,ep,k _ o (Ne.symm hL) ho,r⟩
 ·refine(I.hok b u e).stay (fun c v hc q=>k c v ?_ q) (fun _ q=>q) fun _ _ q=>q
  rcases hc with z | z
  ·rw[z];exact nit b u e
  ·exact nit c _ z
theorem Inv.tok(I:Inv X pins U H s)(t:Nat):Inv X pins U H { s with toks:=t }:=I.un (h':=s.heap) (t':=t) Un.refl I.hok
theorem Inv.kept{t':Nat}(I:Inv X pins U H s)(k:∀b u,s.heap.get? b=some u->h'.get? b=some u):Inv X pins U H { s with heap:=h',toks:=t' }:=I.un (Un.kept k) (I.hok.kept k)
theorem Inv.laid{a:Addr}{o:HO}{t':Nat}(I:Inv X pins U H s)(k:∀b u,s.heap.get? b=some u->h'.get? b=some u)(hp:s.heap.objs.size<=a)(new:ObjOk X.prog X.w (YG H a o) h' a o) :
  Inv X pins U (YG H a o) { s with heap:=h',toks:=t' }:=I.un (Un.laid k hp (I.hok.fresh hp)) (I.hok.laid k hp new)
theorem Inv.write{x e:Addr}{o:HO}{t':Nat}(I:Inv X pins U H s)(mu:Wc (H x))(he:e=x\/H e=some (.own x))(k:∀b u,b≠e->s.heap.get? b=some u->h'.get? b=some u)(heo:∃u,h'.get? e=some u)
  (new:ObjOk X.prog X.w (YG H x o) h' x o):Inv X pins U (YG H x o) { s with heap:=h',toks:=t' }:=I.un (Un.write mu he k heo) (I.hok.write mu he k heo new)
theorem Inv.weak{U':List (Option V)}(I:Inv X pins U H s)(hl:U'.length=U.length)(w:∀(i:Nat) v,U'[i]?=some (some v)->U[i]?=some (some v)):Inv X pins U' H s:=
 ⟨I.ok,I.os,I.bare,I.base,let⟨m,hn,hl'⟩:=I.loc;⟨m,hn,fun i x v e1 e2 e3=>hl' i x v e1 (w i v e2) e3⟩,I.cell,I.free,I.freeC,I.pin,I.hok,hl.trans I.len⟩
theorem Inv.pins_of{pins':List (Addr×Obj)}(I:Inv X pins U H s)(h:∀p∈pins',s.heap.get? p.1=some p.2/\H p.1=none/\p.1≠X.env.locals/\p.1∉X.fs/\∀v,p.2.data≠.cell v):Inv X pins' U H s:=
 ⟨I.ok,I.os,I.bare,I.base,I.loc,I.cell,I.free,I.freeC,fun p hp=>(List.mem_append.mp hp).elim (fun z=>I.pin p (List.mem_append_left _ z)) (h p),I.hok,I.len⟩
theorem VB{N:List Str}(hN:N.Nodup){i j:Nat}{x:Str}(a:N[i]?=some x)(b:N[j]?=some x):i=j:=by
 obtain⟨h1,e1⟩:=List.getElem?_eq_some_iff.mp a
 obtain⟨h2,e2⟩:=List.getElem?_eq_some_iff.mp b
 exact(List.getElem_inj hN).mp (e1.trans e2.symm)
theorem RA{M:Model}{A:Around}{E:Value->Shared->Prop}{i:Nat}{x:Str}{v:V}{u:Value}{Q:Unit->Shared->Prop}(I:Inv X pins U H s)(hN:X.N.Nodup)(hi:X.N[i]?=some x)(hx:M7 X.env.scope x)(r:RelV v u)
  (h:∀s',Inv X pins (U.set i (some v)) H s'->(∃a,Heap.SameBut a s.heap s'.heap/\(a=X.env.locals\/X.env.cells.lookup x=some a))->Q () s') (hf:X.fn x=true\/X.env.scope.names.lookup x=some .local:=by first | exact .inl rfl | exact .inr rfl | assumption):wpAny M A (storeName X.env x u) Q E s:=by
 obtain⟨m,hn,hl⟩:=id I.loc
 have hcls:(X.env.scope.kind==.class || (X.env.scope.kind==.module&&X.env.locals != X.env.globals))=false:=by rw[I.ok.kind];rfl
 have hiU:i<U.length:=by rw[I.len];exact(List.getElem?_eq_some_iff.mp hi).1
 have cne:=I.cne
 have tracked:∀{a:Addr}{h':Heap},(∃o,s.heap.get? a=some o/\H a=none)->Heap.SameBut a s.heap h'->HOk X.prog X.w H h':=fun{a h'} ha hs b ob e=>by
  obtain⟨_,_,hfree⟩:=ha
  refine(I.hok b ob e).stay (fun c w' hc q=>(hs.2 c ?_).trans q) (fun _ q=>q) fun _ _ q=>q
  rintro rfl
  rcases hc with rfl | hc
  ·rw[hfree] at e;cases e
  ·rw[hfree] at hc;cases hc
 rcases hx with hk | hk
 ·refine wpAny_storeName_local hk hn (fun h' hn' hs=>?_) hcls
  obtain⟨oL,_,_,hoL,_⟩:=id hn
  refine h _ ⟨I.ok,I.os,I.bare,⟨fun b o e n hb hx=>?_,fun b o e n hb hx=>?_,I.base.free,fun b o e hx=>?_,I.base.tups,I.base.frzs,I.base.tbls⟩,⟨_,hn',fun j y v' e1 e2 e3=>?_⟩,fun y c e=>?_,I.free,I.freeC,fun p hp=>?_,tracked ⟨oL,hoL,I.free⟩ hs,by simpa using I.len⟩ ⟨_,hs,.inl rfl⟩
  ·exact(hs.2 b (Nat.ne_of_lt (Nat.lt_of_lt_of_le (Heap.lt_size e) I.ok.above))).trans (I.base.keep b o e n hb hx)
  ·obtain⟨sl,e1⟩:=I.base.slot b o e n hb hx
   exact⟨sl,(hs.2 b (Nat.ne_of_lt (Nat.lt_of_lt_of_le (Heap.lt_size e) I.ok.above))).trans e1⟩
  ·obtain⟨o',e1⟩:=I.base.there b o e hx
   exact⟨o',(hs.2 b (Nat.ne_of_lt (Nat.lt_of_lt_of_le (Heap.lt_size e) I.ok.above))).trans e1⟩
  ·by_cases hj:j=i
   ·subst hj
    rw[hi] at e1;cases e1;rw[List.getElem?_set_self hiU] at e2;cases e2
    exact⟨u,r,.inl ⟨hk,by simp⟩⟩
   ·rw[List.getElem?_set_ne (Ne.symm hj)] at e2
    obtain⟨u',r',q⟩:=hl j y v' e1 e2 e3
    refine⟨u',r',?_⟩
    rcases q with⟨k,e⟩ | ⟨k,c,e,z⟩
    ·refine .inl ⟨k,?_⟩
     have:y≠x:=fun e=>hj (VB hN e1 (e▸hi))
     simp[this,e]
    ·exact .inr ⟨k,c,e,z.sameBut hs (cne y c e)⟩
  ·obtain⟨w',z⟩:=I.cell y c e
   exact⟨w',z.sameBut hs (cne y c e)⟩
  ·obtain⟨e,n,ne,nf,d⟩:=I.pin p hp
   exact⟨(hs.2 p.1 ne).trans e,n,ne,nf,d⟩
 ·have hfn:X.fn x=true:=by
   rcases hf with z | z
   ·exact z
   ·rw[z] at hk;cases hk
  obtain⟨c,hc⟩:=I.ok.has x (.inl hk)
  obtain⟨w',z⟩:=I.cell x c hc
  refine wpAny_storeName_cell I.ok.kind hk hc z (fun h' hc' hs=>?_)
  obtain⟨oc,hoc,hocd⟩:=id z
  refine h { s with heap:=h' } ⟨I.ok,I.os,I.bare,⟨fun b o e n hb hx=>?_,fun b o e n hb hx=>?_,I.base.free,fun b o e hx=>?_,I.base.tups,I.base.frzs,I.base.tbls⟩,⟨m,hn.sameBut hs (Ne.symm (cne x c hc)),fun j y v' e1 e2 e3=>?_⟩,fun y c' e=>?_,I.free,I.freeC,fun p hp=>?_,tracked ⟨oc,hoc,I.freeC x c hc⟩ hs,by simpa using I.len⟩ ⟨c,hs,.inr hc⟩
  ·exact(hs.2 b (Nat.ne_of_lt (Nat.lt_of_lt_of_le (Heap.lt_size e) (I.ok.cab x c hfn hc)))).trans (I.base.keep b o e n hb hx)
  ·obtain⟨sl,e1⟩:=I.base.slot b o e n hb hx
   exact⟨sl,(hs.2 b (Nat.ne_of_lt (Nat.lt_of_lt_of_le (Heap.lt_size e) (I.ok.cab x c hfn hc)))).trans e1⟩
  ·obtain⟨o',e1⟩:=I.base.there b o e hx
   exact⟨o',(hs.2 b (Nat.ne_of_lt (Nat.lt_of_lt_of_le (Heap.lt_size e) (I.ok.cab x c hfn hc)))).trans e1⟩
  ·by_cases hj:j=i
   ·subst hj
    rw[hi] at e1;cases e1;rw[List.getElem?_set_self hiU] at e2;cases e2
    exact⟨u,r,.inr ⟨.inl hk,c,hc,hc'⟩⟩
   ·rw[List.getElem?_set_ne (Ne.symm hj)] at e2
    obtain⟨u',r',q⟩:=hl j y v' e1 e2 e3
    refine⟨u',r',?_⟩
    rcases q with q | ⟨k,c',e,z'⟩
    ·exact .inl q
    ·refine .inr ⟨k,c',e,z'.sameBut hs ?_⟩
     rintro rfl
     exact hj (VB hN e1 (I.ok.inj _ _ _ e hc▸hi))
  ·by_cases hcc:c'=c
   ·subst hcc;exact⟨_,hc'⟩
   ·obtain⟨w2,z2⟩:=I.cell y c' e
    exact⟨w2,z2.sameBut hs hcc⟩
  ·obtain⟨e,n,ne,nf,d⟩:=I.pin p hp
   refine⟨(hs.2 p.1 ?_).trans e,n,ne,nf,d⟩
   intro q;rw[q,hoc] at e
   have q':oc=p.2:=Option.some.inj e
   exact d w' (by rw[<-q'];exact hocd)
theorem Xu{M:Model}{A:Around}{E:Value->Shared->Prop}{i:Nat}{x:Str}{v:V}{u:Value}{Q:Unit->Shared->Prop}(I:Inv X pins U H s)(hN:X.N.Nodup)(hi:X.N[i]?=some x)(hx:M7 X.env.scope x)(r:RelV v u)
  (h:∀s',Inv X pins (U.set i (some v)) H s'->Q () s') (hf:X.fn x=true\/X.env.scope.names.lookup x=some .local:=by first | exact .inl rfl | exact .inr rfl | assumption):wpAny M A (storeName X.env x u) Q E s:=
 RA I hN hi hx r (fun s' I' _=>h s' I') hf
theorem Inv.call'{s':Shared}{ch:List Addr}(I:Inv X pins U H s)(ho:s'.os=s.os)(u:Un (Tj X.stack) ch H H' s.heap s'.heap)(hok:HOk X.prog X.w H' s'.heap)(hg:AllBare s'.gens)
  (hch:∀b∈ch,(b∈X.ex\/X.s₀.heap.objs.size<=b)/\b≠X.env.locals/\(∀x c,X.env.cells.lookup x=some c->c≠b)/\∀p∈X.pn++pins,p.1≠b):Inv X pins U H' s':=by
 obtain⟨h',g',d',t',o'⟩:=s'
 have e:o'=s.os:=ho
 subst e
 exact I.call (g':=g') (t':=t') (d':=d') u hok hg hch
end
abbrev XK:=Value->Option Addr->Hp->Prop
abbrev St:=List (Option V)
abbrev VK:=V->Hp->Prop
abbrev TE:=St->Hp->VK->Prop
abbrev TT:=St->Hp->(Bool->Hp->Prop)->Prop
abbrev TA:=St->Hp->(List V->Hp->Prop)->Prop
structure We where
 nx:St->Hp->Prop
 rt:VK
 bk:St->Hp->Prop:=fun _ _=>False
 ct:St->Hp->Prop:=fun _ _=>False
abbrev TS:=We->St->Hp->Prop
def EP(X:Cx)(pins:List (Addr×Obj))(U:St)(Q:VK)(u:Value)(s':Shared):Prop:=∃v H',Inv X pins U H' s'/\RelV v u/\Q v H'
def TP(X:Cx)(pins:List (Addr×Obj))(U:St)(Q:Bool->Hp->Prop)(b:Bool)(s':Shared):Prop:=∃H',Inv X pins U H' s'/\Q b H'
def AP(X:Cx)(pins:List (Addr×Obj))(U:St)(Q:List V->Hp->Prop)(us:List Value)(s':Shared):Prop:=∃vs H',Inv X pins U H' s'/\Vals vs us/\Q vs H'
def SP(X:Cx)(pins:List (Addr×Obj))(D:We)(f:Flow)(s':Shared):Prop:=
 match f with
 | .next=>∃U' H',Inv X pins U' H' s'/\D.nx U' H'
 | .brk=>∃U' H',Inv X pins U' H' s'/\D.bk U' H'
 | .cont=>∃U' H',Inv X pins U' H' s'/\D.ct U' H'
 | .ret u=>∃v U' H',Inv X pins U' H' s'/\RelV v u/\D.rt v H'
def PE(X:Cx)(e:Expr)(t:TE):Prop:=
 ∀(pins:List (Addr×Obj))(s:Shared)(U:St)(H:Hp)(Q:VK),Inv X pins U H s->t U H Q->wpAny (model X.prog X.w) X.A (eval e X.env) (EP X pins U Q) X.xe s
def PT(X:Cx)(e:Expr)(t:TT):Prop:=
 ∀(pins:List (Addr×Obj))(s:Shared)(U:St)(H:Hp)(Q:Bool->Hp->Prop),Inv X pins U H s->t U H Q->wpAny (model X.prog X.w) X.A (isTrue e X.env (eval e X.env)) (TP X pins U Q) X.xe s
def PW(X:Cx)(e:Expr)(t:TT):Prop:=
 ∀(whole:Sem Value)(pins:List (Addr×Obj))(s:Shared)(U:St)(H:Hp)(Q:Bool->Hp->Prop),Inv X pins U H s->t U H Q->wpAny (model X.prog X.w) X.A (isTrue e X.env whole) (TP X pins U Q) X.xe s
theorem PW.pt{X:Cx}{e:Expr}{t:TT}(h:PW X e t):PT X e t:=h _
def PA(X:Cx)(es:List Expr)(t:TA):Prop:=
 ∀(pos:Pos)(pins:List (Addr×Obj))(s:Shared)(U:St)(H:Hp)(Q:List V->Hp->Prop),Inv X pins U H s->t U H Q->wpAny (model X.prog X.w) X.A (spliced (backTo pos (starEach es X.env))) (AP X pins U Q) X.xe s
def PS(X:Cx)(st:Stmt)(t:TS):Prop:=
 ∀(pins:List (Addr×Obj))(s:Shared)(U:St)(H:Hp)(D:We),Inv X pins U H s->t D U H->wpAny (model X.prog X.w) X.A (exec st X.env) (SP X pins D) X.xe s
def PSs(X:Cx)(st:List Stmt)(t:TS):Prop:=
 ∀(pins:List (Addr×Obj))(s:Shared)(U:St)(H:Hp)(D:We),Inv X pins U H s->t D U H->wpAny (model X.prog X.w) X.A (execs st X.env) (SP X pins D) X.xe s
theorem Z4{α:Type}{t:Sem α}{Q Q':α->Shared->Prop}{M:Model}{A:Around}{E:Value->Shared->Prop}{s:Shared}(h:wpAny M A t Q E s)(hQ:∀a s,Q a s->Q' a s):wpAny M A t Q' E s:=wpAny_mono h hQ fun _ _ x=>x
section
variable {X:Cx}
theorem bin{a b:Expr}{ta tb:TE}(ha:PE X a ta)(hb:PE X b tb){pins:List (Addr×Obj)}{s:Shared}{U:St}{H:Hp}{R:V->V->Hp->Prop}(I:Inv X pins U H s)(h:ta U H fun x H1=>tb U H1 fun y H2=>R x y H2)
  {α:Type} {Q:α->Shared->Prop} {f:Value->Value->Sem α}
  (hf:∀v u s2 x y H2,Inv X pins U H2 s2->RelV x v->RelV y u->R x y H2->wpAny (model X.prog X.w) X.A (f v u) Q X.xe s2) :
  wpAny (model X.prog X.w) X.A (eval a X.env) (fun v s₁=>wpAny (model X.prog X.w) X.A (eval b X.env) (fun u s₂=>wpAny (model X.prog X.w) X.A (f v u) Q X.xe s₂) X.xe s₁) X.xe s:=by
 refine Z4 (ha pins s U H _ I h) fun v s1 ⟨x,H1,I1,r1,q1⟩=>?_
 refine Z4 (hb pins s1 U H1 _ I1 q1) fun u s2 ⟨y,H2,I2,r2,q2⟩=>?_
 exact hf v u s2 x y H2 I2 r1 r2 q2
def NP(i:Nat):TE:=fun U H Q=>∃v,U[i]?=some (some v)/\Q v H
def tC(v:V):TE:=fun _ H Q=>Q v H
theorem NQ{i:Nat}{x:Str}{pos:Pos}(hN:X.N[i]?=some x)(hv:Kg X.env.scope x)(hd:(x==("__debug__" : Str))=false:=by decide)(hcd:(x==("__classdict__" : Str))=false:=by decide):PE X (.Name x pos) (NP i):=by
 intro pins s U H Q I h
 obtain⟨v,e,h⟩:=h
 obtain⟨m,hn,hl⟩:=I.loc
 obtain⟨u,r,l⟩:=hl i x v hN e hv
 have fin:EP X pins U Q u s:=⟨v,H,I,r,h⟩
 rcases l with⟨hk,hm⟩ | ⟨hk,c,hc,hcell⟩
 ·exact wpAny_Name (wpAny_loadName_local I.ok.kind hk hn hm fin) hd
 ·rcases hk with hk | hk
  ·exact wpAny_Name (wpAny_loadName_cell I.ok.kind hk hc hcell fin) hd
  ·exact wpAny_Name (wpAny_loadName_free I.ok.kind hk hc hcell fin hcd) hd
theorem NR{i j pos}:PE X (.Constant (.int i) j pos) (tC (.int i)):=fun _ _ _ H _ I h=>wpAny_Constant_int ⟨.int i,H,I.tok _,⟨_,rfl⟩,h⟩
theorem Lf{b j pos}:PE X (.Constant (.bool b) j pos) (tC (.bl b)):=fun _ _ _ H _ I h=>Constant_bool ⟨.bl b,H,I,rfl,h⟩
theorem NS{j pos}:PE X (.Constant .none j pos) (tC .non):=fun _ _ _ H _ I h=>Constant_none ⟨.non,H,I,rfl,h⟩
theorem Qu{x j pos}:PE X (.Constant (.str x) j pos) (tC (.str x)):=fun _ _ _ H _ I h=>Calls.Constant_str ⟨.str x,H,I.tok _,⟨_,rfl⟩,h⟩
def Gl(X:Cx)(x:Str):Prop:=X.env.kindOf x=some .globalImplicit
theorem Xh{E:Value->Shared->Prop}{pins:List (Addr×Obj)}{s:Shared}{U:St}{H:Hp}{x:Str}{u:Value}{pos:Pos}{Q:Value->Shared->Prop}(I:Inv X pins U H s)(hg:Gl X x)(hm:X.mg x=some u)(h:Q u s)
  (hd:(x==("__debug__" : Str))=false:=by decide):wpAny (model X.prog X.w) X.A (eval (.Name x pos) X.env) Q E s:=
 Calls.Name_function_global I.ok.kind hg (Calls.loadGlobal_global (by rw[I.ok.glob];exact I.mod.glob.keeps I.bk) hm h) hd
theorem VC{E:Value->Shared->Prop}{pins:List (Addr×Obj)}{s:Shared}{U:St}{H:Hp}{x:Str}{u:Value}{pos:Pos}{Q:Value->Shared->Prop}(I:Inv X pins U H s)(hg:Gl X x)(hm:X.mg x=none)(hv:bootBuiltins x=some u)(h:Q u s)
  (hn:x≠"__name__":=by decide) (hd:(x==("__debug__" : Str))=false:=by decide):wpAny (model X.prog X.w) X.A (eval (.Name x pos) X.env) Q E s:=by
 obtain⟨mb,h1,h2⟩:=I.mod.blt
 exact Calls.Name_function_global I.ok.kind hg (Calls.loadGlobal_builtin (by rw[I.ok.glob];exact I.mod.glob.keeps I.bk) hm (by rw[I.ok.blt];exact h1.keeps I.bk) ((h2 x hn).trans hv) h) hd
theorem SV{x:Str}{v:V}{u:Value}{pos:Pos}(hg:Gl X x)(hm:X.mg x=some u)(r:RelV v u)(hd:(x==("__debug__" : Str))=false:=by decide):PE X (.Name x pos) (tC v):=
 fun _ _ _ H _ I h=>Xh I hg hm ⟨v,H,I,r,h⟩ hd
theorem PU{x:Str}{v:V}{u:Value}{pos:Pos}(hg:Gl X x)(hm:X.mg x=none)(hv:bootBuiltins x=some u)(r:RelV v u)(hn:x≠"__name__":=by decide)(hd:(x==("__debug__" : Str))=false:=by decide):PE X (.Name x pos) (tC v):=
 fun _ _ _ H _ I h=>VC I hg hm hv ⟨v,H,I,r,h⟩ hn hd
variable {a b:Expr} {ta tb:TE} {pos:Pos}
def PC(X:Cx)(op:CmpOp)(a b:Expr)(t:TE):Prop:=
 ∀(pins:List (Addr×Obj))(s:Shared)(U:St)(H:Hp)(Q:VK),Inv X pins U H s->t U H Q->
  wpAny (model X.prog X.w) X.A (eval a X.env) (fun v s₁=>wpAny (model X.prog X.w) X.A (eval b X.env) (fun u s₂=>wpAny (model X.prog X.w) X.A (compareOp op v u) (EP X pins U Q) X.xe s₂) X.xe s₁) X.xe s
theorem Qv(b:Expr){op:CmpOp}(h:op≠.In)(h2:op≠.NotIn):behindInMarks op b=false:=by
 have e1:(op==CmpOp.In)=false:=by cases op<;>first | rfl | exact absurd rfl h
 have e2:(op==CmpOp.NotIn)=false:=by cases op<;>first | rfl | exact absurd rfl h2
 cases b<;>simp[behindInMarks,e1,e2]
def Lg(ta:TE):TE:=fun U H Q=>ta U H fun x H1=>Q (.bl (decide (x = .non))) H1
def Ng(ta:TE):TE:=fun U H Q=>ta U H fun x H1=>Q (.bl (!decide (x = .non))) H1
theorem RelV.none_iff{x:V}{v:Value}(r:RelV x v):(v==Value.none)=decide (x = .non):=by
 cases x with
 | non=>cases r;rfl
 | bl _=>cases r;rfl
 | int _=>obtain⟨t,rfl⟩:=r;rfl
 | str _=>obtain⟨t,rfl⟩:=r;rfl
 | byt _=>obtain⟨t,rfl⟩:=r;rfl
 | flt _=>obtain⟨t,rfl⟩:=r;rfl
 | ref _=>cases r;rfl
 | ty _=>cases r;rfl
theorem NT{j pos'}(ha:PE X a ta):PC X .Is a (.Constant .none j pos') (Lg ta):=by
 intro pins s U H Q I h
 refine Z4 (ha pins s U H _ I h) fun v s1 ⟨x,H1,I1,r1,q1⟩=>?_
 exact Constant_none (is_none_gen ⟨.bl _,H1,I1,by rw[r1.none_iff];rfl,q1⟩)
theorem PX{j pos'}(ha:PE X a ta):PC X .IsNot a (.Constant .none j pos') (Ng ta):=by
 intro pins s U H Q I h
 refine Z4 (ha pins s U H _ I h) fun v s1 ⟨x,H1,I1,r1,q1⟩=>?_
 exact Constant_none (isnot_none_gen ⟨.bl _,H1,I1,by rw[r1.none_iff];rfl,q1⟩)
def tB(t:TE):TT:=fun U H Q=>t U H fun x H1=>∃c,x = .bl c/\Q c H1
theorem Qw{op:CmpOp}{t:TE}(h:PC X op a b t)(h1:behindInMarks op b=false:=by first | exact Qv _ (by decide) (by decide) | rfl):PT X (.Compare a [op] [b] pos) (tB t):=by
 intro pins s U H Q I hw
 refine wpAny_isTrue_Compare1 (Z4 (h pins s U H _ I hw) fun v s1 h1=>Z4 h1 fun u s2 h2=>Z4 h2 fun c s3 ⟨x,H1,I1,r1,q1⟩=>?_) h1
 obtain⟨d,rfl,q⟩:=q1
 cases r1
 exact wpAny_truthy_bool ⟨H1,I1,q⟩
theorem NU{e:Expr}{t:TE}(h:PE X e t)(he:∀whole,isTrue e X.env whole=(do let v <-whole;standAt e.pos;holding [v] (truthy v)):=by intro _;rfl):PT X e (tB t):=by
 intro pins s U H Q I hw
 refine isTrue_plain (Z4 (h pins s U H _ I hw) fun v s1 ⟨x,H1,I1,r1,q1⟩=>?_) (he _)
 obtain⟨d,rfl,q⟩:=q1
 cases r1
 exact wpAny_truthy_bool ⟨H1,I1,q⟩
variable {tA tB':TT} {ZF:List Expr}
def Lh(t u:TT):TT:=fun U H Q=>t U H fun c H1=>if c=true then u U H1 Q else Q false H1
def KR(t u:TT):TT:=fun U H Q=>t U H fun c H1=>if c=true then Q true H1 else u U H1 Q
def Ki(t:TT):TT:=fun U H Q=>t U H fun c H1=>Q (!c) H1
theorem PY(ha:PT X a tA):PW X (.BoolOp .And [a] pos) tA:=by
 intro wh pins s U H Q I h
 refine isTrue_and (Z4 (ha pins s U H Q I h) fun c s1 e=>?_)
 cases c with
 | true=>exact isTrue_and_nil e
 | false=>exact e
theorem NV(ha:PT X a tA):PW X (.BoolOp .Or [a] pos) tA:=by
 intro wh pins s U H Q I h
 refine isTrue_or (Z4 (ha pins s U H Q I h) fun c s1 e=>?_)
 cases c with
 | false=>exact isTrue_or_nil e
 | true=>exact e
theorem NW(ha:PT X a tA)(hb:PW X (.BoolOp .And (b::ZF) pos) tB'):PW X (.BoolOp .And (a::b::ZF) pos) (Lh tA tB'):=by
 intro wh pins s U H Q I h
 refine isTrue_and (Z4 (ha pins s U H _ I h) fun c s1 ⟨H1,I1,q1⟩=>?_)
 cases c with
 | true=>exact hb wh pins s1 U H1 Q I1 q1
 | false=>exact⟨H1,I1,q1⟩
theorem Li(ha:PT X a tA)(hb:PW X (.BoolOp .Or (b::ZF) pos) tB'):PW X (.BoolOp .Or (a::b::ZF) pos) (KR tA tB'):=by
 intro wh pins s U H Q I h
 refine isTrue_or (Z4 (ha pins s U H _ I h) fun c s1 ⟨H1,I1,q1⟩=>?_)
 cases c with
 | true=>exact⟨H1,I1,q1⟩
 | false=>exact hb wh pins s1 U H1 Q I1 q1
theorem NX(ha:PT X a tA):PT X (.UnaryOp .Not a pos) (Ki tA):=by
 intro pins s U H Q I h
 exact isTrue_not (ha pins s U H (fun c H1=>Q (!c) H1) I h)
def Lj(ta tb:TE):TE:=fun U H Q=>ta U H fun x H1=>∃c,x = .bl c/\if c=true then tb U H1 Q else Q (.bl false) H1
def Kj(ta tb:TE):TE:=fun U H Q=>ta U H fun x H1=>∃c,x = .bl c/\if c=true then Q (.bl true) H1 else tb U H1 Q
def Lk(ta:TE):TE:=fun U H Q=>ta U H fun x H1=>∃c,x = .bl c/\Q (.bl (!c)) H1
theorem NY{op}{t:TE}(h:PE X a t):PE X (.BoolOp op [a] pos) t:=fun pins s U H Q I hw=>BoolOp_one (h pins s U H Q I hw)
theorem NZ(ha:PE X a ta)(hb:PE X (.BoolOp .And (b::ZF) pos) tb):PE X (.BoolOp .And (a::b::ZF) pos) (Lj ta tb):=by
 intro pins s U H Q I h
 refine BoolOp_and (Z4 (ha pins s U H _ I h) fun v s1 ⟨x,H1,I1,r1,q1⟩=>?_)
 obtain⟨c,rfl,q1⟩:=q1
 cases r1
 refine wpAny_truthy_bool ?_
 cases c with
 | true=>exact hb pins s1 U H1 Q I1 q1
 | false=>exact⟨.bl false,H1,I1,rfl,q1⟩
theorem Ll(ha:PE X a ta)(hb:PE X (.BoolOp .Or (b::ZF) pos) tb):PE X (.BoolOp .Or (a::b::ZF) pos) (Kj ta tb):=by
 intro pins s U H Q I h
 refine BoolOp_or (Z4 (ha pins s U H _ I h) fun v s1 ⟨x,H1,I1,r1,q1⟩=>?_)
 obtain⟨c,rfl,q1⟩:=q1
 cases r1
 refine wpAny_truthy_bool ?_
 cases c with
 | false=>exact hb pins s1 U H1 Q I1 q1
 | true=>exact⟨.bl true,H1,I1,rfl,q1⟩
theorem N0(ha:PE X a ta):PE X (.UnaryOp .Not a pos) (Lk ta):=by
 intro pins s U H Q I h
 refine UnaryOp_ (Z4 (ha pins s U H _ I h) fun v s1 ⟨x,H1,I1,r1,q1⟩=>?_)
 obtain⟨c,rfl,q1⟩:=q1
 cases r1
 exact not_of (wpAny_truthy_bool ⟨.bl (!c),H1,I1,rfl,q1⟩)
def K3(t:TT)(ta tb:TE):TE:=fun U H Q=>t U H fun c H1=>if c=true then ta U H1 Q else tb U H1 Q
theorem Qx{c:Expr}(hc:PT X c tA)(ha:PE X a ta)(hb:PE X b tb):PE X (.IfExp c a b pos) (K3 tA ta tb):=by
 intro pins s U H Q I h
 refine wpAny_IfExp (Z4 (hc pins s U H _ I h) fun d s1 ⟨H1,I1,q1⟩=>?_)
 cases d with
 | true=>exact ha pins s1 U H1 Q I1 q1
 | false=>exact hb pins s1 U H1 Q I1 q1
end
def SqL(K:PySem.W.Frag)(H:Hp)(a:Addr)(xs:List V):Prop:=
 Rd H a (.lst xs)\/
  ∃(o:Obj) (its:Array Value) (n:Nat),K.lookup a=some o/\o.cls = .type "list"/\o.dict=none/\o.data = .seq its n/\its.size<=sizeLine/\Vals xs its.toList
def SqT(K:PySem.W.Frag)(H:Hp)(a:Addr)(xs:List V):Prop:=
 Rd H a (.tup xs)\/
  ∃(o:Obj) (its:Array Value) (n:Nat),K.lookup a=some o/\o.cls = .type "tuple"/\o.data = .seq its n/\its.size<=sizeLine/\Vals xs its.toList
def Kk:Value->Option V
 | .none=>some .non
 | .bool b=>some (.bl b)
 | .int i _=>some (.int i)
 | .str x _=>some (.str x)
 | .bytes b _=>some (.byt b)
 | .float b _=>some (.flt b)
 | .ref a=>some (.ref a)
 | .type n=>some (.ty n)
 | _=>none
theorem RelV.abs{x:V}{u:Value}(r:RelV x u):Kk u=some x:=by
 cases x with
 | non=>cases r;rfl
 | bl _=>cases r;rfl
 | int _=>obtain⟨t,rfl⟩:=r;rfl
 | str _=>obtain⟨t,rfl⟩:=r;rfl
 | byt _=>obtain⟨t,rfl⟩:=r;rfl
 | flt _=>obtain⟨t,rfl⟩:=r;rfl
 | ref _=>cases r;rfl
 | ty _=>cases r;rfl
theorem RelV.inj{x y:V}{u:Value}(r:RelV x u)(q:RelV y u):x=y:=Option.some.inj (r.abs.symm.trans q.abs)
theorem Vals.inj:∀{xs ys:List V}{us:List Value},Vals xs us->Vals ys us->xs=ys
 | _,_,_,.nil,.nil=>rfl
 | _,_,_,.cons r t,.cons r' t'=>by rw[r.inj r',Vals.inj t t']
section
variable {X:Cx} {pins:List (Addr×Obj)} {U:St} {H:Hp} {s:Shared} {a:Addr} {xs ys:List V}
theorem SqL.of{K:PySem.W.Frag}(h:H a=some (.lst xs)):SqL K H a xs:=.inl (.inl h)
theorem SqT.of{K:PySem.W.Frag}(h:H a=some (.tup xs)):SqT K H a xs:=.inl (.inl h)
theorem Inv.list(I:Inv X pins U H s)(h:SqL X.K H a xs):∃its:List Value,Vals xs its/\PlainL s.heap a its.toArray/\xs.length<=sizeLine:=by
 rcases h with h | ⟨o,its,n,hk,hc,hd,hs,hz,r⟩
 ·obtain⟨z,its,n,r,e⟩:=h.ok I.hok
  exact⟨its,r,⟨_,n,e,rfl,rfl,rfl⟩,z⟩
 ·refine⟨its.toList,r,⟨o,n,I.kIn a o hk,hc,hd,by simpa using hs⟩,?_⟩
  have e:=r.length;simp only[Array.length_toList] at e;omega
theorem Inv.tuple(I:Inv X pins U H s)(h:SqT X.K H a xs):∃its:List Value,Vals xs its/\IsTup s.heap a its.toArray/\xs.length<=sizeLine:=by
 rcases h with h | ⟨o,its,n,hk,hc,hs,hz,r⟩
 ·obtain⟨z,its,r,p⟩:=h.ok I.hok
  exact⟨its,r,p,z⟩
 ·refine⟨its.toList,r,⟨o,I.kIn a o hk,hc,n,by simpa using hs⟩,?_⟩
  have e:=r.length;simp only[Array.length_toList] at e;omega
theorem Inv.list_inj(I:Inv X pins U H s)(h:SqL X.K H a xs)(h':SqL X.K H a ys):xs=ys:=by
 obtain⟨its,r,⟨o,n,e,_,_,d⟩,_⟩:=I.list h
 obtain⟨its',r',⟨o',n',e',_,_,d'⟩,_⟩:=I.list h'
 rw[e] at e';cases e'
 rw[d] at d'
 injection d' with d1 _
 have:its=its':=by simpa using congrArg Array.toList d1
 subst this
 exact r.inj r'
theorem Inv.tuple_inj(I:Inv X pins U H s)(h:SqT X.K H a xs)(h':SqT X.K H a ys):xs=ys:=by
 obtain⟨its,r,⟨o,e,_,n,d⟩,_⟩:=I.tuple h
 obtain⟨its',r',⟨o',e',_,n',d'⟩,_⟩:=I.tuple h'
 rw[e] at e';cases e'
 rw[d] at d'
 injection d' with d1 _
 have:its=its':=by simpa using congrArg Array.toList d1
 subst this
 exact r.inj r'
end
abbrev Cx.wish(X:Cx)(E:Value->Shared->Prop):Cx:={ X with xe:=E }
abbrev Cx.nox(X:Cx):Cx:=X.wish fun _ _=>False
theorem Cx.Ok.wish{X:Cx}(ok:X.Ok)(E:Value->Shared->Prop):(X.wish E).Ok:=
 ⟨ok.mod,ok.kind,ok.glob,ok.blt,ok.above,ok.inj,ok.has,ok.cab,ok.hd,ok.frames,ok.stk,ok.exf,ok.bs,ok.bsz,ok.noex,ok.exfs,ok.funs,ok.frf⟩
theorem Cx.Ok.unwish{X:Cx}{E:Value->Shared->Prop}(ok:(X.wish E).Ok):X.Ok:=
 ⟨ok.mod,ok.kind,ok.glob,ok.blt,ok.above,ok.inj,ok.has,ok.cab,ok.hd,ok.frames,ok.stk,ok.exf,ok.bs,ok.bsz,ok.noex,ok.exfs,ok.funs,ok.frf⟩
section
variable {X:Cx} {pins:List (Addr×Obj)} {U:St} {H:Hp} {s:Shared} {E:Value->Shared->Prop}
theorem Inv.wish(I:Inv X pins U H s)(E:Value->Shared->Prop):Inv (X.wish E) pins U H s:=⟨I.ok.wish E,I.os,I.bare,I.base,I.loc,I.cell,I.free,I.freeC,I.pin,I.hok,I.len⟩
theorem Inv.unwish(I:Inv (X.wish E) pins U H s):Inv X pins U H s:=⟨I.ok.unwish,I.os,I.bare,I.base,I.loc,I.cell,I.free,I.freeC,I.pin,I.hok,I.len⟩
theorem SP.unwish{D:We}{f:Flow}{s':Shared}(h:SP (X.wish E) pins D f s'):SP X pins D f s':=by
 cases f with
 | next=>obtain⟨U',H',I,q⟩:=h;exact⟨U',H',I.unwish,q⟩
 | brk=>obtain⟨U',H',I,q⟩:=h;exact⟨U',H',I.unwish,q⟩
 | cont=>obtain⟨U',H',I,q⟩:=h;exact⟨U',H',I.unwish,q⟩
 | ret u=>obtain⟨v,U',H',I,r,q⟩:=h;exact⟨v,U',H',I.unwish,r,q⟩
theorem PSs.nox{st:List Stmt}{t:TS}(h:PSs X.nox st t):PSs X st t:=fun pins s U H D I hw=>
 wpAny_mono (h pins s U H D (I.wish _) hw) (fun _ _ q=>q.unwish) fun _ _ z=>False.elim z
end
section
variable {X:Cx} {st:Stmt} {ZF:List Stmt} {t u:TS} {e:Expr} {te:TE} {pos:Pos}
def Nh:TS:=fun D U H=>D.nx U H
def Kl(t u:TS):TS:=fun D U H=>t { D with nx:=u D } U H
theorem PZ:PSs X [] Nh:=fun _ _ U H _ I h=>wpAny_execs_nil ⟨U,H,I,h⟩
theorem Tn(h1:PS X st t)(h2:PSs X ZF u):PSs X (st::ZF) (Kl t u):=by
 intro pins s U H D I h
 refine wpAny_execs_cons (Z4 (h1 pins s U H { D with nx:=u D } I h) fun f s1 q=>?_)
 cases f with
 | next=>
  obtain⟨U',H',I',q⟩:=q
  exact h2 pins s1 U' H' D I' q
 | ret v=>exact q
 | brk=>exact q
 | cont=>exact q
theorem SW(h1:PS X st t):PSs X [st] t:=by
 intro pins s U H D I h
 refine wpAny_execs_cons (Z4 (h1 pins s U H D I h) fun f s1 q=>?_)
 cases f with
 | next=>exact wpAny_execs_nil q
 | ret v=>exact q
 | brk=>exact q
 | cont=>exact q
def Km(te:TE):TS:=fun D U H=>te U H D.rt
theorem Qy(he:PE X e te):PS X (.Return (some e) pos) (Km te):=by
 intro pins s U H D I h
 exact wpAny_Return_some (Z4 (he pins s U H _ I h) fun v s1 ⟨x,H1,I1,r1,q1⟩=>⟨x,U,H1,I1,r1,q1⟩)
def Kn(c:TT)(t u:TS):TS:=fun D U H=>c U H fun b H1=>if b=true then t D U H1 else u D U H1
theorem Ni{c:Expr}{a b:List Stmt}{tc:TT}(hc:PT X c tc)(ha:PSs X a t)(hb:PSs X b u):PS X (.If c a b pos) (Kn tc t u):=by
 intro pins s U H D I h
 refine wpAny_If (Z4 (hc pins s U H _ I h) fun d s1 ⟨H1,I1,q1⟩=>?_)
 cases d with
 | true=>exact ha pins s1 U H1 D I1 q1
 | false=>exact hb pins s1 U H1 D I1 q1
end
abbrev TG:=V->St->Hp->(St->Hp->Prop)->Prop
abbrev Lm:=List V->St->Hp->(St->Hp->Prop)->Prop
def PG(X:Cx)(target:Expr)(t:TG):Prop:=
 ∀(pins:List (Addr×Obj))(s:Shared)(U:St)(H:Hp)(v:V)(u:Value)(Q:St->Hp->Prop),Inv X pins U H s->RelV v u->t v U H Q->
  wpAny (model X.prog X.w) X.A (assign target X.env u) (fun _ s'=>∃U' H',Inv X pins U' H' s'/\Q U' H') X.xe s
section
variable {X:Cx} {pos:Pos}
def Vb(i:Nat):TG:=fun v U H Q=>Q (U.set i (some v)) H
theorem Yy{i:Nat}{x:Str}(hN:X.N.Nodup)(hi:X.N[i]?=some x)(hx:M7 X.env.scope x)(hf:X.fn x=true\/X.env.scope.names.lookup x=some .local:=by first | exact .inl rfl | exact .inr rfl | assumption):PG X (.Name x pos) (Vb i):=by
 intro pins s U H v u Q I r h
 exact wpAny_assign_Name (Xu I hN hi hx r (fun s' I'=>⟨_,H,I',h⟩) hf)
def Ko:Lm:=fun vs U H Q=>vs=[]/\Q U H
def Ln(t:TG)(u:Lm):Lm:=fun vs U H Q=>∃v r,vs=v::r/\t v U H fun U' H'=>u r U' H' Q
def Kp(K:PySem.W.Frag)(n:Nat)(t:Lm):TG:=fun v U H Q=>∃a xs,v = .ref a/\SqT K H a xs/\xs.length=n/\t xs U H Q
def P0(te:TE)(g:TG):TS:=fun D U H=>te U H fun x H1=>g x U H1 D.nx
theorem N1{i:Nat}{x:Str}{e:Expr}{te:TE}{pos':Pos}(hN:X.N.Nodup)(hi:X.N[i]?=some x)(hx:M7 X.env.scope x)(he:PE X e te)(hs:swapsWith e (some (.Name x pos')) pos.line X.env=pure false:=by rfl)(hf:X.fn x=true\/X.env.scope.names.lookup x=some .local:=by first | exact .inl rfl | exact .inr rfl | assumption) :
  PS X (.Assign [.Name x pos'] e pos) (P0 te (Vb i)):=by
 intro pins s U H D I h
 refine wpAny_Assign_Name (Z4 (he pins s U H _ I h) fun v s1 ⟨y,H1,I1,r1,q1⟩=>?_) hs
 exact Xu I1 hN hi hx r1 (fun s2 I2=>⟨_,H1,I2,q1⟩) hf
end
structure It where
 go:Nat->Hp->Prop
 yld:Nat->Hp->V->Hp->Prop
 stop:Nat->Hp->Prop
def Xv(X:Cx)(pins:List (Addr×Obj))(H:Hp)(b:Addr):Prop:=
 H b=none/\b≠X.env.locals/\b∉X.fs/\(b∈X.ex\/X.s₀.heap.objs.size<=b)/\(∀x c,X.env.cells.lookup x=some c->c≠b)/\∀p∈X.pn++pins,p.1≠b
theorem Inv.fpOk{X:Cx}{pins:List (Addr×Obj)}{U:St}{H H':Hp}{s:Shared}{b:Addr}(I:Inv X pins U H s)(hb:s.heap.objs.size<=b)(hn:H' b=none):Xv X pins H' b:=by
 refine⟨hn,Nat.ne_of_gt (Nat.lt_of_lt_of_le I.lt hb),I.nofs hb,.inr (Nat.le_trans I.sz hb),fun x c e z=>?_,fun p hp z=>?_⟩
 ·obtain⟨v,q⟩:=I.cell x c e
  exact absurd (Nat.lt_of_lt_of_le q.lt (by rw[z];exact hb)) (Nat.lt_irrefl _)
 ·exact absurd (Nat.lt_of_lt_of_le (Heap.lt_size (I.pin p hp).1) (by rw[z];exact hb)) (Nat.lt_irrefl _)
structure Sb(P:Program)(w:World)(K:PySem.W.Frag)(tg:Expr)(J:It)(fp:List Addr)(it:Addr)(tn:Nat->Heap->Prop):Prop where
 mem:it∈fp
 obj:∀i h,tn i h->∀b∈fp,∃o,h.get? b=some o/\∀v,o.data≠.cell v
 keep:∀i h h',tn i h->(∀b∈fp,∀o,h.get? b=some o->h'.get? b=some o)->tn i h'
 item:∀(X:Cx),X.prog=P->X.w=w->X.K=K->X.calm=true->∀(i:Nat)(pins:List (Addr×Obj))(s:Shared)(U:St)(H:Hp)(E:Value->Shared->Prop),Inv X pins U H s->(∀b∈fp,Xv X pins H b)->tn i s.heap->J.go i H->
  wpAny (model P w) X.A (pyNext (.ref it)) (fun r s1=>∃u,r=some u/\
   wpAny (model P w) X.A (letOwnedTupleGo tg (.ref it) u) (fun _ s2=>∃x H',Inv X pins U H' s2/\RelV x u/\J.yld i H x H'/\tn (i+1) s2.heap/\∀b∈fp,H' b=none) E s1) E s
 done:∀(X:Cx),X.prog=P->X.w=w->X.K=K->X.calm=true->∀(i:Nat)(pins:List (Addr×Obj))(s:Shared)(U:St)(H:Hp)(E:Value->Shared->Prop),Inv X pins U H s->(∀b∈fp,Xv X pins H b)->tn i s.heap->J.stop i H->
  wpAny (model P w) X.A (pyNext (.ref it)) (fun r s1=>r=none/\Inv X pins U H s1) E s
 self:∀(A:Around)(i:Nat)(s:Shared)(Q:Value->Shared->Prop)(E:Value->Shared->Prop),tn i s.heap->Q (.ref it) s->wpAny (model P w) A (pyIter (.ref it)) Q E s
abbrev TI:=St->Hp->(It->Hp->Prop)->Prop
def KS(X:Cx)(pins:List (Addr×Obj))(U:St)(tg:Expr)(R:It->Hp->Prop)(itv:Value)(s2:Shared):Prop:=
 ∃(it:Addr) (fp:List Addr) (tn:Nat->Heap->Prop) (J:It) (H':Hp),itv = .ref it/\Inv X pins U H' s2/\Sb X.prog X.w X.K tg J fp it tn/\tn 0 s2.heap/\(∀b∈fp,Xv X pins H' b)/\R J H'
def PI(X:Cx)(tg iter:Expr)(wi:TI):Prop:=
 ∀(pins:List (Addr×Obj))(s:Shared)(U:St)(H:Hp)(R:It->Hp->Prop),Inv X pins U H s->wi U H R->
  wpAny (model X.prog X.w) X.A (eval iter X.env) (fun v s1=>wpAny (model X.prog X.w) X.A (pyIter v) (KS X pins U tg R) X.xe s1) X.xe s
theorem SX{M:Model}{A:Around}{E:Value->Shared->Prop}{s:Shared}{tg:Expr}{it:Addr}{u:Value}{o:Obj}{n:String}{vs:Array Value}{Q:Unit->Shared->Prop}(ho:s.heap.get? it=some o)(hc:o.cls = .type n)(hd:o.data = .fields vs)
    (hn:["enumerate","zip","dict_itemiterator","dict_reverseitemiterator","odict_iterator","itertools.zip_longest","itertools.pairwise"].contains n=false) (hQ:Q () s):wpAny M A (letOwnedTupleGo tg (.ref it) u) Q E s:=by
  unfold letOwnedTupleGo
  cases tg<;>first
    | exact wpAny_pure hQ
    | (cases u<;>first
        | exact wpAny_pure hQ
        | (refine wpAny_bind (wpAny_load ho ?_)
           rw[hc,hd]
           show wpAny M A (if(["enumerate","zip","dict_itemiterator","dict_reverseitemiterator","odict_iterator","itertools.zip_longest","itertools.pairwise"].contains n&&vs[0]?==some (rawInt _))=true then _ else _) Q E s
           rw[if_neg (by intro h;rw[hn,Bool.false_and] at h;cases h)]
           exact wpAny_pure hQ))
def Kq(K:PySem.W.Frag)(a:Addr):It:=
 ⟨fun i H=>∃xs x,SqL K H a xs/\xs[i]?=some x,fun i H x H'=>H'=H/\∀xs,SqL K H a xs->xs[i]?=some x,fun i H=>∃xs,SqL K H a xs/\xs.length<=i⟩
def KU(K:PySem.W.Frag)(a:Addr):It:=
 ⟨fun i H=>∃xs x,SqT K H a xs/\xs[i]?=some x,fun i H x H'=>H'=H/\∀xs,SqT K H a xs->xs[i]?=some x,fun i H=>∃xs,SqT K H a xs/\xs.length<=i⟩
def Kb(lo:Int)(n:Nat):It:=⟨fun i _=>i<n,fun i H x H'=>H'=H/\x = .int (lo+i),fun i _=>n<=i⟩
theorem RD{P:Program}{w:World}{K:PySem.W.Frag}{tg:Expr}(a it:Addr):Sb P w K tg (Kq K a) [it] it (fun i h=>h.IsListIter it a i) where
 mem:=by simp
 obj:=fun i h st b hb=>by
  have e:b=it:=by simpa using hb
  subst e
  obtain⟨o,e,c,d⟩:=st
  exact⟨o,e,fun v z=>by rw[d] at z;cases z⟩
 keep:=fun i h h' st k=>st.at fun o e=>k it (by simp) o e
 item:=by
  intro X hP hw hK hc i pins s U H E I hf st hg
  subst hP hw hK
  obtain⟨xs,x,hq,hx⟩:=hg
  obtain⟨its,rv,p,hz⟩:=I.list hq
  obtain⟨u,hu,ru⟩:=rv.get hx
  obtain⟨f0,f1,f2,f3,f4,f5⟩:=hf it (by simp)
  refine wpAny_pyNext_list_item st p.isList (x:=u) (by simpa using hu) fun h' st' sb=>?_
  have I1:Inv X pins U H { s with heap:=h' }:=I.turned (t':=s.toks) (fun b o hb e=>(sb.2 b hb).trans e) f0 f1 f3 f4 f5
  obtain⟨o,e,c,d⟩:=id st'
  exact⟨u,rfl,SX (s:={ s with heap:=h' }) e c d (by decide) ⟨x,H,I1,ru,⟨rfl,fun ys hy=>by rw[I.list_inj hy hq];exact hx⟩,st',fun b hb=>(hf b hb).1⟩⟩
 done:=by
  intro X hP hw hK hc i pins s U H E I hf st hg
  subst hP hw hK
  obtain⟨xs,hq,hx⟩:=hg
  obtain⟨its,rv,p,hz⟩:=I.list hq
  obtain⟨f0,f1,f2,f3,f4,f5⟩:=hf it (by simp)
  have hl:=rv.length
  exact wpAny_pyNext_list_end (I.ok.hd hc) st p.isList (by simp;omega) fun h' eb=>⟨rfl,I.turned (t':=s.toks) (fun b o hb e=>eb b o hb e) f0 f1 f3 f4 f5⟩
 self:=fun _ _ _ _ _ st h=>wpAny_pyIter_listiter st h
theorem Sd{P:Program}{w:World}{K:PySem.W.Frag}{tg:Expr}(a it:Addr):Sb P w K tg (KU K a) [it] it (fun i h=>h.IsTupleIter it a i) where
 mem:=by simp
 obj:=fun i h st b hb=>by
  have e:b=it:=by simpa using hb
  subst e
  obtain⟨o,e,c,d⟩:=st
  exact⟨o,e,fun v z=>by rw[d] at z;cases z⟩
 keep:=fun i h h' st k=>st.at fun o e=>k it (by simp) o e
 item:=by
  intro X hP hw hK hc i pins s U H E I hf st hg
  subst hP hw hK
  obtain⟨xs,x,hq,hx⟩:=hg
  obtain⟨its,rv,p,hz⟩:=I.tuple hq
  obtain⟨u,hu,ru⟩:=rv.get hx
  obtain⟨f0,f1,f2,f3,f4,f5⟩:=hf it (by simp)
  refine wpAny_pyNext_tuple_item st (show s.heap.IsTuple a its.toArray from p) (x:=u) (by simpa using hu) fun h' st' sb=>?_
  have I1:Inv X pins U H { s with heap:=h' }:=I.turned (t':=s.toks) (fun b o hb e=>(sb.2 b hb).trans e) f0 f1 f3 f4 f5
  obtain⟨o,e,c,d⟩:=id st'
  exact⟨u,rfl,SX (s:={ s with heap:=h' }) e c d (by decide) ⟨x,H,I1,ru,⟨rfl,fun ys hy=>by rw[I.tuple_inj hy hq];exact hx⟩,st',fun b hb=>(hf b hb).1⟩⟩
 done:=by
  intro X hP hw hK hc i pins s U H E I hf st hg
  subst hP hw hK
  obtain⟨xs,hq,hx⟩:=hg
  obtain⟨its,rv,p,hz⟩:=I.tuple hq
  obtain⟨f0,f1,f2,f3,f4,f5⟩:=hf it (by simp)
  have hl:=rv.length
  exact wpAny_pyNext_tuple_end (I.ok.hd hc) st (show s.heap.IsTuple a its.toArray from p) (by simp;omega) fun h' eb=>⟨rfl,I.turned (t':=s.toks) (fun b o hb e=>eb b o hb e) f0 f1 f3 f4 f5⟩
 self:=fun _ _ _ _ _ st h=>wpAny_pyIter_tupleiter st h
theorem Se{P:Program}{w:World}{K:PySem.W.Frag}{tg:Expr}(it:Addr)(lo:Int)(n:Nat):Sb P w K tg (Kb lo n) [it] it (fun i h=>IsRangeIter h it (lo+(i:Nat)*1) ((n:Int)-(i:Nat)) 1) where
 mem:=by simp
 obj:=fun i h st b hb=>by
  have e:b=it:=by simpa using hb
  subst e
  exact⟨_,st,fun v z=>by
   have z':Data.fields _=Data.cell v:=z
   cases z'⟩
 keep:=fun i h h' st k=>k it (by simp) _ st
 item:=by
  intro X hP hw hK hc i pins s U H E I hf st hg
  subst hP hw hK
  obtain⟨f0,f1,f2,f3,f4,f5⟩:=hf it (by simp)
  have W:=Walks.range (prog:=X.prog) (w:=X.w) (I.ok.hd hc) it lo 1 n
  refine W.item i s _ _ hg st fun v h' tk hv st' kk=>?_
  obtain⟨t,rfl⟩:=hv
  have I1:Inv X pins U H { s with heap:=h',toks:=tk }:=I.turned (fun b o hb e=>kk b o (by simpa using hb) e) f0 f1 f3 f4 f5
  refine⟨_,rfl,SX (s:={ s with heap:=h',toks:=tk }) (n:="range_iterator") st' rfl rfl (by decide) ⟨.int (lo+i),H,I1,⟨t,?_⟩,⟨rfl,rfl⟩,st',fun b hb=>(hf b hb).1⟩⟩
  rw[Int.mul_one]
 done:=by
  intro X hP hw hK hc i pins s U H E I hf st hg
  subst hP hw hK
  obtain⟨f0,f1,f2,f3,f4,f5⟩:=hf it (by simp)
  exact wpAny_pyNext_range_end (I.ok.hd hc) st (by have:n<=i:=hg;omega) fun h' eb=>⟨rfl,I.turned (t':=s.toks) (fun b o hb e=>eb b o hb e) f0 f1 f3 f4 f5⟩
 self:=fun _ _ _ _ _ st h=>wpAny_pyIter_rangeiter st h
section
variable {X:Cx} {tg:Expr}
def Lo(K:PySem.W.Frag)(tl:TE):TI:=fun U H R=>tl U H fun x H1=>∃a,x = .ref a/\(∃xs,SqL K H1 a xs)/\R (Kq K a) H1
def Kr(K:PySem.W.Frag)(tl:TE):TI:=fun U H R=>tl U H fun x H1=>∃a,x = .ref a/\(∃xs,SqT K H1 a xs)/\R (KU K a) H1
theorem P1{l:Expr}{tl:TE}(hl:PE X l tl):PI X tg l (Lo X.K tl):=by
 intro pins s U H R I h
 refine Z4 (hl pins s U H _ I h) fun v s1 ⟨x,H1,I1,r1,q1⟩=>?_
 obtain⟨a,e,⟨xs,hq⟩,q⟩:=q1
 subst e;cases r1
 obtain⟨its,rv,p,hz⟩:=I1.list hq
 refine wpAny_pyIter_list p.isList ?_
 refine⟨s1.heap.objs.size,[s1.heap.objs.size],_,_,H1,rfl,I1.kept (t':=s1.toks) fun b o e=>Heap.get?_push_of_some _ e,RD a _,⟨_,Heap.get?_push_size _ rfl,rfl,rfl⟩,fun b hb=>?_,q⟩
 have e:b=s1.heap.objs.size:=by simpa using hb
 subst e
 exact I1.fpOk (Nat.le_refl _) (I1.hok.fresh (Nat.le_refl _))
theorem N2{l:Expr}{tl:TE}(hl:PE X l tl):PI X tg l (Kr X.K tl):=by
 intro pins s U H R I h
 refine Z4 (hl pins s U H _ I h) fun v s1 ⟨x,H1,I1,r1,q1⟩=>?_
 obtain⟨a,e,⟨xs,hq⟩,q⟩:=q1
 subst e;cases r1
 obtain⟨its,rv,p,hz⟩:=I1.tuple hq
 refine wpAny_pyIter_tuple (show s1.heap.IsTuple a its.toArray from p) ?_
 refine⟨s1.heap.objs.size,[s1.heap.objs.size],_,_,H1,rfl,I1.kept (t':=s1.toks) fun b o e=>Heap.get?_push_of_some _ e,Sd a _,⟨_,Heap.get?_push_size _ rfl,rfl,rfl⟩,fun b hb=>?_,q⟩
 have e:b=s1.heap.objs.size:=by simpa using hb
 subst e
 exact I1.fpOk (Nat.le_refl _) (I1.hok.fresh (Nat.le_refl _))
theorem Qz{pins:List (Addr×Obj)}{U:St}{H:Hp}{s:Shared}{R:It->Hp->Prop}{E:Value->Shared->Prop}{lo hi:Int}{t u v:Tok}{tk:Nat}(I:Inv X pins U H s)(h1 : -(2^62)<=lo)(h2:lo<2^62)(h3 : -(2^62)<=hi)(h4:hi<2^62)
  (q:R (Kb lo (hi-lo).toNat) H):wpAny (model X.prog X.w) X.A (pyIter (.ref s.heap.objs.size)) (KS X pins U tg R) E { s with heap:=s.heap.push { cls:=.type "range",data:=.fields #[.int lo t,.int hi u,.int 1 v] },toks:=tk }:=by
 refine wpAny_pyIter_range (IsRange.new ..) (small_one h1 h2 h3 h4) ?_
 have I1:Inv X pins U H { s with heap:=s.heap.push { cls:=.type "range",data:=.fields #[.int lo t,.int hi u,.int 1 v] },toks:=tk }:=I.kept fun b o e=>Heap.get?_push_of_some _ e
 refine⟨(s.heap.push { cls:=.type "range",data:=.fields #[.int lo t,.int hi u,.int 1 v] }).objs.size,[(s.heap.push { cls:=.type "range",data:=.fields #[.int lo t,.int hi u,.int 1 v] }).objs.size],_,_,H,rfl,
  I1.kept (t':=tk) fun b o e=>Heap.get?_push_of_some _ e,Se _ lo (hi-lo).toNat,?_,fun b hb=>?_,q⟩
 ·have e1:lo+((0:Nat):Int)*1=lo:=by simp
  have e2:(((hi-lo).toNat:Nat):Int)-((0:Nat):Int)=Builtin.Range.rangeSize lo hi 1:=by rw[rangeSize_one];split<;>omega
  show IsRangeIter _ _ (lo+((0:Nat):Int)*1) ((((hi-lo).toNat:Nat):Int)-((0:Nat):Int)) 1
  rw[e1,e2]
  exact Heap.get?_push_size _ rfl
 ·have e:b=(s.heap.push { cls:=.type "range",data:=.fields #[.int lo t,.int hi u,.int 1 v] }).objs.size:=by simpa using hb
  subst e
  exact I1.fpOk (Nat.le_refl _) (I1.hok.fresh (Nat.le_refl _))
def Lp(ta:TA):TI:=fun U H R=>ta U H fun vs H1=>∃j:Int,vs=[.int j]/\-(2^62)<=j/\j<2^62/\R (Kb 0 j.toNat) H1
theorem RE{a:Expr}{ta:TA}{p pos:Pos}(hg:Gl X "range")(hm:X.mg "range" = none)(ha:PA X [a] ta)(hs:starEach [a] X.env=[(false,eval a X.env)]:=by rfl):PI X tg (.Call (.Name "range" p) [a] [] pos) (Lp ta):=by
 intro pins s U H R I h
 refine Call_ (VC I hg hm boot_range (PyProof.Rows.callWith_type1 (Z4 (ha pos pins s U H _ I h) fun us s1 ⟨vs,H1,I1,r1,q1⟩=>?_) hs rfl))
 obtain⟨j,e,q1,q2,q⟩:=q1
 subst e
 cases r1 with
 | cons r rr=>
  cases rr
  obtain⟨t,rfl⟩:=r
  exact call_range_1 (Qz I1 (by omega) (by omega) q1 q2 (by simpa using q))
def Ks(wi:TI)(g:TG)(tb:TS):TS:=fun D U H=>wi U H fun J H1=>∃W:Nat->Nat->St->Hp->Prop,(∃m,W 0 m U H1)/\∀i m U H,W i m U H->
 (J.stop i H/\D.nx U H)\/(J.go i H/\∃N:St->Hp->Prop,(∀U' H',N U' H'->∃m',m'<m/\W (i+1) m' U' H')/\∀x H',J.yld i H x H'->g x U H' fun U2 H2=>tb { D with nx:=N,ct:=N,bk:=D.nx } U2 H2)
def Xw(fp:List Addr)(h:Heap):List (Addr×Obj):=fp.filterMap fun b=>(h.get? b).map fun o=>(b,o)
theorem Yj{fp:List Addr}{h:Heap}{b:Addr}{o:Obj}(hb:b∈fp)(e:h.get? b=some o):(b,o)∈Xw fp h:=List.mem_filterMap.mpr ⟨b,hb,by rw[e];rfl⟩
theorem RF{fp:List Addr}{h:Heap}{p:Addr×Obj}(hp:p∈Xw fp h):p.1∈fp/\h.get? p.1=some p.2:=by
 obtain⟨b,hb,e⟩:=List.mem_filterMap.mp hp
 cases q:h.get? b with
 | none=>rw[q] at e;cases e
 | some o=>
  rw[q] at e
  have e':(b,o)=p:=Option.some.inj e
  subst e'
  exact⟨hb,q⟩
theorem Inv.pinned{pins:List (Addr×Obj)}{U:St}{H:Hp}{s:Shared}{fp:List Addr}(I:Inv X pins U H s)(hf:∀b∈fp,Xv X pins H b)(ho:∀b∈fp,∃o,s.heap.get? b=some o/\∀v,o.data≠.cell v):Inv X (pins++Xw fp s.heap) U H s:=
 I.pins_of fun p hp=>(List.mem_append.mp hp).elim (fun z=>I.pin p (List.mem_append_right _ z)) fun z=>by
  obtain⟨hb,e⟩:=RF z
  obtain⟨f0,f1,f2,_⟩:=hf p.1 hb
  obtain⟨o,e',d⟩:=ho p.1 hb
  rw[e] at e';cases e'
  exact⟨e,f0,f1,f2,d⟩
theorem Inv.unpinned{pins pl:List (Addr×Obj)}{U:St}{H:Hp}{s:Shared}(I:Inv X (pins++pl) U H s):Inv X pins U H s:=I.pins_of fun p hp=>I.pin p (List.mem_append_right _ (List.mem_append_left _ hp))
theorem N3{iter:Expr}{body:List Stmt}{wi:TI}{g:TG}{tb:TS}{pos:Pos}(hp:PassesOwn (model X.prog X.w) X.A X.env X.xe)(hc:X.calm=true)(hi:PI X tg iter wi)(hg:PG X tg g)(hb:PSs X body tb)
  (hs:∀x,foldedSetIterable iter X.env x=pure x:=by intro _;rfl):PS X (.For tg iter body [] pos) (Ks wi g tb):=by
 intro pins s U H D I h
 refine wpAny_For (Z4 (hi pins s U H _ I h) fun v s1 h1=>Z4 h1 fun itv s2 h2=>?_) hs
 obtain⟨it,fp,tn,J,H2,e,I2,T,st2,f2,W,⟨m0,w0⟩,turn⟩:=h2
 subst e
 -- what stays true of the iterator's objects through the loop
 have stat:∀{H':Hp},(∀b∈fp,H' b=none)->∀b∈fp,Xv X pins H' b:=fun hn b hb=>⟨hn b hb,(f2 b hb).2⟩
 refine codeAny_forLoop_any (fun n s'=>∃i U' H',Inv X pins U' H' s'/\tn i s'.heap/\(∀b∈fp,H' b=none)/\W i n U' H') ?_ m0 ⟨0,U,H2,I2,st2,fun b hb=>(f2 b hb).1,w0⟩
 rintro n s3 ⟨i,U3,H3,I3,st3,fr3,w3⟩
 rcases turn i n U3 H3 w3 with⟨stop,qn⟩ | ⟨go,N,hN,step⟩
 ·refine wpAny_passesOwn hp (Z4 (T.done X rfl rfl rfl hc i pins s3 U3 H3 X.xe I3 (stat fr3) st3 stop) fun r s4 ⟨hr,I4⟩=>?_)
  subst hr
  exact wpAny_execs_nil ⟨U3,H3,I4,qn⟩
 ·refine wpAny_passesOwn hp (Z4 (T.item X rfl rfl rfl hc i pins s3 U3 H3 X.xe I3 (stat fr3) st3 go) fun r s4 ⟨u,hr,h4⟩=>?_)
  subst hr
  refine wpAny_passesOwn hp (Z4 h4 fun _ s5 ⟨x,H5,I5,r5,y5,st5,fr5⟩=>?_)
  have I5':=I5.pinned (stat fr5) (T.obj _ _ st5)
  refine wpAny_passesOwn hp (Z4 (hg _ s5 U3 H5 x u _ I5' r5 (step x H5 y5)) fun _ s6 ⟨U6,H6,I6,q6⟩=>?_)
  refine wpAny_passesOwn hp (Z4 (hb _ s6 U6 H6 _ I6 q6) fun f s7 q7=>?_)
  have again:∀{U7:St}{H7:Hp},Inv X (pins++Xw fp s5.heap) U7 H7 s7->N U7 H7->∃m,m<n/\∃i U' H',Inv X pins U' H' s7/\tn i s7.heap/\(∀b∈fp,H' b=none)/\W i m U' H':=fun{U7 H7} I7 n7=>by
   obtain⟨m',hm,w7⟩:=hN U7 H7 n7
   refine⟨m',hm,i+1,U7,H7,I7.unpinned,T.keep _ _ _ st5 fun b hb o e=>(I7.pin (b,o) (List.mem_append_right _ (List.mem_append_right _ (Yj hb e)))).1,fun b hb=>?_,w7⟩
   obtain⟨o,e,d⟩:=T.obj _ _ st5 b hb
   exact(I7.pin (b,o) (List.mem_append_right _ (List.mem_append_right _ (Yj hb e)))).2.1
  cases f with
  | next=>obtain⟨U7,H7,I7,n7⟩:=q7;exact again I7 n7
  | cont=>obtain⟨U7,H7,I7,n7⟩:=q7;exact again I7 n7
  | brk=>obtain⟨U7,H7,I7,q7⟩:=q7;exact⟨U7,H7,I7.unpinned,q7⟩
  | ret v=>obtain⟨x7,U7,H7,I7,r7,q7⟩:=q7;exact⟨x7,U7,H7,I7.unpinned,r7,q7⟩
end
abbrev R2:=V->V->Hp->VK->Prop
def XD(X:Cx)(f:Value->Value->Sem Value)(r:R2):Prop:=
 ∀(pins:List (Addr×Obj))(s:Shared)(U:St)(H:Hp)(x y:V)(v u:Value)(Q:VK),Inv X pins U H s->RelV x v->RelV y u->r x y H Q->
  wpAny (model X.prog X.w) X.A (f v u) (EP X pins U Q) X.xe s
def Kt(X:Cx)(f:Value->Sem Value)(r:V->Hp->VK->Prop):Prop:=
 ∀(pins:List (Addr×Obj))(s:Shared)(U:St)(H:Hp)(x:V)(v:Value)(Q:VK),Inv X pins U H s->RelV x v->r x H Q->
  wpAny (model X.prog X.w) X.A (f v) (EP X pins U Q) X.xe s
def Xb(X:Cx)(f:Value)(r:List V->Hp->VK->Prop):Prop:=
 ∀(pins:List (Addr×Obj))(s:Shared)(U:St)(H:Hp)(xs:List V)(us:List Value)(Q:VK),Inv X pins U H s->Vals xs us->r xs H Q->
  wpAny (model X.prog X.w) X.A (call f us) (EP X pins U Q) X.xe s
def Ku(X:Cx)(r:V->Hp->(Bool->Hp->Prop)->Prop):Prop:=
 ∀(pins:List (Addr×Obj))(s:Shared)(U:St)(H:Hp)(x:V)(v:Value)(Q:Bool->Hp->Prop),Inv X pins U H s->RelV x v->r x H Q->
  wpAny (model X.prog X.w) X.A (truthy v) (TP X pins U Q) X.xe s
def Lq(r:R2)(ta tb:TE):TE:=fun U H Q=>ta U H fun x H1=>tb U H1 fun y H2=>r x y H2 Q
def K4(r:V->Hp->VK->Prop)(ta:TE):TE:=fun U H Q=>ta U H fun x H1=>r x H1 Q
def rI(C:Int->Int->Prop)(g:Int->Int->V):R2:=fun x y H Q=>∃i j,x = .int i/\y = .int j/\C i j/\Q (g i j) H
def P2(g:Int->Int->V):R2:=fun x y H Q=>∃i j,x = .int i/\y = .int j/\Q (g i j) H
def rU(g:Int->V):V->Hp->VK->Prop:=fun x H Q=>∃i,x = .int i/\Q (g i) H
section
variable {X:Cx} {a b c:Expr} {ta tb tc:TE} {pos:Pos}
theorem N4(ha:PE X a ta)(hb:PE X b tb){pins:List (Addr×Obj)}{s:Shared}{U:St}{H:Hp}{R:V->V->Hp->Prop}(I:Inv X pins U H s)
  (h:ta U H fun x H1=>tb U H1 fun y H2=>R x y H2) {Q:Value->Shared->Prop} {f:Value->Value->Sem Value}
  (hf:∀v u s2 x y H2,Inv X pins U H2 s2->RelV x v->RelV y u->R x y H2->wpAny (model X.prog X.w) X.A (f v u) Q X.xe s2) :
  wpAny (model X.prog X.w) X.A (eval a X.env) (fun v s₁=>wpAny (model X.prog X.w) X.A (eval b X.env) (fun u s₂=>wpAny (model X.prog X.w) X.A (f v u) Q X.xe s₂) X.xe s₁) X.xe s:=by
 refine Z4 (ha pins s U H _ I h) fun v s1 ⟨x,H1,I1,r1,q1⟩=>?_
 refine Z4 (hb pins s1 U H1 _ I1 q1) fun u s2 ⟨y,H2,I2,r2,q2⟩=>?_
 exact hf v u s2 x y H2 I2 r1 r2 q2
theorem Nj{op:Operator}{r:R2}(ho:XD X (binaryOp op) r)(ha:PE X a ta)(hb:PE X b tb):PE X (.BinOp a op b pos) (Lq r ta tb):=by
 intro pins s U H Q I h
 exact wpAny_BinOp (N4 ha hb I h fun v u s2 x y H2 I2 rx ry q=>ho pins s2 U H2 x y v u Q I2 rx ry q)
theorem Lr{op:UnaryOp}{r:V->Hp->VK->Prop}(ho:Kt X (unaryOp op) r)(ha:PE X a ta):PE X (.UnaryOp op a pos) (K4 r ta):=by
 intro pins s U H Q I h
 exact UnaryOp_ (Z4 (ha pins s U H _ I h) fun v s1 ⟨x,H1,I1,r1,q1⟩=>ho pins s1 U H1 x v Q I1 r1 q1)
theorem Kc{f:Value->Value->Sem Value}{C:Int->Int->Prop}{g:Int->Int->Int}
  (rule:∀(i j:Int)(t u:Tok)(s:Shared)(Q:Value->Shared->Prop)(E:Value->Shared->Prop),C i j->Q (.int (g i j) s.toks) { s with toks:=s.toks+1 }->wpAny (model X.prog X.w) X.A (f (.int i t) (.int j u)) Q E s) :
  XD X f (rI C fun i j=>.int (g i j)):=by
 intro pins s U H x y v u Q I rx ry h
 obtain⟨i,j,rfl,rfl,hc,q⟩:=h
 obtain⟨t,rfl⟩:=rx
 obtain⟨t',rfl⟩:=ry
 exact rule i j t t' s _ _ hc ⟨.int (g i j),H,I.tok _,⟨_,rfl⟩,q⟩
theorem Ls{f:Value->Value->Sem Value}{g:Int->Int->Int}
  (rule:∀(i j:Int)(t u:Tok)(s:Shared)(Q:Value->Shared->Prop)(E:Value->Shared->Prop),Q (.int (g i j) s.toks) { s with toks:=s.toks+1 }->wpAny (model X.prog X.w) X.A (f (.int i t) (.int j u)) Q E s) :
  XD X f (P2 fun i j=>.int (g i j)):=by
 intro pins s U H x y v u Q I rx ry h
 obtain⟨i,j,rfl,rfl,q⟩:=h
 obtain⟨t,rfl⟩:=rx
 obtain⟨t',rfl⟩:=ry
 exact rule i j t t' s _ _ ⟨.int (g i j),H,I.tok _,⟨_,rfl⟩,q⟩
theorem N5{f:Value->Value->Sem Value}{g:Int->Int->Bool}
  (rule:∀(i j:Int)(t u:Tok)(s:Shared)(Q:Value->Shared->Prop)(E:Value->Shared->Prop),Q (.bool (g i j)) s->wpAny (model X.prog X.w) X.A (f (.int i t) (.int j u)) Q E s) :
  XD X f (P2 fun i j=>.bl (g i j)):=by
 intro pins s U H x y v u Q I rx ry h
 obtain⟨i,j,rfl,rfl,q⟩:=h
 obtain⟨t,rfl⟩:=rx
 obtain⟨t',rfl⟩:=ry
 exact rule i j t t' s _ _ ⟨.bl (g i j),H,I,rfl,q⟩
def Us(i j:Int):Prop:=0<j/\j<1073741824
def Nk(i j:Int):Prop:=j≠0/\j.natAbs<1073741824
def Sf(i j:Int):Prop:=0<=j/\j<=1000000/\i.natAbs<2^64
def CMul(i j:Int):Prop:=(-(2^64)<i/\i<2^64)\/(-(2^64)<j/\j<2^64)
theorem CMul.ok{i j:Int}(h:CMul i j):IntMulOk i j:=by
 rcases h with⟨h1,h2⟩ | ⟨h1,h2⟩
 ·exact .of_left (intBits_le_64 h1 h2)
 ·exact .of_right (intBits_le_64 h1 h2)
theorem N6:XD X (binaryOp .Add) (P2 fun i j=>.int (i+j)):=Ls fun _ _ _ _ _ _ _ q=>add_int q
theorem N7:XD X (binaryOp .Sub) (P2 fun i j=>.int (i-j)):=Ls fun _ _ _ _ _ _ _ q=>sub_int q
theorem N8:XD X (binaryOp .Mult) (rI CMul fun i j=>.int (i*j)):=Kc fun _ _ _ _ _ _ _ hc q=>mul_int q hc.ok
theorem P4:XD X (binaryOp .FloorDiv) (rI Us fun i j=>.int (i/j)):=Kc fun i j _ _ _ _ _ hc q=>by
 have h1:(0:Int)<j:=hc.1
 have h2:j<1073741824:=hc.2
 exact floordiv_int (by omega) (by rw[Int.fdiv_eq_ediv_of_nonneg i (by omega)];exact q) (.inl (PyProof.noPylong_small (by omega)))
theorem N9:XD X (binaryOp .Mod) (rI (fun _ j=>0<j) fun i j=>.int (i%j)):=Kc fun i j _ _ _ _ _ hc q=>by
 have h1:(0:Int)<j:=hc
 exact mod_int' (by omega) (by rw[Int.fmod_eq_emod_of_nonneg i (by omega)];exact q)
theorem Ma:XD X (binaryOp .Pow) (rI Sf fun i j=>.int (i^j.toNat)):=Kc fun _ _ _ _ _ _ _ hc q=>pow_int_small hc.1 hc.2.1 hc.2.2 q
theorem K5{f:Value->Sem Value}{g:Int->Int}
  (rule:∀(i:Int)(t:Tok)(s:Shared)(Q:Value->Shared->Prop)(E:Value->Shared->Prop),Q (.int (g i) s.toks) { s with toks:=s.toks+1 }->wpAny (model X.prog X.w) X.A (f (.int i t)) Q E s) :
  Kt X f (rU fun i=>.int (g i)):=by
 intro pins s U H x v Q I rx h
 obtain⟨i,rfl,q⟩:=h
 obtain⟨t,rfl⟩:=rx
 exact rule i t s _ _ ⟨.int (g i),H,I.tok _,⟨_,rfl⟩,q⟩
theorem Mb:Kt X (unaryOp .USub) (rU fun i=>.int (-i)):=K5 fun _ _ _ _ _ q=>neg_int q
end
section
variable {X:Cx} {a b c:Expr} {ta tb tc:TE} {pos:Pos}
theorem Mc{pins:List (Addr×Obj)}{U:St}{H:Hp}{s:Shared}{Q:VK}{k k':Bool}(I:Inv X pins U H s)(q:Q (.bl k) H)(e:k=k'):EP X pins U Q (.bool k') s:=by
 subst e
 exact⟨.bl k,H,I,rfl,q⟩
theorem Lu:XD X (compareOp .Lt) (P2 fun i j=>.bl (decide (i<j))):=N5 fun _ _ _ _ _ _ _ q=>lt_int q
theorem Nl:XD X (compareOp .LtE) (P2 fun i j=>.bl (decide (i<=j))):=N5 fun _ _ _ _ _ _ _ q=>le_int q
theorem Lv:XD X (compareOp .Gt) (P2 fun i j=>.bl (decide (j<i))):=N5 fun _ _ _ _ _ _ _ q=>gt_int q
theorem RG:XD X (compareOp .In) (fun x y H Q=>∃i j,x = .str i/\y = .str j/\Q (.bl (!(Builtin.Str.occurrences j i 0 j.length 1).isEmpty)) H):=by
 intro pins s U H x y v u Q I rx ry h
 obtain⟨i,j,rfl,rfl,q⟩:=h
 obtain⟨t,rfl⟩:=rx
 obtain⟨t',rfl⟩:=ry
 exact in_str (Mc I q rfl)
theorem WI(b:Expr){op:CmpOp}(h:op≠.In:=by decide)(h2:op≠.NotIn:=by decide):behindInMarks op b=false:=by
 have e1:(op==CmpOp.In)=false:=by cases op<;>first | rfl | exact absurd rfl h
 have e2:(op==CmpOp.NotIn)=false:=by cases op<;>first | rfl | exact absurd rfl h2
 cases b<;>simp[behindInMarks,e1,e2]
theorem P5{op:CmpOp}{r:R2}(ho:XD X (compareOp op) r)(ha:PE X a ta)(hb:PE X b tb)(hm:behindInMarks op b=false):PE X (.Compare a [op] [b] pos) (Lq r ta tb):=by
 intro pins s U H Q I h
 exact wpAny_Compare1 (N4 ha hb I h fun v u s2 x y H2 I2 rx ry q=>ho pins s2 U H2 x y v u Q I2 rx ry q) hm
def To(t:TE):TT:=fun U H Q=>t U H fun x H'=>∃k,x = .bl k/\Q k H'
theorem P6{op:CmpOp}{r:R2}(ho:XD X (compareOp op) r)(ha:PE X a ta)(hb:PE X b tb)(hm:behindInMarks op b=false):PT X (.Compare a [op] [b] pos) (To (Lq r ta tb)):=by
 intro pins s U H Q I h
 refine wpAny_isTrue_Compare1 (Z4 (ha pins s U H _ I h) fun v s1 ⟨x,H1,I1,r1,q1⟩=>Z4 (hb pins s1 U H1 _ I1 q1) fun u s2 ⟨y,H2,I2,r2,q2⟩=>
  Z4 (ho pins s2 U H2 x y v u _ I2 r1 r2 q2) fun c s3 ⟨z,H3,I3,r3,k,e,q3⟩=>?_) hm
 subst e;cases r3
 exact wpAny_truthy_bool ⟨H3,I3,q3⟩
def Sg(r r':R2)(ta tb tc:TE):TE:=fun U H Q=>ta U H fun x H1=>tb U H1 fun y H2=>r x y H2 fun z H3=>∃k,z = .bl k/\
 (if k=true then tc U H3 fun w' H4=>r' y w' H4 Q else Q (.bl false) H3)
theorem QA{op op':CmpOp}{r r':R2}(ho:XD X (compareOp op) r)(ho':XD X (compareOp op') r')(ha:PE X a ta)(hb:PE X b tb)(hc:PE X c tc)
  (hm:lastMarks [op,op'] [b,c]=false:=by with_unfolding_all rfl):PE X (.Compare a [op,op'] [b,c] pos) (Sg r r' ta tb tc):=by
 intro pins s U H Q I h
 refine Compare_chain (Z4 (ha pins s U H _ I h) fun v s1 ⟨x,H1,I1,r1,q1⟩=>chain_link (Z4 (hb pins s1 U H1 _ I1 q1) fun u s2 ⟨y,H2,I2,r2,q2⟩=>
  Z4 (ho pins s2 U H2 x y v u _ I2 r1 r2 q2) fun d s3 ⟨z,H3,I3,r3,k,e,q3⟩=>?_)) hm
 subst e;cases r3
 refine wpAny_truthy_bool ?_
 cases k with
 | false=>exact ite_ff ⟨.bl false,H3,I3,rfl,q3⟩
 | true=>exact ite_tt (chain_last (Z4 (hc pins s3 U H3 _ I3 q3) fun w' s4 ⟨z',H4,I4,r4,q4⟩=>ho' pins s4 U H4 y z' u w' Q I4 r2 r4 q4))
theorem QB{op op':CmpOp}{r r':R2}(ho:XD X (compareOp op) r)(ho':XD X (compareOp op') r')(ha:PE X a ta)(hb:PE X b tb)(hc:PE X c tc)
  (hm:lastMarks [op,op'] [b,c]=false:=by with_unfolding_all rfl):PT X (.Compare a [op,op'] [b,c] pos) (To (Sg r r' ta tb tc)):=by
 intro pins s U H Q I h
 refine isTrue_chain (Z4 (ha pins s U H _ I h) fun v s1 ⟨x,H1,I1,r1,q1⟩=>test_link (Z4 (hb pins s1 U H1 _ I1 q1) fun u s2 ⟨y,H2,I2,r2,q2⟩=>
  Z4 (ho pins s2 U H2 x y v u _ I2 r1 r2 q2) fun d s3 ⟨z,H3,I3,r3,k,e,q3⟩=>?_)) hm
 subst e;cases r3
 refine wpAny_truthy_bool ?_
 cases k with
 | false=>
  obtain⟨k',e',q'⟩:=q3
  cases e'
  exact ite_ff ⟨H3,I3,q'⟩
 | true=>
  refine ite_tt (test_last (Z4 (hc pins s3 U H3 _ I3 q3) fun w' s4 ⟨z',H4,I4,r4,q4⟩=>Z4 (ho' pins s4 U H4 y z' u w' _ I4 r2 r4 q4) fun d' s5 ⟨z2,H5,I5,r5,k2,e2,q5⟩=>?_))
  subst e2;cases r5
  exact wpAny_truthy_bool ⟨H5,I5,q5⟩
def Kv(K:PySem.W.Frag)(x:V)(H:Hp)(k:Bool):Prop:=
 match x with
 | .non=>k=false
 | .bl b=>k=b
 | .int i=>k=(i != 0)
 | .str y=>y.length<=sizeLine/\k=((y.length:Int) != 0)
 | .byt y=>y.size<=sizeLine/\k=((y.size:Int) != 0)
 | .ref p=>(∃xs,SqL K H p xs/\k = !xs.isEmpty)\/(∃xs,SqT K H p xs/\k = !xs.isEmpty)\/∃kvs,H p=some (.dK kvs)/\k = !kvs.isEmpty
 | _=>False
theorem Sh{κ:Type}{kvs:List (κ×V)}{vs:List (κ×Value)}(r:KV kvs vs):(!vs.isEmpty) = !kvs.isEmpty:=by
 cases r<;>rfl
theorem VD{xs:List V}{its:List Value}(r:Vals xs its):(!its.toArray.isEmpty) = !xs.isEmpty:=by
 cases r<;>simp
theorem VF:(sizeLine:Nat)<2^63:=by rw[sizeLine_eq];decide
theorem tru_ok:Ku X (fun x H Q=>∃k,Kv X.K x H k/\Q k H):=by
 intro pins s U H x v Q I rx h
 obtain⟨k,e,q⟩:=h
 have hl:=VF
 have hs:sizeLine=16777216:=sizeLine_eq
 cases x with
 | non=>
  cases rx
  have e':k=false:=e
  subst e'
  exact truthy_none ⟨H,I,q⟩
 | bl b=>
  cases rx
  have e':k=b:=e
  subst e'
  exact wpAny_truthy_bool ⟨H,I,q⟩
 | int i=>
  obtain⟨t,rfl⟩:=rx
  have e':k=(i != 0):=e
  subst e'
  exact PySem.P.truthy_int ⟨H,I,q⟩
 | str y=>
  obtain⟨t,rfl⟩:=rx
  obtain⟨hy,e'⟩:y.length<=sizeLine/\k=((y.length:Int) != 0):=e
  subst e'
  exact PySem.P.truthy_str (by omega) ⟨H,I.tok _,q⟩
 | byt y=>
  obtain⟨t,rfl⟩:=rx
  obtain⟨hy,e'⟩:y.size<=sizeLine/\k=((y.size:Int) != 0):=e
  subst e'
  exact PySem.W.truthy_bytes (by omega) ⟨H,I.tok _,q⟩
 | ref p=>
  cases rx
  have e':(∃xs,SqL X.K H p xs/\k = !xs.isEmpty)\/(∃xs,SqT X.K H p xs/\k = !xs.isEmpty)\/∃kvs,H p=some (.dK kvs)/\k = !kvs.isEmpty:=e
  rcases e' with⟨xs,hx,e'⟩ | ⟨xs,hx,e'⟩ | ⟨kvs,hx,e'⟩
  ·subst e'
   obtain⟨its,r,pl,hz⟩:=I.list hx
   have hlen:=r.length
   exact wpAny_truthy_list pl.isList (by simp only[List.size_toArray];omega) ⟨H,I.tok _,by rw[VD r];exact q⟩
  ·subst e'
   obtain⟨its,r,pl,hz⟩:=I.tuple hx
   have hlen:=r.length
   exact truthy_tuple pl (by simp only[List.size_toArray];omega) ⟨H,I.tok _,by rw[VD r];exact q⟩
  ·subst e'
   obtain⟨hz,hS,vs,r,m⟩:kvs.length<=sizeLine/\(p==sysModules)=false/\∃vs,KV kvs vs/\s.heap.DictOf (UW X.prog X.w) p vs:=I.hok p _ hx
   have hlen:kvs.length=vs.length:=Paired.length r
   exact wpAny_truthy_dict hS m (by omega) ⟨H,I.tok _,by rw[Sh r];exact q⟩
 | _=>exact(show False from e).elim
theorem X1:XD X (binaryOp .Add) (fun x y H Q=>∃i j,x = .str i/\y = .str j/\i.length+j.length<=sizeLine/\Q (.str (i++j)) H):=by
 intro pins s U H x y v u Q I rx ry h
 obtain⟨i,j,rfl,rfl,hz,q⟩:=h
 obtain⟨t,rfl⟩:=rx
 obtain⟨t',rfl⟩:=ry
 exact add_str (fun t' tk=>⟨.str (i++j),H,I.tok _,⟨_,rfl⟩,q⟩) hz
theorem Xx{x:V}{us:List Value}(r:Vals [x] us):∃u,us=[u]/\RelV x u:=by
 cases r with
 | cons r1 r2=>cases r2;exact⟨_,rfl,r1⟩
theorem Nm{x y:V}{us:List Value}(r:Vals [x,y] us):∃u w',us=[u,w']/\RelV x u/\RelV y w':=by
 cases r with
 | cons r1 r2=>
  cases r2 with
  | cons r3 r4=>cases r4;exact⟨_,_,rfl,r1,r3⟩
theorem Wf:Xb X (.type "str") (fun xs H Q=>∃i,xs=[.int i]/\i.natAbs.log2<1920/\Q (.str (toString i)) H):=by
 intro pins s U H xs us Q I r h
 obtain⟨i,rfl,hz,q⟩:=h
 obtain⟨u,rfl,t,rfl⟩:=Xx r
 exact PySem.P.str_of_int hz ⟨.str _,H,I.tok _,⟨_,rfl⟩,q⟩
def Lw(K:PySem.W.Frag)(x:V)(H:Hp)(n:Nat):Prop:=
 match x with
 | .str y=>y.length<=sizeLine/\n=y.length
 | .byt y=>y.size<=sizeLine/\n=y.size
 | .ref p=>(∃xs,SqL K H p xs/\n=xs.length)\/∃xs,SqT K H p xs/\n=xs.length
 | _=>False
theorem Xy:Xb X (.builtin "len") (fun xs H Q=>∃x n,xs=[x]/\Lw X.K x H n/\Q (.int n) H):=by
 intro pins s U H xs us Q I r h
 obtain⟨x,n,rfl,e,q⟩:=h
 obtain⟨u,rfl,rx⟩:=Xx r
 have hl:=VF
 have hs:sizeLine=16777216:=sizeLine_eq
 cases x with
 | str y=>
  obtain⟨t,rfl⟩:=rx
  obtain⟨hy,e'⟩:y.length<=sizeLine/\n=y.length:=e
  subst e'
  exact len_str (by omega) ⟨.int _,H,I.tok _,⟨_,rfl⟩,q⟩
 | byt y=>
  obtain⟨t,rfl⟩:=rx
  obtain⟨hy,e'⟩:y.size<=sizeLine/\n=y.size:=e
  subst e'
  exact PySem.W.len_bytes (by omega) ⟨.int _,H,I.tok _,⟨_,rfl⟩,q⟩
 | ref p=>
  cases rx
  have e':(∃xs,SqL X.K H p xs/\n=xs.length)\/∃xs,SqT X.K H p xs/\n=xs.length:=e
  rcases e' with⟨xs,hx,e'⟩ | ⟨xs,hx,e'⟩
  ·subst e'
   obtain⟨its,r',pl,hz⟩:=I.list hx
   have hlen:=r'.length
   exact Calls.call_len_list pl.isList (by simp only[List.size_toArray];omega) ⟨.int xs.length,H,I.tok _,⟨_,by simp only[List.size_toArray];rw[hlen]⟩,q⟩
  ·subst e'
   obtain⟨its,r',pl,hz⟩:=I.tuple hx
   have hlen:=r'.length
   exact len_tuple pl (by simp only[List.size_toArray];omega) ⟨.int xs.length,H,I.tok _,⟨_,by simp only[List.size_toArray];rw[hlen]⟩,q⟩
 | _=>exact(show False from e).elim
end
structure ObjM(h:Heap)(x dx C:Addr)(mA:Str->Option Value):Prop where
 obj:h.get? x=some (PySem.W.instObj C dx)
 ns:h.Ns1 dx mA
 ne:dx≠x
theorem RH{h:Heap}{dx:Addr}{mA:Str->Option Value}(n:h.Ns1 dx mA):∃od,h.get? dx=some od/\∀name,PySem.W.lookIn name od=some (mA name):=by
 obtain⟨o,es,ep,ho,hd,hk,_,hm⟩:=n
 refine⟨o,ho,fun name=>?_⟩
 have e:=hm name;unfold nsFind findBy at e;rw[<-Array.find?_toList] at e;unfold PySem.W.lookIn;rw[hd]
 dsimp only
 split
 ·rename_i y q
  rw[q] at e
  exact congrArg some e
 ·rename_i q
  rw[q] at e
  have a:es.toList.any (·.refKey)=false:=by
   rw[List.any_eq_false];intro y hy
   obtain⟨z,t,hkey⟩:=hk y (Array.mem_toList_iff.mp hy)
   simp[DictEntry.refKey,hkey]
  have a':¬es.toList.any (·.refKey)=true:=by rw[a];exact Bool.false_ne_true
  rw[if_neg a']
  exact congrArg some e
theorem ObjM.look{h:Heap}{x dx C:Addr}{mA:Str->Option Value}(I:ObjM h x dx C mA):∃od,PySem.W.InstAt h x (PySem.W.instObj C dx) C (some od)/\∀name,PySem.W.lookIn name od=some (mA name):=
 let⟨od,ho,hl⟩:=RH I.ns
 ⟨od,⟨I.obj,rfl,rfl,ho⟩,hl⟩
section
variable {P:Program} {w:World} {H H':Hp} {h h':Heap} {a C dx:Addr} {fs fs':List (Str×V)}
theorem P7(hok:HOk P w H h)(e:H a=some (.ins C dx fs)):∃mA,ObjM h a dx C mA/\(∀f,NO (fs.lookup f) (mA f))/\PySem.Within mA (fs.map (·.1))/\fs.length<=1000/\H dx=some (.own a):=by
 obtain⟨d,z,ne,ob,mA,n,r,q⟩:=(show ObjOk P w H h a (.ins C dx fs) from hok a _ e)
 exact⟨mA,⟨ob,n,ne⟩,r,q,z,d⟩
end
structure Cls(K:PySem.W.Frag)(C:Addr):Prop where
 pg:PySem.W.plainGet K C Str.empty=true
 hd:PySem.W.hasDictIn K C=true
 po:PySem.W.plainOver K C=true
 sa:PySem.W.findIn K (.ref C) "__setattr__" = some (some (.builtin "object.__setattr__"))
theorem Cls.get{K:PySem.W.Frag}{C:Addr}(c:Cls K C)(f:Str):PySem.W.plainGet K C f=true:=c.pg
section
variable {X:Cx} {pins:List (Addr×Obj)} {U:St} {H:Hp} {s:Shared} {A:Around} {E:Value->Shared->Prop} {Q:Value->Shared->Prop} {c:Value} {b:Bool}
inductive TyOf(K:PySem.W.Frag)(H:Hp):V->Value->Prop where
 | non:TyOf K H .non (.type "NoneType")
 | bl (x:Bool):TyOf K H (.bl x) (.type "bool")
 | int (i:Int):TyOf K H (.int i) (.type "int")
 | str (x:Str):TyOf K H (.str x) (.type "str")
 | flt (x:UInt64):TyOf K H (.flt x) (.type "float")
 | lst {a:Addr} {xs:List V} (e:H a=some (.lst xs)):TyOf K H (.ref a) (.type "list")
 | frz {a:Addr} {o:Obj} {xs:List V} (e:H a=some (.frz o (.lst xs))):TyOf K H (.ref a) (.type "list")
 | tup {a:Addr} {xs:List V} (e:H a=some (.tup xs)):TyOf K H (.ref a) (.type "tuple")
 | dK {a:Addr} {kvs:List (Vs×V)} (e:H a=some (.dK kvs)):TyOf K H (.ref a) (.type "dict")
 | dT {a:Addr} {kvs:List (List Vs×V)} (e:H a=some (.dT kvs)):TyOf K H (.ref a) (.type "dict")
 | ins {a C dx:Addr} {fs:List (Str×V)} (e:H a=some (.ins C dx fs)) (cl:Cls K C) (ha:PySem.W.findIn K (.ref C) "__class__" = some (some (.builtin "object.__class__")))
   (hn:PySem.W.specialIn K (.builtin "object.__class__") "__get__" = some (some (.builtin "getset_descriptor.__get__"))) (htk:PySem.W.takesIn K (.builtin "object.__class__")=some true)
   (hm:PySem.W.mroIn K C (.type "object")=some true):TyOf K H (.ref a) (.ref C)
theorem RI{x:V}{u t:Value}(I:Inv X pins U H s)(rx:RelV x u)(ty:TyOf X.K H x t)(e:PySem.W.kitOne X.K t c=some b)(h:∀tk,Q (.bool b) { s with toks:=tk }) :
  wpAny (model X.prog X.w) A (call (.builtin "isinstance") [u,c]) Q E s:=by
 cases ty with
 | non=>cases (show u=Value.none from rx);exact PySem.W.kia_one PySem.W.kitx_none I.kIn True.intro e (fun z=>nomatch z) h
 | bl y=>cases (show u=Value.bool y from rx);exact PySem.W.kia_one PySem.W.kitx_bool I.kIn True.intro e (fun z=>nomatch z) h
 | int i=>obtain⟨t,q⟩:=(show ∃t,u=Value.int i t from rx);cases q;exact PySem.W.kia_one PySem.W.kitx_int I.kIn True.intro e (fun z=>nomatch z) h
 | str y=>obtain⟨t,q⟩:=(show ∃t,u=Value.str y t from rx);cases q;exact PySem.W.kia_one PySem.W.kitx_str I.kIn True.intro e (fun z=>nomatch z) h
 | flt y=>obtain⟨t,q⟩:=(show ∃t,u=Value.float y t from rx);cases q;exact PySem.W.kia_one PySem.W.kitx_float I.kIn True.intro e (fun z=>nomatch z) h
 | @lst a xs ea=>
  cases (show u=Value.ref a from rx)
  obtain⟨_,_,n,_,h1⟩:=(show ObjOk X.prog X.w H s.heap a (.lst xs) from I.hok a _ ea)
  exact PySem.W.kia_one PySem.W.kitx_list I.kIn ⟨_,h1,rfl⟩ e (fun z=>nomatch z) h
 | @frz a ob xs ea=>
  cases (show u=Value.ref a from rx)
  obtain⟨_,_,_,n,_,h1⟩:=(show ObjOk X.prog X.w H s.heap a (.frz ob (.lst xs)) from I.hok a _ ea)
  exact PySem.W.kia_one PySem.W.kitx_list I.kIn ⟨_,h1,rfl⟩ e (fun z=>nomatch z) h
 | @tup a xs ea=>
  cases (show u=Value.ref a from rx)
  obtain⟨_,_,_,p⟩:=(show ObjOk X.prog X.w H s.heap a (.tup xs) from I.hok a _ ea)
  obtain⟨o,h1,h2,_⟩:=p
  exact PySem.W.kia_one PySem.W.kitx_tuple I.kIn ⟨o,h1,h2⟩ e (fun z=>nomatch z) h
 | @dK a kvs ea=>
  cases (show u=Value.ref a from rx)
  obtain⟨_,_,vs,_,p⟩:=(show ObjOk X.prog X.w H s.heap a (.dK kvs) from I.hok a _ ea)
  obtain⟨o,es,ep,h1,h2,_⟩:=p
  exact PySem.W.kia_one PySem.W.kitx_dict I.kIn ⟨o,h1,h2.1⟩ e (fun z=>nomatch z) h
 | @dT a kvs ea=>
  cases (show u=Value.ref a from rx)
  obtain⟨_,_,xs,_,o,es,ep,h1,h2,_⟩:=(show ObjOk X.prog X.w H s.heap a (.dT kvs) from I.hok a _ ea)
  exact PySem.W.kia_one PySem.W.kitx_dict I.kIn ⟨o,h1,h2.1⟩ e (fun z=>nomatch z) h
 | @ins a C dx fs ea cl ha hn htk hm=>
  cases (show u=Value.ref a from rx)
  obtain⟨mA,O,_⟩:=P7 I.hok ea
  obtain⟨od,J,_⟩:=O.look
  exact PySem.W.kia_one (PySem.W.kitx_own (cl.get _) cl.hd ha hn htk hm) I.kIn J e (fun z=>nomatch z) h
end
structure Room(k:Nat)(A:Around):Prop where
 hd:A.handled=none
 dp:A.depth+3*k+5<recursionLimit
 un:A.units+16*k+200<cLine
 gd:A.guards=some []
theorem Room.mono{j k:Nat}{A:Around}(r:Room k A)(h:j<=k):Room j A:=⟨r.hd,by have:=r.dp;omega,by have:=r.un;omega,r.gd⟩
theorem Room.deeper{k:Nat}{A:Around}(r:Room (k+1) A)(env:Env):Room k (A.deeper env):=
 ⟨r.hd,by have:=r.dp;show A.depth+1+3*k+5<_;omega,by have:=r.un;show A.units+3+16*k+200<_;omega,r.gd⟩
theorem Room.depth{k:Nat}{A:Around}(r:Room k A):A.depth<recursionLimit:=by have:=r.dp;omega
theorem Room.units{k:Nat}{A:Around}(r:Room k A):A.units+64<cLine:=by have:=r.un;omega
def Lx:TA:=fun _ H Q=>Q [] H
def Nn(ta:TE)(tr:TA):TA:=fun U H Q=>ta U H fun x H1=>tr U H1 fun xs H2=>Q (x::xs) H2
section
variable {X:Cx} {e:Expr} {es:List Expr} {te:TE} {t:TA} {pos:Pos}
theorem VG:PA X [] Lx:=fun _ _ _ _ H Q I h=>Calls.spliced_nil ⟨[],H,I,.nil,h⟩
theorem XF(ha:PE X e te)(hr:PA X es t)(hs:starEach (e::es) X.env=(false,eval e X.env)::starEach es X.env:=by rfl):PA X (e::es) (Nn te t):=by
 intro pos pins s U H Q I h;rw[hs]
 show wpAny _ _ (spliced ((false,eval e X.env)::backTo pos (starEach es X.env))) _ _ s
 refine Calls.spliced_cons (Z4 (ha pins s U H _ I h) fun u s1 ⟨x,H1,I1,r1,q1⟩=>?_)
 exact Z4 (hr pos pins s1 U H1 _ I1 q1) fun us s2 ⟨xs,H2,I2,r2,q2⟩=>⟨x::xs,H2,I2,.cons r1 r2,q2⟩
def Kw(t:TA):TE:=fun U H Q=>t U H fun xs H1=>xs.length<=sizeLine/\∀p,H1 p=none->Q (.ref p) (YG H1 p (.tup xs))
def Kx(t:TA):TE:=fun U H Q=>t U H fun xs H1=>xs.length<=sizeLine/\∀p,H1 p=none->Q (.ref p) (YG H1 p (.lst xs))
theorem Md{x1}(h:PA X es t):PE X (.Tuple es x1 pos) (Kw t):=by
 intro pins s U H Q I hq
 refine wpAny_Tuple_spliced (Z4 (h pos pins s U H _ I hq) fun us s1 ⟨xs,H1,I1,r,z,q⟩=>⟨by rw[<-r.length];exact z,?_⟩)
 have hf:H1 s1.heap.objs.size=none:=I1.hok.fresh (Nat.le_refl _)
 refine⟨.ref s1.heap.objs.size,YG H1 s1.heap.objs.size (.tup xs),I1.laid (t':=s1.toks) (fun b u e=>Heap.get?_push_of_some _ e) (Nat.le_refl _) ?_,rfl,q _ hf⟩
 exact⟨z,us,r,⟨_,Heap.get?_push_size _ rfl,rfl,_,rfl⟩⟩
theorem QC(h:PA X es t):PE X (.List es pos) (Kx t):=by
 intro pins s U H Q I hq
 refine wpAny_List_spliced (Z4 (h pos pins s U H _ I hq) fun us s1 ⟨xs,H1,I1,r,z,q⟩=>⟨by rw[<-r.length];exact z,?_⟩)
 have hf:H1 s1.heap.objs.size=none:=I1.hok.fresh (Nat.le_refl _)
 refine⟨.ref s1.heap.objs.size,YG H1 s1.heap.objs.size (.lst xs),I1.laid (t':=s1.toks) (fun b u e=>Heap.get?_push_of_some _ e) (Nat.le_refl _) ?_,rfl,q _ hf⟩
 exact⟨z,us,0,r,Heap.get?_push_size _ rfl⟩
end
abbrev Sp:=List V->Hp->VK->XK->Prop
abbrev QD:=List Env->Hp->Shared->XK->Value->Shared->Prop
structure P8(P:Program)(w:World)(K:PySem.W.Frag)(mg:Str->Option Value)(base:Heap)(A:Around)(outer:List Env)(s:Shared)(H:Hp):Prop where
 frames:A.frames=some outer
 mod:Mod K mg base
 bs:∀b o,base.get? b=some o->s.heap.get? b=some o/\H b=none
 bsz:base.objs.size<=s.heap.objs.size
 funs:s.heap.FunFrames base outer
 frf:∀b∈Tj outer,H b=none
 hok:HOk P w H s.heap
 bare:AllBare s.gens
def CE(outer:List Env)(P:Program)(w:World)(H:Hp)(s:Shared)(Q:VK)(u:Value)(s':Shared):Prop:=
 ∃v H',s'.os=s.os/\AllBare s'.gens/\Un (Tj outer) [] H H' s.heap s'.heap/\HOk P w H' s'.heap/\RelV v u/\Q v H'
def CR(CX:QD)(outer:List Env)(P:Program)(w:World)(H:Hp)(s:Shared)(Q:VK)(E:XK)(r:Result)(s':Shared):Prop:=
 match r with
 | .ok (.ret u)=>CE outer P w H s Q u s'
 | .ok _=>False
 | .error e=>CX outer H s E e s'
structure Wg(P:Program)(w:World)(K:PySem.W.Frag)(mg:Str->Option Value)(base:Heap)(CX:QD)(k:Nat)(f:Addr)(fd:FuncData)(ps:List Str)(sp:Sp):Prop where
 len:∀vs H Q E,sp vs H Q E->vs.length=ps.length
 run:∀(A:Around)(outer:List Env)(s:Shared)(H:Hp)(args:Args)(us:List Value)(vs:List V)(Q:VK)(E:XK),Room k A->P8 P w K mg base A outer s H->BindsTo s fd args (ps.zip us)->Vals vs us->sp vs H Q E->
  codeAny (model P w) A (.call (.ref f) args) (CR CX outer P w H s Q E) s
section
variable {X:Cx} {pins:List (Addr×Obj)} {U:St} {H:Hp} {s s':Shared}
theorem Inv.env0(I:Inv X pins U H s):P8 X.prog X.w X.K X.mg X.base X.A X.stack s H:=
 ⟨I.ok.frames,I.ok.mod,I.bs,Nat.le_trans I.ok.bsz I.sz,I.stack,I.stkFree,I.hok,I.bare⟩
theorem Inv.after{Q:VK}{u:Value}(I:Inv X pins U H s)(h:CE X.stack X.prog X.w H s Q u s'):EP X pins U Q u s':=by
 obtain⟨v,H',os,bare,un,hok,r,q⟩:=h
 obtain⟨hh,g,d,t,os'⟩:=s'
 obtain rfl:os'=s.os:=os
 exact⟨v,H',I.call (h':=hh) (g':=g) (d':=d) (t':=t) (ch:=[]) un hok bare (fun b z=>absurd z (by simp)),r,q⟩
end
def Np(sp:Sp)(dvs:List V)(E:XK)(t:TA):TE:=fun U H Q=>t U H fun vs H1=>sp (vs++dvs) H1 Q E
def Binds(K:PySem.W.Frag)(fd:FuncData)(ps:List Str)(ds:List Value):Prop:=
 ∀(s:Shared)(us:List Value),K.In s.heap->(us++ds).length=ps.length->BindsTo s fd ⟨us,[]⟩ (ps.zip (us++ds))
theorem Binds.all{K:PySem.W.Frag}{fd:FuncData}{ps:List Str}(h:∀us:List Value,us.length=ps.length->bindArgs fd ⟨us,[]⟩=pure (ps.zip us)):Binds K fd ps []:=fun s us _ hl=>by
 rw[List.append_nil] at hl ⊢
 exact .of_eq (h us hl)
def Si(CX:QD)(X:Cx)(E:XK):Prop:=∀(pins:List (Addr×Obj))(U:St)(H:Hp)(s:Shared)(e:Value)(s':Shared),Inv X pins U H s->CX X.stack H s E e s'->X.xe e s'
section
variable {X:Cx} {CX:QD} {k:Nat} {f C:Addr} {fd:FuncData} {ps:List Str} {sp:Sp} {dvs:List V} {ds:List Value} {E:XK} {x m:Str} {p pos apos:Pos} {e o:Expr} {es:List Expr} {ta:TE} {t:TA}
theorem Me{pins:List (Addr×Obj)}{U:St}{H:Hp}{s:Shared}{Q:VK}{us:List Value}{vs:List V}(F:Wg X.prog X.w X.K X.mg X.base CX k f fd ps sp)(hr:Room k X.A)(hb:Binds X.K fd ps ds)(hd:Vals dvs ds)(hx:Si CX X E)
  (I:Inv X pins U H s) (r:Vals vs us) (h:sp (vs++dvs) H Q E):wpAny (model X.prog X.w) X.A (call (.ref f) us) (EP X pins U Q) X.xe s:=by
 have r2:Vals (vs++dvs) (us++ds):=r.append hd
 have hl:(us++ds).length=ps.length:=by rw[<-r2.length];exact F.len _ _ _ _ h
 refine wpAny_call (codeAny_mono (F.run X.A X.stack s H ⟨us,[]⟩ (us++ds) (vs++dvs) Q E hr I.env0 (hb s us I.kIn hl) r2 h) fun r s' hq=>?_)
 cases r with
 | error e=>exact hx pins U H s e s' I hq
 | ok fl=>
  cases fl with
  | ret u=>exact I.after hq
  | next=>exact False.elim hq
  | brk=>exact False.elim hq
  | cont=>exact False.elim hq
theorem P9(F:Wg X.prog X.w X.K X.mg X.base CX k f fd ps sp)(hr:Room k X.A)(hg:Gl X x)(hm:X.mg x=some (.ref f))(hk:PySem.W.keepIn X.K (.ref f)=true)(hb:Binds X.K fd ps ds)(hd:Vals dvs ds)(hx:Si CX X E)
  (ha:PA X (e::es) t) (hdb:(x==("__debug__" : Str))=false:=by decide) (he:starEach (e::es) X.env=(false,eval e X.env)::starEach es X.env:=by rfl) (hpl:(backTo pos (starEach es X.env)).any (·.1)=false:=by rfl) :
  PE X (.Call (.Name x p) (e::es) [] pos) (Np sp dvs E t):=by
 intro pins s U H Q I h
 refine wpAny_Call_Name_kw (Xh I hg hm ?_ hdb)
 refine PySem.W.callWith_K (h₀:=X.base) I.ok.mod.kin hk (Z4 (ha pos pins s U H _ I h) fun us s1 ⟨vs,H1,I1,r,q⟩=>⟨I1.kIn,?_⟩) he hpl
 exact Me F hr hb hd hx I1 r q
end
structure ZI(N P:List Str)(sc:Scope):Prop where
 kind:sc.kind = .function
 co:sc.isCoroutine=false
 gen:sc.isGenerator=false
 nd:N.Nodup
 pre:N.take P.length=P
 par:∀x∈P,sc.names.lookup x=some .local\/sc.names.lookup x=some .cell
 nofree:∀y∈sc.names,y.2≠.free
theorem Ux{kindOf:Str->Option NameKind}{x:Str}:∀{binds:List (Str×Value)}{m:Str->Option Value},(∀v,(x,v)∉binds)->bindL kindOf binds m x=m x
 | [],_,_=>rfl
 | (n,v)::r,m,h=>by
  unfold bindL;rw[Ux fun w hw=>h w (List.mem_cons_of_mem _ hw)]
  split
  ·have:x≠n:=by rintro rfl;exact h v List.mem_cons_self
   simp[this]
  ·rfl
theorem Uy{kindOf:Str->Option NameKind}{x:Str}:∀{binds:List (Str×Value)}{m:Str->Option Value},(∀v,(x,v)∉binds)->bindC kindOf binds m x=m x
 | [],_,_=>rfl
 | (n,v)::r,m,h=>by
  unfold bindC;rw[Uy fun w hw=>h w (List.mem_cons_of_mem _ hw)]
  split
  ·rfl
  ·have:x≠n:=by rintro rfl;exact h v List.mem_cons_self
   simp[this]
theorem Uz{kindOf:Str->Option NameKind}{x:Str}{v:Value}:∀{P:List Str}{vs:List Value}{i:Nat}{m:Str->Option Value},P.Nodup->P[i]?=some x->vs[i]?=some v->kindOf x=some .local->
  bindL kindOf (P.zip vs) m x=some v
 | [],_,_,_,_,h,_,_=>by simp at h
 | _::_,[],_,_,_,_,h,_=>by simp at h
 | p::P,w::vs,0,m,nd,h1,h2,hk=>by
  simp at h1 h2;subst h1;subst h2
  show bindL kindOf ((p,w)::P.zip vs) m p=_
  unfold bindL;rw[Ux fun v hv=>(List.nodup_cons.mp nd).1 (List.of_mem_zip hv).1,if_pos hk]
  simp
 | p::P,w::vs,i+1,m,nd,h1,h2,hk=>by
  show bindL kindOf ((p,w)::P.zip vs) m x=_
  unfold bindL
  exact Uz (i:=i) (List.nodup_cons.mp nd).2 (by simpa using h1) (by simpa using h2) hk
theorem UA{kindOf:Str->Option NameKind}{x:Str}{v:Value}:∀{P:List Str}{vs:List Value}{i:Nat}{m:Str->Option Value},P.Nodup->P[i]?=some x->vs[i]?=some v->kindOf x≠some .local->
  bindC kindOf (P.zip vs) m x=some v
 | [],_,_,_,_,h,_,_=>by simp at h
 | _::_,[],_,_,_,_,h,_=>by simp at h
 | p::P,w::vs,0,m,nd,h1,h2,hk=>by
  simp at h1 h2;subst h1;subst h2
  show bindC kindOf ((p,w)::P.zip vs) m p=_
  unfold bindC;rw[Uy fun v hv=>(List.nodup_cons.mp nd).1 (List.of_mem_zip hv).1,if_neg hk]
  simp
 | p::P,w::vs,i+1,m,nd,h1,h2,hk=>by
  show bindC kindOf ((p,w)::P.zip vs) m x=_
  unfold bindC
  exact UA (i:=i) (List.nodup_cons.mp nd).2 (by simpa using h1) (by simpa using h2) hk
def start(N:List Str)(vs:List V):St:=vs.map some++List.replicate (N.length-vs.length) none
def VH(CX:QD)(P:Program)(w:World)(K:PySem.W.Frag)(mg:Str->Option Value)(base:Heap)(N:List Str)(qual:Str)(scope:Scope)(f:Addr)(cd:Value)(A:Around)(outer:List Env)(s:Shared)(H:Hp)(E:XK):Cx where
 prog:=P
 w:=w
 K:=K
 mg:=mg
 base:=base
 A:=A.deeper (envOfC qual scope s.heap.objs.size f cd)
 N:=N
 s₀:=s
 H₀:=H
 env:=envOfC qual scope s.heap.objs.size f cd
 outer:=outer
 stack:=envOfC qual scope s.heap.objs.size f cd::outer
 ex:=[]
 calm:=true
 fn:=fun _=>true
 pn:=[]
 xe:=fun e s'=>wpAny (model P w) (A.deeper (envOfC qual scope s.heap.objs.size f cd)) (leaving (envOfC qual scope s.heap.objs.size f cd) e) (fun _ s''=>CX outer H s E e s'') (fun e' s''=>CX outer H s E e' s'') s'
theorem Tp{sc:Scope}{n:Nat}{x:Str}(h:sc.names.lookup x=some .cell):∃c,(cellsFrom n sc.names []).lookup x=some c:=by
 have q:=PySem.W.cellsFrom_some sc.names n [] (.inl h)
 exact Option.isSome_iff_exists.mp q
theorem RJ{CX:QD}{P:Program}{w:World}{K:PySem.W.Frag}{mg:Str->Option Value}{base:Heap}{N ps:List Str}{qual:Str}{scope:Scope}{f:Addr}{cd:Value}{A:Around}{outer:List Env}{s s1:Shared}{H:Hp}{E:XK}{us:List Value}{vs:List V}
  (S:ZI N ps scope) (hd:A.handled=none) (e0:P8 P w K mg base A outer s H) (hl:vs.length=ps.length) (r:Vals vs us)
  (x:InCallC s s.heap.objs.size (bindL (envOfC qual scope s.heap.objs.size f cd).kindOf (ps.zip us) fun _=>none) (cellsFrom (s.heap.objs.size+1) scope.names []) (bindC (envOfC qual scope s.heap.objs.size f cd).kindOf (ps.zip us) fun _=>none) s1) :
  Inv (VH CX P w K mg base N qual scope f cd A outer s H E) [] (start N vs) H s1:=by
 have hpl:ps.length<=N.length:=by have:=congrArg List.length S.pre;rw[List.length_take] at this;omega
 obtain⟨h1,tk,rfl,hk⟩:=x.done
 have noA:∀b:Addr,b∉(VH CX P w K mg base N qual scope f cd A outer s H E).ex:=fun b z=>absurd (show b∈([]:List Addr) from z) (by simp)
 refine⟨⟨e0.mod,S.kind,rfl,rfl,Nat.le_refl _,fun y z c h1 h2=>?_,fun y hy=>?_,fun y c _ h=>?_,fun _=>hd,Around.frames_deeper e0.frames,.inr ⟨rfl,rfl⟩,fun b z=>absurd z (noA b),e0.bs,e0.bsz,fun b _ _=>noA b,fun b z=>absurd z (noA b),e0.funs,e0.frf⟩,
  rfl,e0.bare,Un.kept hk,⟨_,x.toInCall.ns,fun i y v h1 h2 h3=>?_⟩,fun y c h=>⟨_,x.cell y c h⟩,e0.hok.fresh (Nat.le_refl _),fun y c h=>?_,fun p hp=>absurd (show p∈([]:List (Addr×Obj)) from hp) (by simp),e0.hok.kept hk,?_⟩
 ·exact name_of_addr x.apart (PySem.mem_of_lookup h1) (PySem.mem_of_lookup h2)
 ·have hy:scope.names.lookup y=some .cell\/scope.names.lookup y=some .free:=hy
  rcases hy with hy | hy
  ·exact Tp hy
  ·exact absurd rfl (S.nofree _ (PySem.mem_of_lookup hy))
 ·exact Nat.le_of_lt (x.above y c (PySem.mem_of_lookup h))
 ·have hi:i<vs.length:=by
   unfold start at h2
   by_cases hi:i<vs.length
   ·exact hi
   ·rw[List.getElem?_append_right (by simpa using hi)] at h2
    rw[List.getElem?_replicate] at h2
    split at h2<;>cases h2
  have ha:vs[i]?=some v:=by
   unfold start at h2;rw[List.getElem?_append_left (by simpa using hi),List.getElem?_map] at h2
   cases e:vs[i]? with
   | none=>rw[e] at h2;cases h2
   | some a=>rw[e] at h2;cases h2;rfl
  obtain⟨u,hu,rv⟩:=r.get ha
  have hp:ps[i]?=some y:=by
   rw[<-S.pre,List.getElem?_take_of_lt (by omega)];exact h1
  have ndP:ps.Nodup:=by rw[<-S.pre];exact S.nd.sublist (List.take_sublist _ _)
  refine⟨u,rv,?_⟩
  rcases S.par y (List.mem_of_getElem? hp) with k | k
  ·exact .inl ⟨k,Uz ndP hp hu k⟩
  ·obtain⟨c,e⟩:=Tp (n:=s.heap.objs.size+1) k
   refine .inr ⟨.inl k,c,e,?_⟩
   have q:=x.cell y c e
   rw[UA ndP hp hu (by show scope.names.lookup y≠_;rw[k];decide)] at q
   exact q
 ·exact e0.hok.fresh (Nat.le_of_lt (x.above y c (PySem.mem_of_lookup h)))
 ·unfold start
  show _=N.length
  rw[List.length_append,List.length_map,List.length_replicate];omega
theorem Nq{CX:QD}{P:Program}{w:World}{K:PySem.W.Frag}{mg:Str->Option Value}{base:Heap}{k:Nat}{f:Addr}{name qual:Str}{params:Arguments}{body:List Stmt}{scope:Scope}{dV kV doc pm cdv ct oc:Value}{an od:Option Addr}
  {osl:Array (Option Value)} {N ps:List Str} {sp:Sp} (lk:K.lookup f=some ⟨oc,od,.func (PySem.W.fnOf name qual params body scope dV kV doc pm an cdv ct),osl⟩) (hcd:PySem.W.codeIn K cdv qual=true) (S:ZI N ps scope)
  (len:∀vs H Q E,sp vs H Q E->vs.length=ps.length)
  (hbody:∀(A:Around)(outer:List Env)(s:Shared)(H:Hp)(vs:List V)(Q:VK)(E:XK),Room k (A.deeper (envOfC qual scope s.heap.objs.size f cdv))->sp vs H Q E->
   ∃t,PSs (VH CX P w K mg base N qual scope f cdv A outer s H E) body t/\t { nx:=fun _ H'=>Q .non H',rt:=Q } (start N vs) H) :
  Wg P w K mg base CX (k+1) f (PySem.W.fnOf name qual params body scope dV kV doc pm an cdv ct) ps sp:=by
 refine⟨len,fun A outer s H args us vs Q E hr e0 hb r hsp=>?_⟩
 have hl:=len _ _ _ _ hsp
 have KX:K.In s.heap:=e0.mod.kin.keeps fun b o e=>(e0.bs b o e).1
 have lim:s.heap.NoLimit:=e0.mod.nolimit.keeps fun b o e=>(e0.bs b o e).1
 have hkind:∀y∈ps.zip us,scope.names.lookup y.1=some .local\/(scope.names.lookup y.1=some .cell/\((cellsFrom (s.heap.objs.size+1) scope.names []).lookup y.1).isSome=true):=fun⟨n,v⟩ hy=>by
  rcases S.par n (List.of_mem_zip hy).1 with q | q
  ·exact .inl q
  ·exact .inr ⟨q,PySem.W.cellsFrom_some _ _ _ (.inl q)⟩
 refine codeAny_call_function hr.depth (KX _ _ lk) rfl S.co S.gen rfl (PySem.W.codeRec_of KX hcd) (hb _ _ _ _ ?_)
 refine wpAny_newFunctionEnv_cells S.kind hkind fun env he s1 x=>?_
 subst he
 refine⟨lim.keeps x.toInCall.keep,codeAny_func ?_⟩
 obtain⟨t,ht,hq⟩:=hbody A outer s H vs Q E (hr.deeper _) hsp
 have I:Inv (VH CX P w K mg base N qual scope f cdv A outer s H E) [] (start N vs) H s1:=RJ S hr.hd e0 hl r x
 refine wpAny_mono (ht [] s1 (start N vs) H _ I hq) (fun fl s' hs=>?_) fun e s' hs=>hs
 have fin:∀{U':St}{H':Hp}{v:V}{u:Value},Inv (VH CX P w K mg base N qual scope f cdv A outer s H E) [] U' H' s'->RelV v u->Q v H'->CE outer P w H s Q u s':=
  fun{U' H' v u} J rv q=>⟨v,H',J.os,J.bare,J.base,J.hok,rv,q⟩
 cases fl with
 | ret u=>
  obtain⟨v,U',H',J,rv,q⟩:=hs
  exact fin J rv q
 | next=>
  obtain⟨U',H',J,q⟩:=hs
  exact fin (v:=V.non) (u:=Value.none) J rfl q
 | brk=>
  obtain⟨_,_,_,q⟩:=hs
  exact False.elim q
 | cont=>
  obtain⟨_,_,_,q⟩:=hs
  exact False.elim q
section
variable {X:Cx} {x:Str} {p pos:Pos} {e:Expr} {es:List Expr} {t:TA} {id T:String} {r:List V->Hp->VK->Prop}
def Ky(r:List V->Hp->VK->Prop)(t:TA):TE:=fun U H Q=>t U H fun vs H1=>r vs H1 Q
theorem Tq(hc:Xb X (.builtin id) r)(hg:Gl X x)(hm:X.mg x=none)(hv:bootBuiltins x=some (.builtin id))(ha:PA X (e::es) t)(hn:x≠"__name__":=by decide)(hdb:(x==("__debug__" : Str))=false:=by decide)
  (he:starEach (e::es) X.env=(false,eval e X.env)::starEach es X.env:=by rfl) (hpl:(backTo pos (starEach es X.env)).any (·.1)=false:=by rfl):PE X (.Call (.Name x p) (e::es) [] pos) (Ky r t):=by
 intro pins s U H Q I h
 refine wpAny_Call_Name_kw (VC I hg hm hv ?_ hn hdb)
 exact PyProof.Rows.callWith_builtin1 (Z4 (ha pos pins s U H _ I h) fun us s1 ⟨vs,H1,I1,r1,q1⟩=>hc pins s1 U H1 vs us Q I1 r1 q1) he hpl
theorem UB(hc:Xb X (.type T) r)(hg:Gl X x)(hm:X.mg x=none)(hv:bootBuiltins x=some (.type T))(ha:PA X (e::es) t)(hn:x≠"__name__":=by decide)(hdb:(x==("__debug__" : Str))=false:=by decide)
  (he:starEach (e::es) X.env=(false,eval e X.env)::starEach es X.env:=by rfl) (hpl:(backTo pos (starEach es X.env)).any (·.1)=false:=by rfl):PE X (.Call (.Name x p) (e::es) [] pos) (Ky r t):=by
 intro pins s U H Q I h
 refine wpAny_Call_Name_kw (VC I hg hm hv ?_ hn hdb)
 exact PyProof.Rows.callWith_type1 (Z4 (ha pos pins s U H _ I h) fun us s1 ⟨vs,H1,I1,r1,q1⟩=>hc pins s1 U H1 vs us Q I1 r1 q1) he hpl
end
end L2
namespace HT
open PySem PyProof.Rows
section
variable {prog:Program} {w:World} {A:Around} {E:Value->Shared->Prop} {s:Shared}
def sIx(n d:Nat):Option Int->Nat
 | none=>d
 | some v=>if v<0 then(v+(n:Int)).toNat else min v.toNat n
theorem sIx_nat(n d k:Nat):sIx n d (some (k:Int))=min k n:=by
 show(if(k:Int)<0 then((k:Int)+(n:Int)).toNat else min (k:Int).toNat n)=min k n
 rw[if_neg (by omega),Int.toNat_natCast]
end
end HT
namespace L2
open PySem PySem.Spec PyProof.Rows
abbrev TO:=St->Hp->(Option Int->Hp->Prop)->Prop
def PO(X:Cx)(e:Option Expr)(t:TO):Prop:=
 ∀(pins:List (Addr×Obj))(s:Shared)(U:St)(H:Hp)(Q:Option Int->Hp->Prop),Inv X pins U H s->t U H Q->
  wpAny (model X.prog X.w) X.A (evalPart e X.env) (fun u s'=>∃o H',Inv X pins U H' s'/\IsPart u o/\Q o H') X.xe s
def Oa:TO:=fun _ H Q=>Q none H
def Ly(t:TE):TO:=fun U H Q=>t U H fun x H1=>∃i,x = .int i/\Q (some i) H1
section
variable {X:Cx} {e:Expr} {te:TE} {lo hi:Option Expr} {tl th:TO} {pos p2:Pos}
theorem Ob:PO X none Oa:=by
 intro pins s U H Q I h;rw[evalPart_none]
 exact wpAny_pure ⟨none,H,I,.none,h⟩
theorem Oc(h:PE X e te):PO X (some e) (Ly te):=by
 intro pins s U H Q I hw;rw[evalPart_some]
 refine Z4 (h pins s U H _ I hw) fun u s1 ⟨x,H1,I1,r1,q1⟩=>?_
 obtain⟨i,rfl,q⟩:=q1
 obtain⟨t,rfl⟩:=r1
 exact⟨some i,H1,I1,.int i t,q⟩
def Kz(X:Cx)(r:V->Option Int->Option Int->Hp->VK->Prop):Prop:=
 ∀(pins:List (Addr×Obj))(s:Shared)(U:St)(H:Hp)(x:V)(v vl vu:Value)(lo hi:Option Int)(sl:Addr)(Q:VK),Inv X pins U H s->RelV x v->s.heap.IsSliceOf sl vl vu .none->IsPart vl lo->IsPart vu hi->r x lo hi H Q->
  ∃T id,typeLookup (.type T) "__getitem__" = pure (some (.builtin id))/\s.TypeIs v T/\wpAny (model X.prog X.w) X.A (getItem v (.ref sl)) (EP X pins U Q) X.xe s
def K6(r:V->Option Int->Option Int->Hp->VK->Prop)(te:TE)(tl th:TO):TE:=fun U H Q=>te U H fun x H1=>tl U H1 fun l H2=>th U H2 fun u H3=>r x l u H3 Q
theorem Tr{r:V->Option Int->Option Int->Hp->VK->Prop}(hr:Kz X r)(he:PE X e te)(hl:PO X lo tl)(hu:PO X hi th):PE X (.Subscript e (.Slice lo hi none p2) pos) (K6 r te tl th):=by
 intro pins s U H Q I h
 refine Subscript_ (Z4 (he pins s U H _ I h) fun v s1 ⟨x,H1,I1,r1,q1⟩=>?_)
 refine wpAny_Slice (Z4 (hl pins s1 U H1 _ I1 q1) fun vl s2 ⟨l,H2,I2,pl,q2⟩=>Z4 (hu pins s2 U H2 _ I2 q2) fun vu s3 ⟨u,H3,I3,pu,q3⟩=>?_)
 rw[evalPart_none]
 refine wpAny_pure ?_
 have I4:Inv X pins U H3 { s3 with heap:=s3.heap.push { cls:=.type "slice",data:=.fields #[vl,vu,.none] } }:=I3.kept (t':=s3.toks) fun b ob q=>Heap.get?_push_of_some _ q
 obtain⟨T,id,hT,ht,hg⟩:=hr pins { s3 with heap:=s3.heap.push { cls:=.type "slice",data:=.fields #[vl,vu,.none] } } U H3 x v vl vu l u s3.heap.objs.size Q I4 r1 (Heap.IsSliceOf.new ..) pl pu q3
 show wpAny (model X.prog X.w) X.A (subscriptTail e (.Slice lo hi none p2) v (.ref s3.heap.objs.size)) (EP X pins U Q) X.xe { s3 with heap:=s3.heap.push { cls:=.type "slice",data:=.fields #[vl,vu,.none] } }
 exact tail_any (ops:=[.ref s3.heap.objs.size,v]) ht hT hg (by with_unfolding_all rfl)
def RK(xs:List V)(lo hi:Option Int):List V:=(xs.drop (HT.sIx xs.length 0 lo)).take (HT.sIx xs.length xs.length hi-HT.sIx xs.length 0 lo)
theorem Ts(xs:List V)(lo hi:Option Int):(RK xs lo hi).length<=xs.length:=by
 unfold RK;rw[List.length_take,List.length_drop];omega
end
def Mf(n:Nat)(i:Int):Option Nat:=if 0<=i then(if i<n then some i.toNat else none) else if -(n:Int)<=i then some (i+n).toNat else none
def VJ{α:Type}(xs:List α)(i:Int):Option α:=(Mf xs.length i).bind fun j=>xs[j]?
theorem Od{n:Nat}{i:Int}{j:Nat}(h:Mf n i=some j):seqIndex? i n=some j/\j<n/\-(n:Int)<=i/\i<n:=by
 unfold Mf at h
 by_cases h0:0<=i
 ·rw[if_pos h0] at h
  by_cases h1:i<n
  ·rw[if_pos h1] at h
   have e:i.toNat=j:=Option.some.inj h
   exact⟨by rw[seqIndex_of h0 h1,e],by omega,by omega,h1⟩
  ·rw[if_neg h1] at h;cases h
 ·rw[if_neg h0] at h
  by_cases h1 : -(n:Int)<=i
  ·rw[if_pos h1] at h
   have e:(i+n).toNat=j:=Option.some.inj h
   exact⟨by rw[seqIndex_neg (by omega) h1,e],by omega,h1,by omega⟩
  ·rw[if_neg h1] at h;cases h
theorem UY{α:Type}{xs:List α}{i:Int}{v:α}(h:VJ xs i=some v):∃j,seqIndex? i xs.length=some j/\xs[j]?=some v/\j<xs.length/\-(xs.length:Int)<=i/\i<xs.length:=by
 unfold VJ at h
 cases e:Mf xs.length i with
 | none=>rw[e] at h;cases h
 | some j=>
  rw[e] at h
  obtain⟨h1,h2,h3,h4⟩:=Od e
  exact⟨j,h1,h,h2,h3,h4⟩
theorem Wh{α:Type}{xs:List α}{j:Nat}{v:α}(h:xs[j]?=some v):VJ xs (j:Int)=some v:=by
 have hj:j<xs.length:=(List.getElem?_eq_some_iff.mp h).1
 have e:Mf xs.length (j:Int)=some j:=by
  unfold Mf
  rw[if_pos (by omega),if_pos (by omega)];simp
 unfold VJ;rw[e];exact h
def UZ(b:Expr):Prop:=∀o i,subscripted b false o i=operate [o,i] (getItem o i)
def IxR(X:Cx)(r:R2):Prop:=
 ∀(value slice:Expr)(pins:List (Addr×Obj))(s:Shared)(U:St)(H:Hp)(x y:V)(v u:Value)(Q:VK),Inv X pins U H s->RelV x v->RelV y u->r x y H Q->
  subscripted slice false v u=operate [v,u] (getItem v u)->wpAny (model X.prog X.w) X.A (subscriptTail value slice v u) (EP X pins U Q) X.xe s
def Mg(X:Cx)(id:String)(r:V->List V->Hp->VK->Prop):Prop:=
 ∀(pins:List (Addr×Obj))(s:Shared)(U:St)(H:Hp)(x:V)(xs:List V)(v:Value)(us:List Value)(Q:VK),Inv X pins U H s->RelV x v->Vals xs us->r x xs H Q->
  wpAny (model X.prog X.w) X.A (call (.builtin id) (v::us)) (EP X pins U Q) X.xe s
section
variable {X:Cx} {a b:Expr} {ta tb:TE} {pos:Pos}
theorem IxR.or{r r':R2}(h:IxR X r)(h':IxR X r'):IxR X (fun x y H Q=>r x y H Q\/r' x y H Q):=by
 intro value slice pins s U H x y v u Q I rx ry q hs
 rcases q with q | q
 ·exact h value slice pins s U H x y v u Q I rx ry q hs
 ·exact h' value slice pins s U H x y v u Q I rx ry q hs
theorem Lz{r:R2}(hr:IxR X r)(ha:PE X a ta)(hb:PE X b tb)(hs:UZ b):PE X (.Subscript a b pos) (Lq r ta tb):=by
 intro pins s U H Q I h
 exact Subscript_ (N4 ha hb I h fun v u s2 x y H2 I2 rx ry q=>hr a b pins s2 U H2 x y v u Q I2 rx ry q (hs _ _))
def LA(K:PySem.W.Frag):R2:=fun x y H Q=>∃p xs i v,x = .ref p/\y = .int i/\SqL K H p xs/\VJ xs i=some v/\Q v H
def LB(K:PySem.W.Frag):R2:=fun x y H Q=>∃p xs i v,x = .ref p/\y = .int i/\SqT K H p xs/\VJ xs i=some v/\Q v H
def LC:R2:=fun x y H Q=>∃z i c,x = .str z/\y = .int i/\z.length<=sizeLine/\VJ z.cps.toList i=some c/\Q (.str ⟨#[c]⟩) H
theorem ix_list:IxR X (LA X.K):=by
 intro value slice pins s U H x y v u Q I rx ry h hs
 obtain⟨p,xs,i,z,rfl,rfl,hq,he,q⟩:=h
 cases rx
 obtain⟨t,rfl⟩:=ry
 obtain⟨its,r,pl,hz⟩:=I.list hq
 obtain⟨j,h1,h2,h3,h4,h5⟩:=UY he
 obtain⟨w,ew,rw'⟩:=r.get h2
 have hl:=r.length;have hn:=VF
 have fin:EP X pins U Q w s:=⟨z,H,I,rw',q⟩
 by_cases h0:0<=i
 ·have hj:i.toNat=j:=by
   rw[seqIndex_of h0 h5] at h1
   exact Option.some.inj h1
  exact item_listR pl.isList h0 (by omega) (by rw[hj];simpa using ew) fin hs
 ·have hj:(i+(its.toArray.size:Int)).toNat=j:=by
   rw[seqIndex_neg (by omega) h4] at h1;rw[List.size_toArray,<-hl]
   exact Option.some.inj h1
  exact subscriptTail_builtinR (x:=w) pl.isList.typeIs slot_list_getitem.lookup
   (wpAny_getItem_list_neg (Q:=fun r s'=>r=w/\EP X pins U Q r s') pl.isList (by omega) (by rw[List.size_toArray]<;>omega) (by omega) (by rw[hj];simpa using ew) ⟨rfl,fin⟩) hs
theorem ix_tup:IxR X (LB X.K):=by
 intro value slice pins s U H x y v u Q I rx ry h hs
 obtain⟨p,xs,i,z,rfl,rfl,hq,he,q⟩:=h
 cases rx
 obtain⟨t,rfl⟩:=ry
 obtain⟨its,r,pl,hz⟩:=I.tuple hq
 obtain⟨j,h1,h2,h3,h4,h5⟩:=UY he
 obtain⟨w,ew,rw'⟩:=r.get h2
 have hl:=r.length;have hn:=VF
 have fin:EP X pins U Q w s:=⟨z,H,I,rw',q⟩
 exact subscriptTail_builtinR (x:=w) pl.typeIs slot_tuple_getitem.lookup
  (getItem_tuple (j:=j) (Q:=fun r s'=>r=w/\EP X pins U Q r s') pl (by omega) (by omega) (by rw[List.size_toArray,<-hl];exact h1) (by simpa using ew) ⟨rfl,fin⟩) hs
theorem Mh:IxR X LC:=by
 intro value slice pins s U H x y v u Q I rx ry h hs
 obtain⟨z,i,c,rfl,rfl,hz,he,q⟩:=h
 obtain⟨t,rfl⟩:=rx
 obtain⟨t',rfl⟩:=ry
 obtain⟨j,h1,h2,h3,h4,h5⟩:=UY he
 have hl:z.cps.toList.length=z.length:=by simp[Str.length]
 rw[hl] at h1 h4 h5
 have hn:=VF
 exact tail_any (typeIs_str s z t) slot_str_getitem.lookup (getItem_str (c:=c) (by
  have e1:decide (i < -(2^63:Int))=false:=decide_eq_false (by omega)
  have e2:decide (i ≥ 2^63)=false:=decide_eq_false (by omega)
  rw[e1,e2,Bool.or_false]) (by rw[h1];simpa using h2) ⟨.str ⟨#[c]⟩,H,I.tok _,⟨_,rfl⟩,q⟩) hs
def KW(K:PySem.W.Frag):R2:=fun x y H Q=>LA K x y H Q\/LB K x y H Q\/LC x y H Q
theorem Mi:IxR X (KW X.K):=ix_list.or (ix_tup.or Mh)
theorem U0(lo hi:Option Int)(n:Nat):(sliceBounds lo hi none n).1=((HT.sIx n 0 lo:Nat):Int)/\(sliceBounds lo hi none n).2.1=((HT.sIx n n hi:Nat):Int)/\(sliceBounds lo hi none n).2.2=1:=by
 refine⟨?_,?_,rfl⟩
 ·cases lo with
  | none=>simp[sliceBounds,HT.sIx]
  | some i=>
   simp only[sliceBounds,HT.sIx,Option.getD_none,show(1:Int)>0 by decide,if_true]
   by_cases h:i<0
   ·simp only[h,if_true]<;>omega
   ·simp only[h,if_false]<;>omega
 ·cases hi with
  | none=>simp[sliceBounds,HT.sIx]
  | some i=>
   simp only[sliceBounds,HT.sIx,Option.getD_none,show(1:Int)>0 by decide,if_true]
   by_cases h:i<0
   ·simp only[h,if_true]<;>omega
   ·simp only[h,if_false]<;>omega
theorem Ut(its:List Value)(lo hi:Option Int):slicePick its.toArray lo hi none=((its.drop (HT.sIx its.length 0 lo)).take (HT.sIx its.length its.length hi-HT.sIx its.length 0 lo)).toArray:=by
 obtain⟨h1,h2,h3⟩:=U0 lo hi its.toArray.size
 unfold slicePick;rw[h1,h2,h3]
 simp only[sliceRange_one,pick_run,List.size_toArray]<;>rfl
def KA(K:PySem.W.Frag):V->Option Int->Option Int->Hp->VK->Prop:=fun x lo hi H Q=>∃a xs,x = .ref a/\SqL K H a xs/\∀p,H p=none->Q (.ref p) (YG H p (.lst (RK xs lo hi)))
theorem Oe:Kz X (KA X.K):=by
 intro pins s U H x v vl vu lo hi sl Q I rx hs pl pu h
 obtain⟨a,xs,rfl,hx,q⟩:=h
 cases rx
 obtain⟨its,r,ht,hz⟩:=I.list hx
 have hlen:=r.length
 refine⟨"list",_,slot_list_getitem.lookup,ht.isList.typeIs,?_⟩
 refine wpAny_getItem_list_slice ht.isList hs pl pu .none (by simp) ?_ (by rw[List.size_toArray]<;>omega)
 rw[Ut,<-hlen]
 refine⟨.ref s.heap.objs.size,_,I.laid (t':=s.toks) (o:=.lst (RK xs lo hi)) (fun b ob q=>Heap.get?_push_of_some _ q) (Nat.le_refl _) ?_,rfl,q _ (I.hok.fresh (Nat.le_refl _))⟩
 exact⟨Nat.le_trans (Ts xs lo hi) hz,_,0,(r.drop (HT.sIx xs.length 0 lo)).take (HT.sIx xs.length xs.length hi-HT.sIx xs.length 0 lo),Heap.get?_push_size _ rfl⟩
theorem Yz:Xb X (.type "tuple") (fun xs H Q=>∃p ys,xs=[.ref p]/\((SqL X.K H p ys/\∀l,H l=none->Q (.ref l) (YG H l (.tup ys)))\/(SqT X.K H p ys/\Q (.ref p) H))):=by
 intro pins s U H xs us Q I r h
 obtain⟨p,ys,rfl,h⟩:=h
 obtain⟨u,rfl,rx⟩:=Xx r
 cases rx
 rcases h with⟨hq,q⟩ | ⟨hq,q⟩
 ·obtain⟨its,r',pl,hz⟩:=I.list hq
  have hlen:=r'.length
  refine call_tuple_list pl.isList (fun h' kp=>?_) (by simp only[List.size_toArray]<;>omega)
  have I1:Inv X pins U H { s with heap:=h' }:=I.kept (t':=s.toks) kp
  have I2:Inv X pins U (YG H h'.objs.size (.tup ys)) { s with heap:=h'.push { cls:=.type "tuple",data:=.seq its.toArray } }:=
   I1.laid (t':=s.toks) (fun b o e=>Heap.get?_push_of_some _ e) (Nat.le_refl _) (show ObjOk X.prog X.w _ _ _ (.tup ys) from⟨hz,its,r',IsTup.new _ _⟩)
  exact⟨.ref h'.objs.size,_,I2,rfl,q _ (I1.hok.fresh (Nat.le_refl _))⟩
 ·obtain⟨its,r',pl,hz⟩:=I.tuple hq
  exact call_tuple_same pl ⟨.ref p,H,I,rfl,q⟩
def KY(K:PySem.W.Frag)(T:String)(x:V)(H:Hp):Prop:=match x with
 | .str _=>T = "str"
 | .int _=>T = "int"
 | .ref p=>(T = "list"/\∃xs,SqL K H p xs)\/(T = "tuple"/\∃o,K.lookup p=some o/\o.cls = .type "tuple"/\o.dict=none)\/
   (T = "dict"/\((∃kvs,H p=some (.dK kvs))\/∃kvs,H p=some (.dT kvs)))\/(T = "set"/\∃S n,H p=some (.set S n))
 | _=>False
theorem Mj{pins:List (Addr×Obj)}{U:St}{H:Hp}{s:Shared}{T:String}{x:V}{v:Value}(I:Inv X pins U H s)(r:RelV x v)(ty:KY X.K T x H) :
  s.TypeIs v T/\∀a,v = .ref a->∃ob,s.heap.get? a=some ob/\ob.dict=none:=by
 cases x with
 | str z=>
  obtain⟨t,rfl⟩:=r
  cases (show T = "str" from ty)
  exact⟨typeIs_str s z t,fun _ e=>nomatch e⟩
 | int i=>
  obtain⟨t,rfl⟩:=r
  cases (show T = "int" from ty)
  exact⟨typeIs_int s i t,fun _ e=>nomatch e⟩
 | ref p=>
  cases r
  rcases ty with⟨rfl,xs,hq⟩ | ⟨rfl,o,hk,hc,hd⟩ | ⟨rfl,hk⟩ | ⟨rfl,S,n,hk⟩
  ·obtain⟨its,_,pl,_⟩:=I.list hq
   refine⟨pl.isList.typeIs,fun a e=>?_⟩
   cases e
   obtain⟨o,n,e,c,hd,_⟩:=pl
   exact⟨o,e,hd⟩
  ·refine⟨⟨o,I.kIn p o hk,hc⟩,fun a e=>?_⟩
   cases e
   exact⟨o,I.kIn _ o hk,hd⟩
  ·have z:∃o,s.heap.get? p=some o/\o.ExactDict:=by
    rcases hk with⟨kvs,hk⟩ | ⟨kvs,hk⟩
    ·obtain⟨_,_,_,_,o,_,_,e,ex,_⟩:=I.hok p _ hk
     exact⟨o,e,ex⟩
    ·obtain⟨_,_,_,_,o,_,_,e,ex,_⟩:=I.hok p _ hk
     exact⟨o,e,ex⟩
   obtain⟨o,e,ex⟩:=z
   refine⟨⟨o,e,ex.1⟩,fun a e2=>?_⟩
   cases e2
   exact⟨o,e,ex.2.1⟩
  ·obtain⟨o,_,_,_,e,ex,_⟩:=I.hok p _ hk
   refine⟨⟨o,e,ex.1⟩,fun a e2=>?_⟩
   cases e2
   exact⟨o,e,ex.2.1⟩
 | _=>exact False.elim ty
def K7(K:PySem.W.Frag)(T:String)(r:V->List V->Hp->VK->Prop)(to:TE)(t:TA):TE:=fun U H Q=>to U H fun x H1=>KY K T x H1/\t U H1 fun xs H2=>r x xs H2 Q
variable {o e:Expr} {es:List Expr} {to:TE} {t:TA} {name:Str} {apos cpos:Pos} {T id:String} {r:V->List V->Hp->VK->Prop}
theorem SY(pa:PlainAttrs T)(slot:Slot T name id)(hty:typeOf (.builtin id)=pure (.type "method_descriptor"))(hm:Mg X id r)(ho:PE X o to)(ha:PA X (e::es) t)
  (hbase:attributeBase o name X.env (eval o X.env)=eval o X.env:=by rfl)
  (hfew:((backTo cpos (starEach (e::es) X.env)).all (fun x=>!x.1)&&(backToKw cpos (keywordEach [] X.env)).all (fun x=>x.1.isSome)
   &&decide ((e::es).length+([]:List Keyword).length+(if([]:List Keyword).isEmpty then 0 else 1)<30))=true:=by rfl)
  (hline:(apos.endLine==cpos.line)=true:=by rfl) (hs:starEach (e::es) X.env=(false,eval e X.env)::starEach es X.env:=by rfl) (hplain:(backTo cpos (starEach es X.env)).any (·.1)=false:=by rfl) :
  PE X (.Call (.Attribute o name apos) (e::es) [] cpos) (K7 X.K T r to t):=by
 intro pins s U H Q I h
 refine wpAny_Call_method_late hbase hfew hline rfl (Z4 (ho pins s U H _ I h) fun v s1 ⟨x,H1,I1,r1,ty,q1⟩=>?_)
 obtain⟨h1,h2⟩:=Mj I1 r1 ty
 refine⟨T,id,pa,slot,hty,h1,h2,?_⟩
 have hA:=ha cpos pins s1 U H1 _ I1 q1
 rw[hs] at hA ⊢
 refine Calls.callWith_builtin (by show(false || (backTo cpos (starEach es X.env)).any (·.1))=false;rw[hplain]<;>rfl) (Calls.evalArgs_plain ?_)
 exact Z4 hA fun us s2 ⟨vs,H2,I2,r2,q2⟩=>hm pins s2 U H2 x vs v us Q I2 r1 r2 q2
end
def K8(X:Cx)(id:String)(r:V->List V->Hp->VK->Prop):Prop:=
 ∀(pins:List (Addr×Obj))(s:Shared)(U:St)(H:Hp)(x:V)(xs:List V)(v:Value)(us:List Value)(Q:VK),Inv X pins U H s->RelV x v->Vals xs us->r x xs H Q->
  wpAny (model X.prog X.w) X.A (call (.builtin id) (v::us)) (EP X pins U Q) X.xe s
theorem Vals.one:∀{x:V}{us:List Value},Vals [x] us->∃u,us=[u]/\RelV x u
 | _,_,.cons r .nil=>⟨_,rfl,r⟩
theorem Vals.dropLast{xs:List V}{us:List Value}(h:Vals xs us):Vals xs.dropLast us.dropLast:=by
 induction h with
 | nil=>exact .nil
 | cons r t ih=>
  cases t with
  | nil=>exact .nil
  | cons q t'=>exact .cons r ih
section
variable {X:Cx} {pins:List (Addr×Obj)} {U:St} {H:Hp} {s:Shared} {l b:Addr} {xs ys zs:List V}
theorem Inv.lset{its its':List Value}{n:Nat}{f:Array Value->Array Value}{t':Nat}(I:Inv X pins U H s)(hH:H l=some (.lst xs))
  (e:s.heap.get? l=some { cls:=.type "list",data:=.seq its.toArray n }) (hf:f its.toArray=its'.toArray) (hv:Vals ys its') (hz:ys.length<=sizeLine) :
  Inv X pins U (YG H l (.lst ys)) { s with heap:=s.heap.update l (Obj.mapSeq f),toks:=t' }:=by
 have q:=PySem.IsL.update e f;rw[hf] at q
 refine I.write (x:=l) (e:=l) (by rw[hH];exact trivial) (.inl rfl) (fun b' u hb hu=>(Heap.get?_update_other s.heap (Obj.mapSeq f) (Ne.symm hb)).trans hu) ⟨_,q⟩ ?_
 exact⟨hz,its',_,hv,q⟩
theorem Inv.lnew{its:List Value}{t':Nat}(I:Inv X pins U H s)(hv:Vals ys its)(hz:ys.length<=sizeLine) :
  Inv X pins U (YG H s.heap.objs.size (.lst ys)) { s with heap:=s.heap.push { cls:=.type "list",data:=.seq its.toArray },toks:=t' }:=
 I.laid (fun _ _ q=>Heap.get?_push_of_some _ q) (Nat.le_refl _) ⟨hz,its,0,hv,Heap.get?_push_size _ rfl⟩
theorem Inv.fresh(I:Inv X pins U H s):H s.heap.objs.size=none:=I.hok.fresh (Nat.le_refl _)
theorem Inv.lstM(I:Inv X pins U H s)(hH:H l=some (.lst xs)):xs.length<=sizeLine/\∃(its:List Value) (n:Nat),Vals xs its/\xs.length=its.length/\s.heap.get? l=some { cls:=.type "list",data:=.seq its.toArray n }:=by
 obtain⟨z,its,n,r,e⟩:=I.hok l _ hH
 exact⟨z,its,n,r,r.length,e⟩
theorem QE{n:Nat}(h:n<=sizeLine):Builtin.List.listTooLong n=false:=by
 unfold Builtin.List.listTooLong
 exact decide_eq_false (by omega)
end
section
variable {X:Cx}
def Of:V->List V->Hp->VK->Prop:=fun x vs H Q=>∃l b xs zs,x = .ref l/\vs=[.ref b]/\H l=some (.lst xs)/\H b=some (.lst zs)/\xs.length+zs.length<=sizeLine/\Q .non (YG H l (.lst (xs++zs)))
theorem mt_extend:K8 X "list.extend" Of:=by
 intro pins s U H x vs v us Q I rx rv h
 obtain⟨l,b,xs,zs,rfl,rfl,hH,hB,hz,q⟩:=h
 cases rx
 obtain⟨u,rfl,ru⟩:=rv.one
 cases ru
 obtain⟨z,its,n,r,hl,e⟩:=I.lstM hH
 obtain⟨z2,its2,n2,r2,hl2,e2⟩:=I.lstM hB
 have hsz:its.toArray.size+its2.toArray.size<=sizeLine:=by rw[List.size_toArray,List.size_toArray];omega
 have hlong:¬(!its.toArray.isEmpty&&Builtin.List.listTooLong (its.toArray.size+its2.toArray.size))=true:=by
  rw[QE hsz,Bool.and_false];exact Bool.false_ne_true
 refine call_meets F.slot_list_extend ⟨_,e,rfl⟩ F.entry_list_extend (F.args_list_extend_2 _ _)
  (AutoSeq1.list_extend_list_list_0 l its.toArray n b its2.toArray n2 hlong (by rw[List.size_toArray];omega) (by omega)) ⟨e,e2,?_⟩
 refine⟨.non,_,I.lset (its':=its++its2) hH e (by simp) (r.append r2) ?_,rfl,q⟩
 rw[List.length_append];omega
def KC:R2:=fun x y H Q=>∃l b xs zs,x = .ref l/\y = .ref b/\H l=some (.lst xs)/\H b=some (.lst zs)/\xs.length+zs.length<=sizeLine/\∀p,H p=none->Q (.ref p) (YG H p (.lst (xs++zs)))
theorem Mk:XD X (binaryOp .Add) KC:=by
 intro pins s U H x y v u Q I rx ry h
 obtain⟨l,b,xs,zs,rfl,rfl,hH,hB,hz,q⟩:=h
 cases rx;cases ry
 obtain⟨z,its,n,r,hl,e⟩:=I.lstM hH
 obtain⟨z2,its2,n2,r2,hl2,e2⟩:=I.lstM hB
 refine PySem.P.add_list e e2 ?_ (by rw[List.size_toArray,List.size_toArray];omega)
 have ea:its.toArray++its2.toArray=(its++its2).toArray:=by simp
 rw[ea]
 exact⟨.ref _,_,I.lnew (t':=s.toks) (r.append r2) (by rw[List.length_append];omega),rfl,q _ I.fresh⟩
end
end L2
namespace Att
open PySem PySem.W PySem.Calls PyProof.Rows
theorem Vi{P:Params}{h:Heap}:∀(ns:List Int)(vs:List Value),WellAll P h vs (ns.map WData.int)->IntsAre vs ns:=by
 intro ns
 induction ns with
 | nil=>
  intro vs w;rw[List.map_nil] at w;cases w;exact .nil
 | cons n ns ih=>
  intro vs w;rw[List.map_cons] at w
  cases w with
  | cons a b=>
   cases a
   exact .cons _ _ (ih _ b)
theorem RL{l:OpenLaw}{n:Nat}(hn:l.most=some n){P:Params}{h:Heap}{args:List WData}{vals:List Value}
  (hpre:l.row.toRowW.claim.pre args=true) (hwl:WellAll P h vals args) :
  ∃a vs ns,vals=[Value.ref a]/\args=[WData.list (ns.map WData.int)]/\h.get? a=some { cls:=.type "list",data:=.seq vs.toArray }/\IntsAre vs ns/\ns.length<=n:=by
 have hsh:WShape.hasAll [] args [.list .int]=true:=(pre_splitW hpre).1
 have hc:l.pre.holds [] { args:=args }=true:=(pre_splitW hpre).2
 obtain⟨d,r,rfl,h1,h2⟩:=hasAllW_cons hsh
 obtain rfl:=hasAllW_nil h2
 obtain⟨xs,rfl,h3⟩:=hasW_list h1
 obtain⟨ns,rfl⟩:=items_int h3
 have hlen:ns.length<=n:=by
  unfold OpenLaw.pre at hc
  have h4:(WTm.not (.lt (.lit (.int (n:Int))) (.len (.arg 0)))).holds [] { args:=[.list (ns.map .int)] }=true:=by
   have h4:=(holds_andW hc).1
   rw[hn] at h4;exact h4
  have h5:=condW_of h4 (w_not (w_lt w_lit (w_len_list (w_arg rfl))))
  rw[List.length_map] at h5
  refine Nat.le_of_not_lt fun q=>?_
  have q':(n:Int)<((ns.length:Nat):Int):=by omega
  first
   | (rw[decide_eq_true q'] at h5;exact absurd h5 (by decide))
   | (simp at h5;omega)
 cases hwl with
 | cons w1 w2=>
  cases w2
  cases w1 with
  | list ho hall=>exact⟨_,_,ns,rfl,rfl,ho,Vi ns _ hall,hlen⟩
theorem RM(l:OpenLaw)(args:List WData):l.row.toRowW.claim.post args (.bool true) args=true:=
 postW_of (r:=l.row.toRowW) (X:=(true==true))
  (show WShape.has [] (.bool true) .bool=true by first | rfl | decide | simp[WShape.has,WShape.arms,WShape.armsAll])
  (show(WTm.eq .res (.lit (.bool true))).value [] { args:=args,res:=some (.bool true),after:=args }=some (.bool (true==true)) from w_eq_bool (w_res rfl) w_lit) rfl
theorem attach_call{l:OpenLaw}{n:Nat}{q:Program}{loose:List Str}{XP:(Str->Option Value)->Heap->Prop}{YP:World->Heap->Prop}{d:DefRec}
  (hn:l.most=some n) (hdf:d.params.defaults=[])
  (call:∀(w:World)(s₀ s₁:Shared)(mg mb:Str->Option Value)(fa:Addr)(o:Obj)(pm cd doc:Value)(a:Addr)(vs:List Value)(ns:List Int),
   Ground q loose [] XP w s₀ mg mb s₁.heap->YP w s₁.heap->
   s₁.heap.get? fa=some o->o.data = .func (docDef d.name d.params d.body d.scope pm cd doc)->s₁.heap.CodeRec cd d.name->mg d.name=some (.ref fa)->
   s₁.heap.get? a=some { cls:=.type "list",data:=.seq vs.toArray }->IntsAre vs ns->ns.length<=n->s₁.gens = #[]->
   codeAny (model l.prog w) callerA (.call (.ref fa) ⟨[.ref a],[]⟩) (fun r s'=>r = .ok (.ret (.bool true))/\OldK s₁.heap s'.heap/\s'.os=s₁.os/\AllBare s'.gens) s₁) :
  WalkO q loose XP YP l.row.toRowW d [] (fun f vs=>PySem.call f vs):=by
 intro w s₀ s₁ mg mb G Y fa o pm cd doc dV kV ho hd hcd hD hmg hg args vals as hpre hlay hrd hwl hlo
 obtain rfl:dV = .none:=Dflts.none hD hdf
 obtain rfl:kV = .none:=Dflts.noKw hD
 obtain⟨a,vs,ns,rfl,rfl,hobj,hints,hlen⟩:=RL hn hpre hwl
 refine enter_call (codeAny_mono (call w s₀ s₁ mg mb fa o pm cd doc a vs ns G Y ho (fd_plain hd) hcd hmg hobj hints hlen hg) fun r s' hq=>?_)
 obtain⟨rfl,h2,h3,h4⟩:=hq
 exact⟨.inl ⟨.bool true,.bool true,[],rfl,fun _=>rfl,.bool true,RM l _,fun _=>⟨List.Pairwise.nil,fun _ hm=>(nomatch hm)⟩⟩,h2,h3,h4⟩
end Att
namespace L2
open PySem PySem.Spec PyProof.Rows
theorem UC:∀{vs:List Value}{ns:List Int},IntsAre vs ns->Vals (ns.map V.int) vs
 | _,_,.nil=>.nil
 | _,_,.cons n t h=>.cons ⟨t,rfl⟩ (UC h)
def Og(H:Hp):Prop:=∀b,H b=none\/∃o xs,H b=some (.frz o (.lst xs))
theorem QF{P:Program}{w:World}{K:PySem.W.Frag}{mg mb:Str->Option Value}{CX:QD}{k:Nat}{fa a:Addr}{fd:FuncData}{x:Str}{sp:Sp}{s₁:Shared}{vs:List Value}{ns:List Int}
  (KX:K.In s₁.heap) (hns:s₁.heap.Ns mainGlobals mg) (hb:s₁.heap.Ns builtinsNs mb) (hbb:∀x:Str,x≠"__name__"->mb x=bootBuiltins x) (hlim:s₁.heap.NoLimit) (hg:s₁.gens = #[])
  (ha:s₁.heap.get? a=some { cls:=.type "list",data:=.seq vs.toArray }) (hi:IntsAre vs ns) (hl:ns.length<=sizeLine) (hr:Room k callerA)
  (F:∀base:Heap,K.In base->base.Ns mainGlobals mg->Wg P w K mg base CX k fa fd [x] sp) (hbind:∀(s:Shared)(u:Value),BindsTo s fd ⟨[u],[]⟩ [(x,u)])
  (hsp:∀H:Hp,Og H->SqL K H a (ns.map V.int)->sp [.ref a] H (fun v _=>v = .bl true) fun _ _ _=>False)
  (hCX:∀H e s',CX [] H s₁ (fun _ _ _=>False) e s'->False) :
  codeAny (model P w) callerA (.call (.ref fa) ⟨[.ref a],[]⟩) (fun r s'=>r = .ok (.ret (.bool true))/\OldK s₁.heap s'.heap/\s'.os=s₁.os/\AllBare s'.gens) s₁:=by
 have rv:=UC hi;have lenV:=hi.length
 -- from an abstract heap in which nothing but the script may be tracked
 have core:∀H:Hp,Og H->SqL K H a (ns.map V.int)->HOk P w H s₁.heap->(∀b,H b≠none->b=a)->(H a≠none->K.lookup a=none)->
   codeAny (model P w) callerA (.call (.ref fa) ⟨[.ref a],[]⟩) (fun r s'=>r = .ok (.ret (.bool true))/\OldK s₁.heap s'.heap/\s'.os=s₁.os/\AllBare s'.gens) s₁:=by
  intro H hO hS hok hA hK
  have base_of:∀{b:Addr}{o:Obj},s₁.heap.get? b=some o->H b=none->(UX s₁.heap H).get? b=some o:=fun e n=>Qt e n
  have noA:∀{b:Addr}{o:Obj}{es:Array DictEntry}{ep:Nat},s₁.heap.get? b=some o->o.data = .dict es ep->H b=none:=fun{b o es ep} e d=>by
   cases q:H b with
   | none=>rfl
   | some u=>
    have e':b=a:=hA b (by rw[q];simp)
    subst e'
    rw[ha] at e;cases e
    have d':Data.seq vs.toArray _=Data.dict es ep:=d
    cases d'
  have nsK:∀{b:Addr}{m:Str->Option Value},s₁.heap.Ns b m->(UX s₁.heap H).Ns b m:=fun{b m} ⟨o,es,ep,e,d,r⟩=>⟨o,es,ep,base_of e (noA e d),d,r⟩
  have hKb:K.In (UX s₁.heap H):=fun b o e=>base_of (KX b o e) (by
   cases q:H b with
   | none=>rfl
   | some u=>
    have e':b=a:=hA b (by rw[q];simp)
    subst e'
    rw[hK (by rw[q];simp)] at e;cases e)
  have hM:Mod K mg (UX s₁.heap H):=⟨hKb,nsK hns,⟨mb,nsK hb,hbb⟩,let⟨mc,h1,h2⟩:=hlim;⟨mc,nsK h1,h2⟩⟩
  have e0:P8 P w K mg (UX s₁.heap H) callerA [] s₁ H:=⟨rfl,hM,fun b o e=>PQ e,Nat.le_of_eq (Rz _ _),trivial,fun b hb=>absurd (show b∈([]:List Addr) from hb) (by simp),hok,.of_eq hg⟩
  refine codeAny_mono ((F _ hKb (nsK hns)).run callerA [] s₁ H ⟨[.ref a],[]⟩ [.ref a] [.ref a] _ _ hr e0 (hbind s₁ (.ref a)) (.cons rfl .nil) (hsp H hO hS)) fun r s' h=>?_
  cases r with
  | error e=>exact(hCX H e s' h).elim
  | ok fl=>
   cases fl with
   | next=>exact False.elim h
   | brk=>exact False.elim h
   | cont=>exact False.elim h
   | ret u=>
    obtain⟨v,H',os,bare,un,hok',r',q⟩:=h
    have q':v = .bl true:=q
    subst q'
    obtain rfl:u=Value.bool true:=r'
    refine⟨rfl,OldK.of_keep fun b o e=>?_,os,bare⟩
    cases q:H b with
    | none=>exact un.keep b o e q (by intro z;exact absurd (show b∈([]:List Addr) from z) (by simp)) (by simp)
    | some u=>
     rcases hO b with z | ⟨ob,xs,z⟩
     ·rw[q] at z;cases z
     ·have z2:=un.frzs b ob _ z
      obtain⟨e1,_⟩:=hok b _ z
      obtain⟨e2,_⟩:=hok' b _ z2
      rw[e] at e1;cases e1;exact e2
 cases hk:K.lookup a with
 | some o=>
  -- the script is one of the module's own objects
  have e:=KX a o hk;rw[ha] at e;cases e
  refine core (fun _=>none) (fun _=>.inl rfl) (.inr ⟨_,vs.toArray,_,hk,rfl,rfl,rfl,by rw[List.size_toArray,lenV];exact hl,by simpa using rv⟩) (fun b u z=>by have z':(none:Option HO)=some u:=z;cases z') (fun b z=>absurd rfl z) fun z=>absurd rfl z
 | none=>
  refine core (fun b=>if b=a then some (.frz { cls:=.type "list",data:=.seq vs.toArray } (.lst (ns.map V.int))) else none) (fun b=>?_) (.inl (.inr ⟨{ cls:=.type "list",data:=.seq vs.toArray },if_pos rfl⟩)) (fun b u z=>?_) (fun b z=>?_) fun _=>hk
  ·by_cases hb:b=a
   ·exact .inr ⟨_,_,if_pos hb⟩
   ·exact .inl (if_neg hb)
  ·by_cases hb:b=a
   ·have z':=(if_pos hb).symm.trans z
    cases z'
    subst hb
    exact⟨ha,by rw[List.length_map];exact hl,vs,_,rv,ha⟩
   ·have z':=(if_neg hb).symm.trans z
    cases z'
  ·by_cases hb:b=a
   ·exact hb
   ·exact absurd (if_neg hb) z
theorem walk_of{l:PySem.W.OpenLaw}{n k:Nat}{q:Program}{loose:List Str}{XP:(Str->Option Value)->Heap->Prop}{YP:World->Heap->Prop}{d:DefRec}{K:Params->PySem.W.Frag}{CX:World->QD}{sp:World->Sp}{x:Str}
  (hn:l.most=some n) (hn2:n<=sizeLine) (hdf:d.params.defaults=[]) (hr:Room k callerA)
  (hY:∀(w:World)(h:Heap),YP w h->(K w.params).In h)
  (F:∀(w:World)(mg:Str->Option Value)(fa:Addr)(h:Heap),(K w.params).In h->h.Ns mainGlobals mg->mg d.name=some (.ref fa)->
   ∃fd:FuncData,(∀(s:Shared)(u:Value),BindsTo s fd ⟨[u],[]⟩ [(x,u)])/\
    ∀base:Heap,(K w.params).In base->base.Ns mainGlobals mg->Wg l.prog w (K w.params) mg base (CX w) k fa fd [x] (sp w))
  (hsp:∀(w:World)(H:Hp)(a:Addr)(ns:List Int),ns.length<=n->Og H->SqL (K w.params) H a (ns.map V.int)->sp w [.ref a] H (fun v _=>v = .bl true) fun _ _ _=>False)
  (hCX:∀(w:World)(H:Hp)(s:Shared)(e:Value)(s':Shared),CX w [] H s (fun _ _ _=>False) e s'->False) :
  PySem.W.WalkO q loose XP YP l.row.toRowW d [] (fun f vs=>PySem.call f vs):=by
 refine Att.attach_call hn hdf fun w s₀ s₁ mg mb fa o pm cd doc a vs ns G Y ho hd hcd hmg hobj hints hlen hg=>?_
 have KX:=hY w _ Y
 obtain⟨fd,hb,hF⟩:=F w mg fa _ KX G.T.g hmg
 exact QF KX G.T.g G.T.b G.T.builtins G.T.nolimit hg hobj hints (Nat.le_trans hlen hn2) hr hF hb (fun H hO hS=>hsp w H a ns hlen hO hS) fun H e s'=>hCX w H s₁ e s'
def YN(s:Stmt):Arguments:=match s with
 | .FunctionDef _ a _ _ _ _ _ _ _ _=>a
 | _=>{ posonlyargs:=[],args:=[],vararg:=none,kwonlyargs:=[],kw_defaults:=[],kwarg:=none,defaults:=[] }
def Z7(s:Stmt):List Stmt:=match s with
 | .FunctionDef _ _ b _ _ _ _ _ _ _=>b
 | _=>[]
def Zj(s:Stmt):Scope:=match s with
 | .FunctionDef _ _ _ _ _ _ sc _ _ _=>sc
 | _=>{ kind:=.function,names:=[],isGenerator:=false,isCoroutine:=false }
abbrev S0:QD:=fun _ _ _ _ _ _=>False
abbrev E0:XK:=fun _ _ _=>False
theorem LD{X:Cx}:Si S0 X E0:=fun _ _ _ _ _ _ _ h=>h.elim
structure Fun(K:PySem.W.Frag)(x qual:Str)(st:Stmt)(f:Addr)(fd:FuncData):Prop where
 ex:∃(oc:Value) (od:Option Addr) (kV doc pm:Value) (an:Option Addr) (cdv ct:Value) (osl:Array (Option Value)),
  fd=PySem.W.fnOf x qual (YN st) (Z7 st) (Zj st) .none kV doc pm an cdv ct/\K.lookup f=some ⟨oc,od,.func fd,osl⟩/\PySem.W.codeIn K cdv qual=true
 kp:PySem.W.keepIn K (.ref f)=true
section
variable {P:Program} {w:World} {K:PySem.W.Frag} {mg:Str->Option Value} {base:Heap}
theorem Fun.ok{x qual:Str}{st:Stmt}{f:Addr}{fd:FuncData}{N ps:List Str}{k:Nat}{sp:Sp}(F:Fun K x qual st f fd)(S:ZI N ps (Zj st))(len:∀vs H Q E,sp vs H Q E->vs.length=ps.length)
  (hbody:∀(cdv:Value)(A:Around)(outer:List Env)(s:Shared)(H:Hp)(vs:List V)(Q:VK)(E:XK),Room k (A.deeper (envOfC qual (Zj st) s.heap.objs.size f cdv))->sp vs H Q E->
   ∃t,PSs (VH S0 P w K mg base N qual (Zj st) f cdv A outer s H E).nox (Z7 st) t/\t { nx:=fun _ H'=>Q .non H',rt:=Q } (start N vs) H):Wg P w K mg base S0 (k+1) f fd ps sp:=by
 obtain⟨oc,od,kV,doc,pm,an,cdv,ct,osl,rfl,lk,hcd⟩:=F.ex
 refine Nq lk hcd S len fun A outer s H vs Q E hr hsp=>?_
 obtain⟨t,h,q⟩:=hbody cdv A outer s H vs Q E hr hsp
 exact⟨t,h.nox,q⟩
theorem Fun.binds{x qual:Str}{st:Stmt}{f:Addr}{fd:FuncData}{ps:List Str}(F:Fun K x qual st f fd)
  (h:∀(kV doc pm:Value)(an:Option Addr)(cdv ct:Value)(us:List Value),us.length=ps.length->bindArgs (PySem.W.fnOf x qual (YN st) (Z7 st) (Zj st) .none kV doc pm an cdv ct) ⟨us,[]⟩=pure (ps.zip us)):Binds K fd ps []:=by
 obtain⟨oc,od,kV,doc,pm,an,cdv,ct,osl,rfl,lk,hcd⟩:=F.ex
 exact .all (h kV doc pm an cdv ct)
theorem Ml{x qual:Str}{st:Stmt}{f:Addr}{oc:Value}{od an:Option Addr}{osl:Array (Option Value)}{kV doc pm cdv ct:Value}(l:K.lookup f=some ⟨oc,od,.func (PySem.W.fnOf x qual (YN st) (Z7 st) (Zj st) .none kV doc pm an cdv ct),osl⟩)
  (c:PySem.W.codeIn K cdv qual=true) (k:PySem.W.keepIn K (.ref f)=true):Fun K x qual st f (PySem.W.fnOf x qual (YN st) (Z7 st) (Zj st) .none kV doc pm an cdv ct):=⟨⟨oc,od,kV,doc,pm,an,cdv,ct,osl,rfl,l,c⟩,k⟩
end
section
variable {X:Cx}
theorem pv(i:Nat){x:Str}{pos:Pos}(hN:X.N[i]?=some x:=by rfl)(hv:Kg X.env.scope x:=by first | exact Or.inl rfl | exact Or.inr (Or.inl rfl) | exact Or.inr (Or.inr rfl))(hd:(x==("__debug__" : Str))=false:=by decide)
  (hcd:(x==("__classdict__" : Str))=false:=by decide):PE X (.Name x pos) (NP i):=NQ hN hv hd hcd
end
theorem Mm{A B:Prop}(h:B):if false=true then A else B:=by
 rw[if_neg Bool.false_ne_true];exact h
theorem Mn{A B:Prop}(h:A):if true=true then A else B:=by
 rw[if_pos rfl];exact h
def Same(H H':Hp):Prop:=∀b o,H b=some o->H' b=some o
theorem Same.refl(H:Hp):Same H H:=fun _ _ h=>h
theorem Same.trans{H H1 H2:Hp}(a:Same H H1)(b:Same H1 H2):Same H H2:=fun c o h=>b c o (a c o h)
theorem Same.free{H H':Hp}(e:Same H H'){l:Addr}(h:H' l=Option.none):H l=Option.none:=by
 cases q:H l with
 | none=>rfl
 | some o=>
  rw[e l o q] at h;cases h
end L2
set_option maxHeartbeats 4000000
namespace L2
open PySem PySem.Spec PyProof.Rows
def ZA(cells:List (Str×Addr)):List (Str×NameKind)->List (Str×Addr)->List (Str×Addr)
 | [],acc=>acc
 | (n,k)::r,acc=>ZA cells r (if(k==NameKind.free)=true then(n,(cells.lookup n).getD 0)::acc else acc)
theorem XU{env:Env}:∀(names:List (Str×NameKind))(acc:List (Str×Addr)),(∀y∈names,y.2 = .free->(env.cells.lookup y.1).isSome=true)->
  (forIn (m:=Sem) names acc fun(x:Str×NameKind) (cs:List (Str×Addr))=>
   match x with
   | (name,kind)=>if(kind==NameKind.free)=true then do
     let c <-cellOf env name
     pure (ForInStep.yield ((name,c)::cs))
    else pure (ForInStep.yield cs))=pure (ZA env.cells names acc)
 | [],acc,_=>rfl
 | (n,k)::r,acc,h=>by
  rw[List.forIn_cons]
  have ih:=fun acc'=>XU r acc' fun y hy=>h y (List.mem_cons_of_mem _ hy)
  cases hk:(k==NameKind.free) with
  | true=>
   have hs:=h (n,k) List.mem_cons_self (by simpa using hk)
   obtain⟨c,hc⟩:=Option.isSome_iff_exists.mp hs
   have hc:env.cells.lookup n=some c:=hc
   have e1:cellOf env n=pure c:=by unfold cellOf;rw[hc]
   dsimp only
   rw[hk,if_pos rfl,e1]
   refine Eq.trans (ih ((n,c)::acc)) ?_
   show _=pure (ZA env.cells r (if(k==NameKind.free)=true then(n,(env.cells.lookup n).getD 0)::acc else acc))
   rw[if_pos hk,hc];rfl
  | false=>
   dsimp only
   rw[hk,if_neg Bool.false_ne_true]
   refine Eq.trans (ih acc) ?_
   show _=pure (ZA env.cells r (if(k==NameKind.free)=true then(n,(env.cells.lookup n).getD 0)::acc else acc))
   rw[if_neg (by rw[hk];exact Bool.false_ne_true)]
theorem Y9{scope:Scope}{env:Env}(h:∀y∈scope.names,y.2 = .free->(env.cells.lookup y.1).isSome=true):closureFor scope env=pure (ZA env.cells scope.names []):=by
 have e:=XU (env:=env) scope.names [] h
 unfold closureFor
 dsimp only
 rw[e];rfl
theorem XG{cells:List (Str×Addr)}{x:Str}{c:Addr}:∀(names:List (Str×NameKind))(acc:List (Str×Addr)),(∀y∈names,y.2 = .free->(cells.lookup y.1).isSome=true)->(acc.lookup x=some c->cells.lookup x=some c)->
  (ZA cells names acc).lookup x=some c->cells.lookup x=some c
 | [],_,_,h,e=>h e
 | (n,k)::r,acc,hf,h,e=>by
  refine XG r _ (fun y hy=>hf y (List.mem_cons_of_mem _ hy)) ?_ e
  intro q
  by_cases hk:(k==NameKind.free)=true
  ·rw[if_pos hk,List.lookup_cons] at q
   cases hx:x==n with
   | true=>
    rw[hx] at q
    have exn:x=n:=by simpa using hx
    obtain⟨d,hd⟩:=Option.isSome_iff_exists.mp (hf (n,k) List.mem_cons_self (by simpa using hk))
    have hd:cells.lookup n=some d:=hd
    rw[hd] at q
    rw[exn,hd];exact q
   | false=>rw[hx] at q;exact h q
  ·rw[if_neg hk] at q;exact h q
theorem VN{cells:List (Str×Addr)}{x:Str}:∀(names:List (Str×NameKind))(acc:List (Str×Addr)),(acc.lookup x).isSome=true->((ZA cells names acc).lookup x).isSome=true
 | [],_,h=>h
 | (n,k)::r,acc,h=>by
  refine VN r _ ?_
  split
  ·rw[List.lookup_cons];split<;>simp_all
  ·exact h
theorem WK{cells:List (Str×Addr)}{x:Str}:∀(names:List (Str×NameKind))(acc:List (Str×Addr)),(x,NameKind.free)∈names->((ZA cells names acc).lookup x).isSome=true
 | (n,k)::r,acc,h=>by
  rcases List.mem_cons.mp h with e | h
  ·cases e
   refine VN r _ ?_
   rw[if_pos (by decide),List.lookup_cons]
   simp
  ·exact WK r _ h
structure CompScope(N:List Str)(around scope:Scope)(own fr:List Str)(ix:List Nat):Prop where
 kind:scope.kind = .function
 nocell:∀y∈scope.names,y.2≠.cell
 names:∀y∈scope.names,y.2 = .local->scope.names.lookup y.1=some .local
 frees:∀y∈scope.names,y.2 = .free->(around.names.lookup y.1=some .cell\/around.names.lookup y.1=some .free)
 slots:fr.map some=ix.map (fun i=>N[i]?)
 outs:∀x∈fr,(x,NameKind.free)∈scope.names
 apart:∀x∈fr,scope.names.lookup x≠some .local
def Zi(X:Cx)(N':List Str)(scope:Scope)(cl:List (Str×Addr))(C:Addr)(s:Shared)(H:Hp)(ex:List Addr):Cx:=
 { X with N:=N',s₀:=s,H₀:=H,env:=compEnvC scope cl C X.env,outer:=X.stack,ex:=ex,fn:=fun _=>false,pn:=[],xe:=fun _ _=>False }
def Zt(n:Nat)(ix:List Nat)(U:St):St:=List.replicate n none++ix.map (fun i=>(U[i]?).join)
theorem YO{env:Env}{x:Str}:∀{names:List (Str×NameKind)}{k:NameKind},names.lookup x=some k->
  (names.map fun(n,k)=>if(k==NameKind.free&&env.scope.kind==.function&&env.kindOf n==some .cell) then(n,NameKind.cell) else(n,k)).lookup x =
   some (if(k==NameKind.free&&env.scope.kind==.function&&env.kindOf x==some .cell)=true then NameKind.cell else k)
 | [],_,h=>by simp at h
 | (n,k')::r,k,h=>by
  show List.lookup x ((if(k'==NameKind.free&&env.scope.kind==.function&&env.kindOf n==some .cell)=true then(n,NameKind.cell) else(n,k'))::_)=_
  cases hx:x==n with
  | true=>
   simp only[List.lookup_cons,hx] at h;cases h
   have e:x=n:=by simpa using hx
   subst e
   split
   ·simp[List.lookup_cons]
   ·simp[List.lookup_cons]
  | false=>
   simp only[List.lookup_cons,hx] at h
   split
   ·simp only[List.lookup_cons,hx];exact YO h
   ·simp only[List.lookup_cons,hx];exact YO h
theorem Xi{env:Env}{x:Str}:∀{names:List (Str×NameKind)}{k':NameKind},
  (names.map fun(n,k)=>if(k==NameKind.free&&env.scope.kind==.function&&env.kindOf n==some .cell) then(n,NameKind.cell) else(n,k)).lookup x=some k'->∃k,names.lookup x=some k
 | [],_,h=>by simp at h
 | (n,k0)::r,k',h=>by
  have h:List.lookup x ((if(k0==NameKind.free&&env.scope.kind==.function&&env.kindOf n==some .cell)=true then(n,NameKind.cell) else(n,k0))::_)=some k':=h
  cases hx:x==n with
  | true=>exact⟨k0,by simp[List.lookup_cons,hx]⟩
  | false=>
   have:∃k,r.lookup x=some k:=by
    apply Xi (env:=env) (k':=k')
    split at h<;>simpa [List.lookup_cons,hx] using h
   obtain⟨k,e⟩:=this
   exact⟨k,by simp[List.lookup_cons,hx,e]⟩
section
variable {X:Cx} {pins:List (Addr×Obj)} {U:St} {H:Hp} {s:Shared} {own fr:List Str} {ix:List Nat} {scope:Scope}
theorem CompScope.clos(S:CompScope X.N X.env.scope scope own fr ix)(I:Inv X pins U H s):∀y∈scope.names,y.2 = .free->(X.env.cells.lookup y.1).isSome=true:=fun y hy hf=>by
 obtain⟨c,e⟩:=I.ok.has y.1 (S.frees y hy hf)
 rw[e];rfl
end
theorem Wi{prog:Program}{w:World}{A:Around}{R:Result->Shared->Prop}{s:Shared}{elt target iter:Expr}{ifs:List Expr}{scope:Scope}{pos:Pos}{it acc:Value}{env:Env}(I:Nat->Shared->Prop)
  (turn:∀n s,I n s->wpAny (model prog w) A (pyNext it) (fun r s₁=>match r with
   | none=>R (.ok .next) s₁
   | some v=>wpAny (model prog w) A (letOwnedTupleGo target it v) (fun _ s₁'=>wpAny (model prog w) A (assign target env v) (fun _ s₂=>
     wpAny (model prog w) A (forIn ifs true fun c r=>if r=true then do let ok <-isTrue c env (eval c env);pure (ForInStep.yield ok) else pure (ForInStep.yield r)) (fun ok s₃=>
      if ok=true then wpAny (model prog w) A (eval elt env) (fun x s₄=>
       wpAny (model prog w) A (call (.builtin "list.append") [acc,x]) (fun _ s₅=>∃m,m<n/\I m s₅) (notedBy (model prog w) A env fun e s'=>R (.error e) s') s₄) (notedBy (model prog w) A env fun e s'=>R (.error e) s') s₃
      else ∃m,m<n/\I m s₃) (notedBy (model prog w) A env fun e s'=>R (.error e) s') s₂) (notedBy (model prog w) A env fun e s'=>R (.error e) s') s₁') (notedBy (model prog w) A env fun e s'=>R (.error e) s') s₁) (notedBy (model prog w) A env fun e s'=>R (.error e) s') s)
  (n:Nat) (h:I n s) :
  codeAny (model prog w) A (.compLoop (.ListComp elt [⟨target,iter,ifs,0⟩] scope pos) 0 it acc env) R s:=by
 refine codeAny_loop rfl I (fun n s hI=>?_) n h
 show wpAny _ A ((compTurn (.ListComp elt [⟨target,iter,ifs,0⟩] scope pos) 0 it acc env).onRaise (fun x=>do noteFrame x env;theTreesLotGoes x)) _ _ s
 refine wpAny_noted ?_
 rw[compTurn_list]
 refine wpAny_bind (wpAny_standAt (wpAny_bind (wpAny_mono (turn n s hI) (fun r s₁ h₁=>?_) fun _ _ h'=>h')))
 cases r with
 | none=>exact wpAny_pure h₁
 | some v=>
  refine wpAny_bind (wpAny_mono h₁ (fun _ s₁' h₁'=>?_) fun _ _ h'=>h')
  refine wpAny_bind (wpAny_mono h₁' (fun _ s₂ h₂=>wpAny_bind (wpAny_mono h₂ (fun ok s₃ h₃=>?_) fun _ _ h'=>h')) fun _ _ h'=>h')
  cases ok with
  | false=>exact wpAny_pure ⟨rfl,h₃⟩
  | true=>
   exact wpAny_bind (wpAny_bind (wpAny_mono h₃ (fun x s₄ h₄=>wpAny_bind (wpAny_mono h₄ (fun _ s₅ h₅=>wpAny_pure (wpAny_pure ⟨rfl,h₅⟩)) fun _ _ h'=>h')) fun _ _ h'=>h'))
def Qp(X:Cx)(ifs:List Expr)(t:TT):Prop:=
 ∀(pins:List (Addr×Obj))(s:Shared)(U:St)(H:Hp)(Q:Bool->Hp->Prop),Inv X pins U H s->t U H Q->
  wpAny (model X.prog X.w) X.A (forIn ifs true fun c r=>if r=true then do let ok <-isTrue c X.env (eval c X.env);pure (ForInStep.yield ok) else pure (ForInStep.yield r)) (TP X pins U Q) X.xe s
def LF:TT:=fun _ H Q=>Q true H
theorem Oh{X:Cx}:Qp X [] LF:=fun _ _ _ H _ I h=>wpAny_tests_nil ⟨H,I,h⟩
def LG(n:Nat)(ix:List Nat)(g:TG)(tt:TT)(te:TE)(U:St)(Q:VK)(J:It)(H1:Hp):Prop:=
 ∃W:Nat->Nat->List V->Hp->Prop,(∃m,W 0 m [] H1)/\∀i m ys H,W i m ys H->ys.length<=sizeLine/\
  ((J.stop i H/\∀p,H p=none->Q (.ref p) (YG H p (.lst ys)))\/
   (J.go i H/\∃N:List V->Hp->Prop,(∀ys' H',N ys' H'->∃m',m'<m/\W (i+1) m' ys' H')/\
    ∀x H',J.yld i H x H'->g x (Zt n ix U) H' fun U2 H2=>U2.drop n=(Zt n ix U).drop n/\tt U2 H2 fun b H3=>if b=true then te U2 H3 fun y H4=>N (ys++[y]) H4 else N ys H3))
def UD(n:Nat)(ix:List Nat)(wi:TI)(g:TG)(tt:TT)(te:TE):TE:=fun U H Q=>wi U H fun J H1=>LG n ix g tt te U Q J H1
theorem UE{n:Nat}{ix:List Nat}{U U2:St}(hd:U2.drop n=(Zt n ix U).drop n):∀(i:Nat) v,(Zt n ix U)[i]?=some (some v)->U2[i]?=some (some v):=fun i v e=>by
 by_cases hi:i<n
 ·unfold Zt at e
  rw[List.getElem?_append_left (by simpa using hi),List.getElem?_replicate] at e
  rw[if_pos hi] at e;cases e
 ·have q:=congrArg (fun l=>l[i-n]?) hd
  simp only[List.getElem?_drop] at q;rw[show n+(i-n)=i by omega] at q
  rw[q];exact e
section
variable {X:Cx} {tg elt iter:Expr} {ifs:List Expr} {scope:Scope} {pos:Pos} {own fr:List Str} {ix:List Nat} {wi:TI} {g:TG} {tt:TT} {te:TE}
theorem Tt{pins:List (Addr×Obj)}{U:St}{H2:Hp}{s2:Shared}{fp:List Addr}{h₁:Heap}{tk:Nat}{C:Addr}(S:CompScope X.N X.env.scope scope own fr ix)(I2:Inv X pins U H2 s2)(f2:∀b∈fp,Xv X pins H2 b)(hfp:∀b∈fp,b<s2.heap.objs.size)
  (hC:s2.heap.objs.size<=C) (hns:h₁.Ns C fun _=>none) (old:∀b o,s2.heap.get? b=some o->h₁.get? b=some o) :
  Inv (Zi X (own++fr) scope (ZA X.env.cells scope.names []) C s2 H2 fp) [] (Zt own.length ix U) H2 { s2 with heap:=h₁,toks:=tk }:=by
 have cs:=S.clos I2
 have sub:∀x c,(ZA X.env.cells scope.names []).lookup x=some c->X.env.cells.lookup x=some c:=fun x c e=>XG scope.names [] cs (fun h=>by simp at h) e
 have stk:=I2.stkSub
 have okk:(Zi X (own++fr) scope (ZA X.env.cells scope.names []) C s2 H2 fp).Ok:=by
  refine⟨I2.ok.mod,S.kind,I2.ok.glob,I2.ok.blt,hC,fun x y c h1 h2=>I2.ok.inj x y c (sub x c h1) (sub y c h2),fun x hx=>?_,fun x c h _=>?_,I2.ok.hd,I2.ok.frames,.inl rfl,fun b hb=>⟨?_,fun x c e=>?_⟩,I2.bs,?_,fun b o e hb=>?_,fun b hb z=>?_,I2.stack,I2.stkFree⟩
  ·-- the cells of the block's free names
   have hx:(relabel scope X.env).names.lookup x=some .cell\/(relabel scope X.env).names.lookup x=some .free:=hx
   have key:(x,NameKind.free)∈scope.names:=by
    have:∃k',(relabel scope X.env).names.lookup x=some k'/\(k' = .cell\/k' = .free):=by
     rcases hx with h | h
     ·exact⟨_,h,.inl rfl⟩
     ·exact⟨_,h,.inr rfl⟩
    obtain⟨k',e,hk'⟩:=this
    obtain⟨k,e0⟩:=Xi e
    have e1:=YO (env:=X.env) e0
    have e:(scope.names.map fun(n,k)=>if(k==NameKind.free&&X.env.scope.kind==.function&&X.env.kindOf n==some .cell) then(n,NameKind.cell) else(n,k)).lookup x=some k':=e
    rw[e1] at e;have m:=PySem.mem_of_lookup e0
    cases k with
    | free=>exact m
    | cell=>exact absurd rfl (S.nocell _ m)
    | _=>simp at e;subst e;rcases hk' with z | z<;>cases z
   exact Option.isSome_iff_exists.mp (WK _ _ key)
  ·cases h
  ·-- fp differs from the frame
   exact Nat.ne_of_lt (Nat.lt_of_lt_of_le (hfp b hb) hC)
  ·exact(f2 b hb).2.2.2.2.1 x c (sub x c e)
  ·exact Nat.le_trans I2.ok.bsz I2.sz
  ·rcases(f2 b hb).2.2.2.1 with z | z
   ·exact I2.ok.noex b o e z
   ·exact absurd (Nat.lt_of_lt_of_le (Heap.lt_size (I2.ok.bs b o e).1) z) (Nat.lt_irrefl _)
  ·rcases List.mem_cons.mp (stk b z) with e | e
   ·exact(f2 b hb).2.1 e
   ·exact(f2 b hb).2.2.1 e
 have sl:fr.length=ix.length:=by simpa using congrArg List.length S.slots
 refine⟨okk,rfl,I2.bare,Un.kept old,⟨_,hns,fun i x v h1 h2 h3=>?_⟩,fun x c e=>?_,I2.hok.fresh hC,fun x c e=>I2.freeC x c (sub x c e),fun p hp=>absurd (show p∈([]:List (Addr×Obj)) from hp) (by simp),I2.hok.kept old,?_⟩
 ·-- a name of the def around
  have h1:(own++fr)[i]?=some x:=h1
  have hi:¬i<own.length:=fun hi=>by
   unfold Zt at h2;rw[List.getElem?_append_left (by simpa using hi),List.getElem?_replicate,if_pos hi] at h2;cases h2
  rw[List.getElem?_append_right (by omega)] at h1;unfold Zt at h2;rw[List.getElem?_append_right (by simpa using hi),List.length_replicate,List.getElem?_map] at h2
  cases ej:ix[i-own.length]? with
  | none=>rw[ej] at h2;cases h2
  | some j=>
   rw[ej] at h2
   have h2:(U[j]?).join=some v:=by simpa using h2
   have h2:U[j]?=some (some v):=by
    cases q:U[j]? with
    | none=>rw[q] at h2;cases h2
    | some z=>rw[q] at h2;exact congrArg some h2
   have hN:X.N[j]?=some x:=by
    have q:=congrArg (fun l=>l[i-own.length]?) S.slots
    simp only[List.getElem?_map,h1,ej,Option.map_some] at q
    exact(Option.some.inj q).symm
   have hm:=S.outs x (List.mem_of_getElem? h1)
   have hk:=S.frees _ hm rfl
   have hk:X.env.scope.names.lookup x=some .cell\/X.env.scope.names.lookup x=some .free:=hk
   obtain⟨m,hn,hl⟩:=I2.loc
   obtain⟨u,r,l⟩:=hl j x v hN h2 (by rcases hk with k | k;exact .inr (.inl k);exact .inr (.inr k))
   refine⟨u,r,?_⟩
   rcases l with⟨k,_⟩ | ⟨_,c,hc,hcell⟩
   ·have k:X.env.scope.names.lookup x=some .local:=k
    rcases hk with q | q<;>rw[k] at q<;>cases q
   ·obtain⟨c',hc'⟩:=Option.isSome_iff_exists.mp (WK (cells:=X.env.cells) _ [] hm)
    have ec:=sub x c' hc'
    rw[hc] at ec;cases ec
    refine .inr ⟨?_,c,hc',?_⟩
    ·have h3:(relabel scope X.env).names.lookup x=some .local\/(relabel scope X.env).names.lookup x=some .cell\/(relabel scope X.env).names.lookup x=some .free:=h3
     rcases h3 with h3 | h3
     ·obtain⟨k0,e0⟩:=Xi h3
      have e1:=YO (env:=X.env) e0
      have h3:(scope.names.map fun(n,k)=>if(k==NameKind.free&&X.env.scope.kind==.function&&X.env.kindOf n==some .cell) then(n,NameKind.cell) else(n,k)).lookup x=some .local:=h3
      rw[e1] at h3
      have k0l:k0 = .local:=by
       cases k0<;>simp at h3 ⊢
       split at h3<;>cases h3
      subst k0l
      exact absurd e0 (S.apart x (List.mem_of_getElem? h1))
     ·exact h3
    ·obtain⟨o,ho,hd⟩:=hcell
     exact⟨o,old _ _ ho,hd⟩
 ·obtain⟨v,o,ho,hd⟩:=I2.cell x c (sub x c e)
  exact⟨v,o,old _ _ ho,hd⟩
 ·show(Zt own.length ix U).length=(own++fr).length
  unfold Zt;rw[List.length_append,List.length_replicate,List.length_map,List.length_append,sl]
theorem VP{pins:List (Addr×Obj)}{U:St}{H2:Hp}{s2:Shared}{fp:List Addr}{it:Addr}{tn:Nat->Heap->Prop}{J:It}{Fin:List V->Hp->Prop}{RR:Value->Addr->Result->Shared->Prop}{E:Value->Shared->Prop}
  (hcalm:X.calm=true) (S:CompScope X.N X.env.scope scope own fr ix)
  (hg:∀cl C s H ex,PG (Zi X (own++fr) scope cl C s H ex) tg g) (ht:∀cl C s H ex,Qp (Zi X (own++fr) scope cl C s H ex) ifs tt) (he:∀cl C s H ex,PE (Zi X (own++fr) scope cl C s H ex) elt te)
  (I2:Inv X pins U H2 s2) (T:Sb X.prog X.w X.K tg J fp it tn) (st2:tn 0 s2.heap) (f2:∀b∈fp,Xv X pins H2 b)
  {W:Nat->Nat->List V->Hp->Prop} {m0:Nat} (w0:W 0 m0 [] H2)
  (turn:∀i m ys H,W i m ys H->ys.length<=sizeLine/\
   ((J.stop i H/\Fin ys H)\/
    (J.go i H/\∃N:List V->Hp->Prop,(∀ys' H',N ys' H'->∃m',m'<m/\W (i+1) m' ys' H')/\
     ∀x H',J.yld i H x H'->g x (Zt own.length ix U) H' fun U2 H2=>U2.drop own.length=(Zt own.length ix U).drop own.length/\tt U2 H2 fun b H3=>if b=true then te U2 H3 fun y H4=>N (ys++[y]) H4 else N ys H3)))
  (hRR:∀(D C:Addr)(oC:Obj)(m:Str->Option Value)(s':Shared)(H':Hp)(ys:List V),Inv X (pins++[(C,oC)]) U (YG H' D (.lst ys)) s'->s'.heap.get? C=some oC->s'.heap.Ns C m->Xv X pins (YG H' D (.lst ys)) C->H' D=none->Fin ys H'->RR (.ref D) C (.ok .next) s') :
  wpAny (model X.prog X.w) X.A (newList []) (fun acc s₃=>wpAny (model X.prog X.w) X.A (newFunctionEnv scope X.env.globals (ZA X.env.cells scope.names []) [] X.env.qual none .none (some X.env)) (fun cenv s₄=>
   codeAny (model X.prog X.w) X.A (.compStart (.ListComp elt [⟨tg,iter,ifs,0⟩] scope pos) 0 (.ref it) acc { cenv with scope:=relabel scope X.env }) (RR acc cenv.locals) s₄) E s₃) E s2:=by
 have hfp:∀b∈fp,b<s2.heap.objs.size:=fun b hb=>by
  obtain⟨o,e,_⟩:=T.obj 0 s2.heap st2 b hb
  exact Heap.lt_size e
 refine wpAny_newObj_type (wpAny_newFunctionEnv S.nocell (by intro y hy;simp at hy) (fun h₁ hns₁ hsb₁=>?_) S.kind)
 dsimp only at hns₁ hsb₁ ⊢
 generalize hH2:s2.heap.push { cls:=.type "list",dict:=none,data:=.seq ([]:List Value).toArray }=G2 at hns₁ hsb₁ ⊢
 have hC:G2.objs.size=s2.heap.objs.size+1:=by rw[<-hH2,Heap.size_push]
 generalize hCC:G2.objs.size=C at hns₁ hsb₁ hC ⊢
 generalize hDD:s2.heap.objs.size=D at hC ⊢
 have hDC:D≠C:=by omega
 have below:∀b,b<s2.heap.objs.size->b≠C/\b≠D:=fun b hb=>by
  rw[hDD] at hb
  exact⟨Nat.ne_of_lt (by omega),Nat.ne_of_lt hb⟩
 have old:∀b o,s2.heap.get? b=some o->h₁.get? b=some o:=fun b o e=>hsb₁.extBut b o (below b (Heap.lt_size e)).1 (Heap.get?_push_of_some _ (hH2▸Heap.get?_push_of_some _ e))
 have hacc:h₁.get? D=some { cls:=.type "list",data:=.seq ([]:List Value).toArray 0 }:=by
  have e0:G2.get? D=some { cls:=.type "list",data:=.seq ([]:List Value).toArray 0 }:=by
   rw[<-hH2,<-hDD]
   exact Heap.get?_push_size _ rfl
  exact hsb₁.extBut _ _ hDC (Heap.get?_push_of_some _ e0)
 have hns₁':h₁.Ns C fun _=>none:=by simpa using hns₁
 have I0:=fun tk=>Tt (tk:=tk) S I2 f2 hfp (C:=C) (by omega) hns₁' old
 -- what stays true of the iterator's objects in the block
 have loop:∀s₃:Shared,s₃={ s2 with heap:=h₁,toks:=s2.toks+([]:List (Str×Value)).length }->
   codeAny (model X.prog X.w) X.A (.compLoop (.ListComp elt [⟨tg,iter,ifs,0⟩] scope pos) 0 (.ref it) (.ref D) (compEnvC scope (ZA X.env.cells scope.names []) C X.env)) (RR (.ref D) C) s₃:=by
  rintro s₃ rfl
  generalize hY:Zi X (own++fr) scope (ZA X.env.cells scope.names []) C s2 H2 fp=Y at I0
  have stat:∀{H':Hp}{pn:List (Addr×Obj)},(∀b∈fp,H' b=none)->(∀p∈pn,∀b∈fp,p.1≠b)->∀b∈fp,Xv Y pn H' b:=fun{H' pn} hn hp b hb=>by
   subst hY
   refine⟨hn b hb,(below b (hfp b hb)).1,fun z=>?_,.inl hb,fun x c e=>?_,fun p hp'=>hp p hp' b hb⟩
   ·exact(I0 0).ok.exfs b hb z
   ·exact((I0 0).ok.exf b hb).2 x c e
  have dfp:∀b∈fp,D≠b:=fun b hb=>Ne.symm (below b (hfp b hb)).2
  have hcellD:∀x c,Y.env.cells.lookup x=some c->c≠D:=fun x c e z=>by
   subst hY
   have e:(ZA X.env.cells scope.names []).lookup x=some c:=e
   have e':=XG scope.names [] (S.clos I2) (fun h=>by simp at h) e
   obtain⟨v,q⟩:=I2.cell x c e'
   exact(below c q.lt).2 z
  have hfsD:D∉Y.fs:=fun z=>by
   subst hY
   obtain⟨_,o,ho,_⟩:=(I0 0).ok.funs.mem z
   have:=Heap.lt_size ho
   have:D<s2.heap.objs.size:=this
   omega
  have eL:Y.env.locals=C:=by subst hY;rfl
  have eS:Y.s₀=s2:=by subst hY;rfl
  have eP:Y.pn=[]:=by subst hY;rfl
  refine Wi (fun n s'=>∃i ys its nn H',Inv Y [] (Zt own.length ix U) H' s'/\tn i s'.heap/\(∀b∈fp,H' b=none)/\s'.heap.get? D=some { cls:=.type "list",data:=.seq its nn }/\Vals ys its.toList/\H' D=none/\W i n ys H') ?_ m0
   ⟨0,[],#[],0,H2,I0 _,T.keep _ _ _ st2 fun b _ o e=>old b o e,fun b hb=>(f2 b hb).1,hacc,.nil,I2.hok.fresh (by omega),w0⟩
  rintro n s3 ⟨i,ys,its,nn,H3,I3,st3,fr3,oD,vD,nD,w3⟩
  obtain⟨hlen,cases3⟩:=turn i n ys H3 w3
  have hsize:its.size<=sizeLine:=by
   have:=vD.length
   simp only[Array.length_toList] at this;omega
  have pD:Inv Y [(D,{ cls:=.type "list",data:=.seq its nn })] (Zt own.length ix U) H3 s3:=I3.pins_of fun p hp=>by
   rw[List.mem_singleton.mp hp]
   exact⟨oD,nD,by rw[eL];exact hDC,hfsD,fun v z=>by cases z⟩
  have YP:Y.prog=X.prog:=by subst hY;rfl
  have Yw:Y.w=X.w:=by subst hY;rfl
  have YK:Y.K=X.K:=by subst hY;rfl
  have YA:Y.A=X.A:=by subst hY;rfl
  have Yx:Y.xe=fun _ _=>False:=by subst hY;rfl
  have Ye:Y.env=compEnvC scope (ZA X.env.cells scope.names []) C X.env:=by subst hY;rfl
  have ne1:∀p∈[((D,{ cls:=.type "list",data:=.seq its nn }):Addr×Obj)],∀b∈fp,p.1≠b:=fun p hp b hb=>by rw[List.mem_singleton.mp hp];exact dfp b hb
  rcases cases3 with⟨stop,qn⟩ | ⟨go,N,hN,step⟩
  ·have d:=T.done Y YP Yw YK (by subst hY;exact hcalm) i _ s3 _ H3 (notedBy (model X.prog X.w) X.A (compEnvC scope (ZA X.env.cells scope.names []) C X.env) fun e s'=>RR (.ref D) C (.error e) s') pD (stat fr3 ne1) st3 stop
   rw[YA] at d
   refine Z4 d fun r s4 ⟨hr,I4⟩=>?_
   subst hr
   show RR (.ref D) C (.ok .next) s4
   obtain⟨oD4,nD4,_⟩:=I4.pin (D,_) (by rw[eP];exact List.mem_cons_self)
   obtain⟨m,hn,_⟩:=I4.loc
   rw[eL] at hn
   obtain⟨oC,es,ep,hoC,hdC,hrest⟩:=id hn
   have hfreeC:H3 C=none:=by have:=I4.free;rw[eL] at this;exact this
   have un:Un (Tj X.stack) fp H2 H3 s2.heap s4.heap:=by
    have:=I4.base
    subst hY;exact this
   have lt2:∀b o,s2.heap.get? b=some o->b≠D:=fun b o e=>(below b (Heap.lt_size e)).2
   have un':Un (Tj X.stack) fp H2 (YG H3 D (.lst ys)) s2.heap s4.heap:=by
    refine⟨un.keep,un.slot,fun b o e n hx=>?_,un.there,fun b xs e=>?_,fun b o u e=>?_,fun b ps e=>?_⟩
    ·rw[Zq (lt2 b o e)];exact un.free b o e n hx
    ·have q:=un.tups b xs e
     rw[Zq (Zv q nD4)];exact q
    ·have q:=un.frzs b o u e
     rw[Zq (Zv q nD4)];exact q
    ·obtain⟨more,q⟩:=un.tbls b ps e
     exact⟨more,by rw[Zq (Zv q nD4)];exact q⟩
   have hok4:HOk X.prog X.w H3 s4.heap:=by
    have:=I4.hok
    rw[YP,Yw] at this;exact this
   have hok':HOk X.prog X.w (YG H3 D (.lst ys)) s4.heap:=fun b u q=>by
    by_cases hb:b=D
    ·subst hb
     rw[Zw] at q;cases q
     exact⟨hlen,its.toList,nn,vD,by simpa using oD4⟩
    ·rw[Zq hb] at q
     exact(hok4 b u q).stay (fun c v _ z=>z) (fun c z=>by rw[Zq (Zv z nD4)];exact z) fun c xs z=>by rw[Zq (Zv z nD4)];exact z
   have os4:s4.os=s2.os:=by rw[I4.os,eS]
   have I5:Inv X pins U (YG H3 D (.lst ys)) s4:=I2.call' os4 un' hok' I4.bare fun b hb=>⟨(f2 b hb).2.2.2.1,(f2 b hb).2.1,(f2 b hb).2.2.2.2.1,(f2 b hb).2.2.2.2.2⟩
   have CL:C≠X.env.locals:=fun z=>by
    exact(below _ I2.lt).1 z.symm
   have fpC:Xv X pins (YG H3 D (.lst ys)) C:=I2.fpOk (by omega) (by rw[Zq (Ne.symm hDC)];exact hfreeC)
   refine hRR D C oC m s4 H3 ys (I5.pins_of fun p hp=>?_) hoC hn fpC nD4 qn
   rcases List.mem_append.mp hp with z | z
   ·exact I5.pin p (List.mem_append_right _ z)
   ·rw[List.mem_singleton.mp z]
    exact⟨hoC,fpC.1,fpC.2.1,fpC.2.2.1,fun v z=>by rw[hdC] at z;cases z⟩
  ·have d:=T.item Y YP Yw YK (by subst hY;exact hcalm) i _ s3 _ H3 (fun _ _=>False) pD (stat fr3 ne1) st3 go
   rw[YA] at d
   refine wpAny_mono d (fun r s4 ⟨u,hr,h4⟩=>?_) fun _ _ z=>z.elim
   subst hr
   refine wpAny_mono h4 (fun _ s5 ⟨x,H5,I5,r5,y5,st5,fr5⟩=>?_) fun _ _ z=>z.elim
   have I5':=I5.pinned (stat fr5 ne1) (T.obj _ _ st5)
   have hg':=hg (ZA X.env.cells scope.names []) C s2 H2 fp
   have ht':=ht (ZA X.env.cells scope.names []) C s2 H2 fp
   have he':=he (ZA X.env.cells scope.names []) C s2 H2 fp
   rw[hY] at hg' ht' he'
   have a6:=hg' _ s5 _ H5 x u _ I5' r5 (step x H5 y5)
   rw[YP,Yw,YA,Ye,Yx] at a6
   refine wpAny_mono a6 (fun _ s6 ⟨U6,H6,I6,dr,q6⟩=>?_) fun _ _ z=>z.elim
   have a7:=ht' _ s6 U6 H6 _ I6 q6;rw[YP,Yw,YA,Ye,Yx] at a7
   refine wpAny_mono a7 (fun ok s7 ⟨H7,I7,q7⟩=>?_) fun _ _ z=>z.elim
   have back:∀{H8:Hp}{s8:Shared},Inv Y ([((D,{ cls:=.type "list",data:=.seq its nn }):Addr×Obj)]++Xw fp s5.heap) U6 H8 s8->
     s8.heap.get? D=some { cls:=.type "list",data:=.seq its nn }/\H8 D=none/\tn (i+1) s8.heap/\(∀b∈fp,H8 b=none):=fun{H8 s8} I8=>by
    obtain⟨e1,e2,_⟩:=I8.pin (D,{ cls:=.type "list",data:=.seq its nn }) (by rw[eP];exact List.mem_cons_self)
    refine⟨e1,e2,T.keep _ _ _ st5 fun b hb o e=>(I8.pin (b,o) (by rw[eP];exact List.mem_cons_of_mem _ (Yj hb e))).1,fun b hb=>?_⟩
    obtain⟨o,e,_⟩:=T.obj _ _ st5 b hb
    exact(I8.pin (b,o) (by rw[eP];exact List.mem_cons_of_mem _ (Yj hb e))).2.1
   have unp:∀{H8:Hp}{s8:Shared},Inv Y ([((D,{ cls:=.type "list",data:=.seq its nn }):Addr×Obj)]++Xw fp s5.heap) U6 H8 s8->Inv Y [] (Zt own.length ix U) H8 s8:=fun{H8 s8} I8=>
    (I8.pins_of (pins':=[]) fun p hp=>absurd hp (by simp)).weak (by
     have e1:=(I0 0).len
     have e2:=I8.len
     rw[e1,e2]) (UE dr)
   cases ok with
   | false=>
    rw[if_neg Bool.false_ne_true] at q7
    show ∃m,m<n/\_
    obtain⟨e1,e2,e3,e4⟩:=back I7
    obtain⟨m',hm,w7⟩:=hN _ _ q7
    exact⟨m',hm,i+1,ys,its,nn,H7,unp I7,e3,e4,e1,vD,e2,w7⟩
   | true=>
    rw[if_pos rfl] at q7
    show wpAny _ _ _ _ _ _
    have a8:=he' _ s7 U6 H7 _ I7 q7;rw[YP,Yw,YA,Ye,Yx] at a8
    refine wpAny_mono a8 (fun yv s8 ⟨y,H8,I8,ry,q8⟩=>?_) fun _ _ z=>z.elim
    obtain⟨e1,e2,e3,e4⟩:=back I8
    obtain⟨m',hm,w8⟩:=hN _ _ q8
    refine append_at e1 (fun h9 hs9 hD9=>?_) hsize
    have I9:Inv Y [] (Zt own.length ix U) H8 { s8 with heap:=h9 }:=(unp I8).turned (t':=s8.toks) (it:=D) (fun b o hb e=>hs9.extBut b o hb e) e2 (by rw[eL];exact hDC) (.inr (by rw[eS];omega)) hcellD (fun p hp=>absurd (show p∈([]:List (Addr×Obj)) by rw[eP] at hp;exact hp) (by simp))
    refine⟨m',hm,i+1,ys++[y],its.push yv,nn+1,H8,I9,T.keep _ _ _ e3 fun b hb o e=>hs9.extBut b o (Ne.symm (dfp b hb)) e,e4,hD9,?_,e2,w8⟩
    rw[Array.toList_push]
    exact vD.append (.cons ry .nil)
 exact codeAny_compStart_list (loop _ rfl) (T.self X.A 0 _ _ _ (T.keep _ _ _ st2 fun b _ o e=>old b o e) (loop _ rfl))
theorem Oi(hcalm:X.calm=true)(hi:PI X tg iter wi)(S:CompScope X.N X.env.scope scope own fr ix)
  (hg:∀cl C s H ex,PG (Zi X (own++fr) scope cl C s H ex) tg g) (ht:∀cl C s H ex,Qp (Zi X (own++fr) scope cl C s H ex) ifs tt) (he:∀cl C s H ex,PE (Zi X (own++fr) scope cl C s H ex) elt te)
  (hs:∀x,foldedSetIterable iter X.env x=pure x:=by intro _;rfl):PE X (.ListComp elt [⟨tg,iter,ifs,0⟩] scope pos) (UD own.length ix wi g tt te):=by
 intro pins s U H Q I h;rw[eval_ListComp]
 refine wpAny_comprehension_free (use:=none) (cl:=ZA X.env.cells scope.names []) rfl hs (Y9 (S.clos I)) S.kind S.names (Z4 (hi pins s U H _ I h) fun v s1 h1=>Z4 h1 fun itv s2 h2=>?_)
 obtain⟨it,fp,tn,J,H2,e,I2,T,st2,f2,W,⟨m0,w0⟩,turn⟩:=h2
 subst e
 refine VP (Fin:=fun ys H=>∀p,H p=none->Q (.ref p) (YG H p (.lst ys))) (RR:=fun acc C=>compPost (model X.prog X.w) X.A X.xe none (EP X pins U Q) acc C) hcalm S hg ht he I2 T st2 f2 w0 turn ?_
 intro D C oC m s' H' ys I5 hoC hn fpC nD fin
 refine⟨m,hn,fun h' hs'=>⟨.ref D,YG H' D (.lst ys),?_,rfl,fin D nD⟩⟩
 exact(I5.unpinned (pl:=[(C,oC)])).turned (t':=s'.toks) (it:=C) (fun b o hb e=>hs'.extBut b o hb e) fpC.1 fpC.2.1 fpC.2.2.2.1 fpC.2.2.2.2.1 fpC.2.2.2.2.2
theorem Oj{i:Nat}{y:Str}{py spos:Pos}(hN:X.N.Nodup)(hy:X.N[i]?=some y)(hloc:X.env.scope.names.lookup y=some .local)(hcalm:X.calm=true)(hi:PI X tg iter wi)(S:CompScope X.N X.env.scope scope own fr ix)
  (hg:∀cl C s H ex,PG (Zi X (own++fr) scope cl C s H ex) tg g) (ht:∀cl C s H ex,Qp (Zi X (own++fr) scope cl C s H ex) ifs tt) (he:∀cl C s H ex,PE (Zi X (own++fr) scope cl C s H ex) elt te)
  (hsw:swapsWith (.ListComp elt [⟨tg,iter,ifs,0⟩] scope pos) (some (.Name y py)) spos.line X.env=pure true:=by rfl)
  (hs:∀x,foldedSetIterable iter X.env x=pure x:=by intro _;rfl):PS X (.Assign [.Name y py] (.ListComp elt [⟨tg,iter,ifs,0⟩] scope pos) spos) (P0 (UD own.length ix wi g tt te) (Vb i)):=by
 intro pins s U H D0 I h;rw[exec_Assign_Name_used _ _ _ _ hsw]
 refine wpAny_bind (wpAny_standAt (wpAny_bind ?_))
 show wpAny _ X.A (do let _ <-comprehension (.ListComp elt [⟨tg,iter,ifs,0⟩] scope pos) scope X.env _ (newList []) false (eval iter X.env) (some (assign (.Name y py) X.env))) _ _ s
 refine wpAny_bind (wpAny_mono (wpAny_comprehension_free (cl:=ZA X.env.cells scope.names []) (use:=some (assign (.Name y py) X.env)) (Q:=fun _ s'=>SP X pins D0 .next s') (E:=X.xe) rfl hs (Y9 (S.clos I)) S.kind S.names
  (Z4 (hi pins s U H _ I h) fun v s1 h1=>Z4 h1 fun itv s2 h2=>?_)) (fun _ s' hq=>wpAny_pure (wpAny_pure hq)) fun _ _ e=>e)
 obtain⟨it,fp,tn,J,H2,e,I2,T,st2,f2,W,⟨m0,w0⟩,turn⟩:=h2
 subst e
 refine VP (Fin:=fun ys H=>∀p,H p=none->Vb i (.ref p) U (YG H p (.lst ys)) D0.nx) (RR:=fun acc C=>compPost (model X.prog X.w) X.A X.xe (some (assign (.Name y py) X.env)) (fun _ s'=>SP X pins D0 .next s') acc C) hcalm S hg ht he I2 T st2 f2 w0 turn ?_
 intro D C oC m s' H' ys I5 hoC hn fpC nD fin
 show wpAny _ X.A (assign (.Name y py) X.env (.ref D)) _ _ _
 refine wpAny_assign_Name (Xu I5 hN hy (.inl hloc) (v:=.ref D) rfl (fun s6 I6=>?_) (.inr hloc))
 obtain⟨e6,_⟩:=I6.pin (C,oC) (List.mem_append_right _ (List.mem_append_right _ List.mem_cons_self))
 obtain⟨o',es,ep,ho',r'⟩:=hn
 rw[hoC] at ho';cases ho'
 refine⟨m,⟨oC,es,ep,e6,r'⟩,fun h' hs'=>⟨_,YG H' D (.lst ys),?_,fin D nD⟩⟩
 exact(I6.unpinned (pl:=[(C,oC)])).turned (t':=s6.toks) (it:=C) (fun b o hb e=>hs'.extBut b o hb e) fpC.1 fpC.2.1 fpC.2.2.2.1 fpC.2.2.2.2.1 fpC.2.2.2.2.2
end
open AutoSeq1 (wpAny_loadPart')
def SeqB(b:Bool)(h:Heap)(a:Addr)(its:Array Value):Prop:=if b=true then h.IsList a its else h.IsTuple a its
def IterB(b:Bool)(h:Heap)(it a:Addr)(i:Nat):Prop:=if b=true then h.IsListIter it a i else h.IsTupleIter it a i
def LH(b:Bool)(K:PySem.W.Frag)(H:Hp)(a:Addr)(xs:List V):Prop:=if b=true then SqL K H a xs else SqT K H a xs
def Nr(b:Bool)(a:Addr):Obj:={ cls:=.type (if b=true then "list_iterator" else "tuple_iterator"),data:=.fields #[.ref a,.int 0 0] }
theorem SeqB.at{b:Bool}{h h':Heap}{a:Addr}{its:Array Value}(x:SeqB b h a its)(k:∀o,h.get? a=some o->h'.get? a=some o):SeqB b h' a its:=by
 cases b with
 | true=>obtain⟨o,e,r⟩:=(show h.IsList a its from x);exact⟨o,k o e,r⟩
 | false=>obtain⟨o,e,r⟩:=(show h.IsTuple a its from x);exact⟨o,k o e,r⟩
theorem SeqB.has{b:Bool}{h:Heap}{a:Addr}{its:Array Value}(x:SeqB b h a its):∃o,h.get? a=some o:=by
 cases b with
 | true=>obtain⟨o,e,r⟩:=(show h.IsList a its from x);exact⟨o,e⟩
 | false=>obtain⟨o,e,r⟩:=(show h.IsTuple a its from x);exact⟨o,e⟩
theorem IterB.new{b:Bool}{h:Heap}{it a:Addr}(e:h.get? it=some (Nr b a)):IterB b h it a 0:=by
 cases b with
 | true=>exact⟨_,e,rfl,rfl⟩
 | false=>exact⟨_,e,rfl,rfl⟩
section
variable {X:Cx} {pins:List (Addr×Obj)} {U:St} {H:Hp} {s:Shared} {a:Addr} {xs ys:List V} {b:Bool}
theorem Inv.seqB(I:Inv X pins U H s)(h:LH b X.K H a xs):∃its:List Value,Vals xs its/\SeqB b s.heap a its.toArray/\xs.length<=sizeLine:=by
 cases b with
 | true=>
  obtain⟨its,r,p,z⟩:=I.list (show SqL X.K H a xs from h)
  exact⟨its,r,p.isList,z⟩
 | false=>
  obtain⟨its,r,p,z⟩:=I.tuple (show SqT X.K H a xs from h)
  exact⟨its,r,p,z⟩
end
theorem Vc{prog:Program}{w:World}{A:Around}{E:Value->Shared->Prop}{s:Shared}{b:Bool}{a:Addr}{its:Array Value}{Q:Value->Shared->Prop}(h:SeqB b s.heap a its)
  (hQ:Q (.ref s.heap.objs.size) { s with heap:=s.heap.push (Nr b a) }):wpAny (model prog w) A (pyIter (.ref a)) Q E s:=by
 cases b with
 | true=>exact wpAny_pyIter_list (show s.heap.IsList a its from h) hQ
 | false=>exact wpAny_pyIter_tuple (show s.heap.IsTuple a its from h) hQ
end L2
namespace L2
open PySem PySem.Spec PyProof.Rows
theorem Walks.seqB{prog:Program}{w:World}{A:Around}(b:Bool)(hh:A.handled=none)(I ax:Addr)(hne:ax≠I)(items:Array Value) :
  Walks prog w A I [I,ax] [I] items.size (fun i v=>items[i]?=some v) (fun i h=>IterB b h I ax i/\SeqB b h ax items):=by
 cases b with
 | true=>exact Walks.list hh I ax hne items
 | false=>exact Walks.tuple hh I ax hne items
section
variable {X:Cx}
theorem call_sumR(hc:X.calm=true):Xb X (.builtin "sum") (fun xs H Q=>∃(b:Bool) (p:Addr) (ns:List Int),xs=[.ref p]/\LH b X.K H p (ns.map V.int)/\Q (.int ns.sum) H):=by
 intro pins s U H xs us Q I r h
 obtain⟨b,p,ns,rfl,hq,q⟩:=h
 obtain⟨u,rfl,rx⟩:=Xx r
 cases rx
 obtain⟨its,rv,hseq,hz⟩:=I.seqB hq
 have hp:p<s.heap.objs.size:=let⟨_,e⟩:=hseq.has;Heap.lt_size e
 refine call_sum_walkG (Vc hseq ?_)
 refine⟨_,_,_,_,_,_,fun i=>ns.getD i 0,rfl,Walks.seqB (A:=X.A.in1) b (I.ok.hd hc) s.heap.objs.size p (Nat.ne_of_lt hp) its.toArray,⟨IterB.new (Heap.get?_push_size _ rfl),hseq.at fun o e=>Heap.get?_push_of_some _ e⟩,fun c hcm=>?_,fun i v hv=>?_,fun h' tk t' hk=>?_⟩
 ·show c<(s.heap.push _).objs.size
  rw[Heap.size_push]
  rcases List.mem_cons.mp hcm with rfl | hcm
  ·exact Nat.lt_succ_self _
  ·rw[List.mem_singleton.mp hcm];exact Nat.lt_succ_of_lt hp
 ·have hv:its.toArray[i]?=some v:=hv
  have hv:its[i]?=some v:=by simpa using hv
  have hl:=rv.length;rw[List.length_map] at hl
  have hi:i<ns.length:=by rw[hl];exact(List.getElem?_eq_some_iff.mp hv).1
  obtain⟨u,hu,ru⟩:=rv.get (i:=i) (x:=.int ns[i]) (by rw[List.getElem?_map,List.getElem?_eq_getElem hi];rfl)
  rw[hv] at hu;cases hu
  obtain⟨t,rfl⟩:=ru
  refine⟨t,?_⟩
  show Value.int ns[i] t=Value.int (ns.getD i 0) t
  rw[List.getD_eq_getElem?_getD,List.getElem?_eq_getElem hi];rfl
 ·have e:preSum (fun i=>ns.getD i 0) its.toArray.size=ns.sum:=by
   have hl:=rv.length;rw[List.length_map] at hl;rw[List.size_toArray,<-hl]
   have gen:∀k,k<=ns.length->preSum (fun i=>ns.getD i 0) k=(ns.take k).sum:=by
    intro k
    induction k with
    | zero=>intro _;simp[preSum]
    | succ k ih=>
     intro hk;rw[preSum,ih (by omega),List.take_add_one,List.getD_eq_getElem?_getD,List.getElem?_eq_getElem (by omega),List.sum_append]
     simp
   rw[gen _ (Nat.le_refl _),List.take_length]
  rw[e]
  refine⟨.int ns.sum,H,I.kept (fun c o hco=>hk c o ?_ (Heap.get?_push_of_some _ hco)),⟨_,rfl⟩,q⟩
  intro hm;rw[List.mem_singleton.mp hm] at hco
  exact absurd (Heap.lt_size hco) (Nat.lt_irrefl _)
theorem WL(hc:X.calm=true):Xb X (.builtin "all") (fun xs H Q=>∃(b:Bool) (p:Addr) (bs:List Bool),xs=[.ref p]/\LH b X.K H p (bs.map V.bl)/\Q (.bl (bs.all id)) H):=by
 intro pins s U H xs us Q I r h
 obtain⟨b,p,bs,rfl,hq,q⟩:=h
 obtain⟨u,rfl,rx⟩:=Xx r
 cases rx
 obtain⟨its,rv,hseq,hz⟩:=I.seqB hq
 have hp:p<s.heap.objs.size:=let⟨_,e⟩:=hseq.has;Heap.lt_size e
 have hl:=rv.length;rw[List.length_map] at hl
 refine call_all_walk (Vc hseq ?_)
 refine⟨_,_,_,_,_,_,fun i=>bs.getD i true,rfl,Walks.seqB (A:=X.A.in1) b (I.ok.hd hc) s.heap.objs.size p (Nat.ne_of_lt hp) its.toArray,⟨IterB.new (Heap.get?_push_size _ rfl),hseq.at fun o e=>Heap.get?_push_of_some _ e⟩,fun i v s' Q' E' hv hQ=>?_,fun h' tk hk=>?_⟩
 ·have hv:its.toArray[i]?=some v:=hv
  have hv:its[i]?=some v:=by simpa using hv
  have hi:i<bs.length:=by rw[hl];exact(List.getElem?_eq_some_iff.mp hv).1
  obtain⟨u,hu,ru⟩:=rv.get (i:=i) (x:=.bl bs[i]) (by rw[List.getElem?_map,List.getElem?_eq_getElem hi];rfl)
  rw[hv] at hu;cases hu;cases ru
  refine wpAny_truthy_bool ?_
  have e:bs.getD i true=bs[i]:=by rw[List.getD_eq_getElem?_getD,List.getElem?_eq_getElem hi];rfl
  rw[<-e];exact hQ
 ·have e:(List.range its.toArray.size).all (fun i=>bs.getD i true)=bs.all id:=by
   rw[List.size_toArray,<-hl,Bool.eq_iff_iff,List.all_eq_true,List.all_eq_true];constructor
   ·intro h x hx
    obtain⟨i,hi,rfl⟩:=List.mem_iff_getElem.mp hx
    have:=h i (List.mem_range.mpr hi)
    rw[List.getD_eq_getElem?_getD,List.getElem?_eq_getElem hi] at this;exact this
   ·intro h i hi
    have hi:=List.mem_range.mp hi;rw[List.getD_eq_getElem?_getD,List.getElem?_eq_getElem hi]
    exact h _ (List.getElem_mem hi)
  rw[e]
  refine⟨.bl (bs.all id),H,I.kept (fun c o hco=>hk c o ?_ (Heap.get?_push_of_some _ hco)),rfl,q⟩
  intro hm;rw[List.mem_singleton.mp hm] at hco
  exact absurd (Heap.lt_size hco) (Nat.lt_irrefl _)
theorem Y4:Xb X (.builtin "isinstance") (fun xs H Q=>∃x T t b,xs=[x,.ty T]/\TyOf X.K H x t/\PySem.W.kitOne X.K t (.type T)=some b/\Q (.bl b) H):=by
 intro pins s U H xs us Q I r h
 obtain⟨x,T,t,b,rfl,ht,hk,q⟩:=h
 obtain⟨u,v,rfl,ru,rv⟩:=Nm r
 cases rv
 exact RI I ru ht hk fun tk=>⟨.bl b,H,I.tok tk,rfl,q⟩
theorem Tu{K:PySem.W.Frag}:PySem.W.kitOne K (.type "int") (.type "int")=some true:=rfl
theorem U1{K:PySem.W.Frag}:PySem.W.kitOne K (.type "int") (.type "bool")=some false:=by first | rfl | decide | (unfold PySem.W.kitOne;rw[if_neg (by decide)];first | rfl | decide | kernel_rfl)
theorem Tv{K:PySem.W.Frag}:PySem.W.kitOne K (.type "tuple") (.type "tuple")=some true:=rfl
theorem Uu{K:PySem.W.Frag}:PySem.W.kitOne K (.type "list") (.type "list")=some true:=rfl
theorem Tw{K:PySem.W.Frag}:PySem.W.kitOne K (.type "str") (.type "str")=some true:=rfl
end
def TK(H H':Hp):Prop:=∀b xs,H b=some (.tup xs)->H' b=some (.tup xs)
theorem Same.tk{H H':Hp}(s:Same H H'):TK H H':=fun b xs h=>s b _ h
theorem Same.new{H:Hp}{p:Addr}(h:H p=none)(o:HO):Same H (YG H p o):=fun b u q=>by rw[Zq (Zv q h)];exact q
class Rep(α:Type) where
 is:Hp->V->α->Prop
 keep:∀{H H':Hp}{v:V}{a:α},TK H H'->is H v a->is H' v a
 inj:∀{H:Hp}{v:V}{a a':α},is H v a->is H v a'->a=a'
 dep:Nat
 eqA:∀{X:Cx}{pins:List (Addr×Obj)}{U:St}{H:Hp}{s:Shared}{v v':V}{a a':α}{u u':Value}{A:Around},Inv X pins U H s->A.units+dep<cLine->is H v a->is H v' a'->RelV v u->RelV v' u'->
  ∃b,SeqAt.EqAt A s u u' b/\(b=true↔a=a')
instance:Rep Int where
 is:=fun _ v i=>v = .int i
 keep:=fun _ h=>h
 inj:=fun{H v a a'} h h'=>by subst h;exact V.int.inj h'
 dep:=0
 eqA:=fun{X pins U H s v v' a a' u u' A} _ _ h h' r r'=>by
  subst h;subst h'
  obtain⟨t,rfl⟩:=r
  obtain⟨t',rfl⟩:=r'
  exact⟨_,SeqAt.EqAt.int_int a t a' t',by simp⟩
instance:Rep Bool where
 is:=fun _ v i=>v = .bl i
 keep:=fun _ h=>h
 inj:=fun{H v a a'} h h'=>by subst h;exact V.bl.inj h'
 dep:=0
 eqA:=fun{X pins U H s v v' a a' u u' A} _ _ h h' r r'=>by
  subst h;subst h'
  cases r
  cases r'
  exact⟨_,SeqAt.EqAt.bool_bool a a',by simp⟩
instance:Rep Str where
 is:=fun _ v i=>v = .str i
 keep:=fun _ h=>h
 inj:=fun{H v a a'} h h'=>by subst h;exact V.str.inj h'
 dep:=0
 eqA:=fun{X pins U H s v v' a a' u u' A} _ _ h h' r r'=>by
  subst h;subst h'
  obtain⟨t,rfl⟩:=r
  obtain⟨t',rfl⟩:=r'
  exact⟨_,SeqAt.EqAt.str_str a t a' t',by simp⟩
abbrev Items{α:Type}[Rep α](H:Hp):List V->List α->Prop:=Paired (Rep.is H)
section
variable {α:Type} [Rep α]
theorem Items.keep{H H':Hp}(k:TK H H'){xs:List V}{l:List α}(h:Items H xs l):Items H' xs l:=Paired.mapP h fun _ _ z=>Rep.keep k z
theorem Items.len{H:Hp}{xs:List V}{l:List α}(h:Items H xs l):xs.length=l.length:=Paired.length h
end
theorem Items.inj{α:Type}[Rep α]{H:Hp}:∀{xs:List V}{l m:List α},Items H xs l->Items H xs m->l=m
 | _,_,_,.nil,.nil=>rfl
 | _,_,_,.cons r t,.cons r' t'=>by rw[Rep.inj r r',Items.inj t t']
theorem Items.eqs{α:Type}[Rep α]{X:Cx}{pins:List (Addr×Obj)}{U:St}{H:Hp}{s:Shared}{A:Around}(I:Inv X pins U H s)(hu:A.units+Rep.dep α<cLine) :
  ∀{xs ys:List V}{l m:List α}{us ws:List Value},Items H xs l->Items H ys m->Vals xs us->Vals ys ws->
  ∃e:Nat->Bool,(∀j (h1:j<us.length) (h2:j<ws.length),SeqAt.EqAt A s us[j] ws[j] (e j))/\((List.range (min us.length ws.length)).all e=true↔l.take (min us.length ws.length)=m.take (min us.length ws.length))
 | _,_,_,_,_,_,.nil,_,.nil,_=>⟨fun _=>true,fun j h1=>by simp at h1,by simp⟩
 | _,_,_,_,_,_,.cons _ _,.nil,.cons _ _,.nil=>⟨fun _=>true,fun j h1 h2=>by simp at h2,by simp⟩
 | _,_,_,_,_,_,.cons r t,.cons r' t',.cons q v,.cons q' v'=>by
  obtain⟨b,hb,hb'⟩:=Rep.eqA I hu r r' q q'
  obtain⟨e,he,he'⟩:=Items.eqs I hu t t' v v'
  refine⟨fun j=>match j with | 0=>b | k+1=>e k,fun j h1 h2=>?_,?_⟩
  ·cases j with
   | zero=>exact hb
   | succ k=>exact he k (by simpa using h1) (by simpa using h2)
  ·simp only[List.length_cons,Nat.succ_min_succ,List.range_succ_eq_map,List.all_cons,List.all_map,Bool.and_eq_true,List.take_succ_cons,List.cons.injEq]
   exact and_congr hb' he'
theorem Items.same{α:Type}[Rep α]{H:Hp}{xs ys:List V}{l m:List α}{us ws:List Value}(h:Items H xs l)(h':Items H ys m)(r:Vals xs us)(r':Vals ys ws) :
  (l.take (min us.length ws.length)=m.take (min us.length ws.length)/\us.length=ws.length)↔l=m:=by
 have e1:=h.len;have e2:=h'.len;have e3:=r.length;have e4:=r'.length;constructor
 ·rintro⟨a,b⟩
  rw[List.take_of_length_le (by omega),List.take_of_length_le (by omega)] at a;exact a
 ·intro a
  subst a
  exact⟨rfl,by omega⟩
abbrev K9(α:Type):Type:=List α
def LI{α:Type}[Rep α](H:Hp)(v:V)(l:List α):Prop:=∃p xs,v = .ref p/\H p=some (.tup xs)/\Items H xs l
instance {α:Type} [Rep α]:Rep (K9 α) where
 is:=fun H v l=>LI (α:=α) H v l
 keep:=fun{H H' v a} k h=>by
  obtain⟨p,xs,e,hp,it⟩:=h
  exact⟨p,xs,e,k p xs hp,it.keep k⟩
 inj:=fun{H v a a'} h h'=>by
  obtain⟨p,xs,e,hp,it⟩:=h
  obtain⟨p',xs',e',hp',it'⟩:=h'
  rw[e] at e';cases e'
  rw[hp] at hp';cases hp'
  exact Items.inj it it'
 dep:=Rep.dep α+2
 eqA:=fun{X pins U H s v v' a a' u u' A} I hu h h' r r'=>by
  obtain⟨p,xs,rfl,hp,it⟩:=h
  obtain⟨p',xs',rfl,hp',it'⟩:=h'
  cases r
  cases r'
  obtain⟨us,rv,q,_⟩:=I.tuple (SqT.of hp)
  obtain⟨us',rv',q',_⟩:=I.tuple (SqT.of hp')
  by_cases e:p=p'
  ·subst e
   refine⟨true,SeqAt.EqAt.same _,?_⟩
   rw[hp] at hp';cases hp'
   have:a=a':=Items.inj it it'
   simp[this]
  ·obtain⟨f,hf,hf'⟩:=Items.eqs (A:=A.in1) I (by show A.units+1+Rep.dep α<cLine;omega) it it' rv rv'
   refine⟨_,SeqAt.EqAt.of_refs e (SeqAt.RcAt.tuples (e:=f) (show s.heap.IsTuple p us.toArray from q) (show s.heap.IsTuple p' us'.toArray from q') (by omega) (fun j h1 h2=>hf j (by simpa using h1) (by simpa using h2))),?_⟩
   simp only[List.size_toArray,Bool.and_eq_true,beq_iff_eq];rw[hf']
   exact Items.same it it' rv rv'
structure Def(K:PySem.W.Frag)(mg:Str->Option Value)(x:Str)(st:Stmt):Prop where
 ex:∃f fd,mg x=some (.ref f)/\Fun K x x st f fd
theorem def_mk{K:PySem.W.Frag}{h:Heap}{mg:Str->Option Value}{x:Str}{st:Stmt}{f:Addr}{oc:Value}{od an:Option Addr}{osl:Array (Option Value)}{kV doc pm cdv ct:Value}(X:K.In h)(G:h.Ns mainGlobals mg)
  (a:PySem.W.nsIn K mainGlobals x=some (some (.ref f))) (l:K.lookup f=some ⟨oc,od,.func (PySem.W.fnOf x x (YN st) (Z7 st) (Zj st) .none kV doc pm an cdv ct),osl⟩)
  (c:PySem.W.codeIn K cdv x=true) (k:PySem.W.keepIn K (.ref f)=true):Def K mg x st:=⟨f,_,PySem.W.mg_of X G a,Ml (st:=st) l c k⟩
structure WG(P:Program)(w:World)(K:PySem.W.Frag)(mg:Str->Option Value)(base:Heap)(x:Str)(ps:List Str)(sp:Sp)(k:Nat):Prop where
 ex:∃f fd,mg x=some (.ref f)/\PySem.W.keepIn K (.ref f)=true/\Binds K fd ps []/\Wg P w K mg base S0 k f fd ps sp
section
variable {P:Program} {w:World} {K:PySem.W.Frag} {mg:Str->Option Value} {base:Heap}
theorem Def.cal{x:Str}{st:Stmt}{N ps:List Str}{k:Nat}{sp:Sp}(D:Def K mg x st)(S:ZI N ps (Zj st))
  (hb:∀(kV doc pm:Value)(an:Option Addr)(cdv ct:Value)(us:List Value),us.length=ps.length->bindArgs (PySem.W.fnOf x x (YN st) (Z7 st) (Zj st) .none kV doc pm an cdv ct) ⟨us,[]⟩=pure (ps.zip us))
  (len:∀vs H Q E,sp vs H Q E->vs.length=ps.length)
  (hbody:∀(f:Addr)(cdv:Value)(A:Around)(outer:List Env)(s:Shared)(H:Hp)(vs:List V)(Q:VK)(E:XK),Room k (A.deeper (envOfC x (Zj st) s.heap.objs.size f cdv))->sp vs H Q E->
   ∃t,PSs (VH S0 P w K mg base N x (Zj st) f cdv A outer s H E).nox (Z7 st) t/\t { nx:=fun _ H'=>Q .non H',rt:=Q } (start N vs) H):WG P w K mg base x ps sp (k+1):=by
 obtain⟨f,fd,hm,F⟩:=D.ex
 exact⟨f,fd,hm,F.kp,F.binds hb,F.ok S len fun cdv A outer s H vs Q E hr h=>hbody f cdv A outer s H vs Q E hr h⟩
end
section
variable {X:Cx} {x:Str} {ps:List Str} {sp:Sp} {k:Nat} {e:Expr} {es:List Expr} {t:TA} {p pos:Pos}
theorem Mo(C:WG X.prog X.w X.K X.mg X.base x ps sp k)(hr:Room k X.A)(hg:Gl X x)(ha:PA X (e::es) t)
  (hdb:(x==("__debug__" : Str))=false:=by decide) (he:starEach (e::es) X.env=(false,eval e X.env)::starEach es X.env:=by rfl) (hpl:(backTo pos (starEach es X.env)).any (·.1)=false:=by rfl) :
  PE X (.Call (.Name x p) (e::es) [] pos) (Np sp [] E0 t):=by
 obtain⟨f,fd,a,b,c,d⟩:=C.ex
 exact P9 d hr hg a b c .nil LD ha hdb he hpl
end
def X2(N:List Str)(around scope:Scope)(own fr:List Str)(ix:List Nat):Bool:=
 (match scope.kind with | .function=>true | _=>false)&&scope.names.all (fun y=>y.2 != .cell)&&scope.names.all (fun y=>y.2 != .local || scope.names.lookup y.1==some .local)&&
 scope.names.all (fun y=>y.2 != .free || (around.names.lookup y.1==some .cell || around.names.lookup y.1==some .free))&&(fr.map some==ix.map (fun i=>N[i]?))&&
 fr.all (fun x=>scope.names.contains (x,NameKind.free))&&fr.all (fun x=>scope.names.lookup x != some .local)
theorem WN{N:List Str}{around scope:Scope}{own fr:List Str}{ix:List Nat}(h:X2 N around scope own fr ix=true):CompScope N around scope own fr ix:=by
 unfold X2 at h;simp only[Bool.and_eq_true] at h
 obtain⟨⟨⟨⟨⟨⟨h1,h2⟩,h3⟩,h4⟩,h5⟩,h6⟩,h7⟩:=h
 refine⟨?_,fun y hy=>?_,fun y hy e=>?_,fun y hy e=>?_,by simpa using h5,fun x hx=>?_,fun x hx=>?_⟩
 ·split at h1
  ·assumption
  ·cases h1
 ·simpa using List.all_eq_true.mp h2 y hy
 ·have:=List.all_eq_true.mp h3 y hy
  rw[e] at this
  simpa using this
 ·have:=List.all_eq_true.mp h4 y hy
  rw[e] at this
  simpa using this
 ·simpa using List.all_eq_true.mp h6 x hx
 ·simpa using List.all_eq_true.mp h7 x hx
section
variable {X:Cx} {tg elt iter:Expr} {ifs:List Expr} {scope:Scope} {pos:Pos} {wi:TI} {g:TG} {tt:TT} {te:TE}
theorem QG(own fr:List Str)(ix:List Nat)(hcalm:X.calm=true)(hi:PI X tg iter wi)(S:X2 X.N X.env.scope scope own fr ix=true)
  (hg:∀cl C s H ex,PG (Zi X (own++fr) scope cl C s H ex) tg g) (ht:∀cl C s H ex,Qp (Zi X (own++fr) scope cl C s H ex) ifs tt) (he:∀cl C s H ex,PE (Zi X (own++fr) scope cl C s H ex) elt te)
  (hs:∀x,foldedSetIterable iter X.env x=pure x:=by intro _;rfl):PE X (.ListComp elt [⟨tg,iter,ifs,0⟩] scope pos) (UD own.length ix wi g tt te):=
 Oi hcalm hi (WN S) hg ht he hs
theorem QH(own fr:List Str)(ix:List Nat){i:Nat}{y:Str}{py spos:Pos}(hN:X.N.Nodup)(hy:X.N[i]?=some y)(hloc:X.env.scope.names.lookup y=some .local)(hcalm:X.calm=true)(hi:PI X tg iter wi)(S:X2 X.N X.env.scope scope own fr ix=true)
  (hg:∀cl C s H ex,PG (Zi X (own++fr) scope cl C s H ex) tg g) (ht:∀cl C s H ex,Qp (Zi X (own++fr) scope cl C s H ex) ifs tt) (he:∀cl C s H ex,PE (Zi X (own++fr) scope cl C s H ex) elt te)
  (hsw:swapsWith (.ListComp elt [⟨tg,iter,ifs,0⟩] scope pos) (some (.Name y py)) spos.line X.env=pure true:=by rfl)
  (hs:∀x,foldedSetIterable iter X.env x=pure x:=by intro _;rfl):PS X (.Assign [.Name y py] (.ListComp elt [⟨tg,iter,ifs,0⟩] scope pos) spos) (P0 (UD own.length ix wi g tt te) (Vb i)):=
 Oj hN hy hloc hcalm hi (WN S) hg ht he hsw hs
end
structure Sj(mg:Str->Option Value):Prop where
 «len» : mg "len" = none
 «sum» : mg "sum" = none
 «range» : mg "range" = none
 «enumerate» : mg "enumerate" = none
 «zip» : mg "zip" = none
 «tuple» : mg "tuple" = none
 «list» : mg "list" = none
 «all» : mg "all" = none
 «any» : mg "any" = none
 «isinstance» : mg "isinstance" = none
 «int» : mg "int" = none
 «bool» : mg "bool" = none
 «str» : mg "str" = none
 «min» : mg "min" = none
 «max» : mg "max" = none
 «sorted» : mg "sorted" = none
 «abs» : mg "abs" = none
 «ValueError» : mg "ValueError" = none
 «reversed» : mg "reversed" = none
abbrev KD(g:TG)(tb:TS)(D:We)(U:St)(J:It)(H:Hp):Prop:=
 ∃W:Nat->Nat->St->Hp->Prop,(∃m,W 0 m U H)/\∀i m U H,W i m U H->
   (J.stop i H/\D.nx U H)\/(J.go i H/\∃N:St->Hp->Prop,(∀U' H',N U' H'->∃m',m'<m/\W (i+1) m' U' H')/\∀x H',J.yld i H x H'->g x U H' fun U2 H2=>tb { D with nx:=N,ct:=N,bk:=D.nx } U2 H2)
def Vd(l:List Int)(i:Nat):Int:=l.getD i 0
def Mp(K:PySem.W.Frag):List V->Hp->VK->Prop:=fun xs H Q=>∃p ys,xs=[.ref p]/\((SqL K H p ys/\∀l,H l=none->Q (.ref l) (YG H l (.tup ys)))\/(SqT K H p ys/\Q (.ref p) H))
theorem Same.off{H Hc:Hp}{p:Addr}(s:Same H Hc)(n:Hc p=none):H p=none:=s.free n
abbrev Ja:=Nat×Nat×Int
theorem lt_size{n:Nat}(h:n<=10000):n<sizeLine:=Nat.lt_of_le_of_lt h (by decide)
end L2
namespace VL
open PySem PySem.Spec PyProof.Rows L2
variable {K:PySem.W.Frag}
inductive PV where
 | non | bl (b:Bool) | int (i:Int) | str (x:Str) | ty (n:String) | exc (n:Str)
 | tup (l:List PV) | lst (l:List PV) | cst (l:List PV)
 | dK (ks:List Vs) (vs:List PV) | dT (ks:List (List Vs)) (vs:List PV)
instance:Inhabited PV:=⟨.non⟩
mutual
/-- nothing in it can be Ry -/
def Yp:PV->Bool
 | .tup l=>Z8 l
 | .cst l=>Z8 l
 | .lst _=>false
 | .dK _ _=>false
 | .dT _ _=>false
 | .non=>true
 | .bl _=>true
 | .int _=>true
 | .str _=>true
 | .ty _=>true
 | .exc _=>true
def Z8:List PV->Bool
 | []=>true
 | x::r=>Yp x&&Z8 r
end
theorem WO:∀l:List PV,Z8 l=l.all Yp
 | []=>rfl
 | x::r=>by rw[List.all_cons,<-WO r];rfl
def KL(K:PySem.W.Frag)(a:Addr)(xs:List V):Prop:=
 ∃(o:Obj) (its:Array Value) (n:Nat),K.lookup a=some o/\o.cls = .type "list"/\o.dict=none/\o.data = .seq its n/\its.size<=sizeLine/\Vals xs its.toList
def CsK(K:PySem.W.Frag)(H:Hp)(p:Addr)(xs:List V):Prop:=(∃o,H p=some (.frz o (.lst xs)))\/KL K p xs
theorem CsK.sq{K:PySem.W.Frag}{H:Hp}{p:Addr}{xs:List V}(h:CsK K H p xs):SqL K H p xs:=by
 rcases h with h | h
 ·exact .inl (.inr h)
 ·exact .inr h
mutual
/-- v is the tree l in the heap H;fp: the addresses of its lists and dicts -/
def Is(K:PySem.W.Frag)(H:Hp):PV->V->List Addr->Prop
 | .non,v,fp=>v = .non/\fp=[]
 | .bl b,v,fp=>v = .bl b/\fp=[]
 | .int i,v,fp=>v = .int i/\fp=[]
 | .str x,v,fp=>v = .str x/\fp=[]
 | .ty n,v,fp=>v = .ty n/\fp=[]
 | .exc n,v,fp=>(∃e o x C,v = .ref e/\H e=some (.frz o (.own x))/\o.cls = .ref C/\PySem.W.nsIn K mainGlobals n=some (some (.ref C))/\o.dict=none/\∃vs,o.data = .fields vs)/\fp=[]
 | .tup l,v,fp=>∃p xs,v = .ref p/\H p=some (.tup xs)/\Iss K H l xs fp
 | .lst l,v,fp=>∃p xs fq,v = .ref p/\H p=some (.lst xs)/\Iss K H l xs fq/\fp=p::fq
 | .cst l,v,fp=>∃p xs,v = .ref p/\CsK K H p xs/\Iss K H l xs fp
 | .dK ks l,v,fp=>∃p kvs fq,v = .ref p/\Rd H p (.dK kvs)/\kvs.map (·.1)=ks/\Iss K H l (kvs.map (·.2)) fq/\fp=p::fq
 | .dT ks l,v,fp=>∃p kvs fq,v = .ref p/\Rd H p (.dT kvs)/\kvs.map (·.1)=ks/\Iss K H l (kvs.map (·.2)) fq/\fp=p::fq
def Iss(K:PySem.W.Frag)(H:Hp):List PV->List V->List Addr->Prop
 | [],xs,fp=>xs=[]/\fp=[]
 | l::ls,xs,fp=>∃x r f1 f2,xs=x::r/\Is K H l x f1/\Iss K H ls r f2/\fp=f1++f2
end
def RdK(H H':Hp)(p:Addr):Prop:=(∀xs,H p=some (.lst xs)->H' p=some (.lst xs))/\(∀kvs,Rd H p (.dK kvs)->Rd H' p (.dK kvs))/\∀kvs,Rd H p (.dT kvs)->Rd H' p (.dT kvs)
theorem RdK.of{H H':Hp}{p:Addr}(h:∀o,H p=some o->H' p=some o):RdK H H' p:=by
 have r:∀u,Rd H p u->Rd H' p u:=fun u q=>by
  rcases q with q | ⟨o,q⟩
  ·exact .inl (h _ q)
  ·exact .inr ⟨o,h _ q⟩
 exact⟨fun _=>h _,fun _=>r _,fun _=>r _⟩
structure LJ(H H':Hp):Prop where
 tup:TK H H'
 frz:∀b o xs,H b=some (.frz o (.lst xs))->H' b=some (.frz o (.lst xs))
 exc:∀b o x,H b=some (.frz o (.own x))->H' b=some (.frz o (.own x))
theorem Same.tk2{H H':Hp}(s:Same H H'):LJ H H':=⟨s.tk,fun b o xs h=>s b _ h,fun b o x h=>s b _ h⟩
theorem CsK.tr{K:PySem.W.Frag}{H H':Hp}(t:LJ H H'){p:Addr}{xs:List V}(h:CsK K H p xs):CsK K H' p xs:=by
 rcases h with⟨o,h⟩ | h
 ·exact .inl ⟨o,t.frz p o xs h⟩
 ·exact .inr h
mutual
theorem Is.tr{H H':Hp}(ht:LJ H H'):∀(l:PV)(v:V)(fp:List Addr),(∀p∈fp,RdK H H' p)->Is K H l v fp->Is K H' l v fp
 | .non,_,_,_,h=>by simpa only[Is] using h
 | .bl _,_,_,_,h=>by simpa only[Is] using h
 | .int _,_,_,_,h=>by simpa only[Is] using h
 | .str _,_,_,_,h=>by simpa only[Is] using h
 | .ty _,_,_,_,h=>by simpa only[Is] using h
 | .exc _,_,_,_,h=>by
  simp only[Is] at h ⊢
  obtain⟨⟨e,o,x,C,a,b,c⟩,d⟩:=h
  exact⟨⟨e,o,x,C,a,ht.exc e o x b,c⟩,d⟩
 | .tup l,v,fp,hm,h=>by
  simp only[Is] at h ⊢
  obtain⟨p,xs,e,hp,hi⟩:=h
  exact⟨p,xs,e,ht.tup p xs hp,Iss.tr ht l xs fp hm hi⟩
 | .lst l,v,fp,hm,h=>by
  simp only[Is] at h ⊢
  obtain⟨p,xs,fq,e,hr,hi,rfl⟩:=h
  exact⟨p,xs,fq,e,(hm p List.mem_cons_self).1 _ hr,Iss.tr ht l xs fq (fun q hq=>hm q (List.mem_cons_of_mem _ hq)) hi,rfl⟩
 | .cst l,v,fp,hm,h=>by
  simp only[Is] at h ⊢
  obtain⟨p,xs,e,hr,hi⟩:=h
  exact⟨p,xs,e,hr.tr ht,Iss.tr ht l xs fp hm hi⟩
 | .dK ks l,v,fp,hm,h=>by
  simp only[Is] at h ⊢
  obtain⟨p,kvs,fq,e,hr,hk,hi,rfl⟩:=h
  exact⟨p,kvs,fq,e,(hm p List.mem_cons_self).2.1 _ hr,hk,Iss.tr ht l _ fq (fun q hq=>hm q (List.mem_cons_of_mem _ hq)) hi,rfl⟩
 | .dT ks l,v,fp,hm,h=>by
  simp only[Is] at h ⊢
  obtain⟨p,kvs,fq,e,hr,hk,hi,rfl⟩:=h
  exact⟨p,kvs,fq,e,(hm p List.mem_cons_self).2.2 _ hr,hk,Iss.tr ht l _ fq (fun q hq=>hm q (List.mem_cons_of_mem _ hq)) hi,rfl⟩
theorem Iss.tr{H H':Hp}(ht:LJ H H'):∀(l:List PV)(xs:List V)(fp:List Addr),(∀p∈fp,RdK H H' p)->Iss K H l xs fp->Iss K H' l xs fp
 | [],_,_,_,h=>by simpa only[Iss] using h
 | l::ls,xs,fp,hm,h=>by
  simp only[Iss] at h ⊢
  obtain⟨x,r,f1,f2,e,h1,h2,rfl⟩:=h
  exact⟨x,r,f1,f2,e,Is.tr ht l x f1 (fun q hq=>hm q (List.mem_append_left _ hq)) h1,Iss.tr ht ls r f2 (fun q hq=>hm q (List.mem_append_right _ hq)) h2,rfl⟩
end
theorem Is.mono{H H':Hp}(s:Same H H'){l:PV}{v:V}{fp:List Addr}(h:Is K H l v fp):Is K H' l v fp:=Is.tr (Same.tk2 s) l v fp (fun p _=>RdK.of fun o q=>s p o q) h
theorem Iss.mono{H H':Hp}(s:Same H H'){l:List PV}{v:List V}{fp:List Addr}(h:Iss K H l v fp):Iss K H' l v fp:=Iss.tr (Same.tk2 s) l v fp (fun p _=>RdK.of fun o q=>s p o q) h
mutual
theorem Is.pure{H:Hp}:∀(l:PV)(v:V)(fp:List Addr),Yp l=true->Is K H l v fp->fp=[]
 | .non,_,_,_,h=>by simp only[Is] at h;exact h.2
 | .bl _,_,_,_,h=>by simp only[Is] at h;exact h.2
 | .int _,_,_,_,h=>by simp only[Is] at h;exact h.2
 | .str _,_,_,_,h=>by simp only[Is] at h;exact h.2
 | .ty _,_,_,_,h=>by simp only[Is] at h;exact h.2
 | .exc _,_,_,_,h=>by simp only[Is] at h;exact h.2
 | .tup l,v,fp,hp,h=>by
  simp only[Is] at h
  obtain⟨p,xs,e,_,hi⟩:=h
  exact Iss.pure l xs fp (by simpa only[Yp] using hp) hi
 | .lst l,v,fp,hp,h=>by simp[Yp] at hp
 | .cst l,v,fp,hp,h=>by
  simp only[Is] at h
  obtain⟨p,xs,e,_,hi⟩:=h
  exact Iss.pure l xs fp (by simpa only[Yp] using hp) hi
 | .dK ks l,v,fp,hp,h=>by simp[Yp] at hp
 | .dT ks l,v,fp,hp,h=>by simp[Yp] at hp
theorem Iss.pure{H:Hp}:∀(l:List PV)(xs:List V)(fp:List Addr),Z8 l=true->Iss K H l xs fp->fp=[]
 | [],_,_,_,h=>by simp only[Iss] at h;exact h.2
 | l::ls,xs,fp,hp,h=>by
  simp only[Iss] at h;simp only[Z8,Bool.and_eq_true] at hp
  obtain⟨x,r,f1,f2,e,h1,h2,rfl⟩:=h
  rw[Is.pure l x f1 hp.1 h1,Iss.pure ls r f2 hp.2 h2];rfl
end
section
variable {H H':Hp}
theorem Iss.len:∀{l:List PV}{xs:List V}{fp:List Addr},Iss K H l xs fp->xs.length=l.length
 | [],xs,fp,h=>by simp only[Iss] at h;rw[h.1];rfl
 | l::ls,xs,fp,h=>by
  simp only[Iss] at h
  obtain⟨x,r,f1,f2,rfl,_,h2,_⟩:=h
  rw[List.length_cons,List.length_cons,h2.len]
theorem Iss.get:∀{l:List PV}{xs:List V}{fp:List Addr}{i:Nat}{a:PV},Iss K H l xs fp->l[i]?=some a->∃x f1,xs[i]?=some x/\Is K H a x f1/\∀p∈f1,p∈fp
 | [],xs,fp,i,a,h,e=>by simp at e
 | l::ls,xs,fp,0,a,h,e=>by
  simp only[Iss] at h
  obtain⟨x,r,f1,f2,rfl,h1,_,rfl⟩:=h
  simp at e;subst e
  exact⟨x,f1,rfl,h1,fun p hp=>List.mem_append_left _ hp⟩
 | l::ls,xs,fp,i+1,a,h,e=>by
  simp only[Iss] at h
  obtain⟨x,r,f1,f2,rfl,_,h2,rfl⟩:=h
  obtain⟨y,g,h3,h4,h5⟩:=h2.get (i:=i) (a:=a) (by simpa using e)
  exact⟨y,g,by simpa using h3,h4,fun p hp=>List.mem_append_right _ (h5 p hp)⟩
theorem Iss.nil:Iss K H [] [] []:=by simp[Iss]
theorem Iss.cons{l:PV}{ls:List PV}{x:V}{xs:List V}{f1 f2:List Addr}(h1:Is K H l x f1)(h2:Iss K H ls xs f2):Iss K H (l::ls) (x::xs) (f1++f2):=by
 simp only[Iss];exact⟨x,xs,f1,f2,rfl,h1,h2,rfl⟩
theorem Iss.inv{l:PV}{ls:List PV}{xs:List V}{fp:List Addr}(h:Iss K H (l::ls) xs fp):∃x r f1 f2,xs=x::r/\Is K H l x f1/\Iss K H ls r f2/\fp=f1++f2:=by
 simpa only[Iss] using h
theorem Iss.append:∀{l m:List PV}{xs ys:List V}{f1 f2:List Addr},Iss K H l xs f1->Iss K H m ys f2->Iss K H (l++m) (xs++ys) (f1++f2)
 | [],m,xs,ys,f1,f2,h,h'=>by
  simp only[Iss] at h
  rw[h.1,h.2];exact h'
 | l::ls,m,xs,ys,f1,f2,h,h'=>by
  obtain⟨x,r,g1,g2,rfl,a,b,rfl⟩:=h.inv
  rw[List.append_assoc]
  exact Iss.cons a (b.append h')
theorem Iss.one{l:PV}{x:V}{f:List Addr}(h:Is K H l x f):Iss K H [l] [x] f:=by
 have:=Iss.cons h (Iss.nil (H:=H))
 rwa [List.append_nil] at this
theorem Iss.take:∀{l:List PV}{xs:List V}{fp:List Addr}(n:Nat),Iss K H l xs fp->∃f1,Iss K H (l.take n) (xs.take n) f1/\∀p∈f1,p∈fp
 | l,xs,fp,0,h=>⟨[],by rw[List.take_zero,List.take_zero];exact Iss.nil,fun p hp=>by simp at hp⟩
 | [],xs,fp,n+1,h=>by
  simp only[Iss] at h;rw[h.1]
  exact⟨[],by rw[List.take_nil,List.take_nil];exact Iss.nil,fun p hp=>by simp at hp⟩
 | l::ls,xs,fp,n+1,h=>by
  obtain⟨x,r,f1,f2,rfl,h1,h2,rfl⟩:=h.inv
  obtain⟨f3,a,b⟩:=h2.take n
  refine⟨f1++f3,Iss.cons h1 a,fun p hp=>?_⟩
  rcases List.mem_append.mp hp with h | h
  ·exact List.mem_append_left _ h
  ·exact List.mem_append_right _ (b p h)
theorem Iss.drop:∀{l:List PV}{xs:List V}{fp:List Addr}(n:Nat),Iss K H l xs fp->∃f1,Iss K H (l.drop n) (xs.drop n) f1/\∀p∈f1,p∈fp
 | l,xs,fp,0,h=>⟨fp,h,fun p hp=>hp⟩
 | [],xs,fp,n+1,h=>by
  simp only[Iss] at h;rw[h.1]
  exact⟨[],by rw[List.drop_nil,List.drop_nil];exact Iss.nil,fun p hp=>by simp at hp⟩
 | l::ls,xs,fp,n+1,h=>by
  obtain⟨x,r,f1,f2,rfl,h1,h2,rfl⟩:=h.inv
  obtain⟨f3,a,b⟩:=h2.drop n
  exact⟨f3,a,fun p hp=>List.mem_append_right _ (b p hp)⟩
theorem Is.int_inv{i:Int}{v:V}{fp:List Addr}(h:Is K H (.int i) v fp):v = .int i/\fp=[]:=by simpa only[Is] using h
theorem Is.int(i:Int):Is K H (.int i) (.int i) []:=by simp[Is]
theorem Is.bl(i:Bool):Is K H (.bl i) (.bl i) []:=by simp[Is]
theorem Is.non:Is K H .non .non []:=by simp[Is]
theorem Is.str(x:Str):Is K H (.str x) (.str x) []:=by simp[Is]
theorem Is.ty(n:String):Is K H (.ty n) (.ty n) []:=by simp[Is]
theorem Is.bl_inv{i:Bool}{v:V}{fp:List Addr}(h:Is K H (.bl i) v fp):v = .bl i/\fp=[]:=by simpa only[Is] using h
theorem Is.str_inv{i:Str}{v:V}{fp:List Addr}(h:Is K H (.str i) v fp):v = .str i/\fp=[]:=by simpa only[Is] using h
theorem Is.non_inv{v:V}{fp:List Addr}(h:Is K H .non v fp):v = .non/\fp=[]:=by simpa only[Is] using h
theorem Is.ty_inv{n:String}{v:V}{fp:List Addr}(h:Is K H (.ty n) v fp):v = .ty n/\fp=[]:=by simpa only[Is] using h
theorem Is.tup_inv{l:List PV}{v:V}{fp:List Addr}(h:Is K H (.tup l) v fp):∃p xs,v = .ref p/\H p=some (.tup xs)/\Iss K H l xs fp:=by simpa only[Is] using h
theorem Is.tup{l:List PV}{p:Addr}{xs:List V}{fp:List Addr}(h:H p=some (.tup xs))(hi:Iss K H l xs fp):Is K H (.tup l) (.ref p) fp:=by simp only[Is];exact⟨p,xs,rfl,h,hi⟩
theorem Is.lst_inv{l:List PV}{v:V}{fp:List Addr}(h:Is K H (.lst l) v fp):∃p xs fq,v = .ref p/\H p=some (.lst xs)/\Iss K H l xs fq/\fp=p::fq:=by simpa only[Is] using h
theorem Is.lst{l:List PV}{p:Addr}{xs:List V}{fp:List Addr}(h:H p=some (.lst xs))(hi:Iss K H l xs fp):Is K H (.lst l) (.ref p) (p::fp):=by
 simp only[Is];exact⟨p,xs,fp,rfl,h,hi,rfl⟩
theorem Is.cst_inv{l:List PV}{v:V}{fp:List Addr}(h:Is K H (.cst l) v fp):∃p xs,v = .ref p/\CsK K H p xs/\Iss K H l xs fp:=by simpa only[Is] using h
theorem Is.cst{l:List PV}{p:Addr}{xs:List V}{fp:List Addr}(h:CsK K H p xs)(hi:Iss K H l xs fp):Is K H (.cst l) (.ref p) fp:=by
 simp only[Is];exact⟨p,xs,rfl,h,hi⟩
theorem Is.dT_inv{ks:List (List Vs)}{l:List PV}{v:V}{fp:List Addr}(h:Is K H (.dT ks l) v fp):∃p kvs fq,v = .ref p/\Rd H p (.dT kvs)/\kvs.map (·.1)=ks/\Iss K H l (kvs.map (·.2)) fq/\fp=p::fq:=by simpa only[Is] using h
theorem Is.dK_inv{ks:List Vs}{l:List PV}{v:V}{fp:List Addr}(h:Is K H (.dK ks l) v fp):∃p kvs fq,v = .ref p/\Rd H p (.dK kvs)/\kvs.map (·.1)=ks/\Iss K H l (kvs.map (·.2)) fq/\fp=p::fq:=by simpa only[Is] using h
end
abbrev iL(l:List Int):List PV:=l.map PV.int
theorem UG(l:List Int):Z8 (iL l)=true:=by
 rw[WO,List.all_eq_true];intro x hx
 obtain⟨i,_,rfl⟩:=List.mem_map.mp hx
 rfl
theorem Iss.ofInts{H:Hp}:∀(l:List Int),Iss K H (VL.iL l) (l.map V.int) []
 | []=>Iss.nil
 | i::l=>Iss.cons (f1:=[]) (Is.int i) (Iss.ofInts l)
end VL
namespace VL
open PySem PySem.Spec PyProof.Rows L2
variable {K:PySem.W.Frag}
abbrev Vt:=L2.St
abbrev ZH:=List (Option PV)
abbrev XE:=ZH->Option PV
structure EnvIs(K:PySem.W.Frag)(Rm:Addr->Prop)(H:Hp)(s:ZH)(U:Vt):Prop where
 is:∀(i:Nat) l,s[i]?=some (some l)->∃v fp,U[i]?=some (some v)/\Is K H l v fp/\∀p∈fp,¬Rm p
theorem EnvIs.mono{Rm:Addr->Prop}{H H':Hp}{s:ZH}{U:Vt}(h:EnvIs K Rm H s U)(e:Same H H'):EnvIs K Rm H' s U:=⟨fun i l q=>by
 obtain⟨v,fp,a,b,c⟩:=h.is i l q
 exact⟨v,fp,a,b.mono e,c⟩⟩
theorem EnvIs.free{Rm:Addr->Prop}{H:Hp}{s:ZH}{U:Vt}(h:EnvIs K Rm H s U):EnvIs K (fun _=>False) H s U:=⟨fun i l q=>by
 obtain⟨v,fp,a,b,c⟩:=h.is i l q
 exact⟨v,fp,a,b,fun _ _ z=>z⟩⟩
theorem Same.mut{H H':Hp}(e:Same H H'){p:Addr}(h:Wc (H p)):Wc (H' p):=by
 cases q:H p with
 | none=>rw[q] at h;exact h.elim
 | some o=>rw[e p o q,<-q];exact h
theorem Ya{H:Hp}{p:Addr}(h:Wc (H p)):H p≠none:=fun z=>by rw[z] at h;exact h
def tF(K:PySem.W.Frag)(f:XE):TE:=fun U H Q=>∃(Rm:Addr->Prop) (s:ZH) (l:PV),(∀p,Rm p->Wc (H p))/\EnvIs K Rm H s U/\f s=some l/\∀v H' fp,Same H H'->Is K H' l v fp->(∀p∈fp,¬Rm p)->Q v H'
def tM(K:PySem.W.Frag)(f:XE):TE:=fun U H Q=>∃(s:ZH) (l:PV),EnvIs K (fun _=>False) H s U/\f s=some l/\∀v H' fp,Same H H'->Is K H' l v fp->fp.Nodup->(∀p∈fp,H p=none/\Wc (H' p))->Q v H'
def VE(X:Cx)(e:Expr)(f:XE):Prop:=PE X e (tF X.K f)
def VM(X:Cx)(e:Expr)(f:XE):Prop:=PE X e (tM X.K f)
section
variable {X:Cx} {e:Expr} {f g:XE} {t t':TE}
theorem PE.imp(h:PE X e t)(i:∀U H Q,t' U H Q->t U H Q):PE X e t':=fun pins s U H Q I q=>h pins s U H Q I (i U H Q q)
theorem VM.ve(h:VM X e f):VE X e f:=PE.imp h fun U H Q ⟨Rm,s,l,hd,env,e,k⟩=>
 ⟨s,l,env.free,e,fun v H' fp sm i _ n=>k v H' fp sm i fun p hp z=>Ya (hd p z) (n p hp).1⟩
def eP(f:XE):XE:=fun s=>(f s).bind fun l=>if Yp l=true then some l else none
theorem Ol{s:ZH}{l:PV}(h:eP f s=some l):f s=some l/\Yp l=true:=by
 unfold eP at h
 cases q:f s with
 | none=>rw[q] at h;cases h
 | some a=>
  rw[q] at h;simp only[Option.bind_some] at h
  split at h
  ·cases h;exact⟨rfl,by assumption⟩
  ·cases h
theorem VE.pure(h:VE X e f):VM X e (eP f):=PE.imp h fun U H Q ⟨s,l,env,e,k⟩=>by
 obtain⟨e1,e2⟩:=Ol e
 refine⟨fun _=>False,s,l,fun _ z=>z.elim,env,e1,fun v H' fp sm i n=>?_⟩
 have:=Is.pure l v fp e2 i
 subst this
 exact k v H' [] sm i List.nodup_nil fun p hp=>by simp at hp
end
def Za(i:Nat):XE:=fun s=>(s[i]?).join
def eC(l:PV):XE:=fun _=>some l
theorem RN{i:Nat}{s:ZH}{l:PV}(h:Za i s=some l):s[i]?=some (some l):=by
 unfold Za at h
 cases q:s[i]? with
 | none=>rw[q] at h;cases h
 | some o=>rw[q] at h;cases o with
  | none=>cases h
  | some a=>cases h;rfl
section
variable {X:Cx} {pos:Pos}
theorem Zd{e:Expr}{i:Nat}(h:PE X e (NP i)):VE X e (Za i):=PE.imp h fun U H Q ⟨Rm,s,l,hd,env,e,k⟩=>by
 obtain⟨v,fp,a,b,c⟩:=env.is i l (RN e)
 exact⟨v,a,k v H fp (Same.refl H) b c⟩
theorem Sk{e:Expr}{v:V}{l:PV}(h:PE X e (tC v))(hv:∀H,Is X.K H l v []):VE X e (eC l):=PE.imp h fun U H Q ⟨Rm,s,l',hd,env,e,k⟩=>by
 cases e
 exact k v H [] (Same.refl H) (hv H) fun p hp=>by simp at hp
theorem Zg{i j}:VE X (.Constant (.int i) j pos) (eC (.int i)):=Sk NR fun _=>Is.int i
theorem S1{i j}:VE X (.Constant (.bool i) j pos) (eC (.bl i)):=Sk Lf fun _=>Is.bl i
theorem WQ{j}:VE X (.Constant .none j pos) (eC .non):=Sk NS fun _=>Is.non
theorem ZN{i j}:VE X (.Constant (.str i) j pos) (eC (.str i)):=Sk Qu fun _=>Is.str i
end
def RB(K:PySem.W.Frag)(r:R2)(g:PV->PV->Option PV):Prop:=∀(H:Hp)(x y:V)(a b l:PV)(fa fb:List Addr),Is K H a x fa->Is K H b y fb->g a b=some l->∀Q:VK,
 (∀v H' fp,Same H H'->Is K H' l v fp->(∀p∈fp,p∈fa\/p∈fb\/H p=none)->Q v H')->r x y H Q
def Zf(g:PV->PV->Option PV)(a b:XE):XE:=fun s=>(a s).bind fun x=>(b s).bind fun y=>g x y
theorem Xc{g:PV->PV->Option PV}{a b:XE}{s:ZH}{l:PV}(h:Zf g a b s=some l):∃x y,a s=some x/\b s=some y/\g x y=some l:=by
 unfold Zf at h
 cases q:a s with
 | none=>rw[q] at h;cases h
 | some x=>cases q2:b s with
  | none=>rw[q,q2] at h;cases h
  | some y=>rw[q,q2] at h;exact⟨x,y,rfl,rfl,h⟩
section
variable {X:Cx} {a b:Expr} {fa fb:XE} {pos:Pos}
theorem S2{r:R2}{g:PV->PV->Option PV}(hr:RB K r g):∀U H Q,tF K (Zf g fa fb) U H Q->Lq r (tF K fa) (tF K fb) U H Q:=fun U H Q ⟨Rm,s,l,hd,env,e,k⟩=>by
 obtain⟨x',y',ex,ey,e⟩:=Xc e
 refine⟨Rm,s,x',hd,env,ex,fun x H1 f1 s1 i1 n1=>⟨Rm,s,y',fun p hp=>Same.mut s1 (hd p hp),env.mono s1,ey,fun y H2 f2 s2 i2 n2=>?_⟩⟩
 refine hr H2 x y x' y' l f1 f2 (i1.mono s2) i2 e Q fun v H3 fp s3 i3 n3=>k v H3 fp (s1.trans (s2.trans s3)) i3 fun p hp z=>?_
 rcases n3 p hp with h | h | h
 ·exact n1 p h z
 ·exact n2 p h z
 ·exact Ya (Same.mut (s1.trans s2) (hd p z)) h
theorem Xz{op:Operator}{r:R2}{g:PV->PV->Option PV}(ho:XD X (binaryOp op) r)(hr:RB X.K r g)(ha:VE X a fa)(hb:VE X b fb):VE X (.BinOp a op b pos) (Zf g fa fb):=
 PE.imp (Nj ho ha hb) (S2 hr)
theorem Sl{op:CmpOp}{r:R2}{g:PV->PV->Option PV}(ho:XD X (compareOp op) r)(hr:RB X.K r g)(ha:VE X a fa)(hb:VE X b fb)(hm:behindInMarks op b=false):VE X (.Compare a [op] [b] pos) (Zf g fa fb):=
 PE.imp (P5 ho ha hb hm) (S2 hr)
theorem LK{r:R2}{g:PV->PV->Option PV}(ho:IxR X r)(hr:RB X.K r g)(ha:VE X a fa)(hb:VE X b fb)(hs:UZ b):VE X (.Subscript a b pos) (Zf g fa fb):=
 PE.imp (Lz ho ha hb hs) (S2 hr)
end
def gI(g:Int->Int->Int):PV->PV->Option PV
 | .int i,.int j=>some (.int (g i j))
 | _,_=>none
def gB(g:Int->Int->Bool):PV->PV->Option PV
 | .int i,.int j=>some (.bl (g i j))
 | _,_=>none
def Nt(C:Int->Int->Prop)[∀i j,Decidable (C i j)](g:Int->Int->Int):PV->PV->Option PV
 | .int i,.int j=>if C i j then some (.int (g i j)) else none
 | _,_=>none
theorem Om{g:Int->Int->Int}{a b l:PV}(h:gI g a b=some l):∃i j,a = .int i/\b = .int j/\l = .int (g i j):=by
 unfold gI at h;split at h
 ·cases h;exact⟨_,_,rfl,rfl,rfl⟩
 ·cases h
theorem Oo{g:Int->Int->Bool}{a b l:PV}(h:gB g a b=some l):∃i j,a = .int i/\b = .int j/\l = .bl (g i j):=by
 unfold gB at h;split at h
 ·cases h;exact⟨_,_,rfl,rfl,rfl⟩
 ·cases h
theorem QI{C:Int->Int->Prop}[∀i j,Decidable (C i j)]{g:Int->Int->Int}{a b l:PV}(h:Nt C g a b=some l):∃i j,a = .int i/\b = .int j/\C i j/\l = .int (g i j):=by
 unfold Nt at h;split at h
 ·split at h
  ·cases h;exact⟨_,_,rfl,rfl,by assumption,rfl⟩
  ·cases h
 ·cases h
theorem LL(g:Int->Int->Int):RB K (P2 fun i j=>.int (g i j)) (gI g):=fun H x y a b l fa fb ha hb e Q k=>by
 obtain⟨i,j,rfl,rfl,rfl⟩:=Om e
 exact⟨i,j,ha.int_inv.1,hb.int_inv.1,k _ H [] (Same.refl H) (Is.int _) fun p hp=>by simp at hp⟩
theorem Oq(g:Int->Int->Bool):RB K (P2 fun i j=>.bl (g i j)) (gB g):=fun H x y a b l fa fb ha hb e Q k=>by
 obtain⟨i,j,rfl,rfl,rfl⟩:=Oo e
 exact⟨i,j,ha.int_inv.1,hb.int_inv.1,k _ H [] (Same.refl H) (Is.bl _) fun p hp=>by simp at hp⟩
theorem S3(C:Int->Int->Prop)[∀i j,Decidable (C i j)](g:Int->Int->Int):RB K (rI C fun i j=>.int (g i j)) (Nt C g):=fun H x y a b l fa fb ha hb e Q k=>by
 obtain⟨i,j,rfl,rfl,c,rfl⟩:=QI e
 exact⟨i,j,ha.int_inv.1,hb.int_inv.1,c,k _ H [] (Same.refl H) (Is.int _) fun p hp=>by simp at hp⟩
instance (i j:Int):Decidable (CMul i j):=by unfold CMul;infer_instance
instance (i j:Int):Decidable (Us i j):=by unfold Us;infer_instance
instance (i j:Int):Decidable (Nk i j):=by unfold Nk;infer_instance
instance (i j:Int):Decidable (Sf i j):=by unfold Sf;infer_instance
abbrev Z5:=gI (· + ·)
abbrev Sm:=gI (· - ·)
abbrev X3:=Nt CMul (· * ·)
abbrev X4:=Nt Us (· / ·)
abbrev Z6:=Nt (fun _ j=>0<j) (· % ·)
abbrev QJ:=Nt Sf (fun i j=>i^j.toNat)
abbrev M8:=gB (fun i j=>decide (i<j))
abbrev M9:=gB (fun i j=>decide (i<=j))
abbrev QK:=gB (fun i j=>decide (j<i))
section
variable {X:Cx} {a b:Expr} {fa fb:XE} {pos:Pos}
theorem Xj(ha:VE X a fa)(hb:VE X b fb):VE X (.BinOp a .Add b pos) (Zf Z5 fa fb):=Xz N6 (LL _) ha hb
theorem VQ(ha:VE X a fa)(hb:VE X b fb):VE X (.BinOp a .Sub b pos) (Zf Sm fa fb):=Xz N7 (LL _) ha hb
theorem U2(ha:VE X a fa)(hb:VE X b fb):VE X (.BinOp a .Mult b pos) (Zf X3 fa fb):=Xz N8 (S3 _ _) ha hb
theorem Wj(ha:VE X a fa)(hb:VE X b fb):VE X (.BinOp a .FloorDiv b pos) (Zf X4 fa fb):=Xz P4 (S3 _ _) ha hb
theorem YH(ha:VE X a fa)(hb:VE X b fb):VE X (.BinOp a .Mod b pos) (Zf Z6 fa fb):=Xz N9 (S3 _ _) ha hb
theorem U3(ha:VE X a fa)(hb:VE X b fb):VE X (.BinOp a .Pow b pos) (Zf QJ fa fb):=Xz Ma (S3 _ _) ha hb
end
def Yc:PV->PV->Option PV
 | .str i,.str j=>if i.length+j.length<=sizeLine then some (.str (i++j)) else none
 | _,_=>none
theorem U4:RB K (fun x y H Q=>∃i j,x = .str i/\y = .str j/\i.length+j.length<=sizeLine/\Q (.str (i++j)) H) Yc:=fun H x y a b l fa fb ha hb e Q k=>by
 unfold Yc at e;split at e
 ·split at e
  ·cases e
   exact⟨_,_,ha.str_inv.1,hb.str_inv.1,by assumption,k _ H [] (Same.refl H) (Is.str _) fun p hp=>by simp at hp⟩
  ·cases e
 ·cases e
def Wk:PV->PV->Option PV
 | .lst l,.int i=>VJ l i
 | .cst l,.int i=>VJ l i
 | .tup l,.int i=>VJ l i
 | .str z,.int i=>if z.length<=sizeLine then(VJ z.cps.toList i).map fun c=>.str ⟨#[c]⟩ else none
 | _,_=>none
theorem Sn{l:List PV}{xs:List V}{H:Hp}{fp:List Addr}{i:Int}{a:PV}(h:Iss K H l xs fp)(e:VJ l i=some a):∃x f1,VJ xs i=some x/\Is K H a x f1/\∀p∈f1,p∈fp:=by
 unfold VJ at e ⊢
 rw[h.len]
 cases q:Mf l.length i with
 | none=>rw[q] at e;cases e
 | some j=>rw[q] at e;exact h.get e
theorem LM:RB K (KW K) Wk:=fun H x y a b l fa fb ha hb e Q k=>by
 unfold Wk at e;split at e
 ·obtain⟨p,xs,fq,rfl,hp,hi,rfl⟩:=ha.lst_inv
  obtain⟨z,f1,h1,h2,h3⟩:=Sn hi e
  exact .inl ⟨p,xs,_,z,rfl,hb.int_inv.1,SqL.of hp,h1,k z H f1 (Same.refl H) h2 fun q hq=>.inl (List.mem_cons_of_mem _ (h3 q hq))⟩
 ·obtain⟨p,xs,rfl,hp,hi⟩:=ha.cst_inv
  obtain⟨z,f1,h1,h2,h3⟩:=Sn hi e
  exact .inl ⟨p,xs,_,z,rfl,hb.int_inv.1,hp.sq,h1,k z H f1 (Same.refl H) h2 fun q hq=>.inl (h3 q hq)⟩
 ·obtain⟨p,xs,rfl,hp,hi⟩:=ha.tup_inv
  obtain⟨z,f1,h1,h2,h3⟩:=Sn hi e
  exact .inr (.inl ⟨p,xs,_,z,rfl,hb.int_inv.1,SqT.of hp,h1,k z H f1 (Same.refl H) h2 fun q hq=>.inl (h3 q hq)⟩)
 ·split at e
  ·cases q:VJ _ _ with
   | none=>rw[q] at e;cases e
   | some c=>
    rw[q] at e;cases e
    exact .inr (.inr ⟨_,_,c,ha.str_inv.1,hb.int_inv.1,by assumption,q,k _ H [] (Same.refl H) (Is.str _) fun p hp=>by simp at hp⟩)
  ·cases e
 ·cases e
section
variable {X:Cx} {a b:Expr} {fa fb:XE} {pos:Pos}
theorem Wl(ha:VE X a fa)(hb:VE X b fb)(hs:UZ b:=by exact fun _ _=>rfl):VE X (.Subscript a b pos) (Zf Wk fa fb):=LK Mi LM ha hb hs
end
abbrev XT:=ZH->Option Bool
def Tx(K:PySem.W.Frag)(f:XT):TT:=fun U H Q=>∃(Rm:Addr->Prop) (s:ZH) (c:Bool),(∀p,Rm p->Wc (H p))/\EnvIs K Rm H s U/\f s=some c/\∀H',Same H H'->Q c H'
def VT(X:Cx)(e:Expr)(f:XT):Prop:=PT X e (Tx X.K f)
def VW(X:Cx)(e:Expr)(f:XT):Prop:=PW X e (Tx X.K f)
section
variable {X:Cx} {e:Expr} {f:XT}
theorem PT.imp{t t':TT}(h:PT X e t)(i:∀U H Q,t' U H Q->t U H Q):PT X e t':=fun pins s U H Q I q=>h pins s U H Q I (i U H Q q)
theorem PW.imp{t t':TT}(h:PW X e t)(i:∀U H Q,t' U H Q->t U H Q):PW X e t':=fun whole pins s U H Q I q=>h whole pins s U H Q I (i U H Q q)
theorem VW.vt(h:VW X e f):VT X e f:=PW.pt h
end
def xB(f:XE):XT:=fun s=>match f s with | some (.bl c)=>some c | _=>none
theorem XH{f:XE}{s:ZH}{c:Bool}(h:xB f s=some c):f s=some (.bl c):=by
 unfold xB at h;split at h
 ·cases h;assumption
 ·cases h
section
variable {X:Cx} {a b c:Expr} {ZF:List Expr} {fa fb:XE} {ga gb:XT} {pos:Pos}
theorem Xa(h:VE X a fa)(he:∀whole,isTrue a X.env whole=(do let v <-whole;standAt a.pos;holding [v] (truthy v)):=by intro _;rfl):VT X a (xB fa):=
 PT.imp (NU h he) fun U H Q ⟨Rm,s,c,hd,env,e,k⟩=>⟨Rm,s,.bl c,hd,env,XH e,fun v H' fp sm i n=>⟨c,i.bl_inv.1,k H' sm⟩⟩
theorem Tz:∀U H Q,Tx K (xB fa) U H Q->To (tF K fa) U H Q:=fun U H Q ⟨Rm,s,c,hd,env,e,k⟩=>⟨Rm,s,.bl c,hd,env,XH e,fun v H' fp sm i n=>⟨c,i.bl_inv.1,k H' sm⟩⟩
theorem VR{t t':TE}(i:∀U H Q,t' U H Q->t U H Q):∀U H Q,To t' U H Q->To t U H Q:=fun U H Q h=>i U H _ h
theorem VU{op:CmpOp}{r:R2}{g:PV->PV->Option PV}(ho:XD X (compareOp op) r)(hr:RB X.K r g)(ha:VE X a fa)(hb:VE X b fb)(hm:behindInMarks op b=false):VT X (.Compare a [op] [b] pos) (xB (Zf g fa fb)):=
 PT.imp (P6 ho ha hb hm) fun U H Q h=>VR (S2 hr) U H Q (Tz U H Q h)
theorem LN(ha:VE X a fa)(hb:VE X b fb):VT X (.Compare a [.Lt] [b] pos) (xB (Zf M8 fa fb)):=VU Lu (Oq _) ha hb (WI _)
theorem Nu(ha:VE X a fa)(hb:VE X b fb):VT X (.Compare a [.Gt] [b] pos) (xB (Zf QK fa fb)):=VU Lv (Oq _) ha hb (WI _)
def So(a b:XT):XT:=fun s=>(a s).bind fun c=>if c=true then b s else some false
def Wd(a b:XT):XT:=fun s=>(a s).bind fun c=>if c=true then some true else b s
def YD(a:XT):XT:=fun s=>(a s).map not
theorem Ot:∀U H Q,Tx K (So ga gb) U H Q->Lh (Tx K ga) (Tx K gb) U H Q:=fun U H Q ⟨Rm,s,c,hd,env,e,k⟩=>by
 unfold So at e
 cases q:ga s with
 | none=>rw[q] at e;cases e
 | some d=>
  rw[q] at e
  refine⟨Rm,s,d,hd,env,q,fun H1 s1=>?_⟩
  cases d with
  | true=>
   simp only[Option.bind_some,if_true] at e;rw[if_pos rfl]
   exact⟨Rm,s,c,fun p hp=>Same.mut s1 (hd p hp),env.mono s1,e,fun H2 s2=>k H2 (s1.trans s2)⟩
  | false=>
   simp only[Option.bind_some,Bool.false_eq_true,if_false] at e;cases e;rw[if_neg Bool.false_ne_true]
   exact k H1 s1
theorem Mq:∀U H Q,Tx K (Wd ga gb) U H Q->KR (Tx K ga) (Tx K gb) U H Q:=fun U H Q ⟨Rm,s,c,hd,env,e,k⟩=>by
 unfold Wd at e
 cases q:ga s with
 | none=>rw[q] at e;cases e
 | some d=>
  rw[q] at e
  refine⟨Rm,s,d,hd,env,q,fun H1 s1=>?_⟩
  cases d with
  | true=>
   simp only[Option.bind_some,if_true] at e;cases e;rw[if_pos rfl]
   exact k H1 s1
  | false=>
   simp only[Option.bind_some,Bool.false_eq_true,if_false] at e;rw[if_neg Bool.false_ne_true]
   exact⟨Rm,s,c,fun p hp=>Same.mut s1 (hd p hp),env.mono s1,e,fun H2 s2=>k H2 (s1.trans s2)⟩
theorem Ou(ha:VT X a ga):VW X (.BoolOp .And [a] pos) ga:=PY ha
theorem X5(ha:VT X a ga):VW X (.BoolOp .Or [a] pos) ga:=NV ha
theorem Mr(ha:VT X a ga)(hb:VW X (.BoolOp .And (b::ZF) pos) gb):VW X (.BoolOp .And (a::b::ZF) pos) (So ga gb):=PW.imp (NW ha hb) Ot
theorem XW(ha:VT X a ga)(hb:VW X (.BoolOp .Or (b::ZF) pos) gb):VW X (.BoolOp .Or (a::b::ZF) pos) (Wd ga gb):=PW.imp (Li ha hb) Mq
theorem Xk(ha:VT X a ga):VT X (.UnaryOp .Not a pos) (YD ga):=PT.imp (NX ha) fun U H Q ⟨Rm,s,c,hd,env,e,k⟩=>by
 unfold YD at e
 cases q:ga s with
 | none=>rw[q] at e;cases e
 | some d=>rw[q] at e;cases e;exact⟨Rm,s,d,hd,env,q,k⟩
end
section
variable {X:Cx} {a b c:Expr} {ZF:List Expr} {fa fb:XE} {gc:XT} {pos:Pos}
def QL(a b:XE):XE:=fun s=>(xB a s).bind fun c=>if c=true then b s else some (.bl false)
def Kd(a b:XE):XE:=fun s=>(xB a s).bind fun c=>if c=true then some (.bl true) else b s
def Ov(a:XE):XE:=fun s=>(xB a s).map fun c=>.bl !c
def Ox(c:XT)(a b:XE):XE:=fun s=>(c s).bind fun k=>if k=true then a s else b s
theorem Sq{op}(h:VE X a fa):VE X (.BoolOp op [a] pos) fa:=NY h
theorem QM(ha:VE X a fa)(hb:VE X (.BoolOp .And (b::ZF) pos) fb):VE X (.BoolOp .And (a::b::ZF) pos) (QL fa fb):=PE.imp (NZ ha hb) fun U H Q ⟨Rm,s,l,hd,env,e,k⟩=>by
 unfold QL at e
 cases q:xB fa s with
 | none=>rw[q] at e;cases e
 | some d=>
  rw[q] at e
  refine⟨Rm,s,.bl d,hd,env,XH q,fun v H1 fp s1 i1 _=>⟨d,i1.bl_inv.1,?_⟩⟩
  cases d with
  | true=>
   simp only[Option.bind_some,if_true] at e;rw[if_pos rfl]
   exact⟨Rm,s,l,fun p hp=>Same.mut s1 (hd p hp),env.mono s1,e,fun v2 H2 fp2 s2 i2 n2=>k v2 H2 fp2 (s1.trans s2) i2 n2⟩
  | false=>
   simp only[Option.bind_some,Bool.false_eq_true,if_false] at e;cases e;rw[if_neg Bool.false_ne_true]
   exact k _ H1 [] s1 (Is.bl false) fun p hp=>by simp at hp
theorem LO(ha:VE X a fa)(hb:VE X (.BoolOp .Or (b::ZF) pos) fb):VE X (.BoolOp .Or (a::b::ZF) pos) (Kd fa fb):=PE.imp (Ll ha hb) fun U H Q ⟨Rm,s,l,hd,env,e,k⟩=>by
 unfold Kd at e
 cases q:xB fa s with
 | none=>rw[q] at e;cases e
 | some d=>
  rw[q] at e
  refine⟨Rm,s,.bl d,hd,env,XH q,fun v H1 fp s1 i1 _=>⟨d,i1.bl_inv.1,?_⟩⟩
  cases d with
  | true=>
   simp only[Option.bind_some,if_true] at e;cases e;rw[if_pos rfl]
   exact k _ H1 [] s1 (Is.bl true) fun p hp=>by simp at hp
  | false=>
   simp only[Option.bind_some,Bool.false_eq_true,if_false] at e;rw[if_neg Bool.false_ne_true]
   exact⟨Rm,s,l,fun p hp=>Same.mut s1 (hd p hp),env.mono s1,e,fun v2 H2 fp2 s2 i2 n2=>k v2 H2 fp2 (s1.trans s2) i2 n2⟩
theorem Ms(ha:VE X a fa):VE X (.UnaryOp .Not a pos) (Ov fa):=PE.imp (N0 ha) fun U H Q ⟨Rm,s,l,hd,env,e,k⟩=>by
 unfold Ov at e
 cases q:xB fa s with
 | none=>rw[q] at e;cases e
 | some d=>
  rw[q] at e;cases e
  exact⟨Rm,s,.bl d,hd,env,XH q,fun v H1 fp s1 i1 _=>⟨d,i1.bl_inv.1,k _ H1 [] s1 (Is.bl _) fun p hp=>by simp at hp⟩⟩
theorem Nv(hc:VT X c gc)(ha:VE X a fa)(hb:VE X b fb):VE X (.IfExp c a b pos) (Ox gc fa fb):=PE.imp (Qx hc ha hb) fun U H Q ⟨Rm,s,l,hd,env,e,k⟩=>by
 unfold Ox at e
 cases q:gc s with
 | none=>rw[q] at e;cases e
 | some d=>
  rw[q] at e
  refine⟨Rm,s,d,hd,env,q,fun H1 s1=>?_⟩
  cases d with
  | true=>
   simp only[Option.bind_some,if_true] at e;rw[if_pos rfl]
   exact⟨Rm,s,l,fun p hp=>Same.mut s1 (hd p hp),env.mono s1,e,fun v2 H2 fp2 s2 i2 n2=>k v2 H2 fp2 (s1.trans s2) i2 n2⟩
  | false=>
   simp only[Option.bind_some,Bool.false_eq_true,if_false] at e;rw[if_neg Bool.false_ne_true]
   exact⟨Rm,s,l,fun p hp=>Same.mut s1 (hd p hp),env.mono s1,e,fun v2 H2 fp2 s2 i2 n2=>k v2 H2 fp2 (s1.trans s2) i2 n2⟩
end
section
variable {X:Cx} {a b c:Expr} {fa fb fc:XE} {pos:Pos}
def LP(neg:Bool):PV->Option PV
 | .non=>some (.bl !neg)
 | _=>some (.bl neg)
def Sr:PV->Bool
 | .non=>true
 | _=>false
theorem VV{H:Hp}{l:PV}{v:V}{fp:List Addr}(i:Is K H l v fp):decide (v=V.non)=Sr l:=by
 cases l with
 | non=>rw[i.non_inv.1];rfl
 | bl b=>rw[i.bl_inv.1];rfl
 | int j=>rw[i.int_inv.1];rfl
 | str y=>rw[i.str_inv.1];rfl
 | ty n=>rw[i.ty_inv.1];rfl
 | exc C=>simp only[Is] at i;obtain⟨⟨e,o,x,C,rfl,_⟩,_⟩:=i;rfl
 | lst l=>obtain⟨p,xs,fq,rfl,_⟩:=i.lst_inv;rfl
 | cst l=>obtain⟨p,xs,rfl,_⟩:=i.cst_inv;rfl
 | tup l=>obtain⟨p,xs,rfl,_⟩:=i.tup_inv;rfl
 | dK ks l=>obtain⟨p,xs,fq,rfl,_⟩:=i.dK_inv;rfl
 | dT ks l=>obtain⟨p,xs,fq,rfl,_⟩:=i.dT_inv;rfl
def WR(neg:Bool)(a:XE):XE:=fun s=>(a s).bind (LP neg)
theorem Oy:∀U H Q,tF K (WR false fa) U H Q->Lg (tF K fa) U H Q:=fun U H Q ⟨Rm,s,l,hd,env,e,k⟩=>by
 unfold WR at e
 cases q:fa s with
 | none=>rw[q] at e;cases e
 | some m=>
  rw[q] at e;simp only[Option.bind_some] at e
  refine⟨Rm,s,m,hd,env,q,fun v H1 fp s1 i1 _=>?_⟩
  show Q _ H1
  rw[VV i1]
  have:l = .bl (Sr m):=by cases m<;>cases e<;>rfl
  subst this
  exact k _ H1 [] s1 (Is.bl _) fun p hp=>by simp at hp
theorem QO:∀U H Q,tF K (WR true fa) U H Q->Ng (tF K fa) U H Q:=fun U H Q ⟨Rm,s,l,hd,env,e,k⟩=>by
 unfold WR at e
 cases q:fa s with
 | none=>rw[q] at e;cases e
 | some m=>
  rw[q] at e;simp only[Option.bind_some] at e
  refine⟨Rm,s,m,hd,env,q,fun v H1 fp s1 i1 _=>?_⟩
  show Q _ H1
  rw[VV i1]
  have:l = .bl (!Sr m):=by cases m<;>cases e<;>rfl
  subst this
  exact k _ H1 [] s1 (Is.bl _) fun p hp=>by simp at hp
theorem Nw:∀U H Q,Tx K (xB fa) U H Q->tB (tF K fa) U H Q:=fun U H Q ⟨Rm,s,c,hd,env,e,k⟩=>⟨Rm,s,.bl c,hd,env,XH e,fun v H' fp sm i n=>⟨c,i.bl_inv.1,k H' sm⟩⟩
theorem S4{t t':TE}(i:∀U H Q,t' U H Q->t U H Q):∀U H Q,tB t' U H Q->tB t U H Q:=fun U H Q h=>i U H _ h
theorem Mt{j pos'}(ha:VE X a fa):VT X (.Compare a [.Is] [.Constant .none j pos'] pos) (xB (WR false fa)):=PT.imp (Qw (NT ha)) fun U H Q h=>S4 Oy U H Q (Nw U H Q h)
theorem Oz{j pos'}(ha:VE X a fa):VT X (.Compare a [.IsNot] [.Constant .none j pos'] pos) (xB (WR true fa)):=PT.imp (Qw (PX ha)) fun U H Q h=>S4 QO U H Q (Nw U H Q h)
def RO:PV->Option PV
 | .int i=>some (.int (-i))
 | _=>none
def Mu(g:PV->Option PV)(a:XE):XE:=fun s=>(a s).bind g
theorem QP(ha:VE X a fa):VE X (.UnaryOp .USub a pos) (Mu RO fa):=PE.imp (Lr Mb ha) fun U H Q ⟨Rm,s,l,hd,env,e,k⟩=>by
 unfold Mu at e
 cases q:fa s with
 | none=>rw[q] at e;cases e
 | some m=>
  rw[q] at e;simp only[Option.bind_some] at e;unfold RO at e
  split at e
  ·cases e
   exact⟨Rm,s,_,hd,env,q,fun v H1 fp s1 i1 _=>⟨_,i1.int_inv.1,k _ H1 [] s1 (Is.int _) fun p hp=>by simp at hp⟩⟩
  ·cases e
end
end VL
namespace VL
open PySem PySem.Spec PyProof.Rows L2
variable {K:PySem.W.Frag}
def Vj:List XE->ZH->Option (List PV)
 | [],_=>some []
 | f::fs,s=>(f s).bind fun x=>(Vj fs s).map (x::·)
theorem VY{f:XE}{fs:List XE}{s:ZH}{ls:List PV}(h:Vj (f::fs) s=some ls):∃x r,f s=some x/\Vj fs s=some r/\ls=x::r:=by
 unfold Vj at h
 cases q:f s with
 | none=>rw[q] at h;cases h
 | some x=>cases q2:Vj fs s with
  | none=>rw[q,q2] at h;cases h
  | some r=>rw[q,q2] at h;cases h;exact⟨x,r,rfl,rfl,rfl⟩
theorem Xl:∀{fs:List XE}{s:ZH}{ls:List PV},Vj fs s=some ls->ls.length=fs.length
 | [],_,_,h=>by cases h;rfl
 | f::fs,s,ls,h=>by
  obtain⟨x,r,_,h2,rfl⟩:=VY h
  rw[List.length_cons,List.length_cons,Xl h2]
def KZ(K:PySem.W.Frag)(fs:List XE):TA:=fun U H Q=>∃(Rm:Addr->Prop) (s:ZH) (ls:List PV),(∀p,Rm p->Wc (H p))/\EnvIs K Rm H s U/\Vj fs s=some ls/\∀vs H' fp,Same H H'->Iss K H' ls vs fp->(∀p∈fp,¬Rm p)->Q vs H'
def Jb(K:PySem.W.Frag)(fs:List XE):TA:=fun U H Q=>∃(s:ZH) (ls:List PV),EnvIs K (fun _=>False) H s U/\Vj fs s=some ls/\∀vs H' fp,Same H H'->Iss K H' ls vs fp->fp.Nodup->(∀p∈fp,H p=none/\Wc (H' p))->Q vs H'
def VA(X:Cx)(es:List Expr)(fs:List XE):Prop:=PA X es (KZ X.K fs)
def LQ(X:Cx)(es:List Expr)(fs:List XE):Prop:=PA X es (Jb X.K fs)
section
variable {X:Cx} {e:Expr} {es:List Expr} {f:XE} {fs:List XE} {pos:Pos} {k:Nat}
theorem PA.imp{t t':TA}(h:PA X es t)(i:∀U H Q,t' U H Q->t U H Q):PA X es t':=fun pos pins s U H Q I q=>h pos pins s U H Q I (i U H Q q)
theorem Zk:VA X [] []:=PA.imp VG fun U H Q ⟨Rm,s,ls,hd,env,e,k⟩=>by
 cases e
 exact k [] H [] (Same.refl H) Iss.nil fun p hp=>by simp at hp
theorem Zc(ha:VE X e f)(hr:VA X es fs)(hs:starEach (e::es) X.env=(false,eval e X.env)::starEach es X.env:=by rfl):VA X (e::es) (f::fs):=PA.imp (XF ha hr hs) fun U H Q ⟨Rm,s,ls,hd,env,e,k⟩=>by
 obtain⟨x',r',h1,h2,rfl⟩:=VY e
 refine⟨Rm,s,x',hd,env,h1,fun x H1 f1 s1 i1 n1=>⟨Rm,s,r',fun p hp=>Same.mut s1 (hd p hp),env.mono s1,h2,fun xs H2 f2 s2 i2 n2=>?_⟩⟩
 refine k _ H2 (f1++f2) (s1.trans s2) (Iss.cons (i1.mono s2) i2) fun p hp=>?_
 rcases List.mem_append.mp hp with h | h
 ·exact n1 p h
 ·exact n2 p h
theorem S5:LQ X [] []:=PA.imp VG fun U H Q ⟨s,ls,env,e,k⟩=>by
 cases e
 exact k [] H [] (Same.refl H) Iss.nil List.nodup_nil fun p hp=>by simp at hp
theorem YX(ha:VM X e f)(hr:LQ X es fs)(hs:starEach (e::es) X.env=(false,eval e X.env)::starEach es X.env:=by rfl):LQ X (e::es) (f::fs):=PA.imp (XF ha hr hs) fun U H Q ⟨s,ls,env,e,k⟩=>by
 obtain⟨x',r',h1,h2,rfl⟩:=VY e
 refine⟨s,x',env,h1,fun x H1 f1 s1 i1 d1 n1=>⟨s,r',env.mono s1,h2,fun xs H2 f2 s2 i2 d2 n2=>?_⟩⟩
 refine k _ H2 (f1++f2) (s1.trans s2) (Iss.cons (i1.mono s2) i2) ?_ fun p hp=>?_
 ·refine List.nodup_append.mpr ⟨d1,d2,fun a ha b hb z=>?_⟩
  subst z
  exact Ya (n1 a ha).2 (n2 a hb).1
 ·rcases List.mem_append.mp hp with h | h
  ·exact⟨(n1 p h).1,Same.mut s2 (n1 p h).2⟩
  ·exact⟨Same.off s1 (n2 p h).1,(n2 p h).2⟩
def LR(fs:List XE):XE:=fun s=>(Vj fs s).map .tup
def Xm(fs:List XE):XE:=fun s=>(Vj fs s).map .lst
theorem map_some{α β:Type}{o:Option α}{g:α->β}{b:β}(h:o.map g=some b):∃a,o=some a/\b=g a:=by
 cases o with
 | none=>cases h
 | some a=>cases h;exact⟨a,rfl,rfl⟩
theorem ve_tup(h:VA X es fs)(hl:fs.length<=1000:=by decide):VE X (.Tuple es k pos) (LR fs):=PE.imp (Md h) fun U H Q ⟨Rm,s,l,hd,env,e,q⟩=>by
 obtain⟨ls,e1,rfl⟩:=map_some e
 refine⟨Rm,s,ls,hd,env,e1,fun vs H1 fp s1 i1 n1=>⟨?_,fun p hp=>?_⟩⟩
 ·rw[i1.len,Xl e1];exact Nat.le_of_lt (lt_size (by omega))
 ·exact q _ _ fp (s1.trans (Same.new hp _)) (Is.tup Zw (i1.mono (Same.new hp _))) n1
theorem Ss(h:VA X es fs)(hl:fs.length<=1000:=by decide):VE X (.List es pos) (Xm fs):=PE.imp (QC h) fun U H Q ⟨Rm,s,l,hd,env,e,q⟩=>by
 obtain⟨ls,e1,rfl⟩:=map_some e
 refine⟨Rm,s,ls,hd,env,e1,fun vs H1 fp s1 i1 n1=>⟨?_,fun p hp=>?_⟩⟩
 ·rw[i1.len,Xl e1];exact Nat.le_of_lt (lt_size (by omega))
 ·refine q _ _ (p::fp) (s1.trans (Same.new hp _)) (Is.lst Zw (i1.mono (Same.new hp _))) fun a ha z=>?_
  rcases List.mem_cons.mp ha with rfl | ha
  ·exact Ya (Same.mut s1 (hd a z)) hp
  ·exact n1 a ha z
theorem QQ(h:LQ X es fs)(hl:fs.length<=1000:=by decide):VM X (.List es pos) (Xm fs):=PE.imp (QC h) fun U H Q ⟨s,l,env,e,q⟩=>by
 obtain⟨ls,e1,rfl⟩:=map_some e
 refine⟨s,ls,env,e1,fun vs H1 fp s1 i1 d1 n1=>⟨?_,fun p hp=>?_⟩⟩
 ·rw[i1.len,Xl e1];exact Nat.le_of_lt (lt_size (by omega))
 ·refine q _ _ (p::fp) (s1.trans (Same.new hp _)) (Is.lst Zw (i1.mono (Same.new hp _))) (List.nodup_cons.mpr ⟨fun z=>Ya (n1 p z).2 hp,d1⟩) fun a ha=>?_
  rcases List.mem_cons.mp ha with rfl | ha
  ·exact⟨Same.off s1 hp,by rw[Zw];exact True.intro⟩
  ·exact⟨(n1 a ha).1,Same.mut (Same.new hp _) (n1 a ha).2⟩
end
def Xt(K:PySem.W.Frag)(D:List PV->Option PV)(n:Nat):Sp:=fun vs H Q _=>vs.length=n/\∃ls fp l,Iss K H ls vs fp/\D ls=some l/\∀v H' fq,Same H H'->Is K H' l v fq->fq.Nodup->(∀p∈fq,H p=none/\Wc (H' p))->Q v H'
def Zb(D:List PV->Option PV)(fs:List XE):XE:=fun s=>(Vj fs s).bind D
theorem Ze{α β:Type}{o:Option α}{g:α->Option β}{b:β}(h:o.bind g=some b):∃a,o=some a/\g a=some b:=by
 cases o with
 | none=>cases h
 | some a=>exact⟨a,rfl,h⟩
section
variable {X:Cx} {x:Str} {ps:List Str} {k:Nat} {e:Expr} {es:List Expr} {fs:List XE} {p pos:Pos}
theorem ZC{D:List PV->Option PV}{n:Nat}(C:WG X.prog X.w X.K X.mg X.base x ps (Xt X.K D n) k)(hr:Room k X.A)(hg:Gl X x)(ha:VA X (e::es) fs)(hn:fs.length=n:=by rfl)
  (hdb:(x==("__debug__" : Str))=false:=by decide) (he:starEach (e::es) X.env=(false,eval e X.env)::starEach es X.env:=by rfl) (hpl:(backTo pos (starEach es X.env)).any (·.1)=false:=by rfl) :
  VM X (.Call (.Name x p) (e::es) [] pos) (Zb D fs):=PE.imp (Mo C hr hg ha hdb he hpl) fun U H Q ⟨s,l,env,e,q⟩=>by
 obtain⟨ls,e1,e2⟩:=Ze e
 refine⟨fun _=>False,s,ls,fun _ z=>z.elim,env,e1,fun vs H1 fp s1 i1 n1=>?_⟩
 show Xt X.K D n (vs++[]) H1 Q E0
 rw[List.append_nil]
 exact⟨by rw[i1.len,Xl e1,hn],ls,fp,l,i1,e2,fun v H2 fq s2 i2 d2 n2=>q v H2 fq (s1.trans s2) i2 d2 fun a ha=>⟨Same.off s1 (n2 a ha).1,(n2 a ha).2⟩⟩
end
def RC(K:PySem.W.Frag)(r:List V->Hp->VK->Prop)(g:List PV->Option PV):Prop:=∀(H:Hp)(vs:List V)(ls:List PV)(l:PV)(fp:List Addr),Iss K H ls vs fp->g ls=some l->∀Q:VK,
 (∀v H' fq,Same H H'->Is K H' l v fq->(∀p∈fq,p∈fp\/H p=none)->Q v H')->r vs H Q
theorem Nx{r:List V->Hp->VK->Prop}{g:List PV->Option PV}{fs:List XE}(hr:RC K r g):∀U H Q,tF K (Zb g fs) U H Q->Ky r (KZ K fs) U H Q:=fun U H Q ⟨Rm,s,l,hd,env,e,k⟩=>by
 obtain⟨ls,e1,e2⟩:=Ze e
 refine⟨Rm,s,ls,hd,env,e1,fun vs H1 fp s1 i1 n1=>hr H1 vs ls l fp i1 e2 Q fun v H2 fq s2 i2 n2=>k v H2 fq (s1.trans s2) i2 fun p hp z=>?_⟩
 rcases n2 p hp with h | h
 ·exact n1 p h z
 ·exact Ya (Same.mut s1 (hd p z)) h
section
variable {X:Cx} {x:Str} {k:Nat} {e:Expr} {es:List Expr} {fs:List XE} {p pos:Pos} {id T:String} {r:List V->Hp->VK->Prop} {g:List PV->Option PV}
theorem ZZ(hc:Xb X (.builtin id) r)(hr:RC X.K r g)(hg:Gl X x)(hm:X.mg x=none)(hv:bootBuiltins x=some (.builtin id))(ha:VA X (e::es) fs)(hn:x≠"__name__":=by decide)(hdb:(x==("__debug__" : Str))=false:=by decide)
  (he:starEach (e::es) X.env=(false,eval e X.env)::starEach es X.env:=by rfl) (hpl:(backTo pos (starEach es X.env)).any (·.1)=false:=by rfl):VE X (.Call (.Name x p) (e::es) [] pos) (Zb g fs):=
 PE.imp (Tq hc hg hm hv ha hn hdb he hpl) (Nx hr)
theorem Ym(hc:Xb X (.type T) r)(hr:RC X.K r g)(hg:Gl X x)(hm:X.mg x=none)(hv:bootBuiltins x=some (.type T))(ha:VA X (e::es) fs)(hn:x≠"__name__":=by decide)(hdb:(x==("__debug__" : Str))=false:=by decide)
  (he:starEach (e::es) X.env=(false,eval e X.env)::starEach es X.env:=by rfl) (hpl:(backTo pos (starEach es X.env)).any (·.1)=false:=by rfl):VE X (.Call (.Name x p) (e::es) [] pos) (Zb g fs):=
 PE.imp (UB hc hg hm hv ha hn hdb he hpl) (Nx hr)
end
theorem Iss.one_inv{H:Hp}{l:PV}{vs:List V}{fp:List Addr}(h:Iss K H [l] vs fp):∃v,vs=[v]/\Is K H l v fp:=by
 obtain⟨x,r,f1,f2,rfl,a,b,rfl⟩:=h.inv
 simp only[Iss] at b
 rw[b.1,b.2,List.append_nil];exact⟨x,rfl,a⟩
theorem Iss.two_inv{H:Hp}{l m:PV}{vs:List V}{fp:List Addr}(h:Iss K H [l,m] vs fp):∃v w f1 f2,vs=[v,w]/\Is K H l v f1/\Is K H m w f2/\fp=f1++f2:=by
 obtain⟨x,r,f1,f2,rfl,a,b,rfl⟩:=h.inv
 obtain⟨y,rfl,c⟩:=b.one_inv
 exact⟨x,y,f1,f2,rfl,a,c,rfl⟩
def RP:PV->Option (List PV)
 | .lst l=>some l
 | .cst l=>some l
 | .tup l=>some l
 | _=>none
theorem S6{H:Hp}{l:PV}{v:V}{fp:List Addr}{m:List PV}(h:Is K H l v fp)(e:RP l=some m):∃p xs fq,v = .ref p/\(SqL K H p xs\/SqT K H p xs)/\Iss K H m xs fq/\∀q∈fq,q∈fp:=by
 cases l with
 | lst l=>
  cases e
  obtain⟨p,xs,fq,rfl,hp,hi,rfl⟩:=h.lst_inv
  exact⟨p,xs,fq,rfl,.inl (SqL.of hp),hi,fun q hq=>List.mem_cons_of_mem _ hq⟩
 | cst l=>
  cases e
  obtain⟨p,xs,rfl,hp,hi⟩:=h.cst_inv
  exact⟨p,xs,fp,rfl,.inl hp.sq,hi,fun q hq=>hq⟩
 | tup l=>
  cases e
  obtain⟨p,xs,rfl,hp,hi⟩:=h.tup_inv
  exact⟨p,xs,fp,rfl,.inr (SqT.of hp),hi,fun q hq=>hq⟩
 | _=>cases e
def Yk:List PV->Option PV
 | [.str z]=>if z.length<=sizeLine then some (.int z.length) else none
 | [l]=>(RP l).map fun m=>.int m.length
 | _=>none
theorem VZ:RC K (fun xs H Q=>∃x n,xs=[x]/\Lw K x H n/\Q (.int n) H) Yk:=fun H vs ls l fp h e Q k=>by
 unfold Yk at e
 split at e
 ·split at e
  ·cases e
   obtain⟨v,rfl,i⟩:=h.one_inv
   exact⟨v,_,rfl,by rw[i.str_inv.1];exact⟨by assumption,rfl⟩,k _ H [] (Same.refl H) (Is.int _) fun p hp=>by simp at hp⟩
  ·cases e
 ·obtain⟨m,e1,rfl⟩:=map_some e
  obtain⟨v,rfl,i⟩:=h.one_inv
  obtain⟨p,xs,fq,rfl,hp,hi,_⟩:=S6 (K:=K) i e1
  refine⟨_,xs.length,rfl,?_,?_⟩
  ·rcases hp with hp | hp
   ·exact .inl ⟨xs,hp,rfl⟩
   ·exact .inr ⟨xs,hp,rfl⟩
  ·rw[hi.len]
   exact k _ H [] (Same.refl H) (Is.int _) fun p hp=>by simp at hp
 ·cases e
def Xn:List PV->Option PV
 | [l]=>(RP l).map .tup
 | _=>none
theorem V0:RC K (Mp K) Xn:=fun H vs ls l fp h e Q k=>by
 unfold Xn at e
 split at e
 ·obtain⟨m,e1,rfl⟩:=map_some e
  obtain⟨v,rfl,i⟩:=h.one_inv
  rename_i l0
  cases l0 with
  | tup l=>
   cases e1
   obtain⟨p,xs,rfl,hp,hi⟩:=id i.tup_inv
   exact⟨p,xs,rfl,.inr ⟨SqT.of hp,k _ H fp (Same.refl H) i fun a ha=>.inl ha⟩⟩
  | lst l=>
   cases e1
   obtain⟨p,xs,fq,rfl,hp,hi,rfl⟩:=i.lst_inv
   exact⟨p,xs,rfl,.inl ⟨SqL.of hp,fun q hq=>k _ _ fq (Same.new hq _) (Is.tup Zw (hi.mono (Same.new hq _))) fun a ha=>.inl (List.mem_cons_of_mem _ ha)⟩⟩
  | cst l=>
   cases e1
   obtain⟨p,xs,rfl,hp,hi⟩:=i.cst_inv
   exact⟨p,xs,rfl,.inl ⟨hp.sq,fun q hq=>k _ _ fp (Same.new hq _) (Is.tup Zw (hi.mono (Same.new hq _))) fun a ha=>.inl ha⟩⟩
  | _=>cases e1
 ·cases e
def QR:List PV->Option PV
 | [l]=>(RP l).bind fun m=>if Z8 m=true then some (.lst m) else none
 | _=>none
def QS:List PV->Option (List Int)
 | []=>some []
 | .int i::r=>(QS r).map (i::·)
 | _=>none
abbrev bL(l:List Bool):List PV:=l.map PV.bl
def Y5:List PV->Option (List Bool)
 | []=>some []
 | .bl i::r=>(Y5 r).map (i::·)
 | _=>none
theorem XX:∀l:List Bool,Y5 (bL l)=some l
 | []=>rfl
 | i::r=>by show(Y5 (bL r)).map (i::·)=_;rw[XX r];rfl
theorem YQ:∀{m:List PV}{l:List Bool},Y5 m=some l->m=bL l
 | [],l,h=>by cases h;rfl
 | .bl i::r,l,h=>by
  obtain⟨a,e,rfl⟩:=map_some (show(Y5 r).map (i::·)=some l from h)
  rw[YQ e];rfl
 | .non::_,_,h=>by cases h
 | .int _::_,_,h=>by cases h
 | .str _::_,_,h=>by cases h
 | .ty _::_,_,h=>by cases h
 | .exc _::_,_,h=>by cases h
 | .tup _::_,_,h=>by cases h
 | .lst _::_,_,h=>by cases h
 | .cst _::_,_,h=>by cases h
 | .dK _ _::_,_,h=>by cases h
 | .dT _ _::_,_,h=>by cases h
theorem Iss.bL{H:Hp}:∀{l:List Bool}{xs:List V}{fp:List Addr},Iss K H (VL.bL l) xs fp->xs=l.map V.bl/\fp=[]
 | [],xs,fp,h=>by simpa only[VL.bL,List.map_nil,Iss] using h
 | i::l,xs,fp,h=>by
  obtain⟨x,r,f1,f2,rfl,h1,h2,rfl⟩:=Iss.inv (show Iss K H (PV.bl i::VL.bL l) xs fp from h)
  obtain⟨rfl,rfl⟩:=h1.bl_inv
  obtain⟨rfl,rfl⟩:=h2.bL
  exact⟨rfl,rfl⟩
theorem Mv{H:Hp}{p:Addr}{xs:List V}(h:SqL K H p xs\/SqT K H p xs):∃b,LH b K H p xs:=by
 rcases h with h | h
 ·exact⟨true,h⟩
 ·exact⟨false,h⟩
def Wm:List PV->Option PV
 | [l]=>(RP l).bind fun m=>(Y5 m).map fun bs=>.bl (bs.all id)
 | _=>none
theorem Su:RC K (fun xs H Q=>∃(b:Bool) (p:Addr) (bs:List Bool),xs=[.ref p]/\LH b K H p (bs.map V.bl)/\Q (.bl (bs.all id)) H) Wm:=fun H vs ls l fp h e Q k=>by
 unfold Wm at e
 split at e
 ·obtain⟨m,e1,e2⟩:=Ze e
  obtain⟨ns,e3,rfl⟩:=map_some e2
  obtain⟨v,rfl,i⟩:=h.one_inv
  obtain⟨p,xs,fq,rfl,hp,hi,hs⟩:=S6 (K:=K) i e1
  have em:=YQ e3;subst em
  obtain⟨rfl,rfl⟩:=hi.bL
  obtain⟨b,hb⟩:=Mv hp
  exact⟨b,p,ns,rfl,hb,k _ H [] (Same.refl H) (Is.bl _) fun p hp=>by simp at hp⟩
 ·cases e
def LS:List PV->Option PV
 | [.int i,.int j]=>some (.int (if j<i then j else i))
 | _=>none
def LU:List PV->Option PV
 | [.int i,.int j]=>some (.int (if j>i then j else i))
 | _=>none
def Ny:List PV->Option PV
 | [.int i]=>some (.int i)
 | [.bl c]=>some (.int (if c then 1 else 0))
 | _=>none
section
variable {X:Cx} {e:Expr} {es:List Expr} {fs:List XE} {p pos:Pos}
def Xd:List PV->Option PV
 | [.int _,.ty "int"]=>some (.bl true)
 | [.int _,.ty "bool"]=>some (.bl false)
 | [.bl _,.ty "bool"]=>some (.bl true)
 | [.tup _,.ty "tuple"]=>some (.bl true)
 | [.lst _,.ty "list"]=>some (.bl true)
 | [.str _,.ty "str"]=>some (.bl true)
 | _=>none
theorem Uv:PySem.W.kitOne K (.type "bool") (.type "bool")=some true:=rfl
theorem Vu:RC K (fun xs H Q=>∃x T t b,xs=[x,.ty T]/\TyOf K H x t/\PySem.W.kitOne K t (.type T)=some b/\Q (.bl b) H) Xd:=fun H vs ls l fp h e Q k=>by
  have fin:∀b:Bool,l = .bl b->Q (.bl b) H:=fun b z=>by subst z;exact k _ H [] (Same.refl H) (Is.bl _) fun p hp=>by simp at hp
  unfold Xd at e
  split at e<;>first
    | (cases e
       obtain⟨v,w,f1,f2,rfl,a,b,rfl⟩:=h.two_inv
       first
         | (obtain⟨rfl,_⟩:=a.int_inv;first
             | exact⟨_,_,_,_,by rw[b.ty_inv.1],TyOf.int _,Tu,fin _ rfl⟩
             | exact⟨_,_,_,_,by rw[b.ty_inv.1],TyOf.int _,U1,fin _ rfl⟩)
         | (obtain⟨rfl,_⟩:=a.bl_inv;exact⟨_,_,_,_,by rw[b.ty_inv.1],TyOf.bl _,Uv,fin _ rfl⟩)
         | (obtain⟨rfl,_⟩:=a.str_inv;exact⟨_,_,_,_,by rw[b.ty_inv.1],TyOf.str _,Tw,fin _ rfl⟩)
         | (obtain⟨q,xs,rfl,hp,_⟩:=a.tup_inv;exact⟨_,_,_,_,by rw[b.ty_inv.1],TyOf.tup hp,Tv,fin _ rfl⟩)
         | (obtain⟨q,xs,fq,rfl,hp,_⟩:=a.lst_inv
            exact⟨_,_,_,_,by rw[b.ty_inv.1],TyOf.lst hp,Uu,fin _ rfl⟩))
    | cases e
theorem S7{x:Str}{n:String}(hg:Gl X x)(hm:X.mg x=none)(hv:bootBuiltins x=some (.type n))(hn:x≠"__name__":=by decide)(hd:(x==("__debug__" : Str))=false:=by decide):VE X (.Name x pos) (eC (.ty n)):=
 Sk (PU hg hm hv (v:=.ty n) rfl hn hd) fun _=>Is.ty n
end
end VL
namespace VL
open PySem PySem.Spec PyProof.Rows L2
variable {K:PySem.W.Frag}
open Classical in
noncomputable instance:DecidableEq PV:=fun a b=>propDecidable (a=b)
def Y3:Nat->PV->PV->Bool
 | _+1,.non,.non=>true
 | _+1,.bl _,.bl _=>true
 | _+1,.int _,.int _=>true
 | _+1,.str _,.str _=>true
 | n+1,.tup l,.tup m=>(l.zip m).all fun z=>Y3 n z.1 z.2
 | n+1,.lst l,.lst m=>(l.zip m).all fun z=>Y3 n z.1 z.2
 | _,_,_=>false
theorem Wn{α β:Type}{p:α×β->Bool}{a:α}{b:β}{l:List α}{m:List β}(h:((a::l).zip (b::m)).all p=true):p (a,b)=true/\(l.zip m).all p=true:=by
 rw[List.zip_cons_cons,List.all_cons,Bool.and_eq_true] at h;exact h
theorem Iss.inj'{n:Nat}{H:Hp}(ih:∀a b v fa fb,Y3 n a b=true->Is K H a v fa->Is K H b v fb->a=b):∀{l m:List PV}{xs:List V}{fa fb:List Addr},(l.zip m).all (fun z=>Y3 n z.1 z.2)=true->Iss K H l xs fa->Iss K H m xs fb->l=m
 | [],m,xs,fa,fb,_,h,h'=>by
  simp only[Iss] at h
  rw[h.1] at h'
  have:=h'.len
  cases m with
  | nil=>rfl
  | cons _ _=>simp at this
 | a::l,m,xs,fa,fb,hc,h,h'=>by
  obtain⟨x,r,f1,f2,rfl,h1,h2,rfl⟩:=h.inv
  cases m with
  | nil=>have:=h'.len;simp at this
  | cons b m=>
   obtain⟨x',r',g1,g2,e,h3,h4,rfl⟩:=h'.inv
   cases e
   obtain⟨c1,c2⟩:=Wn hc
   rw[ih a b x f1 g1 c1 h1 h3,Iss.inj' ih c2 h2 h4]
theorem Is.inj'{H:Hp}:∀(n:Nat)(a b:PV)(v:V)(fa fb:List Addr),Y3 n a b=true->Is K H a v fa->Is K H b v fb->a=b
 | 0,a,b,v,fa,fb,hc,_,_=>by unfold Y3 at hc;simp at hc
 | n+1,a,b,v,fa,fb,hc,ha,hb=>by
  cases a<;>cases b<;>first
   | (exfalso;revert hc;unfold Y3;simp;done)
   | skip
  ·rfl
  ·rw[ha.bl_inv.1] at hb;have:=hb.bl_inv.1;cases this;rfl
  ·rw[ha.int_inv.1] at hb;have:=hb.int_inv.1;cases this;rfl
  ·rw[ha.str_inv.1] at hb;have:=hb.str_inv.1;cases this;rfl
  ·obtain⟨p,xs,rfl,hp,hi⟩:=ha.tup_inv
   obtain⟨p',ys,e,hp',hi'⟩:=hb.tup_inv
   cases e
   rw[hp] at hp';cases hp'
   unfold Y3 at hc;rw[Iss.inj' (Is.inj' n) hc hi hi']
  ·obtain⟨p,xs,fq,rfl,hp,hi,_⟩:=ha.lst_inv
   obtain⟨p',ys,fq',e,hp',hi',_⟩:=hb.lst_inv
   cases e
   rw[hp] at hp';cases hp'
   unfold Y3 at hc;rw[Iss.inj' (Is.inj' n) hc hi hi']
section
variable {X:Cx} {pins:List (Addr×Obj)} {U:Vt} {H:Hp} {s:Shared} {A:Around}
theorem Sv{n:Nat}(ih:∀a b x y fa fb u w,Y3 n a b=true->Is K H a x fa->Is K H b y fb->RelV x u->RelV y w->∃r,SeqAt.EqAt A s u w r/\(r=true↔a=b)) :
  ∀{l m:List PV}{xs ys:List V}{fa fb:List Addr}{us ws:List Value},(l.zip m).all (fun z=>Y3 n z.1 z.2)=true->Iss K H l xs fa->Iss K H m ys fb->Vals xs us->Vals ys ws->
  ∃e:Nat->Bool,(∀j (h1:j<us.length) (h2:j<ws.length),SeqAt.EqAt A s us[j] ws[j] (e j))/\((List.range (min us.length ws.length)).all e=true↔l.take (min us.length ws.length)=m.take (min us.length ws.length))
 | [],m,xs,ys,fa,fb,us,ws,_,h,_,r,_=>by
  simp only[Iss] at h
  obtain⟨rfl,_⟩:=h
  cases r
  exact⟨fun _=>true,fun j h1=>by simp at h1,by simp⟩
 | a::l,[],xs,ys,fa,fb,us,ws,_,_,h,_,r=>by
  simp only[Iss] at h
  obtain⟨rfl,_⟩:=h
  cases r
  exact⟨fun _=>true,fun j h1 h2=>by simp at h2,by simp⟩
 | a::l,b::m,xs,ys,fa,fb,us,ws,hc,h,h',r,r'=>by
  obtain⟨x,xr,f1,f2,rfl,h1,h2,rfl⟩:=h.inv
  obtain⟨y,yr,g1,g2,rfl,h3,h4,rfl⟩:=h'.inv
  obtain⟨c1,c2⟩:=Wn hc
  cases r with
  | cons q v=>cases r' with
   | cons q' v'=>
    obtain⟨t,ht,ht'⟩:=ih a b x y f1 g1 _ _ c1 h1 h3 q q'
    obtain⟨e,he,he'⟩:=Sv ih c2 h2 h4 v v'
    refine⟨fun j=>match j with | 0=>t | k+1=>e k,fun j h1 h2=>?_,?_⟩
    ·cases j with
     | zero=>exact ht
     | succ k=>exact he k (by simpa using h1) (by simpa using h2)
    ·simp only[List.length_cons,Nat.succ_min_succ,List.range_succ_eq_map,List.all_cons,List.all_map,Bool.and_eq_true,List.take_succ_cons,List.cons.injEq]
     exact and_congr ht' he'
theorem Iss.same'{l m:List PV}{xs ys:List V}{fa fb:List Addr}{us ws:List Value}(h:Iss K H l xs fa)(h':Iss K H m ys fb)(r:Vals xs us)(r':Vals ys ws) :
  (l.take (min us.length ws.length)=m.take (min us.length ws.length)/\us.length=ws.length)↔l=m:=by
 have e1:=h.len;have e2:=h'.len;have e3:=r.length;have e4:=r'.length;constructor
 ·rintro⟨a,b⟩
  rw[List.take_of_length_le (by omega),List.take_of_length_le (by omega)] at a;exact a
 ·intro a
  subst a
  exact⟨rfl,by omega⟩
def Nz(A:Around)(s:Shared)(u w:Value)(r:Bool):Prop:=SeqAt.RcAt A s u w r/\SeqAt.RcNeAt A s u w !r
theorem U5(I:Inv X pins U H s):∀(n:Nat)(A:Around)(a b:PV)(x y:V)(fa fb:List Addr)(u w:Value),A.units+2*n+2<cLine->Y3 n a b=true->Is K H a x fa->Is K H b y fb->RelV x u->RelV y w->
  (∃r,SeqAt.EqAt A s u w r/\(r=true↔a=b))/\∃r,Nz A s u w r/\(r=true↔a=b)
 | 0,A,a,b,x,y,fa,fb,u,w,hu,hc,_,_,_,_=>by unfold Y3 at hc;simp at hc
 | n+1,A,a,b,x,y,fa,fb,u,w,hu,hc,ha,hb,ru,rw'=>by
  cases a<;>cases b<;>first
   | (exfalso;revert hc;unfold Y3;simp;done)
   | skip
  ·rw[ha.non_inv.1] at ru;rw[hb.non_inv.1] at rw'
   cases ru;cases rw'
   exact⟨⟨true,SeqAt.EqAt.same _,by simp⟩,true,⟨SeqAt.RcAt.none_none,SeqAt.RcNeAt.none_none⟩,by simp⟩
  ·rw[ha.bl_inv.1] at ru;rw[hb.bl_inv.1] at rw'
   cases ru;cases rw'
   exact⟨⟨_,SeqAt.EqAt.bool_bool _ _,by simp⟩,_,⟨SeqAt.RcAt.bool_bool _ _,SeqAt.RcNeAt.bool_bool _ _⟩,by simp⟩
  ·rw[ha.int_inv.1] at ru;rw[hb.int_inv.1] at rw'
   obtain⟨t,rfl⟩:=ru
   obtain⟨t',rfl⟩:=rw'
   exact⟨⟨_,SeqAt.EqAt.int_int _ _ _ _,by simp⟩,_,⟨SeqAt.RcAt.int_int _ _ _ _,SeqAt.RcNeAt.int_int _ _ _ _⟩,by simp⟩
  ·rw[ha.str_inv.1] at ru;rw[hb.str_inv.1] at rw'
   obtain⟨t,rfl⟩:=ru
   obtain⟨t',rfl⟩:=rw'
   exact⟨⟨_,SeqAt.EqAt.str_str _ _ _ _,by simp⟩,_,⟨SeqAt.RcAt.str_str _ _ _ _,SeqAt.RcNeAt.str_str _ _ _ _⟩,by simp⟩
  ·rename_i l1 l2
   obtain⟨p,xs,rfl,hp,hi⟩:=id ha.tup_inv
   obtain⟨p',ys,rfl,hp',hi'⟩:=id hb.tup_inv
   cases ru
   cases rw'
   have hc':=hc
   unfold Y3 at hc'
   obtain⟨us,rv,q,_⟩:=I.tuple (SqT.of hp)
   obtain⟨ws,rv',q',_⟩:=I.tuple (SqT.of hp')
   obtain⟨f,hf,hf'⟩:=Sv (A:=A.in1) (fun a b x y fa fb u w c i1 i2 r1 r2=>(U5 I n A.in1 a b x y fa fb u w (by show A.units+1+2*n+2<cLine;omega) c i1 i2 r1 r2).1) hc' hi hi' rv rv'
   have rc:=SeqAt.RcAt.tuples (A:=A) (e:=f) (show s.heap.IsTuple p us.toArray from q) (show s.heap.IsTuple p' ws.toArray from q') (by omega) (fun j h1 h2=>hf j (by simpa using h1) (by simpa using h2))
   have rn:=SeqAt.RcNeAt.tuples (A:=A) (e:=f) (show s.heap.IsTuple p us.toArray from q) (show s.heap.IsTuple p' ws.toArray from q') (by omega) (fun j h1 h2=>hf j (by simpa using h1) (by simpa using h2))
   have key:(((List.range (min us.toArray.size ws.toArray.size)).all f&&us.toArray.size==ws.toArray.size)=true)↔PV.tup l1=PV.tup l2:=by
    simp only[List.size_toArray,Bool.and_eq_true,beq_iff_eq,PV.tup.injEq];rw[hf']
    exact Iss.same' hi hi' rv rv'
   refine⟨?_,_,⟨rc,rn⟩,key⟩
   by_cases e:p=p'
   ·subst e
    exact⟨true,SeqAt.EqAt.same _,by simp[Is.inj' (n+1) _ _ _ _ _ hc ha hb]⟩
   ·exact⟨_,SeqAt.EqAt.of_refs e rc,key⟩
  ·rename_i l1 l2
   obtain⟨p,xs,fq,rfl,hp,hi,_⟩:=id ha.lst_inv
   obtain⟨p',ys,fq',rfl,hp',hi',_⟩:=id hb.lst_inv
   cases ru
   cases rw'
   have hc':=hc
   unfold Y3 at hc'
   obtain⟨us,rv,q,_⟩:=I.list (SqL.of hp)
   obtain⟨ws,rv',q',_⟩:=I.list (SqL.of hp')
   obtain⟨f,hf,hf'⟩:=Sv (A:=A.in1) (fun a b x y fa fb u w c i1 i2 r1 r2=>(U5 I n A.in1 a b x y fa fb u w (by show A.units+1+2*n+2<cLine;omega) c i1 i2 r1 r2).1) hc' hi hi' rv rv'
   have fin:∃r,Nz A s (.ref p) (.ref p') r/\(r=true↔PV.lst l1=PV.lst l2):=by
    have key:=Iss.same' hi hi' rv rv'
    by_cases hsz:us.length=ws.length
    ·refine⟨_,⟨SeqAt.RcAt.lists (e:=f) q.isList q'.isList (by simpa using hsz) (by omega) (fun j h1 h2=>hf j (by simpa using h1) (by simpa using h2)),SeqAt.RcNeAt.lists (e:=f) q.isList q'.isList (by simpa using hsz) (by omega) (fun j h1 h2=>hf j (by simpa using h1) (by simpa using h2))⟩,?_⟩
     rw[hsz,Nat.min_self] at hf' key
     simp only[List.size_toArray,PV.lst.injEq];rw[hsz,hf',<-key]
     simp
    ·refine⟨false,⟨SeqAt.RcAt.lists_lengths q.isList q'.isList (by simpa using hsz) (by omega),SeqAt.RcNeAt.lists_lengths q.isList q'.isList (by simpa using hsz) (by omega)⟩,?_⟩
     rw[PV.lst.injEq,<-key];simp[hsz]
   obtain⟨r,hr,hk⟩:=fin
   refine⟨?_,r,hr,hk⟩
   by_cases e:p=p'
   ·subst e
    exact⟨true,SeqAt.EqAt.same _,by simp[Is.inj' (n+1) _ _ _ _ _ hc ha hb]⟩
   ·exact⟨r,SeqAt.EqAt.of_refs e hr.1,hk⟩
end
def Mw(K:PySem.W.Frag)(neg:Bool):R2:=fun x y H Q=>∃a b fa fb,Is K H a x fa/\Is K H b y fb/\Y3 8 a b=true/\∀r:Bool,(r=true↔a=b)->Q (.bl (if neg then !r else r)) H
section
variable {X:Cx}
theorem QT(hu:X.A.units+64<cLine):XD X (compareOp .Eq) (Mw X.K false):=by
 intro pins s U H x y v u Q I rx ry h
 obtain⟨a,b,fa,fb,ha,hb,hc,q⟩:=h
 obtain⟨_,r,hr,hk⟩:=U5 I 8 X.A a b x y fa fb v u (by omega) hc ha hb rx ry
 exact hr.1 X.prog X.w X.xe _ ⟨.bl r,H,I,rfl,q r hk⟩
theorem QU(hu:X.A.units+64<cLine):XD X (compareOp .NotEq) (Mw X.K true):=by
 intro pins s U H x y v u Q I rx ry h
 obtain⟨a,b,fa,fb,ha,hb,hc,q⟩:=h
 obtain⟨_,r,hr,hk⟩:=U5 I 8 X.A a b x y fa fb v u (by omega) hc ha hb rx ry
 exact hr.2 X.prog X.w X.xe _ ⟨.bl !r,H,I,rfl,q r hk⟩
end
noncomputable def Yd(neg:Bool):PV->PV->Option PV:=fun a b=>if Y3 8 a b=true then some (.bl (if neg then !decide (a=b) else decide (a=b))) else none
theorem U6(neg:Bool):RB K (Mw K neg) (Yd neg):=fun H x y a b l fa fb ha hb e Q k=>by
 unfold Yd at e
 split at e
 ·cases e
  refine⟨a,b,fa,fb,ha,hb,by assumption,fun r hr=>?_⟩
  have:r=decide (a=b):=by
   cases r with
   | true=>exact(decide_eq_true (hr.mp rfl)).symm
   | false=>exact(decide_eq_false fun z=>Bool.false_ne_true (hr.mpr z)).symm
  subst this
  exact k _ H [] (Same.refl H) (Is.bl _) fun p hp=>by simp at hp
 ·cases e
end VL
namespace VL
open PySem PySem.Spec PyProof.Rows L2
variable {K:PySem.W.Frag}
mutual
theorem Is.dom{H:Hp}:∀(l:PV)(v:V)(fp:List Addr),Is K H l v fp->∀p∈fp,H p≠none
 | .non,_,_,h=>by simp only[Is] at h;rw[h.2];simp
 | .bl _,_,_,h=>by simp only[Is] at h;rw[h.2];simp
 | .int _,_,_,h=>by simp only[Is] at h;rw[h.2];simp
 | .str _,_,_,h=>by simp only[Is] at h;rw[h.2];simp
 | .ty _,_,_,h=>by simp only[Is] at h;rw[h.2];simp
 | .exc _,_,_,h=>by simp only[Is] at h;rw[h.2];simp
 | .tup l,v,fp,h=>by
  obtain⟨p,xs,_,_,hi⟩:=h.tup_inv
  exact Iss.dom l xs fp hi
 | .lst l,v,fp,h=>by
  obtain⟨p,xs,fq,_,hp,hi,rfl⟩:=h.lst_inv
  intro q hq
  rcases List.mem_cons.mp hq with rfl | hq
  ·rw[hp];simp
  ·exact Iss.dom l xs fq hi q hq
 | .cst l,v,fp,h=>by
  obtain⟨p,xs,_,_,hi⟩:=h.cst_inv
  exact Iss.dom l xs fp hi
 | .dK ks l,v,fp,h=>by
  obtain⟨p,kvs,fq,_,hp,_,hi,rfl⟩:=h.dK_inv
  intro q hq
  rcases List.mem_cons.mp hq with rfl | hq
  ·rcases hp with e | ⟨o,e⟩<;>rw[e]<;>simp
  ·exact Iss.dom l _ fq hi q hq
 | .dT ks l,v,fp,h=>by
  obtain⟨p,kvs,fq,_,hp,_,hi,rfl⟩:=h.dT_inv
  intro q hq
  rcases List.mem_cons.mp hq with rfl | hq
  ·rcases hp with e | ⟨o,e⟩<;>rw[e]<;>simp
  ·exact Iss.dom l _ fq hi q hq
theorem Iss.dom{H:Hp}:∀(l:List PV)(xs:List V)(fp:List Addr),Iss K H l xs fp->∀p∈fp,H p≠none
 | [],_,_,h=>by simp only[Iss] at h;rw[h.2];simp
 | l::ls,xs,fp,h=>by
  obtain⟨x,r,f1,f2,_,h1,h2,rfl⟩:=h.inv
  intro q hq
  rcases List.mem_append.mp hq with hq | hq
  ·exact Is.dom l x f1 h1 q hq
  ·exact Iss.dom ls r f2 h2 q hq
end
def Ab(Rm:Addr->Prop)(H H':Hp):Prop:=∀b o,H b=some o->¬Rm b->H' b=some o
theorem Same.ab{Rm:Addr->Prop}{H H':Hp}(s:Same H H'):Ab Rm H H':=fun b o h _=>s b o h
theorem Ab.tk{Rm:Addr->Prop}{H H':Hp}(a:Ab Rm H H')(hd:∀p,Rm p->Wc (H p)):LJ H H':=⟨fun b xs h=>a b _ h fun z=>by
 have:=hd b z
 rw[h] at this;exact this,fun b o xs h=>a b _ h fun z=>by
 have:=hd b z
 rw[h] at this;exact this,fun b o x h=>a b _ h fun z=>by
 have:=hd b z
 rw[h] at this;exact this⟩
theorem Is.ab{Rm:Addr->Prop}{H H':Hp}(a:Ab Rm H H')(hd:∀p,Rm p->Wc (H p)){l:PV}{v:V}{fp:List Addr}(n:∀p∈fp,¬Rm p)(h:Is K H l v fp):Is K H' l v fp:=
 Is.tr (a.tk hd) l v fp (fun p hp=>RdK.of fun o q=>a p o q (n p hp)) h
structure KG(K:PySem.W.Frag)(Rm:Addr->Prop)(H1:Hp)(J:It)(ls:List PV):Prop where
 stop:∀H',Ab Rm H1 H'->J.stop ls.length H'
 go:∀H' (i:Nat) l,Ab Rm H1 H'->ls[i]?=some l->J.go i H'
 yld:∀H' (i:Nat) l x H'',Ab Rm H1 H'->ls[i]?=some l->J.yld i H' x H''->Same H' H''/\∃fp,Is K H'' l x fp/\∀p∈fp,H1 p≠none/\¬Rm p
abbrev XL:=ZH->Option (List PV)
def iF(K:PySem.W.Frag)(f:XL):TI:=fun U H R=>∃(Rm:Addr->Prop) (s:ZH) (ls:List PV),(∀p,Rm p->Wc (H p))/\EnvIs K Rm H s U/\f s=some ls/\∀J H1,Same H H1->KG K Rm H1 J ls->R J H1
def VI(X:Cx)(tg e:Expr)(f:XL):Prop:=PI X tg e (iF X.K f)
section
variable {X:Cx} {tg e:Expr} {es:List Expr}
theorem PI.imp{t t':TI}(h:PI X tg e t)(i:∀U H R,t' U H R->t U H R):PI X tg e t':=fun pins s U H R I q=>h pins s U H R I (i U H R q)
def La:PV->Option (List PV)
 | .lst m=>some m
 | .cst m=>some m
 | _=>none
def V1(f:XE):XL:=fun s=>(f s).bind La
def Wo(f:XE):XL:=fun s=>match f s with | some (.tup m)=>some m | _=>none
theorem QV{a:PV}{m:List PV}(h:La a=some m):a = .lst m\/a = .cst m:=by
 unfold La at h;split at h
 ·cases h;exact .inl rfl
 ·cases h;exact .inr rfl
 ·cases h
theorem RQ{f:XE}{s:ZH}{m:List PV}(h:Wo f s=some m):f s=some (.tup m):=by
 unfold Wo at h;split at h
 ·cases h;assumption
 ·cases h
theorem U7{f:XE}(h:VE X e f):VI X tg e (V1 f):=PI.imp (P1 h) fun U H R ⟨Rm,s,ls,hd,env,e,k⟩=>by
 obtain⟨l,e1,e2⟩:=Ze e
 refine⟨Rm,s,l,hd,env,e1,fun v H1 fp s1 i1 n1=>?_⟩
 have hd1:∀p,Rm p->Wc (H1 p):=fun p hp=>Same.mut s1 (hd p hp)
 have main:∀a xs fq,v = .ref a->SqL X.K H1 a xs->(∀H',Ab Rm H1 H'->SqL X.K H' a xs)->Iss X.K H1 ls xs fq->(∀p∈fq,p∈fp)->∃a,v = .ref a/\(∃xs,SqL X.K H1 a xs)/\R (Kq X.K a) H1:=by
  rintro a xs fq rfl ha keep hi sub
  refine⟨a,rfl,⟨xs,ha⟩,k _ H1 s1 ⟨fun H' ab=>⟨xs,keep H' ab,by rw[hi.len];exact Nat.le_refl _⟩,fun H' i l ab hl=>?_,fun H' i l x H'' ab hl y=>?_⟩⟩
  ·obtain⟨x,f1,hx,_,_⟩:=hi.get hl
   exact⟨xs,x,keep H' ab,hx⟩
  ·obtain⟨rfl,y⟩:=y
   obtain⟨x',f1,hx,ix,sub'⟩:=hi.get hl
   have:=y xs (keep _ ab)
   rw[hx] at this;cases this
   have n1':∀p∈f1,¬Rm p:=fun p hp=>n1 p (sub p (sub' p hp))
   exact⟨Same.refl _,f1,ix.ab ab hd1 n1',fun p hp=>⟨Is.dom _ _ _ ix p hp,n1' p hp⟩⟩
 rcases QV e2 with rfl | rfl
 ·obtain⟨a,xs,fq,rfl,ha,hi,rfl⟩:=i1.lst_inv
  exact main a xs fq rfl (SqL.of ha) (fun H' ab=>SqL.of (ab a _ ha (n1 a List.mem_cons_self))) hi fun p hp=>List.mem_cons_of_mem _ hp
 ·obtain⟨a,xs,rfl,ha,hi⟩:=i1.cst_inv
  exact main a xs fp rfl ha.sq (fun H' ab=>(ha.tr (ab.tk hd1)).sq) hi fun p hp=>hp
theorem Sw{f:XE}(h:VE X e f):VI X tg e (Wo f):=PI.imp (N2 h) fun U H R ⟨Rm,s,ls,hd,env,e,k⟩=>by
 refine⟨Rm,s,.tup ls,hd,env,RQ e,fun v H1 fp s1 i1 n1=>?_⟩
 obtain⟨a,xs,rfl,ha,hi⟩:=i1.tup_inv
 have hd1:∀p,Rm p->Wc (H1 p):=fun p hp=>Same.mut s1 (hd p hp)
 have keep:∀H',Ab Rm H1 H'->SqT X.K H' a xs:=fun H' ab=>SqT.of ((ab.tk hd1).tup a xs ha)
 refine⟨a,rfl,⟨xs,SqT.of ha⟩,k _ H1 s1 ⟨fun H' ab=>⟨xs,keep H' ab,by rw[hi.len];exact Nat.le_refl _⟩,fun H' i l ab hl=>?_,fun H' i l x H'' ab hl y=>?_⟩⟩
 ·obtain⟨x,f1,hx,_,_⟩:=hi.get hl
  exact⟨xs,x,keep H' ab,hx⟩
 ·obtain⟨rfl,y⟩:=y
  obtain⟨x',f1,hx,ix,sub⟩:=hi.get hl
  have:=y xs (keep _ ab)
  rw[hx] at this;cases this
  have n1':∀p∈f1,¬Rm p:=fun p hp=>n1 p (sub p hp)
  exact⟨Same.refl _,f1,ix.ab ab hd1 n1',fun p hp=>⟨Is.dom _ _ _ ix p hp,n1' p hp⟩⟩
def V2(n:Nat):List PV:=(List.range n).map fun(i:Nat)=>PV.int (i:Int)
def RS(lo:Int)(n:Nat):List PV:=(List.range n).map fun(i:Nat)=>PV.int (lo+(i:Int))
def Xq(fs:List XE):XL:=fun s=>match Vj fs s with | some [.int j]=>if -1000000<=j/\j<=1000000 then some (V2 j.toNat) else none | _=>none
theorem OA{Rm:Addr->Prop}{H1:Hp}(lo:Int)(n:Nat):KG K Rm H1 (Kb lo n) (RS lo n):=by
 refine⟨fun H' _=>by unfold RS;rw[List.length_map,List.length_range];exact Nat.le_refl n,fun H' i l _ hl=>?_,fun H' i l x H'' _ hl y=>?_⟩
 ·have:=(List.getElem?_eq_some_iff.mp hl).1
  unfold RS at this;rw[List.length_map,List.length_range] at this;exact this
 ·obtain⟨rfl,rfl⟩:=y
  have hi:=(List.getElem?_eq_some_iff.mp hl).1
  unfold RS at hi hl;rw[List.length_map,List.length_range] at hi;rw[List.getElem?_map,List.getElem?_range hi] at hl;cases hl
  exact⟨Same.refl _,[],Is.int _,fun p hp=>by simp at hp⟩
theorem OB(n:Nat):V2 n=RS 0 n:=by
 unfold V2 RS
 apply List.map_congr_left
 intro i _;rw[Int.zero_add]
theorem UH{a:Expr}{fs:List XE}{p pos:Pos}(hg:Gl X "range")(hm:X.mg "range" = none)(ha:VA X [a] fs)(hs:starEach [a] X.env=[(false,eval a X.env)]:=by rfl):VI X tg (.Call (.Name "range" p) [a] [] pos) (Xq fs):=
 PI.imp (RE hg hm ha hs) fun U H R ⟨Rm,s,ls,hd,env,e,k⟩=>by
 unfold Xq at e
 split at e
 ·split at e
  ·cases e
   rename_i j he hb
   refine⟨Rm,s,_,hd,env,he,fun vs H1 fp s1 i1 _=>?_⟩
   obtain⟨v,rfl,i⟩:=i1.one_inv
   refine⟨j,by rw[i.int_inv.1],by omega,by omega,k _ H1 s1 ?_⟩
   rw[OB];exact OA _ _
  ·cases e
 ·cases e
def seqB:Bool->PV->Option (List PV)
 | true,.lst l=>some l
 | true,.cst l=>some l
 | false,.tup l=>some l
 | _,_=>none
end
inductive Tgt where
 | one (i:Nat) | many (is:List Nat)
def Tgt.slots:Tgt->List Nat
 | .one i=>[i]
 | .many is=>is
def setAll:List Nat->List PV->ZH->ZH
 | i::is,l::ls,s=>setAll is ls (s.set i (some l))
 | _,_,s=>s
def ZX:List Nat->List V->Vt->Vt
 | i::is,l::ls,s=>ZX is ls (s.set i (some l))
 | _,_,s=>s
def XY:Tgt->PV->ZH->Option ZH
 | .one i,l,s=>some (s.set i (some l))
 | .many is,.tup ls,s=>if ls.length=is.length then some (setAll is ls s) else none
 | _,_,_=>none
def Sx:List Nat->Lm
 | []=>Ko
 | i::is=>Ln (Vb i) (Sx is)
def gT(K:PySem.W.Frag):Tgt->TG
 | .one i=>Vb i
 | .many is=>Kp K is.length (Sx is)
theorem V3:∀{is:List Nat}{vs:List V}{U:Vt}{H:Hp}{Q:Vt->Hp->Prop},vs.length=is.length->Q (ZX is vs U) H->Sx is vs U H Q
 | [],[],_,_,_,_,q=>⟨rfl,q⟩
 | [],_::_,_,_,_,h,_=>by simp at h
 | _::_,[],_,_,_,h,_=>by simp at h
 | i::is,v::vs,U,H,Q,h,q=>⟨v,vs,rfl,V3 (is:=is) (vs:=vs) (by simpa using h) q⟩
theorem U8{T:Tgt}{l:PV}{v:V}{fp:List Addr}{s s':ZH}{H:Hp}(h:Is K H l v fp)(e:XY T l s=some s') :
  ∃ls vs fs,s'=setAll T.slots ls s/\Iss K H ls vs fs/\ls.length=T.slots.length/\(∀p∈fs,p∈fp)/\∀U (Q:Vt->Hp->Prop),Q (ZX T.slots vs U) H->gT K T v U H Q:=by
 cases T with
 | one i=>
  cases e
  exact⟨[l],[v],fp,rfl,Iss.one h,rfl,fun p hp=>hp,fun U Q q=>q⟩
 | many is=>
  cases l with
  | tup ls=>
   have e:(if ls.length=is.length then some (VL.setAll is ls s) else none)=some s':=e
   split at e
   ·cases e
    obtain⟨p,xs,rfl,hp,hi⟩:=h.tup_inv
    exact⟨ls,xs,fp,rfl,hi,by assumption,fun p hp=>hp,fun U Q q=>⟨p,xs,rfl,SqT.of hp,by rw[hi.len];assumption,V3 (by rw[hi.len];assumption) q⟩⟩
   ·cases e
  | _=>cases e
theorem Yb:∀{is:List Nat}{vs:List V}{U:Vt}{n:Nat},(∀i∈is,i<n)->(ZX is vs U).drop n=U.drop n
 | [],_,_,_,_=>rfl
 | _::_,[],_,_,_=>rfl
 | i::is,v::vs,U,n,h=>by
  show(ZX is vs (U.set i (some v))).drop n=_
  rw[Yb (fun j hj=>h j (List.mem_cons_of_mem _ hj))]
  have:=h i List.mem_cons_self
  rw[List.drop_set,if_pos this]
theorem EnvIs.set{Rm:Addr->Prop}{H:Hp}{s:ZH}{U:Vt}{i:Nat}{l:PV}{v:V}{fp:List Addr}(h:EnvIs K Rm H s U)(hl:s.length=U.length)(hi:Is K H l v fp)(n:∀p∈fp,¬Rm p):EnvIs K Rm H (s.set i (some l)) (U.set i (some v)):=⟨fun j a e=>by
 rw[List.getElem?_set] at e
 by_cases hj:i=j
 ·subst hj
  rw[if_pos rfl] at e
  split at e
  ·cases e
   exact⟨v,fp,by rw[List.getElem?_set,if_pos rfl,if_pos (by omega)],hi,n⟩
  ·cases e
 ·rw[if_neg hj] at e
  obtain⟨w,f,h1,h2,h3⟩:=h.is j a e
  exact⟨w,f,by rw[List.getElem?_set,if_neg hj];exact h1,h2,h3⟩⟩
theorem EnvIs.setAll{Rm:Addr->Prop}{H:Hp}:∀{is:List Nat}{ls:List PV}{vs:List V}{fs:List Addr}{s:ZH}{U:Vt},EnvIs K Rm H s U->s.length=U.length->Iss K H ls vs fs->(∀p∈fs,¬Rm p)->EnvIs K Rm H (VL.setAll is ls s) (ZX is vs U)
 | [],_,_,_,_,_,h,_,_,_=>by unfold VL.setAll ZX;exact h
 | i::is,[],vs,fs,s,U,h,_,hi,_=>by
  simp only[Iss] at hi;rw[hi.1];exact h
 | i::is,l::ls,vs,fs,s,U,h,hl,hi,n=>by
  obtain⟨x,r,f1,f2,rfl,h1,h2,rfl⟩:=hi.inv
  show EnvIs K Rm H (VL.setAll is ls (s.set i (some l))) (ZX is r (U.set i (some x)))
  exact EnvIs.setAll (h.set hl h1 fun p hp=>n p (List.mem_append_left _ hp)) (by rw[List.length_set,List.length_set];exact hl) h2 fun p hp=>n p (List.mem_append_right _ hp)
def ZQ(n:Nat)(ix:List Nat)(s:ZH):ZH:=List.replicate n none++ix.map (fun i=>(s[i]?).join)
def Xe(T:Tgt)(ft:XT)(fe:XE)(s0:ZH):List PV->Option (List PV)
 | []=>some []
 | l::r=>(XY T l s0).bind fun s1=>(ft s1).bind fun c=>if c=true then(fe s1).bind fun y=>(Xe T ft fe s0 r).map (y::·) else Xe T ft fe s0 r
def ZR(n:Nat)(ix:List Nat)(fi:XL)(T:Tgt)(ft:XT)(fe:XE):XE:=fun s=>(fi s).bind fun ls=>if ls.length<=10000 then(Xe T ft fe (ZQ n ix s) ls).map .lst else none
def ZS:XT:=fun _=>some true
theorem join_some{α:Type}{o:Option (Option α)}{a:α}(h:o.join=some a):o=some (some a):=by
 cases o with
 | none=>cases h
 | some b=>cases b with
  | none=>cases h
  | some c=>cases h;rfl
theorem EnvIs.comp{Rm:Addr->Prop}{H:Hp}{s:ZH}{U:Vt}{n:Nat}{ix:List Nat}(h:EnvIs K Rm H s U):EnvIs K Rm H (ZQ n ix s) (Zt n ix U):=⟨fun i l e=>by
 unfold ZQ at e;unfold Zt
 by_cases hi:i<n
 ·rw[List.getElem?_append_left (by simpa using hi),List.getElem?_replicate,if_pos hi] at e
  cases e
 ·rw[List.getElem?_append_right (by simpa using hi),List.length_replicate,List.getElem?_map] at e
  rw[List.getElem?_append_right (by simpa using hi),List.length_replicate,List.getElem?_map]
  cases q:ix[i-n]? with
  | none=>rw[q] at e;cases e
  | some j=>
   rw[q] at e
   have e:=join_some (Option.some.inj e)
   obtain⟨v,fp,a,b,c⟩:=h.is j l e
   exact⟨v,fp,by show some ((U[j]?).join)=_;rw[a];rfl,b,c⟩⟩
theorem V4(n:Nat)(ix:List Nat)(s:ZH)(U:Vt):(ZQ n ix s).length=(Zt n ix U).length:=by unfold ZQ Zt;simp
theorem V5{T:Tgt}{ft:XT}{fe:XE}{s0:ZH}{l:PV}{r ys:List PV}(h:Xe T ft fe s0 (l::r)=some ys):∃s1 c,XY T l s0=some s1/\ft s1=some c/\((c=true/\∃y zs,fe s1=some y/\Xe T ft fe s0 r=some zs/\ys=y::zs)\/(c=false/\Xe T ft fe s0 r=some ys)):=by
 unfold Xe at h
 obtain⟨s1,e1,h⟩:=Ze h
 obtain⟨c,e2,h⟩:=Ze h
 refine⟨s1,c,e1,e2,?_⟩
 cases c with
 | true=>
  rw[if_pos rfl] at h
  obtain⟨y,e3,h⟩:=Ze h
  obtain⟨zs,e4,rfl⟩:=map_some h
  exact .inl ⟨rfl,y,zs,e3,e4,rfl⟩
 | false=>
  rw[if_neg Bool.false_ne_true] at h
  exact .inr ⟨rfl,h⟩
theorem Wq{α:Type}{l:List α}{i:Nat}{a:α}{r:List α}(h:l.drop i=a::r):l[i]?=some a/\l.drop (i+1)=r:=by
 constructor
 ·have:=congrArg (fun z=>z[0]?) h
  simpa [List.getElem?_drop] using this
 ·rw[<-List.drop_drop,h];rfl
section
variable {n:Nat} {ix:List Nat} {fi:XL} {T:Tgt} {ft:XT} {fe:XE}
theorem OC(hT:∀i∈T.slots,i<n):∀U H Q,tF K (ZR n ix fi T ft fe) U H Q->UD n ix (iF K fi) (gT K T) (Tx K ft) (tF K fe) U H Q:=fun U H Q ⟨Rm,s,L,hd,env,e,k⟩=>by
 obtain⟨ls,e1,e⟩:=Ze e
 split at e
 case isFalse=>cases e
 rename_i hlen
 obtain⟨ys,e2,rfl⟩:=map_some e
 refine⟨Rm,s,ls,hd,env,e1,fun J H1 s1 jis=>?_⟩
 have hd1:∀p,Rm p->Wc (H1 p):=fun p hp=>Same.mut s1 (hd p hp)
 refine⟨fun i m vs Hc=>m=ls.length-i/\i<=ls.length/\Same H1 Hc/\∃dn ZF fp,ys=dn++ZF/\dn.length<=i/\Xe T ft fe (ZQ n ix s) (ls.drop i)=some ZF/\Iss K Hc dn vs fp/\∀p∈fp,¬Rm p,
  ⟨ls.length,by simp,Nat.zero_le _,Same.refl H1,[],ys,[],rfl,Nat.le_refl _,e2,Iss.nil,fun p hp=>by simp at hp⟩,?_⟩
 rintro i m vs Hc ⟨rfl,hi,sc,dn,ZF,fp,rfl,hdl,ec,iv,nv⟩
 refine⟨by rw[iv.len];exact Nat.le_of_lt (lt_size (by omega)),?_⟩
 cases q:ls.drop i with
 | nil=>
  have hil:i=ls.length:=by
   have:=congrArg List.length q
   rw[List.length_drop] at this
   simp at this;omega
  subst hil;rw[q] at ec;cases ec
  refine .inl ⟨jis.stop Hc (Same.ab sc),fun p hp=>k _ _ (p::fp) (s1.trans (sc.trans (Same.new hp _))) ?_ fun a ha z=>?_⟩
  ·rw[List.append_nil]
   exact Is.lst Zw (iv.mono (Same.new hp _))
  ·rcases List.mem_cons.mp ha with rfl | ha
   ·exact Ya (Same.mut (s1.trans sc) (hd a z)) hp
   ·exact nv a ha z
 | cons l r=>
  obtain⟨hl,hr⟩:=Wq q
  have hilt:i<ls.length:=(List.getElem?_eq_some_iff.mp hl).1
  rw[q] at ec
  obtain⟨sb,c,eb,et,alt⟩:=V5 ec
  refine .inr ⟨jis.go Hc i l (Same.ab sc) hl,fun vs' H'=>Same H1 H'/\∃dn' rest' fp',dn++ZF=dn'++rest'/\dn'.length<=i+1/\Xe T ft fe (ZQ n ix s) (ls.drop (i+1))=some rest'/\Iss K H' dn' vs' fp'/\∀p∈fp',¬Rm p,
   fun vs' H' h'=>⟨ls.length-(i+1),by omega,rfl,hilt,h'.1,h'.2⟩,fun x H2 y=>?_⟩
  obtain⟨s2,fx,ix',nx⟩:=jis.yld Hc i l x H2 (Same.ab sc) hl y
  have hd2:∀p,Rm p->Wc (H2 p):=fun p hp=>Same.mut (sc.trans s2) (hd1 p hp)
  obtain⟨bl,bv,bf,rfl,bi,_,bsub,buse⟩:=U8 (K:=K) ix' eb
  have env2:EnvIs K Rm H2 (ZQ n ix s) (Zt n ix U):=(env.mono (s1.trans (sc.trans s2))).comp
  have env3:=env2.setAll (is:=T.slots) (V4 n ix s U) bi fun p hp=>(nx p (bsub p hp)).2
  refine buse _ _ ⟨Yb hT,Rm,_,c,hd2,env3,et,fun H3 s3=>?_⟩
  have hd3:∀p,Rm p->Wc (H3 p):=fun p hp=>Same.mut s3 (hd2 p hp)
  rcases alt with⟨rfl,y',zs,ey,ez,rfl⟩ | ⟨rfl,ez⟩
  ·refine Mn ?_
   refine⟨Rm,_,y',hd3,env3.mono s3,ey,fun v H4 f4 s4 i4 n4=>?_⟩
   refine⟨sc.trans (s2.trans (s3.trans s4)),dn++[y'],zs,fp++f4,by rw[List.append_assoc];rfl,by rw[List.length_append];simp;exact hdl,by rw[hr];exact ez,(iv.mono (s2.trans (s3.trans s4))).append (Iss.one i4),fun p hp=>?_⟩
   rcases List.mem_append.mp hp with h | h
   ·exact nv p h
   ·exact n4 p h
  ·refine Mm ?_
   exact⟨sc.trans (s2.trans s3),dn,ZF,fp,rfl,Nat.le_succ_of_le hdl,by rw[hr];exact ez,iv.mono (s2.trans s3),nv⟩
theorem OD(hT:∀i∈T.slots,i<n):∀U H Q,tM K (ZR n ix fi T ft fe) U H Q->UD n ix (iF K fi) (gT K T) (Tx K ft) (tM K fe) U H Q:=fun U H Q ⟨s,L,env,e,k⟩=>by
 obtain⟨ls,e1,e⟩:=Ze e
 split at e
 case isFalse=>cases e
 rename_i hlen
 obtain⟨ys,e2,rfl⟩:=map_some e
 have hd:∀(H:Hp) p,(fun _=>False:Addr->Prop) p->Wc (H p):=fun _ _ z=>z.elim
 refine⟨fun _=>False,s,ls,hd H,env,e1,fun J H1 s1 jis=>?_⟩
 refine⟨fun i m vs Hc=>m=ls.length-i/\i<=ls.length/\Same H1 Hc/\∃dn ZF fp,ys=dn++ZF/\dn.length<=i/\Xe T ft fe (ZQ n ix s) (ls.drop i)=some ZF/\Iss K Hc dn vs fp/\fp.Nodup/\∀p∈fp,H1 p=none/\Wc (Hc p),
  ⟨ls.length,by simp,Nat.zero_le _,Same.refl H1,[],ys,[],rfl,Nat.le_refl _,e2,Iss.nil,List.nodup_nil,fun p hp=>by simp at hp⟩,?_⟩
 rintro i m vs Hc ⟨rfl,hi,sc,dn,ZF,fp,rfl,hdl,ec,iv,dv,nv⟩
 refine⟨by rw[iv.len];exact Nat.le_of_lt (lt_size (by omega)),?_⟩
 cases q:ls.drop i with
 | nil=>
  have hil:i=ls.length:=by
   have:=congrArg List.length q
   rw[List.length_drop] at this
   simp at this;omega
  subst hil;rw[q] at ec;cases ec
  refine .inl ⟨jis.stop Hc (Same.ab sc),fun p hp=>k _ _ (p::fp) (s1.trans (sc.trans (Same.new hp _))) ?_ (List.nodup_cons.mpr ⟨fun z=>Ya (nv p z).2 hp,dv⟩) fun a ha=>?_⟩
  ·rw[List.append_nil]
   exact Is.lst Zw (iv.mono (Same.new hp _))
  ·rcases List.mem_cons.mp ha with rfl | ha
   ·exact⟨Same.off (s1.trans sc) hp,by rw[Zw];exact True.intro⟩
   ·exact⟨Same.off s1 (nv a ha).1,Same.mut (Same.new hp _) (nv a ha).2⟩
 | cons l r=>
  obtain⟨hl,hr⟩:=Wq q
  have hilt:i<ls.length:=(List.getElem?_eq_some_iff.mp hl).1
  rw[q] at ec
  obtain⟨sb,c,eb,et,alt⟩:=V5 ec
  refine .inr ⟨jis.go Hc i l (Same.ab sc) hl,fun vs' H'=>Same H1 H'/\∃dn' rest' fp',dn++ZF=dn'++rest'/\dn'.length<=i+1/\Xe T ft fe (ZQ n ix s) (ls.drop (i+1))=some rest'/\Iss K H' dn' vs' fp'/\fp'.Nodup/\∀p∈fp',H1 p=none/\Wc (H' p),
   fun vs' H' h'=>⟨ls.length-(i+1),by omega,rfl,hilt,h'.1,h'.2⟩,fun x H2 y=>?_⟩
  obtain⟨s2,fx,ix',nx⟩:=jis.yld Hc i l x H2 (Same.ab sc) hl y
  obtain⟨bl,bv,bf,rfl,bi,_,bsub,buse⟩:=U8 (K:=K) ix' eb
  have env2:EnvIs K (fun _=>False) H2 (ZQ n ix s) (Zt n ix U):=(env.mono (s1.trans (sc.trans s2))).comp
  have env3:=env2.setAll (is:=T.slots) (V4 n ix s U) bi fun p hp=>(nx p (bsub p hp)).2
  refine buse _ _ ⟨Yb hT,fun _=>False,_,c,hd H2,env3,et,fun H3 s3=>?_⟩
  rcases alt with⟨rfl,y',zs,ey,ez,rfl⟩ | ⟨rfl,ez⟩
  ·refine Mn ?_
   refine⟨_,y',env3.mono s3,ey,fun v H4 f4 s4 i4 d4 n4=>?_⟩
   refine⟨sc.trans (s2.trans (s3.trans s4)),dn++[y'],zs,fp++f4,by rw[List.append_assoc];rfl,by rw[List.length_append];simp;exact hdl,by rw[hr];exact ez,(iv.mono (s2.trans (s3.trans s4))).append (Iss.one i4),List.nodup_append.mpr ⟨dv,d4,fun a ha b hb z=>?_⟩,fun p hp=>?_⟩
   ·subst z
    exact Ya (Same.mut (s2.trans s3) (nv a ha).2) (n4 a hb).1
   ·rcases List.mem_append.mp hp with h | h
    ·exact⟨(nv p h).1,Same.mut (s2.trans (s3.trans s4)) (nv p h).2⟩
    ·exact⟨Same.off (sc.trans (s2.trans s3)) (n4 p h).1,(n4 p h).2⟩
  ·refine Mm ?_
   exact⟨sc.trans (s2.trans s3),dn,ZF,fp,rfl,Nat.le_succ_of_le hdl,by rw[hr];exact ez,iv.mono (s2.trans s3),dv,fun p hp=>⟨(nv p hp).1,Same.mut (s2.trans s3) (nv p hp).2⟩⟩
end
def Ke(X:Cx)(ifs:List Expr)(f:XT):Prop:=Qp X ifs (Tx X.K f)
section
variable {X:Cx} {tg elt iter c:Expr} {ifs:List Expr} {scope:Scope} {pos:Pos} {fi:XL} {T:Tgt} {ft:XT} {fe:XE}
theorem YR:Ke X [] ZS:=fun pins s U H Q I ⟨Rm,s',c,hd,env,e,k⟩=>by
 cases e
 exact Oh pins s U H Q I (k H (Same.refl H))
theorem Xo(own fr:List Str)(ix:List Nat)(hcalm:X.calm=true)(hi:VI X tg iter fi)(S:X2 X.N X.env.scope scope own fr ix=true)
  (hg:∀cl C s H ex,PG (Zi X (own++fr) scope cl C s H ex) tg (gT X.K T)) (ht:∀cl C s H ex,Ke (Zi X (own++fr) scope cl C s H ex) ifs ft) (he:∀cl C s H ex,VE (Zi X (own++fr) scope cl C s H ex) elt fe)
  (hT:∀i∈T.slots,i<own.length:=by decide) (hs:∀x,foldedSetIterable iter X.env x=pure x:=by intro _;rfl):VE X (.ListComp elt [⟨tg,iter,ifs,0⟩] scope pos) (ZR own.length ix fi T ft fe):=
 PE.imp (QG own fr ix hcalm hi S hg (fun cl C s H ex=>(show Qp (Zi X (own++fr) scope cl C s H ex) ifs (Tx X.K ft) from ht cl C s H ex)) (fun cl C s H ex=>(show PE (Zi X (own++fr) scope cl C s H ex) elt (tF X.K fe) from he cl C s H ex)) hs) (OC hT)
end
def Vk(xs:List PV)(lo hi:Option Int):List PV:=(xs.drop (HT.sIx xs.length 0 lo)).take (HT.sIx xs.length xs.length hi-HT.sIx xs.length 0 lo)
theorem Iss.cut{H:Hp}{l:List PV}{xs:List V}{fp:List Addr}(lo hi:Option Int)(h:Iss K H l xs fp):∃f1,Iss K H (Vk l lo hi) (RK xs lo hi) f1/\∀p∈f1,p∈fp:=by
 unfold Vk RK;rw[h.len]
 obtain⟨f1,a,b⟩:=h.drop (HT.sIx l.length 0 lo)
 obtain⟨f2,c,d⟩:=a.take (HT.sIx l.length l.length hi-HT.sIx l.length 0 lo)
 exact⟨f2,c,fun p hp=>b p (d p hp)⟩
abbrev XO:=ZH->Option (Option Int)
def Jc(K:PySem.W.Frag)(f:XO):TO:=fun U H Q=>∃(Rm:Addr->Prop) (s:ZH) (i:Option Int),(∀p,Rm p->Wc (H p))/\EnvIs K Rm H s U/\f s=some i/\∀H',Same H H'->Q i H'
def VO(X:Cx)(e:Option Expr)(f:XO):Prop:=PO X e (Jc X.K f)
def Vv:XO:=fun _=>some none
def Wr(f:XE):XO:=fun s=>match f s with | some (.int i)=>some (some i) | _=>none
def Mx(x:PV)(lo hi:Option Int):Option PV:=match x with | .lst l=>some (.lst (Vk l lo hi)) | .cst l=>some (.lst (Vk l lo hi)) | _=>none
def WT(g:PV->Option Int->Option Int->Option PV)(a:XE)(lo hi:XO):XE:=fun s=>(a s).bind fun x=>(lo s).bind fun l=>(hi s).bind fun u=>g x l u
theorem RT{l:List PV}(lo hi:Option Int)(h:Z8 l=true):Z8 (Vk l lo hi)=true:=by
 rw[WO,List.all_eq_true] at *
 intro x hx;unfold Vk at hx
 exact h x (List.mem_of_mem_drop (List.mem_of_mem_take hx))
section
variable {X:Cx} {e:Expr} {lo hi:Option Expr} {p2 pos:Pos} {fa:XE} {fl fh:XO}
theorem XI:VO X none Vv:=fun pins s U H Q I ⟨Rm,s',i,hd,env,e,k⟩=>by
 cases e
 exact Ob pins s U H Q I (k H (Same.refl H))
theorem Y6{e:Expr}(h:VE X e fa):VO X (some e) (Wr fa):=fun pins s U H Q I ⟨Rm,s',i,hd,env,e,k⟩=>by
 unfold Wr at e
 split at e
 ·cases e
  rename_i j hj
  exact Oc h pins s U H Q I ⟨Rm,s',.int j,hd,env,hj,fun v H' fp sm i n=>⟨j,i.int_inv.1,k H' sm⟩⟩
 ·cases e
theorem RU(ha:VE X e fa)(hl:VO X lo fl)(hh:VO X hi fh):VE X (.Subscript e (.Slice lo hi none p2) pos) (WT Mx fa fl fh):=PE.imp (Tr Oe ha hl hh) fun U H Q ⟨Rm,s,l,hd,env,e,k⟩=>by
 obtain⟨x,e1,e⟩:=Ze e
 obtain⟨a,e2,e⟩:=Ze e
 obtain⟨b,e3,e⟩:=Ze e
 refine⟨Rm,s,x,hd,env,e1,fun v H1 fp s1 i1 n1=>⟨Rm,s,a,fun p hp=>Same.mut s1 (hd p hp),env.mono s1,e2,fun H2 s2=>⟨Rm,s,b,fun p hp=>Same.mut (s1.trans s2) (hd p hp),env.mono (s1.trans s2),e3,fun H3 s3=>?_⟩⟩⟩
 cases x with
 | lst l=>
  cases e
  obtain⟨p,xs,fq,rfl,hp,hi,rfl⟩:=(i1.mono (s2.trans s3)).lst_inv
  obtain⟨f1,c,d⟩:=hi.cut a b
  refine⟨p,xs,rfl,SqL.of hp,fun q hq=>k _ _ (q::f1) (s1.trans (s2.trans (s3.trans (Same.new hq _)))) (Is.lst Zw (c.mono (Same.new hq _))) fun r hr z=>?_⟩
  rcases List.mem_cons.mp hr with rfl | hr
  ·exact Ya (Same.mut (s1.trans (s2.trans s3)) (hd r z)) hq
  ·exact n1 r (List.mem_cons_of_mem _ (d r hr)) z
 | cst l=>
  cases e
  obtain⟨p,xs,rfl,hp,hi⟩:=(i1.mono (s2.trans s3)).cst_inv
  obtain⟨f1,c,d⟩:=hi.cut a b
  refine⟨p,xs,rfl,hp.sq,fun q hq=>k _ _ (q::f1) (s1.trans (s2.trans (s3.trans (Same.new hq _)))) (Is.lst Zw (c.mono (Same.new hq _))) fun r hr z=>?_⟩
  rcases List.mem_cons.mp hr with rfl | hr
  ·exact Ya (Same.mut (s1.trans (s2.trans s3)) (hd r z)) hq
  ·exact n1 r (d r hr) z
 | _=>cases e
end
end VL
namespace VL
open PySem PySem.Spec PyProof.Rows L2
variable {K:PySem.W.Frag}
structure Rel(K:PySem.W.Frag)(O:List Nat)(H0:Hp)(fps:Nat->List Addr)(s:ZH)(U:Vt)(H:Hp):Prop where
 same:Same H0 H
 len:s.length=U.length
 is:∀(i:Nat) l,s[i]?=some (some l)->∃v,U[i]?=some (some v)/\Is K H l v (fps i)
 emp:∀(i:Nat),(∀l,s[i]?≠some (some l))->fps i=[]
 nd:∀i∈O,(fps i).Nodup
 own:∀i∈O,∀p∈fps i,H0 p=none/\Wc (H p)
 dis:∀i∈O,∀j,j≠i->∀p∈fps i,p∉fps j
def Ow(O:List Nat)(fps:Nat->List Addr)(p:Addr):Prop:=∃i∈O,p∈fps i
def WU(O:List Nat)(s:ZH):ZH:=O.foldl (fun s i=>s.set i none) s
theorem V6:∀{O:List Nat}{s:ZH}{i:Nat}{l:PV},(WU O s)[i]?=some (some l)->i∉O/\s[i]?=some (some l)
 | [],s,i,l,h=>⟨by simp,h⟩
 | o::O,s,i,l,h=>by
  obtain⟨h1,h2⟩:=V6 (O:=O) (s:=s.set o none) h
  rw[List.getElem?_set] at h2
  by_cases e:o=i
  ·rw[if_pos e] at h2;split at h2<;>cases h2
  ·rw[if_neg e] at h2
   exact⟨by simp only[List.mem_cons,not_or];exact⟨fun z=>e z.symm,h1⟩,h2⟩
section
variable {O:List Nat} {H0 H H':Hp} {fps:Nat->List Addr} {s:ZH} {U:Vt}
theorem Rel.at(r:Rel K O H0 fps s U H)(i:Nat){p:Addr}(hp:p∈fps i):∃l v,s[i]?=some (some l)/\U[i]?=some (some v)/\Is K H l v (fps i):=by
 cases q:s[i]? with
 | none=>rw[r.emp i (fun l z=>by rw[q] at z;cases z)] at hp;simp at hp
 | some o=>cases o with
  | none=>rw[r.emp i (fun l z=>by rw[q] at z;cases z)] at hp;simp at hp
  | some l=>
   obtain⟨v,a,b⟩:=r.is i l q
   exact⟨l,v,rfl,a,b⟩
theorem Rel.dom(r:Rel K O H0 fps s U H)(i:Nat):∀p∈fps i,H p≠none:=fun p hp=>by
 obtain⟨l,v,_,_,b⟩:=r.at i hp
 exact Is.dom _ _ _ b p hp
theorem Rel.env(r:Rel K O H0 fps s U H):EnvIs K (fun _=>False) H s U:=⟨fun i l e=>by
 obtain⟨v,a,b⟩:=r.is i l e
 exact⟨v,_,a,b,fun _ _ z=>z⟩⟩
theorem Rel.envO(r:Rel K O H0 fps s U H):EnvIs K (Ow O fps) H (WU O s) U:=⟨fun i l e=>by
 obtain⟨n,e⟩:=V6 e
 obtain⟨v,a,b⟩:=r.is i l e
 exact⟨v,_,a,b,fun p hp ⟨j,hj,hpj⟩=>r.dis j hj i (fun z=>n (z▸hj)) p hpj hp⟩⟩
theorem Rel.owMut(r:Rel K O H0 fps s U H):∀p,Ow O fps p->Wc (H p):=fun p ⟨i,hi,hp⟩=>(r.own i hi p hp).2
theorem Rel.grow(r:Rel K O H0 fps s U H)(e:Same H H'):Rel K O H0 fps s U H':=
 ⟨r.same.trans e,r.len,fun i l q=>by obtain⟨v,a,b⟩:=r.is i l q;exact⟨v,a,b.mono e⟩,r.emp,r.nd,fun i hi p hp=>⟨(r.own i hi p hp).1,Same.mut e (r.own i hi p hp).2⟩,r.dis⟩
theorem Rel.less{F:Hp}(r:Rel K O F fps s U H)(e:Same H0 F):Rel K O H0 fps s U H:=
 ⟨e.trans r.same,r.len,r.is,r.emp,r.nd,fun i hi p hp=>⟨Same.off e (r.own i hi p hp).1,(r.own i hi p hp).2⟩,r.dis⟩
open Classical in
noncomputable def Vl(H:Hp)(Rm:Addr->Prop):Hp:=fun b=>if Rm b then none else H b
theorem RV{Rm:Addr->Prop}:Same (Vl H Rm) H:=fun b o h=>by
 unfold Vl at h
 split at h
 ·cases h
 ·exact h
theorem Rel.frame(r:Rel K O H0 fps s U H):Rel K O (Vl H (Ow O fps)) fps s U H:=
 ⟨RV,r.len,r.is,r.emp,r.nd,fun i hi p hp=>⟨by unfold Vl;rw[if_pos ⟨i,hi,hp⟩],(r.own i hi p hp).2⟩,r.dis⟩
theorem Rel.under(r:Rel K O H0 fps s U H):Same H0 (Vl H (Ow O fps)):=fun b o h=>by
 unfold Vl
 rw[if_neg (fun⟨i,hi,hp⟩=>by rw[(r.own i hi b hp).1] at h;cases h)]
 exact r.same b o h
open Classical in
noncomputable def U9(fps:Nat->List Addr)(n:Nat)(i:Nat)(fp:List Addr):Nat->List Addr:=fun j=>if j=i/\i<n then fp else fps j
theorem Yq{n i j:Nat}{fp:List Addr}(h:j≠i):U9 fps n i fp j=fps j:=by unfold U9;rw[if_neg (fun z=>h z.1)]
theorem OE{n i:Nat}{fp:List Addr}(h:i<n):U9 fps n i fp i=fp:=by unfold U9;rw[if_pos ⟨rfl,h⟩]
theorem Rel.set(r:Rel K O H0 fps s U H){i:Nat}{l:PV}{v:V}{fp:List Addr}(hi:Is K H l v fp)(ho:i∈O->fp.Nodup/\∀p∈fp,H0 p=none/\Wc (H p))
  (hd:∀j,j≠i->(j∈O\/i∈O)->∀p∈fp,p∉fps j):Rel K O H0 (U9 fps s.length i fp) (s.set i (some l)) (U.set i (some v)) H:=by
 by_cases hlt:i<s.length
 ·have e1:U9 fps s.length i fp i=fp:=OE hlt
  refine⟨r.same,by rw[List.length_set,List.length_set];exact r.len,fun j a e=>?_,fun j h=>?_,fun j hj=>?_,fun j hj p hp=>?_,fun j hj k hk p hp=>?_⟩
  ·rw[List.getElem?_set] at e
   by_cases hj:i=j
   ·subst hj
    rw[if_pos rfl,if_pos hlt] at e;cases e;rw[e1]
    exact⟨v,by rw[List.getElem?_set,if_pos rfl,if_pos (by rw[<-r.len];exact hlt)],hi⟩
   ·rw[if_neg hj] at e
    obtain⟨w,h1,h2⟩:=r.is j a e
    rw[Yq (Ne.symm hj)]
    exact⟨w,by rw[List.getElem?_set,if_neg hj];exact h1,h2⟩
  ·by_cases hj:i=j
   ·subst hj
    exact absurd (by rw[List.getElem?_set,if_pos rfl,if_pos hlt]) (h l)
   ·rw[Yq (Ne.symm hj)]
    exact r.emp j fun a z=>h a (by rw[List.getElem?_set,if_neg hj];exact z)
  ·by_cases e:j=i
   ·subst e;rw[e1];exact(ho hj).1
   ·rw[Yq e];exact r.nd j hj
  ·by_cases e:j=i
   ·subst e;rw[e1] at hp;exact(ho hj).2 p hp
   ·rw[Yq e] at hp;exact r.own j hj p hp
  ·by_cases e:j=i
   ·subst e
    rw[e1] at hp;rw[Yq hk]
    exact hd k hk (.inr hj) p hp
   ·rw[Yq e] at hp
    by_cases e2:k=i
    ·subst e2
     rw[e1]
     exact fun z=>hd j e (.inl hj) p z hp
    ·rw[Yq e2];exact r.dis j hj k hk p hp
 ·have e1:s.set i (some l)=s:=List.set_eq_of_length_le (by omega)
  have e2:U.set i (some v)=U:=List.set_eq_of_length_le (by rw[<-r.len];omega)
  have e3:U9 fps s.length i fp=fps:=by funext j;unfold U9;rw[if_neg (fun z=>hlt z.2)]
  rw[e1,e2,e3];exact r
end
def Kep(a b:List Addr):Prop:=a=b\/a=[]
theorem Kep.refl(a:List Addr):Kep a a:=.inl rfl
theorem Kep.trans{a b c:List Addr}(h:Kep a b)(k:Kep b c):Kep a c:=by
 rcases h with rfl | h
 ·exact k
 ·exact .inr h
inductive Out where
 | nx (s:ZH) | rt (l:PV) | bk (s:ZH) | ct (s:ZH)
abbrev XS:=ZH->Option Out
def OutOk(K:PySem.W.Frag)(O W:List Nat)(H0:Hp)(fps:Nat->List Addr)(U:Vt)(D:We):Out->Prop
 | .nx s'=>∀fps' U' H',Rel K O H0 fps' s' U' H'->(∀j,j∉W->U'[j]?=U[j]?/\Kep (fps' j) (fps j))->D.nx U' H'
 | .bk s'=>∀fps' U' H',Rel K O H0 fps' s' U' H'->(∀j,j∉W->U'[j]?=U[j]?/\Kep (fps' j) (fps j))->D.bk U' H'
 | .ct s'=>∀fps' U' H',Rel K O H0 fps' s' U' H'->(∀j,j∉W->U'[j]?=U[j]?/\Kep (fps' j) (fps j))->D.ct U' H'
 | .rt l=>∀v fp H',Same H0 H'->Is K H' l v fp->fp.Nodup->(∀p∈fp,H0 p=none/\Wc (H' p))->D.rt v H'
def My(K:PySem.W.Frag)(O W:List Nat)(f:XS):TS:=fun D U H=>∃H0 fps s out,Rel K O H0 fps s U H/\f s=some out/\OutOk K O W H0 fps U D out
def VS(X:Cx)(O W:List Nat)(st:Stmt)(f:XS):Prop:=PS X st (My X.K O W f)
def Sy(X:Cx)(O W:List Nat)(st:List Stmt)(f:XS):Prop:=PSs X st (My X.K O W f)
theorem OutOk.same{O W W':List Nat}{H0:Hp}{fps fps1:Nat->List Addr}{U U1:Vt}{D:We}{out:Out}(h:OutOk K O W' H0 fps U D out)(k:∀j,j∉W'->U1[j]?=U[j]?/\Kep (fps1 j) (fps j))(hs:∀j,j∉W'->j∉W):OutOk K O W H0 fps1 U1 D out:=by
 cases out with
 | nx s'=>exact fun fps' U' H' r q=>h fps' U' H' r fun j hj=>⟨(q j (hs j hj)).1.trans (k j hj).1,(q j (hs j hj)).2.trans (k j hj).2⟩
 | bk s'=>exact fun fps' U' H' r q=>h fps' U' H' r fun j hj=>⟨(q j (hs j hj)).1.trans (k j hj).1,(q j (hs j hj)).2.trans (k j hj).2⟩
 | ct s'=>exact fun fps' U' H' r q=>h fps' U' H' r fun j hj=>⟨(q j (hs j hj)).1.trans (k j hj).1,(q j (hs j hj)).2.trans (k j hj).2⟩
 | rt l=>exact h
theorem OutOk.less{O W:List Nat}{H0 F:Hp}{fps:Nat->List Addr}{U:Vt}{D:We}{out:Out}(h:OutOk K O W H0 fps U D out)(e:Same H0 F):OutOk K O W F fps U D out:=by
 cases out with
 | nx s'=>exact fun fps' U' H' r q=>h fps' U' H' (r.less e) q
 | bk s'=>exact fun fps' U' H' r q=>h fps' U' H' (r.less e) q
 | ct s'=>exact fun fps' U' H' r q=>h fps' U' H' (r.less e) q
 | rt l=>exact fun v fp H' sm i d n=>h v fp H' (e.trans sm) i d fun p hp=>⟨Same.off e (n p hp).1,(n p hp).2⟩
def ZL:XS:=fun s=>some (.nx s)
def ZG(f g:XS):XS:=fun s=>(f s).bind fun o=>match o with | .nx s'=>g s' | r=>some r
def X6(c:XT)(f g:XS):XS:=fun s=>(c s).bind fun k=>if k=true then f s else g s
def Z2(f:XE):XS:=fun s=>(f s).map .rt
def Zx(i:Nat)(f:XE):XS:=fun s=>(f s).map fun l=>.nx (s.set i (some l))
section
variable {X:Cx} {O W W1 W2:List Nat} {st:Stmt} {ZF:List Stmt} {f g:XS} {pos:Pos}
theorem PS.imp{t t':TS}(h:PS X st t)(i:∀D U H,t' D U H->t D U H):PS X st t':=fun pins s U H D I q=>h pins s U H D I (i D U H q)
theorem PSs.imp{t t':TS}(h:PSs X ZF t)(i:∀D U H,t' D U H->t D U H):PSs X ZF t':=fun pins s U H D I q=>h pins s U H D I (i D U H q)
theorem QW:∀D U H,My K O W ZL D U H->Nh D U H:=fun D U H ⟨H0,fps,s,out,r,e,k⟩=>by
 cases e
 exact k fps U H r fun j _=>⟨rfl,Kep.refl _⟩
theorem ZV:Sy X O [] [] ZL:=PSs.imp PZ QW
theorem Zs(h:VS X O W st f):Sy X O W [st] f:=SW h
theorem Zl(h1:VS X O W1 st f)(h2:Sy X O W2 ZF g):Sy X O (W1++W2) (st::ZF) (ZG f g):=PSs.imp (Tn h1 h2) fun D U H ⟨H0,fps,s,out,r,e,k⟩=>by
 obtain⟨o1,e1,e⟩:=Ze e
 have sub1:∀j,j∉W1++W2->j∉W1:=fun j hj z=>hj (List.mem_append_left _ z)
 have sub2:∀j,j∉W1++W2->j∉W2:=fun j hj z=>hj (List.mem_append_right _ z)
 refine⟨H0,fps,s,o1,r,e1,?_⟩
 cases o1 with
 | nx s1=>
  intro fps1 U1 H1 r1 q1
  exact⟨H0,fps1,s1,out,r1,e,k.same (fun j hj=>q1 j (sub1 j hj)) sub2⟩
 | bk s1=>cases e;exact fun fps' U' H' r' q'=>k fps' U' H' r' fun j hj=>q' j (sub1 j hj)
 | ct s1=>cases e;exact fun fps' U' H' r' q'=>k fps' U' H' r' fun j hj=>q' j (sub1 j hj)
 | rt l=>cases e;exact k
theorem YL{c:Expr}{a b:List Stmt}{fc:XT}(hc:VT X c fc)(ha:Sy X O W1 a f)(hb:Sy X O W2 b g):VS X O (W1++W2) (.If c a b pos) (X6 fc f g):=PS.imp (Ni hc ha hb) fun D U H ⟨H0,fps,s,out,r,e,k⟩=>by
 obtain⟨c,e1,e⟩:=Ze e
 have sub1:∀j,j∉W1++W2->j∉W1:=fun j hj z=>hj (List.mem_append_left _ z)
 have sub2:∀j,j∉W1++W2->j∉W2:=fun j hj z=>hj (List.mem_append_right _ z)
 refine⟨fun _=>False,s,c,fun _ z=>z.elim,r.env,e1,fun H1 s1=>?_⟩
 cases c with
 | true=>
  rw[if_pos rfl] at e ⊢
  exact⟨H0,fps,s,out,r.grow s1,e,k.same (fun j _=>⟨rfl,Kep.refl _⟩) sub1⟩
 | false=>
  rw[if_neg Bool.false_ne_true] at e ⊢
  exact⟨H0,fps,s,out,r.grow s1,e,k.same (fun j _=>⟨rfl,Kep.refl _⟩) sub2⟩
theorem ZJ{e:Expr}{fe:XE}(he:VM X e fe):VS X O [] (.Return (some e) pos) (Z2 fe):=PS.imp (Qy he) fun D U H ⟨H0,fps,s,out,r,e,k⟩=>by
 obtain⟨l,e1,rfl⟩:=map_some e
 exact⟨s,l,r.env,e1,fun v H' fp sm i d n=>k v fp H' (r.same.trans sm) i d fun p hp=>⟨Same.off r.same (n p hp).1,(n p hp).2⟩⟩
theorem S8{t:TE}{i:Nat}{fe:XE}(ht:∀U H Q,tM K fe U H Q->t U H Q):∀D U H,My K O [i] (Zx i fe) D U H->P0 t (Vb i) D U H:=fun D U H ⟨H0,fps,s,out,r,e,k⟩=>by
 obtain⟨l,e1,rfl⟩:=map_some e
 refine ht U H _ ⟨s,l,r.env,e1,fun v H' fp sm is d n=>?_⟩
 refine k _ _ H' ((r.grow sm).set (i:=i) is (fun _=>⟨d,fun p hp=>⟨Same.off r.same (n p hp).1,(n p hp).2⟩⟩) fun j _ _ p hp z=>r.dom j p z (n p hp).1) fun j hj=>?_
 have:j≠i:=by simpa using hj
 exact⟨by rw[List.getElem?_set,if_neg (Ne.symm this)],.inl (Yq this)⟩
theorem ZT{i:Nat}{x:Str}{e:Expr}{fe:XE}{pos':Pos}(hN:X.N.Nodup)(hi:X.N[i]?=some x)(hx:M7 X.env.scope x)(he:VM X e fe)(hs:swapsWith e (some (.Name x pos')) pos.line X.env=pure false:=by rfl)(hf:X.fn x=true\/X.env.scope.names.lookup x=some .local:=by first | exact .inl rfl | exact .inr rfl | assumption) :
  VS X O [i] (.Assign [.Name x pos'] e pos) (Zx i fe):=PS.imp (N1 hN hi hx he hs hf) (S8 fun _ _ _ h=>h)
end
def Uw(T:Tgt)(fb:XS):List PV->ZH->Option Out
 | [],s=>some (.nx s)
 | l::r,s=>(XY T l s).bind fun s1=>(fb s1).bind fun o=>match o with | .nx s2=>Uw T fb r s2 | .ct s2=>Uw T fb r s2 | .bk s2=>some (.nx s2) | .rt v=>some (.rt v)
def OF(O:List Nat)(fi:XL)(T:Tgt)(fb:XS):XS:=fun s=>(fi (WU O s)).bind fun ls=>Uw T fb ls s
theorem Rel.setAll{O:List Nat}{H0 H:Hp}:∀{is:List Nat}{ls:List PV}{vs:List V}{fs:List Addr}{fps:Nat->List Addr}{s:ZH}{U:Vt},Rel K O H0 fps s U H->Iss K H ls vs fs->ls.length=is.length->(∀i∈is,i∉O)->(∀i∈O,∀p∈fps i,p∉fs)->
  ∃fps',Rel K O H0 fps' (VL.setAll is ls s) (ZX is vs U) H/\∀j,j∉is->(ZX is vs U)[j]?=U[j]?/\Kep (fps' j) (fps j)
 | [],ls,vs,fs,fps,s,U,r,_,_,_,_=>⟨fps,by unfold VL.setAll ZX;exact r,fun j _=>⟨by unfold ZX;rfl,Kep.refl _⟩⟩
 | i::is,[],vs,fs,fps,s,U,r,_,hl,_,_=>by simp at hl
 | i::is,l::ls,vs,fs,fps,s,U,r,hi,hl,hO,hd=>by
  obtain⟨x,rr,f1,f2,rfl,h1,h2,rfl⟩:=hi.inv
  have hiO:=hO i List.mem_cons_self
  have r1:=r.set (i:=i) h1 (fun z=>absurd z hiO) fun j hj hjo p hp z=>by
   rcases hjo with hjo | hjo
   ·exact hd j hjo p z (List.mem_append_left _ hp)
   ·exact absurd hjo hiO
  obtain⟨fps',r2,q2⟩:=Rel.setAll (is:=is) r1 h2 (by simpa using hl) (fun j hj=>hO j (List.mem_cons_of_mem _ hj)) fun j hj p hp z=>by
   have hji:j≠i:=fun e=>hiO (by rw[<-e];exact hj)
   rw[Yq hji] at hp
   exact hd j hj p hp (List.mem_append_right _ z)
  refine⟨fps',r2,fun j hj=>?_⟩
  have hji:j≠i:=fun e=>hj (e▸List.mem_cons_self)
  obtain⟨a,b⟩:=q2 j (fun z=>hj (List.mem_cons_of_mem _ z))
  exact⟨a.trans (by rw[List.getElem?_set,if_neg (Ne.symm hji)]),b.trans (.inl (Yq hji))⟩
section
variable {O W:List Nat} {T:Tgt} {fb:XS}
theorem QX{H1:Hp}{fps:Nat->List Addr}{s:ZH}{U:Vt}{D:We}{J:It}{ls:List PV}{out:Out}(r:Rel K O (Vl H1 (Ow O fps)) fps s U H1)(jis:KG K (Ow O fps) H1 J ls)(e:Uw T fb ls s=some out)(hT:∀i∈T.slots,i∉O)
  (k:OutOk K O (T.slots++W) (Vl H1 (Ow O fps)) fps U D out):KD (gT K T) (My K O W fb) D U J H1:=by
 have subT:∀j,j∉T.slots++W->j∉T.slots:=fun j hj z=>hj (List.mem_append_left _ z)
 have subW:∀j,j∉T.slots++W->j∉W:=fun j hj z=>hj (List.mem_append_right _ z)
 refine⟨fun i m U' H'=>m=ls.length-i/\i<=ls.length/\∃fps' s',Rel K O (Vl H1 (Ow O fps)) fps' s' U' H'/\Uw T fb (ls.drop i) s'=some out/\∀j,j∉T.slots++W->U'[j]?=U[j]?/\Kep (fps' j) (fps j),
  ⟨ls.length,by simp,Nat.zero_le _,fps,s,r,e,fun j _=>⟨rfl,Kep.refl _⟩⟩,?_⟩
 rintro i m U' H' ⟨rfl,hi,fps',s',r',e',q'⟩
 have ab:Ab (Ow O fps) H1 H':=fun b o h n=>r'.same b o (by unfold Vl;rw[if_neg n];exact h)
 cases q:ls.drop i with
 | nil=>
  have hil:i=ls.length:=by
   have:=congrArg List.length q
   rw[List.length_drop] at this
   simp at this;omega
  subst hil
  rw[q] at e'
  cases e'
  exact .inl ⟨jis.stop H' ab,k fps' U' H' r' q'⟩
 | cons l rr=>
  obtain⟨hl,hr⟩:=Wq q
  have hilt:i<ls.length:=(List.getElem?_eq_some_iff.mp hl).1
  rw[q] at e'
  unfold Uw at e'
  obtain⟨sb,eb,e'⟩:=Ze e'
  obtain⟨o,eo,e'⟩:=Ze e'
  refine .inr ⟨jis.go H' i l ab hl,fun U2 H2=>∃fps2 s2,Rel K O (Vl H1 (Ow O fps)) fps2 s2 U2 H2/\Uw T fb (ls.drop (i+1)) s2=some out/\∀j,j∉T.slots++W->U2[j]?=U[j]?/\Kep (fps2 j) (fps j),
   fun U2 H2 h2=>⟨ls.length-(i+1),by omega,rfl,hilt,h2⟩,fun x H2 y=>?_⟩
  obtain⟨s2,fx,ix,nx⟩:=jis.yld H' i l x H2 ab hl y
  obtain⟨bl,bv,bf,rfl,bi,blen,bsub,buse⟩:=U8 (K:=K) ix eb
  obtain⟨fps3,r3,q3⟩:=Rel.setAll (is:=T.slots) (r'.grow s2) bi blen hT fun j hj p hp z=>by
   obtain⟨n1,n2⟩:=nx p (bsub p z)
   have:=(r'.own j hj p hp).1
   unfold Vl at this;rw[if_neg n2] at this
   exact n1 this
  refine buse _ _ ⟨_,fps3,_,o,r3,eo,?_⟩
  have keep:∀j,j∉T.slots++W->(ZX T.slots bv U')[j]?=U[j]?/\Kep (fps3 j) (fps j):=fun j hj=>⟨(q3 j (subT j hj)).1.trans (q' j hj).1,(q3 j (subT j hj)).2.trans (q' j hj).2⟩
  cases o with
  | nx s4=>exact fun fps4 U4 H4 r4 q4=>⟨fps4,s4,r4,by rw[hr];exact e',fun j hj=>⟨(q4 j (subW j hj)).1.trans (keep j hj).1,(q4 j (subW j hj)).2.trans (keep j hj).2⟩⟩
  | ct s4=>exact fun fps4 U4 H4 r4 q4=>⟨fps4,s4,r4,by rw[hr];exact e',fun j hj=>⟨(q4 j (subW j hj)).1.trans (keep j hj).1,(q4 j (subW j hj)).2.trans (keep j hj).2⟩⟩
  | bk s4=>
   cases e'
   exact fun fps4 U4 H4 r4 q4=>k fps4 U4 H4 r4 fun j hj=>⟨(q4 j (subW j hj)).1.trans (keep j hj).1,(q4 j (subW j hj)).2.trans (keep j hj).2⟩
  | rt v=>
   cases e'
   exact k
end
section
variable {X:Cx} {O W:List Nat} {tg iter:Expr} {body:List Stmt} {fi:XL} {T:Tgt} {fb:XS} {pos:Pos}
theorem Mz(hp:PassesOwn (model X.prog X.w) X.A X.env X.xe)(hc:X.calm=true)(hi:VI X tg iter fi)(hg:PG X tg (gT X.K T))(hb:Sy X O W body fb)(hT:∀i∈T.slots,i∉O:=by decide)
  (hs:∀x,foldedSetIterable iter X.env x=pure x:=by intro _;rfl):VS X O (T.slots++W) (.For tg iter body [] pos) (OF O fi T fb):=PS.imp (N3 hp hc hi hg hb hs) fun D U H ⟨H0,fps,s,out,r,e,k⟩=>by
 obtain⟨ls,e1,e⟩:=Ze e
 refine⟨Ow O fps,WU O s,ls,r.owMut,r.envO,e1,fun J H1 s1 jis=>?_⟩
 exact QX (r.grow s1).frame jis e hT (k.less (r.grow s1).under)
end
end VL
namespace VL
open PySem PySem.Spec PyProof.Rows L2
variable {K:PySem.W.Frag}
def KH:PV->Option Int
 | .int k=>some k
 | _=>none
def Jd:PV->Option (List PV)
 | .lst k=>some k
 | _=>none
def gd(c:Bool):Option Unit:=if c=true then some () else none
section
variable {X:Cx} {O:List Nat} {i:Nat} {st:Stmt} {f fk:XE}
theorem Iss.pureEq{H:Hp}{l:List PV}{xs:List V}{fp:List Addr}(h:Iss K H l xs fp)(hp:Z8 l=true):Iss K H l xs []:=by
 have:=Iss.pure _ _ _ hp h
 subst this;exact h
end
end VL
namespace VL
open PySem PySem.Spec PyProof.Rows L2
variable {K:PySem.W.Frag}
section
variable {X:Cx} {a b c d:Expr} {fa fb fc fd:XE} {pos:Pos}
theorem QY(hu:X.A.units+64<cLine)(ha:VE X a fa)(hb:VE X b fb):VE X (.Compare a [.Eq] [b] pos) (Zf (Yd false) fa fb):=Sl (QT hu) (U6 false) ha hb (WI _)
theorem LV(hu:X.A.units+64<cLine)(ha:VE X a fa)(hb:VE X b fb):VE X (.Compare a [.NotEq] [b] pos) (Zf (Yd true) fa fb):=Sl (QU hu) (U6 true) ha hb (WI _)
theorem XZ(hu:X.A.units+64<cLine)(ha:VE X a fa)(hb:VE X b fb):VT X (.Compare a [.Eq] [b] pos) (xB (Zf (Yd false) fa fb)):=VU (QT hu) (U6 false) ha hb (WI _)
theorem QZ(hu:X.A.units+64<cLine)(ha:VE X a fa)(hb:VE X b fb):VT X (.Compare a [.NotEq] [b] pos) (xB (Zf (Yd true) fa fb)):=VU (QU hu) (U6 true) ha hb (WI _)
def MA:PV->Option Bool
 | .bl c=>some c
 | _=>none
theorem Q0{a:PV}{k:Bool}(h:MA a=some k):a = .bl k:=by
 unfold MA at h;split at h
 ·cases h;rfl
 ·cases h
def Qq(g h:PV->PV->Option PV)(a b c:XE):XE:=fun s=>(a s).bind fun x=>(b s).bind fun y=>((g x y).bind MA).bind fun k=>if k=true then(c s).bind fun z=>h y z else some (.bl false)
theorem TB{r r':R2}{g h:PV->PV->Option PV}(hr:RB K r g)(hr':RB K r' h):∀U H Q,tF K (Qq g h fa fb fc) U H Q->Sg r r' (tF K fa) (tF K fb) (tF K fc) U H Q:=fun U H Q ⟨Rm,s,l,hd,env,e,k⟩=>by
 obtain⟨x',e1,e⟩:=Ze e
 obtain⟨y',e2,e⟩:=Ze e
 obtain⟨b,e3,e⟩:=Ze e
 obtain⟨z',e3,eb⟩:=Ze e3
 rw[Q0 eb] at e3
 refine⟨Rm,s,x',hd,env,e1,fun x H1 f1 s1 i1 n1=>⟨Rm,s,y',fun p hp=>Same.mut s1 (hd p hp),env.mono s1,e2,fun y H2 f2 s2 i2 n2=>?_⟩⟩
 refine hr H2 x y x' y' _ f1 f2 (i1.mono s2) i2 e3 _ fun v H3 fp s3 i3 n3=>⟨b,i3.bl_inv.1,?_⟩
 have s123:=s1.trans (s2.trans s3)
 cases b with
 | false=>
  rw[if_neg Bool.false_ne_true] at e ⊢
  cases e
  exact k _ H3 [] s123 (Is.bl _) fun p hp=>by simp at hp
 | true=>
  rw[if_pos rfl] at e ⊢
  obtain⟨w',e4,e⟩:=Ze e
  refine⟨Rm,s,w',fun p hp=>Same.mut s123 (hd p hp),env.mono s123,e4,fun w H4 f4 s4 i4 n4=>?_⟩
  refine hr' H4 y w y' w' l f2 f4 (i2.mono (s3.trans s4)) i4 e Q fun v H5 fp5 s5 i5 n5=>k v H5 fp5 (s123.trans (s4.trans s5)) i5 fun p hp z=>?_
  rcases n5 p hp with q | q | q
  ·exact n2 p q z
  ·exact n4 p q z
  ·exact Ya (Same.mut (s123.trans s4) (hd p z)) q
theorem Q1{op op':CmpOp}{r r':R2}{g h:PV->PV->Option PV}(ho:XD X (compareOp op) r)(ho':XD X (compareOp op') r')(hr:RB X.K r g)(hr':RB X.K r' h)(ha:VE X a fa)(hb:VE X b fb)(hc:VE X c fc)
  (hm:lastMarks [op,op'] [b,c]=false:=by with_unfolding_all rfl):VE X (.Compare a [op,op'] [b,c] pos) (Qq g h fa fb fc):=PE.imp (QA ho ho' ha hb hc hm) (TB hr hr')
theorem Q2{op op':CmpOp}{r r':R2}{g h:PV->PV->Option PV}(ho:XD X (compareOp op) r)(ho':XD X (compareOp op') r')(hr:RB X.K r g)(hr':RB X.K r' h)(ha:VE X a fa)(hb:VE X b fb)(hc:VE X c fc)
  (hm:lastMarks [op,op'] [b,c]=false:=by with_unfolding_all rfl):VT X (.Compare a [op,op'] [b,c] pos) (xB (Qq g h fa fb fc)):=PT.imp (QB ho ho' ha hb hc hm) fun U H Q q=>VR (TB hr hr') U H Q (Tz U H Q q)
end
section
variable {X:Cx} {a b:Expr} {fa fb:XE} {pos:Pos}
def gCat:PV->PV->Option PV
 | .lst m,.lst n=>if m.length+n.length<=10000 then some (.lst (m++n)) else none
 | _,_=>none
def V7:PV->PV->Option PV
 | .lst m,.lst n=>if m.length+n.length<=10000/\Z8 m=true/\Z8 n=true then some (.lst (m++n)) else none
 | _,_=>none
theorem Ta(ha:VE X a fa)(hb:VE X b fb):VM X (.BinOp a .Add b pos) (Zf V7 fa fb):=PE.imp (Nj Mk ha hb) fun U H Q ⟨s,l,env,e,k⟩=>by
 obtain⟨x',y',e1,e2,e⟩:=Xc e
 refine⟨fun _=>False,s,x',fun _ z=>z.elim,env,e1,fun x H1 f1 s1 i1 _=>⟨fun _=>False,s,y',fun _ z=>z.elim,env.mono s1,e2,fun y H2 f2 s2 i2 _=>?_⟩⟩
 cases x' with
 | lst m=>cases y' with
  | lst n=>
   have e:(if m.length+n.length<=10000/\Z8 m=true/\Z8 n=true then some (PV.lst (m++n)) else none)=some l:=e
   split at e
   case isFalse=>cases e
   rename_i hl
   cases e
   obtain⟨p,xs,fq,rfl,hp,hi,rfl⟩:=i1.lst_inv
   obtain⟨p',ys,fq',rfl,hp',hi',rfl⟩:=i2.lst_inv
   refine⟨p,p',xs,ys,rfl,rfl,s2 _ _ hp,hp',by rw[hi.len,hi'.len];exact Nat.le_of_lt (lt_size hl.1),fun q hq=>?_⟩
   refine k _ _ [q] (s1.trans (s2.trans (Same.new hq _))) (Is.lst Zw ((((hi.mono s2).pureEq hl.2.1).append (hi'.pureEq hl.2.2)).mono (Same.new hq _))) (by simp) fun r hr=>?_
   rw[List.mem_singleton.mp hr]
   exact⟨Same.off (s1.trans s2) hq,by rw[Zw];exact True.intro⟩
  | _=>cases e
 | _=>cases e
end
theorem Iss.fps{H:Hp}:∀{ls:List PV}{vs:List V}{fp:List Addr},Iss K H ls vs fp->∃fps:Nat->List Addr,(∀(i:Nat) l,ls[i]?=some l->∃v,vs[i]?=some v/\Is K H l v (fps i))/\∀i,ls.length<=i->fps i=[]
 | [],vs,fp,h=>⟨fun _=>[],fun i l e=>by simp at e,fun _ _=>rfl⟩
 | a::ls,vs,fp,h=>by
  obtain⟨x,r,f1,f2,rfl,h1,h2,rfl⟩:=h.inv
  obtain⟨fps,p1,p2⟩:=h2.fps
  refine⟨fun i=>match i with | 0=>f1 | k+1=>fps k,fun i l e=>?_,fun i hi=>?_⟩
  ·cases i with
   | zero=>simp at e;subst e;exact⟨x,rfl,h1⟩
   | succ k=>
    obtain⟨v,a,b⟩:=p1 k l (by simpa using e)
    exact⟨v,by simpa using a,b⟩
  ·cases i with
   | zero=>simp at hi
   | succ k=>exact p2 k (by simpa using hi)
def Yr(m:Nat)(ls:List PV):ZH:=ls.map some++List.replicate (m-ls.length) none
def Vm:Out->Option PV
 | .rt v=>some v
 | .nx _=>some .non
 | _=>none
def Ws(m:Nat)(f:XS):List PV->Option PV:=fun ls=>(f (Yr m ls)).bind Vm
theorem Tb{N:List Str}{n:Nat}{O W:List Nat}{f:XS}{vs:List V}{H:Hp}{Q:VK}{E:XK}(hO:∀i∈O,n<=i)(h:Xt K (Ws N.length f) n vs H Q E):My K O W f { nx:=fun _ H'=>Q .non H',rt:=Q } (L2.start N vs) H:=by
 obtain⟨hl,ls,fp,l,hi,e,q⟩:=h
 obtain⟨out,e1,e2⟩:=Ze e
 obtain⟨fps,p1,p2⟩:=hi.fps
 have hlen:=hi.len
 have hout:∀i:Nat,ls.length<=i->∀l,(Yr N.length ls)[i]?≠some (some l):=fun i hi l z=>by
  unfold Yr at z;rw[List.getElem?_append_right (by simpa using hi),List.getElem?_replicate] at z
  split at z<;>cases z
 have rel:Rel K O H fps (Yr N.length ls) (L2.start N vs) H:=by
  refine⟨Same.refl H,?_,fun i a z=>?_,fun i hne=>?_,fun i hi=>?_,fun i hi p hp=>?_,fun i hi j hj p hp=>?_⟩
  ·unfold Yr L2.start;simp[hlen]
  ·by_cases hil:i<ls.length
   ·unfold Yr at z
    rw[List.getElem?_append_left (by simpa using hil),List.getElem?_map] at z
    cases q:ls[i]? with
    | none=>rw[q] at z;cases z
    | some b=>
     rw[q] at z;cases z
     obtain⟨v,a1,b1⟩:=p1 i a q
     refine⟨v,?_,b1⟩
     unfold L2.start
     rw[List.getElem?_append_left (by simpa [hlen] using hil),List.getElem?_map,a1];rfl
   ·exact absurd z (hout i (by omega) a)
  ·by_cases hil:i<ls.length
   ·exact absurd (by unfold Yr;rw[List.getElem?_append_left (by simpa using hil),List.getElem?_map,List.getElem?_eq_getElem hil];rfl) (hne ls[i])
   ·exact p2 i (by omega)
  ·rw[p2 i (by have:=hO i hi;omega)];exact List.nodup_nil
  ·rw[p2 i (by have:=hO i hi;omega)] at hp;simp at hp
  ·rw[p2 i (by have:=hO i hi;omega)] at hp;simp at hp
 refine⟨H,fps,Yr N.length ls,out,rel,e1,?_⟩
 cases out with
 | nx s'=>
  cases e2
  exact fun fps' U' H' r' _=>q .non H' [] r'.same Is.non List.nodup_nil fun p hp=>by simp at hp
 | rt v=>
  cases e2
  exact fun v fp H' sm i d n=>q v H' fp sm i d n
 | bk s'=>cases e2
 | ct s'=>cases e2
section
variable {P:Program} {w:World} {mg:Str->Option Value} {base:Heap}
theorem YY{x:Str}{st:Stmt}{N ps:List Str}{k n:Nat}{O W:List Nat}(m:Nat)(f:XS)(D:Def K mg x st)(S:ZI N ps (Zj st))
  (hb:∀(kV doc pm:Value)(an:Option Addr)(cdv ct:Value)(us:List Value),us.length=ps.length->bindArgs (PySem.W.fnOf x x (YN st) (Z7 st) (Zj st) .none kV doc pm an cdv ct) ⟨us,[]⟩=pure (ps.zip us))
  (hn:ps.length=n) (hm:N.length=m) (hO:∀i∈O,n<=i)
  (hbody:∀(fa:Addr)(cdv:Value)(A:Around)(outer:List Env)(s:Shared)(H:Hp)(E:XK),Room k (A.deeper (envOfC x (Zj st) s.heap.objs.size fa cdv))->Sy (VH S0 P w K mg base N x (Zj st) fa cdv A outer s H E).nox O W (Z7 st) f) :
  WG P w K mg base x ps (Xt K (Ws m f) n) (k+1):=by
 subst hm
 refine D.cal S hb (fun vs H Q E h=>by rw[hn];exact h.1) fun fa cdv A outer s H vs Q E hr h=>⟨_,hbody fa cdv A outer s H E hr,Tb hO h⟩
end
end VL
namespace VL
open PySem PySem.Spec PyProof.Rows L2
variable {K:PySem.W.Frag}
section
variable {X:Cx} {O:List Nat} {tg elt iter:Expr} {ifs:List Expr} {scope:Scope} {pos:Pos} {fi:XL} {T:Tgt} {ft:XT} {fe:XE}
theorem OG(own fr:List Str)(ix:List Nat){i:Nat}{y:Str}{py spos:Pos}(hN:X.N.Nodup)(hy:X.N[i]?=some y)(hloc:X.env.scope.names.lookup y=some .local)(hcalm:X.calm=true)(hi:VI X tg iter fi)(S:X2 X.N X.env.scope scope own fr ix=true)
  (hg:∀cl C s H ex,PG (Zi X (own++fr) scope cl C s H ex) tg (gT X.K T)) (ht:∀cl C s H ex,Ke (Zi X (own++fr) scope cl C s H ex) ifs ft) (he:∀cl C s H ex,VM (Zi X (own++fr) scope cl C s H ex) elt fe)
  (hT:∀i∈T.slots,i<own.length:=by decide)
  (hsw:swapsWith (.ListComp elt [⟨tg,iter,ifs,0⟩] scope pos) (some (.Name y py)) spos.line X.env=pure true:=by rfl)
  (hs:∀x,foldedSetIterable iter X.env x=pure x:=by intro _;rfl):VS X O [i] (.Assign [.Name y py] (.ListComp elt [⟨tg,iter,ifs,0⟩] scope pos) spos) (Zx i (ZR own.length ix fi T ft fe)):=
 PS.imp (QH own fr ix hN hy hloc hcalm hi S hg (fun cl C s H ex=>(show Qp (Zi X (own++fr) scope cl C s H ex) ifs (Tx X.K ft) from ht cl C s H ex)) (fun cl C s H ex=>(show PE (Zi X (own++fr) scope cl C s H ex) elt (tM X.K fe) from he cl C s H ex)) hsw hs) (S8 (OD hT))
end
section
variable {P:Program} {w:World} {mg:Str->Option Value} {base:Heap}
theorem MB{x:Str}{st:Stmt}{N ps:List Str}{k n:Nat}{O W:List Nat}{fa:Addr}{fd:FuncData}(m:Nat)(f:XS)(F:Fun K x x st fa fd)(S:ZI N ps (Zj st))
  (hn:ps.length=n) (hm:N.length=m) (hO:∀i∈O,n<=i)
  (hbody:∀(fa:Addr)(cdv:Value)(A:Around)(outer:List Env)(s:Shared)(H:Hp)(E:XK),Room k (A.deeper (envOfC x (Zj st) s.heap.objs.size fa cdv))->Sy (VH S0 P w K mg base N x (Zj st) fa cdv A outer s H E).nox O W (Z7 st) f) :
  Wg P w K mg base S0 (k+1) fa fd ps (Xt K (Ws m f) n):=by
 subst hm
 refine F.ok S (fun vs H Q E h=>by rw[hn];exact h.1) fun cdv A outer s H vs Q E hr h=>⟨_,hbody fa cdv A outer s H E hr,?_⟩
 exact Tb hO h
theorem Q3{st:Stmt}{x:Str}{D:List PV->Option PV}{k:Nat}{fa:Addr}(Df:Def K mg "law" st)(hfa:mg "law" = some (.ref fa))
  (hb:∀(kV doc pm:Value)(an:Option Addr)(cdv ct u:Value),bindArgs (PySem.W.fnOf "law" "law" (YN st) (Z7 st) (Zj st) .none kV doc pm an cdv ct) ⟨[u],[]⟩=pure [(x,u)])
  (H:∀(base:Heap)(f:Addr)(fd:FuncData),K.In base->base.Ns mainGlobals mg->Fun K "law" "law" st f fd->Wg P w K mg base S0 k f fd [x] (Xt K D 1)) :
  ∃fd:FuncData,(∀(s:Shared)(u:Value),BindsTo s fd ⟨[u],[]⟩ [(x,u)])/\∀base:Heap,K.In base->base.Ns mainGlobals mg->Wg P w K mg base S0 k fa fd [x] (Xt K D 1):=by
 obtain⟨f,fd,hm,F⟩:=Df.ex
 have e:=hfa.symm.trans hm;cases e
 refine⟨fd,?_,fun base h1 h2=>H base fa fd h1 h2 F⟩
 obtain⟨oc,od,kV,doc,pm,an,cdv,ct,osl,rfl,lk,hcd⟩:=F.ex
 exact fun s u=>.of_eq (hb kV doc pm an cdv ct u)
end
theorem MC{H:Hp}{a:Addr}{ns:List Int}{D:List PV->Option PV}{E:XK}(hD:D [.cst (iL ns)]=some (.bl true))(hO:Og H)(hS:SqL K H a (ns.map V.int)):Xt K D 1 [.ref a] H (fun v _=>v = .bl true) E:=by
 have cs:CsK K H a (ns.map V.int):=by
  rcases hS with h | h
  ·rcases h with h | ⟨o,h⟩
   ·rcases hO a with z | ⟨o,xs,z⟩
    ·rw[h] at z;cases z
    ·rw[h] at z;cases z
   ·exact .inl ⟨o,h⟩
  ·exact .inr h
 exact⟨rfl,[.cst (iL ns)],[],.bl true,Iss.one (Is.cst cs (Iss.ofInts ns)),hD,fun v H' fq _ i _ _=>i.bl_inv.1⟩
theorem law_walk{l:PySem.W.OpenLaw}{q:Program}{loose:List Str}{XP:(Str->Option Value)->Heap->Prop}{YP:World->Heap->Prop}{d:DefRec}{KK:Params->PySem.W.Frag}{x:Str}{D:List PV->Option PV}(k:Nat)(hn:l.most=some 63)(hdf:d.params.defaults=[])
  (hr:Room k callerA) (hD:∀ns:List Int,ns.length<=63->D [.cst (iL ns)]=some (.bl true))
  (hY:∀(w:World)(h:Heap),YP w h->(KK w.params).In h)
  (F:∀(w:World)(mg:Str->Option Value)(fa:Addr)(h:Heap),(KK w.params).In h->h.Ns mainGlobals mg->mg d.name=some (.ref fa)->
   ∃fd:FuncData,(∀(s:Shared)(u:Value),BindsTo s fd ⟨[u],[]⟩ [(x,u)])/\∀base:Heap,(KK w.params).In base->base.Ns mainGlobals mg->Wg l.prog w (KK w.params) mg base S0 k fa fd [x] (Xt (KK w.params) D 1)) :
  PySem.W.WalkO q loose XP YP l.row.toRowW d [] (fun f vs=>PySem.call f vs):=
 L2.walk_of (n:=63) (k:=k) (x:=x) (CX:=fun _=>S0) (sp:=fun w=>Xt (KK w.params) D 1) hn (by decide) hdf hr hY F (fun w H a ns hl hO hS=>MC (hD ns hl) hO hS) fun _ _ _ _ _ z=>z
end VL
namespace VL
open PySem L2
@[simp] theorem XA(i:Nat)(s:ZH):Za i s=(s[i]?).join:=rfl
@[simp] theorem Sz(l:PV)(s:ZH):eC l s=some l:=rfl
@[simp] theorem Zu(g:PV->PV->Option PV)(a b:XE)(s:ZH):Zf g a b s=(a s).bind fun x=>(b s).bind fun y=>g x y:=rfl
@[simp] theorem eUn_def(g:PV->Option PV)(a:XE)(s:ZH):Mu g a s=(a s).bind g:=rfl
@[simp] theorem ZU(f:XE)(s:ZH):eP f s=(f s).bind fun l=>if Yp l=true then some l else none:=rfl
@[simp] theorem Wt(s:ZH):Vj [] s=some []:=rfl
@[simp] theorem Yn(f:XE)(fs:List XE)(s:ZH):Vj (f::fs) s=(f s).bind fun x=>(Vj fs s).map (x::·):=rfl
@[simp] theorem Zp(D:List PV->Option PV)(fs:List XE)(s:ZH):Zb D fs s=(Vj fs s).bind D:=rfl
@[simp] theorem eTup_def(fs:List XE)(s:ZH):LR fs s=(Vj fs s).map .tup:=rfl
@[simp] theorem eLst_def(fs:List XE)(s:ZH):Xm fs s=(Vj fs s).map .lst:=rfl
@[simp] theorem eSl_def(g:PV->Option Int->Option Int->Option PV)(a:XE)(lo hi:XO)(s:ZH):WT g a lo hi s=(a s).bind fun x=>(lo s).bind fun l=>(hi s).bind fun u=>g x l u:=rfl
@[simp] theorem xoN_def(s:ZH):Vv s=some none:=rfl
@[simp] theorem gI_ii(g:Int->Int->Int)(i j:Int):gI g (.int i) (.int j)=some (.int (g i j)):=rfl
@[simp] theorem S9(g:Int->Int->Bool)(i j:Int):gB g (.int i) (.int j)=some (.bl (g i j)):=rfl
@[simp] theorem MD(C:Int->Int->Prop)[∀i j,Decidable (C i j)](g:Int->Int->Int)(i j:Int):Nt C g (.int i) (.int j)=if C i j then some (.int (g i j)) else none:=rfl
@[simp] theorem gIx_ti(l:List PV)(i:Int):Wk (.tup l) (.int i)=VJ l i:=rfl
@[simp] theorem gIx_li(l:List PV)(i:Int):Wk (.lst l) (.int i)=VJ l i:=rfl
@[simp] theorem gIx_ci(l:List PV)(i:Int):Wk (.cst l) (.int i)=VJ l i:=rfl
@[simp] theorem ZK(f:XE)(s:ZH):xB f s=(f s).bind MA:=by
 unfold xB
 cases f s with
 | none=>rfl
 | some a=>cases a<;>rfl
@[simp] theorem YI(b:Bool):MA (.bl b)=some b:=rfl
@[simp] theorem Q4(a b:XT)(s:ZH):So a b s=(a s).bind fun c=>if c=true then b s else some false:=rfl
@[simp] theorem Y7(a b:XT)(s:ZH):Wd a b s=(a s).bind fun c=>if c=true then some true else b s:=rfl
@[simp] theorem YE(a:XT)(s:ZH):YD a s=(a s).map not:=rfl
@[simp] theorem Q5(a b:XE)(s:ZH):QL a b s=(xB a s).bind fun c=>if c=true then b s else some (.bl false):=rfl
@[simp] theorem OH(a b:XE)(s:ZH):Kd a b s=(xB a s).bind fun c=>if c=true then some (.bl true) else b s:=rfl
@[simp] theorem eNot_def(a:XE)(s:ZH):Ov a s=(xB a s).map fun c=>.bl !c:=rfl
@[simp] theorem Ra(c:XT)(a b:XE)(s:ZH):Ox c a b s=(c s).bind fun k=>if k=true then a s else b s:=rfl
@[simp] theorem eIsN_def(neg:Bool)(a:XE)(s:ZH):WR neg a s=(a s).bind (LP neg):=rfl
@[simp] theorem sNext_def(s:ZH):ZL s=some (.nx s):=rfl
@[simp] theorem Yf(f g:XS)(s:ZH):ZG f g s=(f s).bind fun o=>match o with | .nx s'=>g s' | r=>some r:=rfl
@[simp] theorem ZD(c:XT)(f g:XS)(s:ZH):X6 c f g s=(c s).bind fun k=>if k=true then f s else g s:=rfl
@[simp] theorem Z3(f:XE)(s:ZH):Z2 f s=(f s).map .rt:=rfl
@[simp] theorem ZE(i:Nat)(f:XE)(s:ZH):Zx i f s=(f s).map fun l=>.nx (s.set i (some l)):=rfl
@[simp] theorem retO_rt(v:PV):Vm (.rt v)=some v:=rfl
@[simp] theorem pureV_int(i:Int):Yp (.int i)=true:=rfl
@[simp] theorem pureV_bl(i:Bool):Yp (.bl i)=true:=rfl
@[simp] theorem pureV_str(i:Str):Yp (.str i)=true:=rfl
@[simp] theorem pureV_non:Yp .non=true:=rfl
@[simp] theorem RW(l:List PV):Yp (.tup l)=Z8 l:=by rw[Yp]
@[simp] theorem pureL_nil:Z8 []=true:=rfl
@[simp] theorem pureL_cons(a:PV)(l:List PV):Z8 (a::l)=(Yp a&&Z8 l):=rfl
@[simp] theorem Q6(l:List Int):Z8 (l.map PV.int)=true:=UG l
abbrev pP(l:List Int):PV:=.tup (iL l)
@[simp] theorem SA(l:List Bool):Wm [.lst (l.map PV.bl)]=some (.bl (l.all id)):=by
 simp[Wm,RP,XX l]
@[simp] theorem gLen_t(l:List PV):Yk [.tup l]=some (.int l.length):=rfl
@[simp] theorem gLen_l(l:List PV):Yk [.lst l]=some (.int l.length):=rfl
@[simp] theorem gLen_c(l:List PV):Yk [.cst l]=some (.int l.length):=rfl
@[simp] theorem V8(l:List PV):Xn [.lst l]=some (.tup l):=rfl
@[simp] theorem gTuple_t(l:List PV):Xn [.tup l]=some (.tup l):=rfl
@[simp] theorem gListP_t(l:List PV):QR [.tup l]=if Z8 l=true then some (.lst l) else none:=rfl
@[simp] theorem gListP_l(l:List PV):QR [.lst l]=if Z8 l=true then some (.lst l) else none:=rfl
@[simp] theorem gMin2_ii(i j:Int):LS [.int i,.int j]=some (.int (if j<i then j else i)):=rfl
@[simp] theorem gMax2_ii(i j:Int):LU [.int i,.int j]=some (.int (if j>i then j else i)):=rfl
@[simp] theorem gInt1_b(c:Bool):Ny [.bl c]=some (.int (if c then 1 else 0)):=rfl
@[simp] theorem gInt1_i(c:Int):Ny [.int c]=some (.int c):=rfl
@[simp] theorem gInst_ii(i:Int):Xd [.int i,.ty "int"]=some (.bl true):=rfl
@[simp] theorem gInst_ib(i:Int):Xd [.int i,.ty "bool"]=some (.bl false):=rfl
@[simp] theorem gInst_tt(l:List PV):Xd [.tup l,.ty "tuple"]=some (.bl true):=rfl
@[simp] theorem gInst_ll(l:List PV):Xd [.lst l,.ty "list"]=some (.bl true):=rfl
theorem Rb(n:Nat)(i j:Int):Y3 (n+1) (.int i) (.int j)=true:=rfl
theorem Ve{α β:Type}{f:α->PV}{g:β->PV}{p:PV->PV->Bool}(h:∀a b,p (f a) (g b)=true):∀(l:List α)(m:List β),((l.map f).zip (m.map g)).all (fun z=>p z.1 z.2)=true
 | [],_=>by simp
 | _::_,[]=>by simp
 | a::l,b::m=>by
  rw[List.map_cons,List.map_cons,List.zip_cons_cons,List.all_cons,Ve h l m,h a b];rfl
theorem Rc(n:Nat)(l m:List Int):Y3 (n+2) (pP l) (pP m)=true:=Ve (fun a b=>Rb n a b) l m
@[simp] theorem gEq_ii(neg:Bool)(i j:Int):Yd neg (.int i) (.int j)=some (.bl (if neg then !decide (i=j) else decide (i=j))):=by
 unfold Yd;rw[if_pos (Rb 7 i j)]
 congr 2
 cases neg<;>simp
theorem UI{α:Type}{T:Tgt}{ft:XT}{fe:XE}{s0:ZH}{q g:α->PV}:∀{ls:List α},(∀a∈ls,∃s1,XY T (q a) s0=some s1/\ft s1=some true/\fe s1=some (g a))->Xe T ft fe s0 (ls.map q)=some (ls.map g)
 | [],_=>rfl
 | a::r,h=>by
  obtain⟨s1,h1,h2,h3⟩:=h a List.mem_cons_self
  have ih:=UI (ls:=r) fun b hb=>h b (List.mem_cons_of_mem _ hb)
  rw[List.map_cons,List.map_cons];unfold Xe;rw[h1];simp only[Option.bind_some,h2,if_true,h3,ih,Option.map_some]
theorem Yv{α:Type}{n:Nat}{ix:List Nat}{fi:XL}{T:Tgt}{ft:XT}{fe:XE}{s:ZH}(ls:List α)(q g:α->PV)(hfi:fi s=some (ls.map q))(hl:ls.length<=10000)
  (h:∀a∈ls,∃s1,XY T (q a) (ZQ n ix s)=some s1/\ft s1=some true/\fe s1=some (g a)):ZR n ix fi T ft fe s=some (.lst (ls.map g)):=by
 unfold ZR;rw[hfi];simp only[Option.bind_some,List.length_map,if_pos hl,UI h,Option.map_some]
theorem TF{T:Tgt}{fb:XS}:∀{ls:List PV}{s:ZH}(Jv:Nat->ZH->Prop),Jv 0 s->(∀(i:Nat) l st,ls[i]?=some l->Jv i st->∃s1 s2,XY T l st=some s1/\fb s1=some (.nx s2)/\Jv (i+1) s2)->
  ∃s',Uw T fb ls s=some (.nx s')/\Jv ls.length s'
 | [],s,Jv,h0,_=>⟨s,rfl,h0⟩
 | l::r,s,Jv,h0,h=>by
  obtain⟨s1,s2,a,b,c⟩:=h 0 l s rfl h0
  obtain⟨s',d,e⟩:=TF (ls:=r) (s:=s2) (fun i=>Jv (i+1)) c fun i l' st hl hi=>h (i+1) l' st (by simpa using hl) hi
  refine⟨s',?_,e⟩
  unfold Uw;rw[a];simp only[Option.bind_some,b];exact d
@[simp] theorem bindT_one(i:Nat)(l:PV)(s:ZH):XY (.one i) l s=some (s.set i (some l)):=rfl
@[simp] theorem OI(f:XE)(s:ZH):Xq [f] s=(f s).bind fun a=>(KH a).bind fun j=>if -1000000<=j/\j<=1000000 then some (V2 j.toNat) else none:=by
 unfold Xq
 cases h:f s with
 | none=>simp[h]
 | some a=>cases a<;>simp[h,KH]
@[simp] theorem OJ(i:Int):KH (.int i)=some i:=rfl
@[simp] theorem asL_lst(i:List PV):Jd (.lst i)=some i:=rfl
@[simp] theorem seqB_f(l:List PV):seqB false (.tup l)=some l:=rfl
@[simp] theorem seqB_t(l:List PV):seqB true (.lst l)=some l:=rfl
@[simp] theorem seqB_c(l:List PV):seqB true (.cst l)=some l:=rfl
@[simp] theorem xLst_def(f:XE)(s:ZH):V1 f s=(f s).bind La:=rfl
@[simp] theorem asS_l(l:List PV):La (.lst l)=some l:=rfl
@[simp] theorem asS_c(l:List PV):La (.cst l)=some l:=rfl
theorem Q7{f:XE}{s:ZH}{l:List PV}(h:f s=some (.tup l)):Wo f s=some l:=by unfold Wo;rw[h]
@[simp] theorem Q8(O:List Nat)(fi:XL)(T:Tgt)(fb:XS)(s:ZH):OF O fi T fb s=(fi (WU O s)).bind fun ls=>Uw T fb ls s:=rfl
@[simp] theorem xTrue_def(s:ZH):ZS s=some true:=rfl
theorem UJ{f:XE}{s:ZH}{n:Nat}(h:f s=some (.int (n:Int)))(hn:n<=10000):Xq [f] s=some (V2 n):=by
 rw[OI,h];simp only[Option.bind_some,OJ];rw[if_pos ⟨by omega,by omega⟩,Int.toNat_natCast]
theorem Q9{i j:Int}(h0:0<j)(h:j<=10000):Us i j:=⟨h0,by omega⟩
end VL
namespace PW
open PySem L2 VL
noncomputable def V9:XS:=(Z2 (eP (Zf Wk (Zf V7 (WT Mx (Za 0) (Wr (Za 1)) (Wr (Zf Z5 (Za 1) (eC (.int 1))))) (Xm [(eC (.int 0))])) (eC (.int 0)))))
noncomputable def Zh:List PV->Option PV:=Ws 2 V9
noncomputable def UK:XS:=(Z2 (eP (QL (Zb Xd [(Za 0),(eC (.ty "int"))]) (Ov (Zb Xd [(Za 0),(eC (.ty "bool"))])))))
noncomputable def YT:List PV->Option PV:=Ws 1 UK
end PW
namespace VL
open PySem PySem.Spec PyProof.Rows L2
def WV:XS:=fun _=>none
theorem TH{X:Cx}{O W:List Nat}{st:Stmt}:VS X O W st WV:=by
 intro pins s U H D I h;unfold My at h;simp only[WV] at h
 obtain⟨_,_,_,_,_,q,_⟩:=h
 cases q
variable {K:PySem.W.Frag}
def LW(mg:Str->Option Value)(x:Str)(k:Int):Prop:=∃t,mg x=some (Value.int k t)
theorem SD{X:Cx}{x:Str}{k:Int}{pos:Pos}(hg:Gl X x)(hm:LW X.mg x k)(hd:(x==("__debug__" : Str))=false:=by decide):VE X (.Name x pos) (eC (.int k)):=by
 obtain⟨t,e⟩:=hm
 exact Sk (SV hg e (v:=.int k) ⟨t,rfl⟩ hd) fun _=>Is.int k
end VL
namespace VL
open PySem PySem.Spec PyProof.Rows L2
variable {K:PySem.W.Frag}
def NA(i j:Int):Prop:=i.natAbs.log2<67108863/\j.natAbs.log2<67108863
def NB(i j:Int):Prop:=j≠0/\j.natAbs.log2<9000
instance (i j:Int):Decidable (NA i j):=by unfold NA;infer_instance
instance (i j:Int):Decidable (NB i j):=by unfold NB;infer_instance
end VL
namespace L2
open PySem PySem.Spec PyProof.Rows
abbrev WJ:=Addr->Obj->List (List Vs×V)->It
end L2
namespace VL
open PySem PySem.Spec PyProof.Rows L2
variable {K:PySem.W.Frag}
def OK(mg:Str->Option Value)(x:Str)(k:Str):Prop:=∃t,mg x=some (Value.str k t)
theorem OL{X:Cx}{x:Str}{k:Str}{pos:Pos}(hg:Gl X x)(hm:OK X.mg x k)(hd:(x==("__debug__" : Str))=false:=by decide):VE X (.Name x pos) (eC (.str k)):=by
 obtain⟨t,e⟩:=hm
 exact Sk (SV hg e (v:=.str k) ⟨t,rfl⟩ hd) fun _=>Is.str k
section
variable {X:Cx} {o e:Expr} {fo fe:XE} {apos cpos:Pos} {name:Str} {id:String} {r:V->List V->Hp->VK->Prop} {g:PV->PV->Option PV}
theorem Rf(slot:Slot "str" name id)(hty:typeOf (.builtin id)=pure (.type "method_descriptor"))(hm:Mg X id r)(hr:RB X.K (fun x y H Q=>r x [y] H Q) g)
  (hT:∀a b l,g a b=some l->∃z,a = .str z) (ho:VE X o fo) (he:VE X e fe)
  (hbase:attributeBase o name X.env (eval o X.env)=eval o X.env:=by rfl)
  (hfew:((backTo cpos (starEach [e] X.env)).all (fun x=>!x.1)&&(backToKw cpos (keywordEach [] X.env)).all (fun x=>x.1.isSome)
   &&decide (([e]:List Expr).length+([]:List Keyword).length+(if([]:List Keyword).isEmpty then 0 else 1)<30))=true:=by rfl)
  (hline:(apos.endLine==cpos.line)=true:=by rfl) (hs:starEach [e] X.env=(false,eval e X.env)::starEach [] X.env:=by rfl) (hplain:(backTo cpos (starEach [] X.env)).any (·.1)=false:=by rfl) :
  VE X (.Call (.Attribute o name apos) [e] [] cpos) (Zf g fo fe):=
 PE.imp (SY F.plainAttrs_str slot hty hm ho (Zc he Zk hs) hbase hfew hline hs hplain) fun U H Q ⟨Rm,s,l,hd,env,e,k⟩=>by
  obtain⟨x',y',e1,e2,e⟩:=Xc e
  obtain⟨z,rfl⟩:=hT _ _ _ e
  refine⟨Rm,s,.str z,hd,env,e1,fun v H1 fp s1 i1 n1=>?_⟩
  obtain⟨rfl,rfl⟩:=i1.str_inv
  refine⟨rfl,Rm,s,[y'],fun q hq=>Same.mut s1 (hd q hq),env.mono s1,by show(fe s).bind _=_;rw[e2];rfl,fun vs H2 fq s2 i2 n2=>?_⟩
  obtain⟨w,rfl,iw⟩:=i2.one_inv
  refine hr H2 _ w (.str z) y' l [] fq (Is.str z) iw e Q fun v3 H3 fp3 s3 i3 n3=>k v3 H3 fp3 (s1.trans (s2.trans s3)) i3 fun p hp zz=>?_
  rcases n3 p hp with h | h | h
  ·simp at h
  ·exact n2 p h zz
  ·exact Ya (Same.mut (s1.trans s2) (hd p zz)) h
end
def gEnds:PV->PV->Option PV
 | .str a,.str b=>some (.bl (Txt.endswith a b))
 | _,_=>none
def WW:List PV->Option (List Str)
 | []=>some []
 | .str x::r=>(WW r).map (x::·)
 | _=>none
theorem Vf:∀{l:List PV}{xs:List Str},WW l=some xs->l=xs.map PV.str
 | [],_,h=>by cases h;rfl
 | .str x::r,xs,h=>by
  simp only[WW] at h
  obtain⟨ys,h1,rfl⟩:=map_some h
  rw[Vf h1];rfl
 | .int _::_,_,h=>by cases h
 | .bl _::_,_,h=>by cases h
 | .non::_,_,h=>by cases h
 | .ty _::_,_,h=>by cases h
 | .exc _::_,_,h=>by cases h
 | .tup _::_,_,h=>by cases h
 | .lst _::_,_,h=>by cases h
 | .cst _::_,_,h=>by cases h
 | .dK _ _::_,_,h=>by cases h
 | .dT _ _::_,_,h=>by cases h
theorem Ua:∀xs:List Str,WW (xs.map PV.str)=some xs
 | []=>rfl
 | x::r=>by simp only[List.map_cons,WW,Ua r];rfl
theorem Iss.sL{H:Hp}:∀{l:List Str}{xs:List V}{fp:List Addr},Iss K H (l.map PV.str) xs fp->xs=l.map V.str/\fp=[]
 | [],xs,fp,h=>by simpa only[List.map_nil,Iss] using h
 | i::l,xs,fp,h=>by
  obtain⟨x,r,f1,f2,rfl,h1,h2,rfl⟩:=Iss.inv (show Iss K H (PV.str i::l.map PV.str) xs fp from h)
  obtain⟨rfl,rfl⟩:=h1.str_inv
  obtain⟨rfl,rfl⟩:=h2.sL
  exact⟨rfl,rfl⟩
theorem Iss.ofStrs{H:Hp}:∀(l:List Str),Iss K H (l.map PV.str) (l.map V.str) []
 | []=>Iss.nil
 | i::l=>Iss.cons (f1:=[]) (Is.str i) (Iss.ofStrs l)
theorem UL:∀{ts:List Str}{us:List Value},Vals (ts.map V.str) us->∃l:List (Str×Tok),us=strValues l/\l.map (·.1)=ts
 | [],_,.nil=>⟨[],rfl,rfl⟩
 | x::r,_,.cons h1 h2=>by
  obtain⟨t,rfl⟩:=h1
  obtain⟨l,rfl,e⟩:=UL h2
  exact⟨(x,t)::l,rfl,by rw[List.map_cons,e]⟩
theorem Wu:∀l:List (Str×Tok),Vals ((l.map (·.1)).map V.str) (strValues l)
 | []=>.nil
 | p::l=>.cons ⟨p.2,rfl⟩ (Wu l)
def NC(K:PySem.W.Frag):V->List V->Hp->VK->Prop:=fun x vs H Q=>∃a p ts,x = .str a/\vs=[.ref p]/\SqL K H p (ts.map V.str)/\JoinOk a ts=true/\Q (.str (Txt.join a ts)) H
theorem Rg{X:Cx}:Mg X "str.join" (NC X.K):=by
 intro pins s U H x vs v us Q I rx rv h
 obtain⟨a,p,ts,rfl,rfl,hq,hj,q⟩:=h
 obtain⟨t,rfl⟩:=rx
 obtain⟨u,rfl,ru⟩:=Xx rv
 cases ru
 obtain⟨its,r,pl,hz⟩:=I.list hq
 obtain⟨l,rfl,e⟩:=UL r
 exact SC.join pl.isList e hj fun t' k=>⟨.str _,H,I.tok _,⟨_,rfl⟩,q⟩
def XB:PV->PV->Option PV
 | .str a,.lst l=>(WW l).bind fun ts=>if JoinOk a ts=true then some (.str (Txt.join a ts)) else none
 | _,_=>none
theorem Rh:RB K (fun x y H Q=>NC K x [y] H Q) XB:=fun H x y a b l fa fb ha hb e Q k=>by
 unfold XB at e;split at e
 ·obtain⟨ts,e1,e2⟩:=Ze e
  split at e2
  ·cases e2
   have:=Vf e1
   subst this
   obtain⟨p,xs,fq,rfl,hp,hi,rfl⟩:=hb.lst_inv
   obtain⟨rfl,rfl⟩:=hi.sL
   exact⟨_,p,ts,ha.str_inv.1,rfl,SqL.of hp,by assumption,k _ H [] (Same.refl H) (Is.str _) fun p hp=>by simp at hp⟩
  ·cases e2
 ·cases e
theorem UM:∀a b l,XB a b=some l->∃z,a = .str z:=fun a b l h=>by
 unfold XB at h;split at h
 ·exact⟨_,rfl⟩
 ·cases h
def ME:V->List V->Hp->VK->Prop:=fun x vs H Q=>∃a b,x = .str a/\vs=[.str b]/\(b.length==0)=false/\a.length+2<=sizeLine/\∀p,H p=none->Q (.ref p) (YG H p (.lst ((Txt.split a b).map V.str)))
theorem UN(x y:Str):(Txt.split x y).length<=x.length+2:=by
 unfold Txt.split
 split
 ·simp
 ·split
  ·simp
  ·rw[length_partsBetween]
   have:=StrLaws.occ_length_le x y 0 x.length (x.length+1)
   omega
theorem Pa{X:Cx}:Mg X "str.split" ME:=by
 intro pins s U H x vs v us Q I rx rv h
 obtain⟨x,y,rfl,rfl,hy,hsz,q⟩:=h
 obtain⟨t,rfl⟩:=rx
 obtain⟨u,rfl,ru⟩:=Xx rv
 obtain⟨u,rfl⟩:=ru
 have hn:(Builtin.Str.partsBetween x (Builtin.Str.occurrences x y 0 x.length (x.length+1)) y.length).length<=sizeLine:=by
  have e1:=StrLaws.occ_length_le x y 0 x.length (x.length+1)
  rw[length_partsBetween];omega
 have fin:∀(l:List (Str×Tok))(k:Nat),l.map (·.1)=Txt.split x y->EP X pins U Q (.ref s.heap.objs.size) { s with heap:=s.heap.push { cls:=.type "list",data:=.seq (strValues l).toArray },toks:=k }:=fun l k e=>by
  have hv:=Wu l;rw[e] at hv
  have hz:((Txt.split x y).map V.str).length<=sizeLine:=by
   rw[List.length_map]
   have:=UN x y
   omega
  exact⟨.ref s.heap.objs.size,_,I.lnew hv hz,rfl,q _ I.fresh⟩
 cases h1:(decide (x.length<y.length) || decide (Builtin.Str.strKind x<Builtin.Str.strKind y))
 ·cases hf:(Builtin.Str.occurrences x y 0 x.length (x.length+1)).isEmpty
  ·refine call_meets F.slot_str_split (typeIs_str _ _ _) F.entry_str_split (F.args_str_split_2 _ _) (meets_str_split_sep x y t u h1 hy hf (by omega) hn) ?_
   show wants _ _ _ { s with toks:=_,heap:=s.heap.push { cls:=.type "list",data:=.seq (strsFrom s.toks (Builtin.Str.partsBetween x (Builtin.Str.occurrences x y 0 x.length (x.length+1)) y.length)).toArray } }
   rw[strsFrom_eq]
   exact fin (numbered s.toks _) _ ((numbered_texts _ _).trans ((if_neg (ne_true_of_eq_false h1)).trans (if_neg (ne_true_of_eq_false hf))).symm)
  ·exact call_meets F.slot_str_split (typeIs_str _ _ _) F.entry_str_split (F.args_str_split_2 _ _) (meets_str_split_not_found x y t u h1 hy hf)
    (fin [(x,t)] s.toks ((if_neg (ne_true_of_eq_false h1)).trans (if_pos hf)).symm)
 ·exact call_meets F.slot_str_split (typeIs_str _ _ _) F.entry_str_split (F.args_str_split_2 _ _) (meets_str_split_cannot_occur x y t u h1)
   (fin [(x,t)] s.toks (if_pos h1).symm)
def Ys:PV->PV->Option PV
 | .str a,.str b=>if(b.length==0)=false/\a.length+2<=sizeLine then some (.lst ((Txt.split a b).map .str)) else none
 | _,_=>none
section
variable {X:Cx} {o e:Expr} {fo fe:XE} {apos cpos:Pos}
theorem Ub(ho:VE X o fo)(he:VE X e fe)
  (hbase:attributeBase o "split" X.env (eval o X.env)=eval o X.env:=by rfl)
  (hfew:((backTo cpos (starEach [e] X.env)).all (fun x=>!x.1)&&(backToKw cpos (keywordEach [] X.env)).all (fun x=>x.1.isSome)
   &&decide (([e]:List Expr).length+([]:List Keyword).length+(if([]:List Keyword).isEmpty then 0 else 1)<30))=true:=by rfl)
  (hline:(apos.endLine==cpos.line)=true:=by rfl) (hs:starEach [e] X.env=(false,eval e X.env)::starEach [] X.env:=by rfl) (hplain:(backTo cpos (starEach [] X.env)).any (·.1)=false:=by rfl) :
  VM X (.Call (.Attribute o "split" apos) [e] [] cpos) (Zf Ys fo fe):=
 PE.imp (SY F.plainAttrs_str F.slot_str_split F.type_str_split Pa ho (Zc he Zk hs) hbase hfew hline hs hplain) fun U H Q ⟨s,l,env,e,k⟩=>by
  obtain⟨x',y',e1,e2,e⟩:=Xc e
  refine⟨fun _=>False,s,x',fun _ z=>z.elim,env,e1,fun v H1 fp s1 i1 n1=>?_⟩
  unfold Ys at e
  split at e
  ·rename_i a b
   split at e
   ·rename_i hc
    cases e
    obtain⟨rfl,rfl⟩:=i1.str_inv
    refine⟨rfl,fun _=>False,s,[.str b],fun _ z=>z.elim,env.mono s1,by show(fe s).bind _=_;rw[e2];rfl,fun vs H2 fq s2 i2 n2=>?_⟩
    obtain⟨w,rfl,iw⟩:=i2.one_inv
    obtain⟨rfl,_⟩:=iw.str_inv
    refine⟨a,b,rfl,rfl,hc.1,hc.2,fun p hp=>k _ _ [p] (s1.trans (s2.trans (Same.new hp _))) (Is.lst Zw (Iss.ofStrs _)) (by simp) fun q hq=>?_⟩
    rw[List.mem_singleton.mp hq]
    exact⟨Same.off (s1.trans s2) hp,by rw[Zw];exact True.intro⟩
   ·cases e
  ·cases e
end
def KI:V->Option Int->Option Int->Hp->VK->Prop:=fun x lo hi H Q=>∃a,x = .str a/\a.length<=sizeLine/\Q (.str (Txt.slice a lo hi)) H
theorem MF{X:Cx}:Kz X KI:=by
 intro pins s U H x v vl vu lo hi sl Q I rx hs pl pu h
 obtain⟨a,rfl,hz,q⟩:=h
 obtain⟨t,rfl⟩:=rx
 obtain⟨os,hos,hcs,hds⟩:=hs
 have go:∀(l u:Option (Int×Tok)),s.heap.IsSlice sl l u none->wpAny (model X.prog X.w) X.A (getItem (.str a t) (.ref sl)) (fun v s'=>EP X pins U (fun v' H'=>v' = .str (Txt.slice a (l.map (·.1)) (u.map (·.1)))/\H'=H) v s') X.xe s:=fun l u hsl=>by
  refine wpAny_getItem_str_slice (l:=l) (u:=u) (st:=none) hsl rfl ?_
  exact post_val_or_str ⟨Nat.le_trans (Txt.slice_le a _ _) hz,fun t' k=>⟨.str _,H,I.tok _,⟨_,rfl⟩,rfl,rfl⟩⟩
 refine⟨"str",_,F.slot_str_getitem.lookup,typeIs_str _ _ _,?_⟩
 cases pl with
 | none=>cases pu with
  | none=>exact Z4 (go none none ⟨os,hos,hcs,hds⟩) fun v s' ⟨v',H',I',r',e1,e2⟩=>by subst e1 e2;exact⟨_,_,I',r',q⟩
  | int j u=>exact Z4 (go none (some (j,u)) ⟨os,hos,hcs,hds⟩) fun v s' ⟨v',H',I',r',e1,e2⟩=>by subst e1 e2;exact⟨_,_,I',r',q⟩
 | int i u=>cases pu with
  | none=>exact Z4 (go (some (i,u)) none ⟨os,hos,hcs,hds⟩) fun v s' ⟨v',H',I',r',e1,e2⟩=>by subst e1 e2;exact⟨_,_,I',r',q⟩
  | int j u'=>exact Z4 (go (some (i,u)) (some (j,u')) ⟨os,hos,hcs,hds⟩) fun v s' ⟨v',H',I',r',e1,e2⟩=>by subst e1 e2;exact⟨_,_,I',r',q⟩
def Yl(x:PV)(lo hi:Option Int):Option PV:=match x with | .str a=>if a.length<=sizeLine then some (.str (Txt.slice a lo hi)) else none | _=>none
section
variable {X:Cx} {e:Expr} {lo hi:Option Expr} {p2 pos:Pos} {fa:XE} {fl fh:XO}
theorem YU(ha:VE X e fa)(hl:VO X lo fl)(hh:VO X hi fh):VE X (.Subscript e (.Slice lo hi none p2) pos) (WT Yl fa fl fh):=PE.imp (Tr MF ha hl hh) fun U H Q ⟨Rm,s,l,hd,env,e,k⟩=>by
 obtain⟨x,e1,e⟩:=Ze e
 obtain⟨a,e2,e⟩:=Ze e
 obtain⟨b,e3,e⟩:=Ze e
 refine⟨Rm,s,x,hd,env,e1,fun v H1 fp s1 i1 n1=>⟨Rm,s,a,fun p hp=>Same.mut s1 (hd p hp),env.mono s1,e2,fun H2 s2=>⟨Rm,s,b,fun p hp=>Same.mut (s1.trans s2) (hd p hp),env.mono (s1.trans s2),e3,fun H3 s3=>?_⟩⟩⟩
 unfold Yl at e
 split at e
 ·split at e
  ·cases e
   exact⟨_,i1.str_inv.1,by assumption,k _ H3 [] (s1.trans (s2.trans s3)) (Is.str _) fun p hp=>by simp at hp⟩
  ·cases e
 ·cases e
end
def Xr:List PV->Option PV
 | [.str x]=>if x.length<=640 then(PySem.intText? x).map .int else none
 | _=>none
theorem WX{X:Cx}:Xb X (.type "int") (fun xs H Q=>∃x n,xs=[.str x]/\PySem.intText? x=some n/\x.length<=640/\Q (.int n) H):=by
 intro pins s U H xs us Q I r h
 obtain⟨x,n,rfl,hn,hl,q⟩:=h
 obtain⟨u,rfl,t,rfl⟩:=Xx r
 exact PySem.W.KIN.call_text hn hl ⟨.int n,H,I.tok _,⟨_,rfl⟩,q⟩
theorem Tc:RC K (fun xs H Q=>∃x n,xs=[.str x]/\PySem.intText? x=some n/\x.length<=640/\Q (.int n) H) Xr:=fun H vs ls l fp h e Q k=>by
 unfold Xr at e
 split at e
 ·split at e
  ·obtain⟨n,e1,rfl⟩:=map_some e
   obtain⟨v,rfl,a⟩:=h.one_inv
   exact⟨_,n,by rw[a.str_inv.1],e1,by assumption,k _ H [] (Same.refl H) (Is.int _) fun p hp=>by simp at hp⟩
  ·cases e
 ·cases e
def Wv:List PV->Option PV
 | [.int i]=>if i.natAbs.log2<1920 then some (.str (toString i)) else none
 | _=>none
theorem Ri:RC K (fun xs H Q=>∃i,xs=[.int i]/\i.natAbs.log2<1920/\Q (.str (toString i)) H) Wv:=fun H vs ls l fp h e Q k=>by
 unfold Wv at e
 split at e
 ·split at e
  ·cases e
   obtain⟨v,rfl,a⟩:=h.one_inv
   exact⟨_,by rw[a.int_inv.1],by assumption,k _ H [] (Same.refl H) (Is.str _) fun p hp=>by simp at hp⟩
  ·cases e
 ·cases e
def SE(neg:Bool):PV->PV->Option PV
 | .str i,.str j=>some (.bl (neg != !(Builtin.Str.occurrences j i 0 j.length 1).isEmpty))
 | _,_=>none
theorem MG:RB K (fun x y H Q=>∃i j,x = .str i/\y = .str j/\Q (.bl (!(Builtin.Str.occurrences j i 0 j.length 1).isEmpty)) H) (SE false):=fun H x y a b l fa fb ha hb e Q k=>by
 unfold SE at e;split at e
 ·cases e
  exact⟨_,_,ha.str_inv.1,hb.str_inv.1,by
   have:=k (.bl (false != !(Builtin.Str.occurrences _ _ 0 _ 1).isEmpty)) H [] (Same.refl H) (Is.bl _) fun p hp=>by simp at hp
   simpa using this⟩
 ·cases e
section
variable {X:Cx} {a b:Expr} {fa fb:XE} {pos:Pos}
theorem MH(ha:VE X a fa)(hb:VE X b fb)(hm:behindInMarks .In b=false:=by rfl):VE X (.Compare a [.In] [b] pos) (Zf (SE false) fa fb):=Sl RG MG ha hb hm
end
def UO(x:Str):List PV:=x.cps.toList.map fun c=>.str ⟨#[c]⟩
def K0(x:Str):It:=⟨fun i _=>i<x.cps.size,fun i H v H'=>H'=H/\∃c,x.cps[i]?=some c/\v = .str ⟨#[c]⟩,fun i _=>x.cps.size<=i⟩
theorem TJ{P:Program}{w:World}{K:PySem.W.Frag}{tg:Expr}(it:Addr)(x:Str)(t:Tok)(ty:String)
  (hn:["enumerate","zip","dict_itemiterator","dict_reverseitemiterator","odict_iterator","itertools.zip_longest","itertools.pairwise"].contains ty=false)
  (W:∀A:Around,A.handled=none->Walks P w A it [it] [it] x.cps.size (SignAt x) (fun i h=>h.IsStrIter it ty x t i))
  (he:∀(A:Around)(i:Nat)(s:Shared)(Q:Option Value->Shared->Prop)(E:Value->Shared->Prop),A.handled=none->s.heap.IsStrIter it ty x t i->x.cps[i]?=none->(∀h',Heap.ExtBut it s.heap h'->Q none { s with heap:=h' })->wpAny (model P w) A (pyNext (.ref it)) Q E s)
  (hsf:∀(A:Around)(i:Nat)(s:Shared)(Q:Value->Shared->Prop)(E:Value->Shared->Prop),s.heap.IsStrIter it ty x t i->Q (.ref it) s->wpAny (model P w) A (pyIter (.ref it)) Q E s) :
  Sb P w K tg (K0 x) [it] it (fun i h=>h.IsStrIter it ty x t i) where
 mem:=by simp
 obj:=fun i h st b hb=>by
  have e:b=it:=by simpa using hb
  subst e
  obtain⟨o,e,c,d⟩:=st
  exact⟨o,e,fun v z=>by rw[d] at z;cases z⟩
 keep:=fun i h h' st k=>by
  obtain⟨o,e,r⟩:=st
  exact⟨o,k it (by simp) o e,r⟩
 item:=by
  intro X hP hw hK hc i pins s U H E I hf st hg
  subst hP hw hK
  obtain⟨f0,f1,f2,f3,f4,f5⟩:=hf it (by simp)
  refine(W X.A (I.ok.hd hc)).item i s _ _ hg st fun v h' tk hv st' kk=>?_
  obtain⟨c,u,hcx,rfl⟩:=hv
  have I1:Inv X pins U H { s with heap:=h',toks:=tk }:=I.turned (fun b o hb e=>kk b o (by simpa using hb) e) f0 f1 f3 f4 f5
  obtain⟨o,e,cl,d⟩:=id st'
  exact⟨_,rfl,SX (s:={ s with heap:=h',toks:=tk }) e cl d hn ⟨.str ⟨#[c]⟩,H,I1,⟨u,rfl⟩,⟨rfl,c,hcx,rfl⟩,st',fun b hb=>(hf b hb).1⟩⟩
 done:=by
  intro X hP hw hK hc i pins s U H E I hf st hg
  subst hP hw hK
  obtain⟨f0,f1,f2,f3,f4,f5⟩:=hf it (by simp)
  exact he X.A i s _ _ (I.ok.hd hc) st (by have:x.cps.size<=i:=hg;simp;omega) fun h' eb=>⟨rfl,I.turned (t':=s.toks) (fun b o hb e=>eb b o hb e) f0 f1 f3 f4 f5⟩
 self:=fun A i s Q E st h=>hsf A i s Q E st h
def KJ(tl:TE):TI:=fun U H R=>tl U H fun v H1=>∃x,v = .str x/\R (K0 x) H1
theorem MI{X:Cx}{tg l:Expr}{tl:TE}(hl:PE X l tl):PI X tg l (KJ tl):=by
 intro pins s U H R I h
 refine Z4 (hl pins s U H _ I h) fun v s1 ⟨x,H1,I1,r1,q1⟩=>?_
 obtain⟨z,rfl,q⟩:=q1
 obtain⟨t,rfl⟩:=r1
 have fpo:∀b∈[s1.heap.objs.size],Xv X pins H1 b:=fun b hb=>by
  have e:b=s1.heap.objs.size:=by simpa using hb
  subst e
  exact I1.fpOk (Nat.le_refl _) (I1.hok.fresh (Nat.le_refl _))
 cases ha:z.cps.all (· < 128)
 ·exact wpAny_pyIter_wide ha ⟨s1.heap.objs.size,[s1.heap.objs.size],_,_,H1,rfl,I1.kept (t':=s1.toks) fun b o e=>Heap.get?_push_of_some _ e,TJ _ z t "str_iterator" (by decide) (fun A' hA=>Walks.strWide hA _ z t) (fun A i s Q E hA st hx k=>wpAny_pyNext_wide_end hA st hx k) (fun A i s Q E st k=>wpAny_pyIter_striter_wide st k),⟨_,Heap.get?_push_size _ rfl,rfl,rfl⟩,fpo,q⟩
 ·exact wpAny_pyIter_ascii ha ⟨s1.heap.objs.size,[s1.heap.objs.size],_,_,H1,rfl,I1.kept (t':=s1.toks) fun b o e=>Heap.get?_push_of_some _ e,TJ _ z t "str_ascii_iterator" (by decide) (fun A' hA=>Walks.strAscii hA _ z t) (fun A i s Q E hA st hx k=>wpAny_pyNext_ascii_end hA st hx k) (fun A i s Q E st k=>wpAny_pyIter_striter_ascii st k),⟨_,Heap.get?_push_size _ rfl,rfl,rfl⟩,fpo,q⟩
def Uc(f:XE):XL:=fun s=>match f s with | some (.str x)=>some (UO x) | _=>none
theorem RY{f:XE}{s:ZH}{m:List PV}(h:Uc f s=some m):∃x,f s=some (.str x)/\m=UO x:=by
 unfold Uc at h;split at h
 ·cases h;exact⟨_,by assumption,rfl⟩
 ·cases h
theorem Pb{X:Cx}{tg e:Expr}{f:XE}(h:VE X e f):VI X tg e (Uc f):=PI.imp (MI h) fun U H R ⟨Rm,s,ls,hd,env,e,k⟩=>by
 obtain⟨x,e1,rfl⟩:=RY e
 refine⟨Rm,s,.str x,hd,env,e1,fun v H1 fp s1 i1 n1=>⟨x,i1.str_inv.1,k _ H1 s1 ⟨fun H' ab=>?_,fun H' i l ab hl=>?_,fun H' i l v H'' ab hl y=>?_⟩⟩⟩
 ·show x.cps.size<=(UO x).length
  simp[UO]
 ·have:=(List.getElem?_eq_some_iff.mp hl).1
  show i<x.cps.size
  simpa [UO] using this
 ·obtain⟨rfl,c,hc,rfl⟩:=y
  unfold UO at hl;rw[List.getElem?_map] at hl
  have e2:x.cps.toList[i]?=some c:=by simpa using hc
  rw[e2] at hl;cases hl
  exact⟨Same.refl _,[],Is.str _,fun p hp=>by simp at hp⟩
end VL
namespace VL
open PySem PySem.Spec PyProof.Rows L2
variable {K:PySem.W.Frag}
def Rj:V->List V->Hp->VK->Prop:=fun x vs H Q=>∃a b,x = .str a/\vs=[.str b]/\Q (.bl (Txt.startswith a b)) H
theorem UP{X:Cx}:Mg X "str.startswith" Rj:=by
 intro pins s U H x vs v us Q I rx rv h
 obtain⟨a,b,rfl,rfl,q⟩:=h
 obtain⟨t,rfl⟩:=rx
 obtain⟨u,rfl,ru⟩:=Xx rv
 obtain⟨t',rfl⟩:=ru
 exact SC.startswith ⟨.bl _,H,I,rfl,q⟩
def ZW:PV->PV->Option PV
 | .str a,.str b=>some (.bl (Txt.startswith a b))
 | _,_=>none
theorem UQ:RB K (fun x y H Q=>Rj x [y] H Q) ZW:=fun H x y a b l fa fb ha hb e Q k=>by
 unfold ZW at e;split at e
 ·cases e
  exact⟨_,_,ha.str_inv.1,by rw[hb.str_inv.1],k _ H [] (Same.refl H) (Is.bl _) fun p hp=>by simp at hp⟩
 ·cases e
theorem Vg:∀a b l,ZW a b=some l->∃z,a = .str z:=fun a b l h=>by
 unfold ZW at h;split at h
 ·exact⟨_,rfl⟩
 ·cases h
def LX:R2:=fun x y H Q=>∃i j,x = .str i/\y = .str j/\Q (.bl (!decide (j.cps.toList<i.cps.toList))) H
theorem Pc{X:Cx}:XD X (compareOp .LtE) LX:=by
 intro pins s U H x y v u Q I rx ry h
 obtain⟨i,j,rfl,rfl,q⟩:=h
 obtain⟨t,rfl⟩:=rx
 obtain⟨t',rfl⟩:=ry
 exact P.le_str ⟨.bl _,H,I,rfl,q⟩
def WY:PV->PV->Option PV
 | .str i,.str j=>some (.bl (!decide (j.cps.toList<i.cps.toList)))
 | _,_=>none
theorem Pd:RB K LX WY:=fun H x y a b l fa fb ha hb e Q k=>by
 unfold WY at e;split at e
 ·cases e
  exact⟨_,_,ha.str_inv.1,hb.str_inv.1,k _ H [] (Same.refl H) (Is.bl _) fun p hp=>by simp at hp⟩
 ·cases e
instance (x:Str) (n:Int):Decidable (MulOk x n):=by unfold MulOk;infer_instance
def ND:R2:=fun x y H Q=>∃i n,x = .str i/\y = .int n/\MulOk i n/\Q (.str (Txt.mul i n)) H
theorem Rk{X:Cx}:XD X (binaryOp .Mult) ND:=by
 intro pins s U H x y v u Q I rx ry h
 obtain⟨i,n,rfl,rfl,hm,q⟩:=h
 obtain⟨t,rfl⟩:=rx
 obtain⟨t',rfl⟩:=ry
 exact SB.mul hm fun t' k=>⟨.str _,H,I.tok _,⟨_,rfl⟩,q⟩
def YM:PV->PV->Option PV
 | .str i,.int n=>if MulOk i n then some (.str (Txt.mul i n)) else none
 | _,_=>none
theorem Rl:RB K ND YM:=fun H x y a b l fa fb ha hb e Q k=>by
 unfold YM at e;split at e
 ·split at e
  ·cases e
   exact⟨_,_,ha.str_inv.1,hb.int_inv.1,by assumption,k _ H [] (Same.refl H) (Is.str _) fun p hp=>by simp at hp⟩
  ·cases e
 ·cases e
def Td:List PV->Option (List (Option Int))
 | []=>some []
 | .int i::r=>(Td r).map (some i::·)
 | .non::r=>(Td r).map (none::·)
 | _=>none
def Sa:Option Int->PV
 | some i=>.int i
 | none=>.non
def KN:Option Int->V
 | some i=>.int i
 | none=>.non
theorem WZ:∀{l:List PV}{xs:List (Option Int)},Td l=some xs->l=xs.map Sa
 | [],_,h=>by cases h;rfl
 | .int i::r,xs,h=>by
  simp only[Td] at h
  obtain⟨ys,h1,rfl⟩:=map_some h
  rw[WZ h1];rfl
 | .non::r,xs,h=>by
  simp only[Td] at h
  obtain⟨ys,h1,rfl⟩:=map_some h
  rw[WZ h1];rfl
 | .str _::_,_,h=>by cases h
 | .bl _::_,_,h=>by cases h
 | .ty _::_,_,h=>by cases h
 | .exc _::_,_,h=>by cases h
 | .tup _::_,_,h=>by cases h
 | .lst _::_,_,h=>by cases h
 | .cst _::_,_,h=>by cases h
 | .dK _ _::_,_,h=>by cases h
 | .dT _ _::_,_,h=>by cases h
theorem Ud:∀xs:List (Option Int),Td (xs.map Sa)=some xs
 | []=>rfl
 | some i::r=>by simp only[List.map_cons,Sa,Td,Ud r];rfl
 | none::r=>by simp only[List.map_cons,Sa,Td,Ud r];rfl
theorem Iss.oiL{H:Hp}:∀{l:List (Option Int)}{xs:List V}{fp:List Addr},Iss K H (l.map Sa) xs fp->xs=l.map KN
 | [],xs,fp,h=>by simp only[List.map_nil,Iss] at h;exact h.1
 | o::l,xs,fp,h=>by
  obtain⟨x,r,f1,f2,rfl,h1,h2,rfl⟩:=Iss.inv (show Iss K H (Sa o::l.map Sa) xs fp from h)
  rw[h2.oiL]
  cases o with
  | none=>rw[h1.non_inv.1];rfl
  | some i=>rw[h1.int_inv.1];rfl
def LY(K:PySem.W.Frag):R2:=fun x y H Q=>∃(p:Addr) (l:List (Option Int)),x = .non/\y = .ref p/\SqL K H p (l.map KN)/\Q (.bl (l.any Option.isNone)) H
theorem MJ{X:Cx}:XD X (compareOp .In) (LY X.K):=by
 intro pins s U H x y v u Q I rx ry h
 obtain⟨p,l,rfl,rfl,hp,q⟩:=h
 cases rx;cases ry
 obtain⟨us,rv,t,_⟩:=I.list hp
 let e:Value->Bool:=fun y=>match y with | .none=>true | _=>false
 have key:∀{l:List (Option Int)}{us:List Value},Vals (l.map KN) us->(∀y∈us,∀A:Around,SeqAt.EqAt A s y Value.none (e y))/\us.any e=l.any Option.isNone:=by
  intro l
  induction l with
  | nil=>intro us h;cases h;exact⟨fun y hy=>by simp at hy,rfl⟩
  | cons o l ih=>
   intro us h
   cases h with
   | cons h1 h2=>
    obtain⟨a,b⟩:=ih h2
    cases o with
    | none=>
     cases h1
     refine⟨fun y hy A=>?_,by simp[b,e]⟩
     rcases List.mem_cons.mp hy with rfl | hy
     ·exact SeqAt.EqAt.same _
     ·exact a y hy A
    | some i=>
     obtain⟨tk,rfl⟩:=h1
     refine⟨fun y hy A=>?_,by simp[b,e]⟩
     rcases List.mem_cons.mp hy with rfl | hy
     ·exact SeqAt.EqAt.int_none _ _
     ·exact a y hy A
 obtain⟨k1,k2⟩:=key rv
 refine SeqAt.in_listAt e t.isList (fun w hw=>k1 w (by simpa using hw) _) ⟨.bl _,H,I,rfl,?_⟩
 rw[show us.toArray.any e=us.any e by simp,k2];exact q
def TM:PV->PV->Option PV
 | .non,.lst l=>(Td l).map fun xs=>.bl (xs.any Option.isNone)
 | _,_=>none
theorem MK:RB K (LY K) TM:=fun H x y a b l fa fb ha hb e Q k=>by
 unfold TM at e;split at e
 ·obtain⟨xs,e1,rfl⟩:=map_some e
  have:=WZ e1
  subst this
  obtain⟨p,vs,fq,rfl,hp,hi,rfl⟩:=hb.lst_inv
  have:=hi.oiL
  subst this
  exact⟨p,xs,ha.non_inv.1,rfl,SqL.of hp,k _ H [] (Same.refl H) (Is.bl _) fun p hp=>by simp at hp⟩
 ·cases e
section
variable {X:Cx} {a b:Expr} {fa fb:XE} {pos:Pos}
theorem ML(ha:VE X a fa)(hb:VE X b fb)(hm:behindInMarks .In b=false:=by rfl):VT X (.Compare a [.In] [b] pos) (xB (Zf TM fa fb)):=VU MJ MK ha hb hm
end
end VL
namespace VX
open PySem PySem.Spec PyProof.Rows L2
structure Eff(fs ch:List Addr)(h h':Heap):Prop where
 keep:∀b o,h.get? b=some o->b∉ch->b∉fs->h'.get? b=some o
 slot:∀b o,h.get? b=some o->b∉ch->b∈fs->∃sl,h'.get? b=some { o with slots:=sl }
 there:∀b o,h.get? b=some o->∃o',h'.get? b=some o'
theorem Eff.refl{fs ch:List Addr}{h:Heap}:Eff fs ch h h:=⟨fun _ _ e _ _=>e,fun _ o e _ _=>⟨o.slots,e⟩,fun _ o e=>⟨o,e⟩⟩
theorem Eff.trans{fs ch:List Addr}{h h1 h2:Heap}(x:Eff fs ch h h1)(y:Eff fs ch h1 h2):Eff fs ch h h2:=
 ⟨fun b o e hc hf=>y.keep b o (x.keep b o e hc hf) hc hf,fun b o e hc hf=>by
  obtain⟨sl,e1⟩:=x.slot b o e hc hf
  obtain⟨sl2,e2⟩:=y.slot b _ e1 hc hf
  exact⟨sl2,e2⟩,fun b o e=>by
  obtain⟨o1,e1⟩:=x.there b o e
  exact y.there b o1 e1⟩
theorem Eff.mono{fs ch ch':List Addr}{h h':Heap}(x:Eff fs ch h h')(hs:∀b∈ch,b∈ch'):Eff fs ch' h h':=
 ⟨fun b o e hc hf=>x.keep b o e (fun z=>hc (hs b z)) hf,fun b o e hc hf=>x.slot b o e (fun z=>hc (hs b z)) hf,x.there⟩
theorem Eff.field{fs:List Addr}{h:Heap}{a:Addr}{o:Obj}{vs:Array Value}{f:Array Value->Array Value}(ha:h.get? a=some o)(hd:o.data = .fields vs):Eff fs [a] h (h.update a (Obj.mapFields f)):=
  ⟨fun b u e hc _=>by rw[Heap.get?_update_other _ _ (fun z=>hc (by rw[z];exact .head _))];exact e,
   fun b u e hc _=>⟨u.slots,by rw[Heap.get?_update_other _ _ (fun z=>hc (by rw[z];exact .head _))];exact e⟩,
   fun b u e=>by
    by_cases q:a=b
    · subst q;exact⟨_,Heap.get?_update_self _ ha (Obj.isFreed_of_fields (Obj.data_mapFields hd f))⟩
    · exact⟨u,by rw[Heap.get?_update_other _ _ q];exact e⟩⟩
theorem Eff.funs{fs:List Addr}{ch:List Addr}{h h' base:Heap}{l:List Env}(x:Eff fs ch h h')(hl:h.FunFrames base l)(hc:∀b∈ch,∀o,h.get? b=some o->∃vs,o.data = .fields vs):h'.FunFrames base l:=
 hl.of_keeps fun b o e hn=>by
  have hb:b∉ch:=fun z=>by obtain⟨vs,q⟩:=hc b z o e;exact hn vs q
  by_cases hf:b∈fs
  ·obtain⟨sl,q⟩:=x.slot b o e hb hf;exact⟨_,q,rfl⟩
  ·exact⟨o,x.keep b o e hb hf,rfl⟩
section
variable {M:Model} {A:Around} {E:Value->Shared->Prop} {s:Shared}
theorem X7{base:Heap}{env:Env}{outer:List Env}{L e:Addr}{oe:Obj}{vs:Array Value}{head:Value}{hadNext:Bool}{Q:Unit->Shared->Prop}
  (hfr:A.frames=some (env::outer)) (hl:s.heap.FunFrames base (env::outer)) (hf:env.frame=some L)
  (he:s.heap.get? e=some oe) (hd:oe.data = .fields vs) (hsz:1<vs.size)
  (h:∀h' T,s.heap.objs.size<=T->h'.get? e=some (oe.mapFields (·.setIfInBounds 1 (.ref T)))->(∃oT ts,h'.get? T=some oT/\oT.data = .fields ts/\ts[3]?=some (rawInt L))->Eff ((env::outer).filterMap (·.frame)) [e] s.heap h'->Q () { s with heap:=h' }) :
  wpAny M A (do let a <-frameOf env;let pl <-entryPlaceOf L hadNext;let b <-EntryCells.newEntry head a .none (rawInt L) .none pl;setField (.ref e) 1 b) Q E s:=by
 have hene:e∉(env::outer).filterMap (·.frame):=fun hm=>by
  obtain⟨_,o,ho,hnf⟩:=hl.mem hm
  rw[he] at ho;injection ho with ho;subst ho;exact hnf vs hd
 refine wpAny_bind (wpAny_frameOf_fun hfr hl hf fun h₁ hs₁=>?_)
 refine wpAny_bind (wpAny_entryPlaceOf fun pl hpl=>?_)
 unfold EntryCells.newEntry newFields
 refine wpAny_bind (wpAny_newObj_type ?_ (hpl.sizeOk5 _ _ _ _ _))
 have he₁:h₁.get? e=some oe:=(hs₁.2.1 e hene).trans he
 have he₂:=Heap.get?_push_of_some (h:=h₁) { cls:=.type "traceback",dict:=none,data:=.fields ([head,.ref L,.none,rawInt L,.none]++(if pl.isEmpty then List.replicate 6 Value.none else pl)).toArray } he₁
 have hsize:h₁.objs.size=s.heap.objs.size:=hs₁.1
 have p1:=Heap.get?_update_self (Obj.mapFields (·.setIfInBounds 1 (Value.ref h₁.objs.size))) he₂ (Obj.isFreed_of_fields (Obj.data_mapFields hd _))
 have p2:=(Heap.get?_update_other (h₁.push { cls:=.type "traceback",dict:=none,data:=.fields ([head,.ref L,.none,rawInt L,.none]++(if pl.isEmpty then List.replicate 6 Value.none else pl)).toArray })
  (Obj.mapFields (·.setIfInBounds 1 (Value.ref h₁.objs.size))) (Nat.ne_of_lt (Heap.lt_size he₁))).trans (Heap.get?_push_size h₁ rfl)
 have p3:Eff ((env::outer).filterMap (·.frame)) [e] s.heap ((h₁.push { cls:=.type "traceback",dict:=none,data:=.fields ([head,.ref L,.none,rawInt L,.none]++(if pl.isEmpty then List.replicate 6 Value.none else pl)).toArray }).update e (Obj.mapFields (·.setIfInBounds 1 (Value.ref h₁.objs.size)))):=
  Eff.trans (h1:=h₁) ⟨fun b o q _ hb=>(hs₁.2.1 b hb).trans q,fun b o q _ _=>hs₁.2.2 b o q,fun b o q=>by obtain⟨sl,z⟩:=hs₁.2.2 b o q;exact⟨_,z⟩⟩ (Eff.trans (h1:=h₁.push _) ⟨fun b o q _ _=>Heap.get?_push_of_some _ q,fun b o q _ _=>⟨o.slots,Heap.get?_push_of_some _ q⟩,fun b o q=>⟨o,Heap.get?_push_of_some _ q⟩⟩ (Eff.field he₂ hd))
 refine wpAny_setField he₂ hd hsz (h _ h₁.objs.size (by omega) p1 ⟨_,_,p2,rfl,?_⟩ p3)
 simp
def MM(h:Heap)(e:Addr)(cls:Value)(dd:Option Addr):Prop:=∃oe vs,h.get? e=some oe/\oe.cls=cls/\oe.dict=dd/\oe.data = .fields vs/\vs[1]?=some .none
def TN(h:Heap)(e:Addr)(cls:Value)(dd:Option Addr)(T:Addr)(fl:Value):Prop:=
 ∃oe vs oT ts,h.get? e=some oe/\oe.cls=cls/\oe.dict=dd/\oe.data = .fields vs/\vs[1]?=some (.ref T)/\T≠e/\h.get? T=some oT/\oT.data = .fields ts/\ts[3]?=some fl
theorem YZ(o:Obj)(f:Array Value->Array Value):(o.mapFields f).dict=o.dict:=by
 unfold Obj.mapFields
 split<;>rfl
variable {base:Heap} {env:Env} {outer:List Env} {L e T:Addr} {cls fl:Value} {dd:Option Addr} {Q:Unit->Shared->Prop}
theorem LZ(hfr:A.frames=some (env::outer))(hl:s.heap.FunFrames base (env::outer))(hf:env.frame=some L)(x:MM s.heap e cls dd)
  (h:∀h' T,s.heap.objs.size<=T->TN h' e cls dd T (rawInt L)->Eff ((env::outer).filterMap (·.frame)) [e] s.heap h'->Q () { s with heap:=h' }):wpAny M A (noteFrame (.ref e) env) Q E s:=by
 obtain⟨oe,vs,he,hc,hdd,hd,h1⟩:=x
 unfold noteFrame;simp only[hf]
 refine wpAny_bind (wpAny_field he hd h1 ?_)
 rw[if_neg (by decide)]
 have hsz:=(Array.getElem?_eq_some_iff.mp h1).1
 refine X7 hfr hl hf he hd hsz fun h' T hT p1 ⟨oT,ts,p2,p3,p4⟩ p5=>h h' T hT ⟨_,_,oT,ts,p1,(Obj.cls_mapFields _ _).trans hc,(YZ _ _).trans hdd,Obj.data_mapFields hd _,by simp[hsz],?_,p2,p3,p4⟩ p5
 exact Nat.ne_of_gt (Nat.lt_of_lt_of_le (Heap.lt_size he) hT)
theorem NF(hfr:A.frames=some (env::outer))(hl:s.heap.FunFrames base (env::outer))(hf:env.frame=some L)(x:TN s.heap e cls dd T .none)
  (h:∀h' T',s.heap.objs.size<=T'->TN h' e cls dd T' (rawInt L)->Eff ((env::outer).filterMap (·.frame)) [e,T] s.heap h'->Q () { s with heap:=h' }):wpAny M A (noteFrame (.ref e) env) Q E s:=by
 obtain⟨oe,vs,oT,ts,he,hc,hdd,hd,h1,hTe,hT,hdT,h3⟩:=x
 unfold noteFrame;simp only[hf]
 refine wpAny_bind (wpAny_field he hd h1 ?_)
 rw[if_pos (show(Value.ref T != Value.none)=true from by simp)]
 refine wpAny_bind (wpAny_field hT hdT h3 ?_)
 rw[if_neg (show ¬((Value.none==rawInt L)=true) from by simp[rawInt])]
 refine wpAny_bind (wpAny_setField hT hdT (Array.getElem?_eq_some_iff.mp h3).1 ?_)
 have hsz:=(Array.getElem?_eq_some_iff.mp h1).1
 have ef:Eff ((env::outer).filterMap (·.frame)) [T] s.heap (s.heap.update T (Obj.mapFields (·.setIfInBounds 3 Value.none))):=Eff.field hT hdT
 have hl':=ef.funs hl (fun b hb o q=>by rw[List.mem_singleton.mp hb,hT] at q;cases q;exact⟨_,hdT⟩)
 have he':=(Heap.get?_update_other s.heap (Obj.mapFields (·.setIfInBounds 3 Value.none)) hTe).trans he
 have hz:(s.heap.update T (Obj.mapFields (·.setIfInBounds 3 Value.none))).objs.size=s.heap.objs.size:=by simp
 refine X7 (s:={ s with heap:=s.heap.update T (Obj.mapFields (·.setIfInBounds 3 Value.none)) }) hfr hl' hf he' hd hsz fun h' T' hT' p1 ⟨oT',ts',p2,p3,p4⟩ p5=>h h' T' (by rw[<-hz];exact hT') ⟨_,_,oT',ts',p1,(Obj.cls_mapFields _ _).trans hc,(YZ _ _).trans hdd,Obj.data_mapFields hd _,by simp[hsz],?_,p2,p3,p4⟩ ?_
 ·have hT':(s.heap.update T (Obj.mapFields (·.setIfInBounds 3 Value.none))).objs.size<=T':=hT'
  rw[hz] at hT'
  exact Nat.ne_of_gt (Nat.lt_of_lt_of_le (Heap.lt_size he) hT')
 ·exact(ef.mono fun b hb=>by simp at hb;simp[hb]).trans (p5.mono fun b hb=>by simp at hb;simp[hb])
theorem Te(x:TN s.heap e cls dd T fl){fs:List Addr}(h:∀h',TN h' e cls dd T .none->Eff fs [T] s.heap h'->h'.objs.size=s.heap.objs.size->Q () { s with heap:=h' }):wpAny M A (setFlight (.ref e) none) Q E s:=by
 obtain⟨oe,vs,oT,ts,he,hc,hdd,hd,h1,hTe,hT,hdT,h3⟩:=x
 have hsz:=(Array.getElem?_eq_some_iff.mp h3).1
 unfold setFlight
 refine wpAny_bind (wpAny_field he hd h1 ?_)
 rw[if_pos (show(Value.ref T != Value.none)=true from by simp)]
 refine wpAny_setField hT hdT hsz (h _ ⟨oe,vs,_,_,(Heap.get?_update_other _ _ hTe).trans he,hc,hdd,hd,h1,hTe,Heap.get?_update_self _ hT (Obj.isFreed_of_fields (Obj.data_mapFields hdT _)),Obj.data_mapFields hdT _,by simp[hsz]⟩ (Eff.field hT hdT) (by simp))
theorem Pe(hfr:A.frames=some (env::outer))(hl:s.heap.FunFrames base (env::outer))(hf:env.frame=some L)(x:MM s.heap e cls dd)
  (h:∀h' T,s.heap.objs.size<=T->TN h' e cls dd T .none->Eff ((env::outer).filterMap (·.frame)) [e] s.heap h'->Q () { s with heap:=h' }):wpAny M A (leaving env (.ref e)) Q E s:=by
 unfold leaving
 refine wpAny_bind (LZ hfr hl hf x fun h1 T hT x1 e1=>?_)
 refine Te x1 (fs:=(env::outer).filterMap (·.frame)) fun h2 x2 e2 _=>h h2 T hT x2 ?_
 have nT:∀b o,s.heap.get? b=some o->b≠T:=fun b o q z=>by
  subst z
  exact Nat.lt_irrefl _ (Nat.lt_of_lt_of_le (Heap.lt_size q) hT)
 exact⟨fun b o q hc hf=>e2.keep b o (e1.keep b o q hc hf) (by simpa using nT b o q) hf,fun b o q hc hf=>by
  obtain⟨sl,q1⟩:=e1.slot b o q hc hf
  obtain⟨sl2,q2⟩:=e2.slot b _ q1 (by simpa using nT b o q) hf
  exact⟨sl2,q2⟩,fun b o q=>by
  obtain⟨o1,q1⟩:=e1.there b o q
  exact e2.there b o1 q1⟩
end
section
variable {P:Program} {w:World} {fs ch:List Addr} {H:Hp} {h h':Heap}
theorem Rn(x:HOk P w H h)(e:Eff fs ch h h')(hc:∀b∈ch,H b=none)(hf:∀b∈fs,H b=none):HOk P w H h':=fun a o ha=>
 (x a o ha).stay (fun b u hb q=>by
  have hb':∃o',H b=some o':=by
   rcases hb with z | z
   ·exact⟨o,by rw[z];exact ha⟩
   ·exact⟨_,z⟩
  obtain⟨o',hb'⟩:=hb'
  exact e.keep b u q (fun z=>by rw[hc b z] at hb';cases hb') (fun z=>by rw[hf b z] at hb';cases hb')) (fun _ q=>q) fun _ _ q=>q
end
def Fl(H':Hp)(h0 h:Heap)(e:Addr)(cls:Value)(dd:Option Addr):Prop:=∃T,TN h e cls dd T .none/\H' e=none/\H' T=none/\h0.get? e=none/\h0.get? T=none
def Lb(P:Program)(w:World):QD:=fun outer H s E v s'=>
 ∃e cls dd H',v = .ref e/\s'.os=s.os/\AllBare s'.gens/\Un (Tj outer) [] H H' s.heap s'.heap/\HOk P w H' s'.heap/\Fl H' s.heap s'.heap e cls dd/\E cls dd H'
section
variable {X:Cx} {pins:List (Addr×Obj)} {U:L2.St} {H:Hp} {s:Shared} {e:Addr} {cls:Value} {dd:Option Addr} {E:XK}
structure SF(X:Cx)(E:XK):Prop where
 stk:X.stack=X.env::X.outer
 fr:X.env.frame=some X.env.locals
 ex:X.ex=[]
 xe:X.xe=fun v s'=>wpAny (model X.prog X.w) X.A (leaving X.env v) (fun _ s''=>Lb X.prog X.w X.outer X.H₀ X.s₀ E v s'') (fun v' s''=>Lb X.prog X.w X.outer X.H₀ X.s₀ E v' s'') s'
theorem UR(D:SF X E)(I:Inv X pins U H s){ch:List Addr}{h':Heap}{T:Addr}(hT:X.s₀.heap.get? T=none)(he:X.s₀.heap.get? e=none)(hH:H e=none)(hHT:H T=none)(hc:∀b∈ch,H b=none/\X.s₀.heap.get? b=none)(x:TN h' e cls dd T .none)
  (ef:Eff ((X.env::X.outer).filterMap (·.frame)) ch s.heap h') (q:E cls dd H):Lb X.prog X.w X.outer X.H₀ X.s₀ E (.ref e) { s with heap:=h' }:=by
 have hf:∀b∈(X.env::X.outer).filterMap (·.frame),H b=none:=fun b hb=>by
  have:=I.stkFree b
  rw[D.stk] at this
  exact this hb
 refine⟨e,cls,dd,H,rfl,I.os,I.bare,?_,Rn I.hok ef (fun b hb=>(hc b hb).1) hf,⟨T,x,hH,hHT,he,hT⟩,q⟩
 have ub:=I.base
 have lt:∀b o,X.s₀.heap.get? b=some o->b∉ch:=fun b o z hb=>by rw[(hc b hb).2] at z;cases z
 have nL:∀b o,X.s₀.heap.get? b=some o->b≠X.env.locals:=fun b o z hb=>by
  subst hb
  exact Nat.lt_irrefl _ (Nat.lt_of_lt_of_le (Heap.lt_size z) I.ok.above)
 have mem:∀b o,X.s₀.heap.get? b=some o->(b∈(X.env::X.outer).filterMap (·.frame)↔b∈Tj X.outer):=fun b o z=>by
  rw[List.filterMap_cons_some D.fr,List.mem_cons]
  exact⟨fun h=>h.elim (fun q=>absurd q (nL b o z)) fun q=>q,.inr⟩
 have nex:∀b:Addr,b∉X.ex:=fun b z=>by rw[D.ex] at z;simp at z
 refine⟨fun b o z n hb _=>?_,fun b o z n hb _=>?_,fun b o z n _=>ub.free b o z n (nex b),fun b o z _=>?_,ub.tups,ub.frzs,ub.tbls⟩
 ·exact ef.keep b o (ub.keep b o z n hb (nex b)) (lt b o z) (fun q=>hb ((mem b o z).mp q))
 ·obtain⟨sl,z1⟩:=ub.slot b o z n hb (nex b)
  obtain⟨sl2,z2⟩:=ef.slot b _ z1 (lt b o z) ((mem b o z).mpr hb)
  exact⟨sl2,z2⟩
 ·obtain⟨o1,z1⟩:=ub.there b o z (nex b)
  exact ef.there b o1 z1
theorem MN(D:SF X E)(I:Inv X pins U H s)(x:MM s.heap e cls dd)(he:X.s₀.heap.get? e=none)(hH:H e=none)(q:E cls dd H):X.xe (.ref e) s:=by
 rw[D.xe];have hst:=I.stack;rw[D.stk] at hst;have hfr:=I.ok.frames;rw[D.stk] at hfr
 refine Pe hfr hst D.fr x fun h' T hT x' ef=>?_
 exact UR D I (Heap.get?_none_of_le (Nat.le_trans I.sz hT)) he hH (I.hok.fresh hT) (fun b hb=>by rw[List.mem_singleton.mp hb];exact⟨hH,he⟩) x' ef q
theorem Ro{P:Program}{w:World}{K:PySem.W.Frag}{mg:Str->Option Value}{base:Heap}{N:List Str}{qual:Str}{scope:Scope}{f:Addr}{cd:Value}{A:Around}{outer:List Env}{s:Shared}{H:Hp}{E:XK} :
  SF (VH (Lb P w) P w K mg base N qual scope f cd A outer s H E) E:=⟨rfl,rfl,rfl,rfl⟩
end
theorem MO{K:PySem.W.Frag}{h:Heap}{C:Addr}{bmB:List Value}{newId:String}(X:K.In h)(q:PySem.W.excIn K C bmB newId=true) :
  ∃bm N nm qn bs hdct sn sub ab col dd k0 k1 k2 k3 k5 mN,h.get? C=some (excClassObj nm qn C N bs bm hdct sn sub ab col dd k0 k1 k2 k3 k5 newId)/\h.Ns N mN/\mN "__init__" = none/\OwnTail h bmB bm:=by
 unfold PySem.W.excIn at q
 split at q
 ·rename_i dd cd sl ho
  split at q
  ·rename_i C' bm k0 k1 k2 k3 n k5 hm hs
   simp only[Bool.and_eq_true,beq_iff_eq,Bool.not_eq_true'] at q
   obtain⟨⟨⟨⟨⟨rfl,rfl⟩,hdel⟩,ht⟩,hok⟩,hni⟩:=q
   obtain⟨nm,bs,mro,ns,qn,hd,sn,sub,ab,col,del⟩:=cd
   dsimp only at hm hdel hok hni
   subst hm hdel
   have hsl:sl = #[k0,k1,k2,k3,some (.builtin n),k5]:=by
    obtain⟨l⟩:=sl
    simp only at hs
    rw[hs]
   subst hsl
   exact⟨bm,ns,nm,qn,bs,hd,sn,sub,ab,col,dd,k0,k1,k2,k3,k5,_,X _ _ ho,.of_isNs (PySem.W.isNs_of_in X hok),PySem.W.nsMap_none_of_in X hok hni,PySem.W.tail_of_in X ht⟩
  ·cases q
 ·cases q
theorem RZ{P:Program}{w:World}{H:Hp}{h:Heap}{a:Addr}{o:HO}(x:ObjOk P w H h a o):∃ob,h.get? a=some ob:=by
 cases o with
 | lst xs=>obtain⟨_,_,_,_,e⟩:=x;exact⟨_,e⟩
 | tup xs=>obtain⟨_,_,_,p⟩:=x;obtain⟨ob,e,_⟩:=p;exact⟨_,e⟩
 | dK kvs=>obtain⟨_,_,_,_,o,_,_,e,_⟩:=x;exact⟨_,e⟩
 | dT kvs=>obtain⟨_,_,_,_,o,_,_,e,_⟩:=x;exact⟨_,e⟩
 | set S n=>obtain⟨o,_,_,_,e,_⟩:=x;exact⟨_,e⟩
 | ins C dx fs=>obtain⟨_,_,_,e,_⟩:=x;exact⟨_,e⟩
 | own y=>exact x
 | xd fs=>obtain⟨_,⟨_,_,_,e,_⟩,_⟩:=x;exact⟨_,e⟩
 | rng lo hi=>obtain⟨_,_,_,e⟩:=x;exact⟨_,e⟩
 | frz ob u=>exact⟨_,x.1⟩
 | tbl ps=>exact⟨_,x⟩
 | met f y=>exact⟨_,x⟩
 | ext φ=>exact x.2.1
section
variable {X:Cx} {E:XK} {C:Addr} {bmB:List Value} {B newId initId:String} {x:Str} {np cpos pos:Pos} {a:Expr} {ta:TE}
theorem Pf(F:ExcBaseFacts B newId initId bmB)(hq:PySem.W.excIn X.K C bmB newId=true)(hg:Gl X x)(hm:X.mg x=some (.ref C))(hcalm:X.calm=true)(DX:SF X E)(ha:PE X a ta)
  (hdb:(x==("__debug__" : Str))=false:=by decide) (he:starEach [a] X.env=(false,eval a X.env)::starEach [] X.env:=by rfl):PS X (.Raise (some (.Call (.Name x np) [a] [] cpos)) none pos) (fun _ U H=>ta U H fun v H1=>[v].length=1/\E (.ref C) none H1):=by
 intro pins s U H D I h
 have X0:X.K.In X.base:=I.ok.mod.kin
 obtain⟨bm,N,nm,qn,bs,hdct,sn,sub,ab,col,dd,k0,k1,k2,k3,k5,mN,hC,hN,hni,TL⟩:=MO X0 hq
 refine wpAny_Raise_call_subT (nm:=nm) (q:=qn) (N:=N) (bs:=bs) (hdct:=hdct) (sn:=sn) (sub:=sub) (ab:=ab) (col:=col) (dd:=dd) (k0:=k0) (k1:=k1) (k2:=k2) (k3:=k3) (k5:=k5) F (mN:=mN) (TL.hasType F.hasBase) (I.ok.hd hcalm) (by rw[he];rfl) hni (Xh I hg hm ⟨rfl,?_⟩ hdb)
 have pa:PA X [a] (Nn ta Lx):=XF ha VG (hs:=he)
 have key:wpAny (model X.prog X.w) X.A (spliced (backTo cpos (starEach [a] X.env))) (fun us s₂=>us.length<=sizeLine/\s₂.heap.get? C=some (excClassObj nm qn C N bs bm hdct sn sub ab col dd k0 k1 k2 k3 k5 newId)/\s₂.heap.Ns N mN/\OwnTail s₂.heap bmB bm/\
    ∀h' e,Heap.MadeExcOf s₂.heap h' e (.ref C) us->X.xe (.ref e) { s₂ with heap:=h' }) X.xe s:=by
  refine Z4 (pa cpos pins s U H (fun vs H1=>vs.length=1/\E (.ref C) none H1) I h) fun us s₂ ⟨vs,H1,I1,r,hl,q⟩=>?_
  have lu:us.length=1:=by rw[<-r.length];exact hl
  refine⟨by rw[lu];decide,I1.bk _ _ hC,hN.keeps I1.bk,TL.keeps I1.bk,fun h' e hm=>?_⟩
  have I2:Inv X pins U H1 { s₂ with heap:=h' }:=I1.kept (t':=s₂.toks) hm.keeps
  obtain⟨t,ht,_,_⟩:=hm.there
  refine MN DX I2 ⟨_,_,ht,rfl,rfl,rfl,rfl⟩ ?_ ?_ q
  ·cases z:X.s₀.heap.get? e with
   | none=>rfl
   | some o=>
    obtain⟨o',z'⟩:=I1.base.there e o z (by rw[DX.ex];simp)
    rw[hm.new] at z';cases z'
  ·cases z:H1 e with
   | none=>rfl
   | some o=>
    obtain⟨o',z'⟩:=RZ (I1.hok e o z)
    rw[hm.new] at z';cases z'
 rw[he] at key ⊢
 exact Calls.evalArgs_plain (wpAny_mono key (fun us s₂ h2=>⟨rfl,h2⟩) fun _ _ z=>z)
end
end VX
namespace VX
open PySem PySem.Spec PyProof.Rows L2 VL
abbrev XR:=ZH->Option Str
def KO(K:PySem.W.Frag)(O:List Nat)(fx:XR)(E:XK):TS:=fun _ U H=>∃H0 fps s n,Rel K O H0 fps s U H/\fx s=some n/\∀C H',PySem.W.nsIn K mainGlobals n=some (some (.ref C))->Same H0 H'->E (.ref C) none H'
def VX(X:Cx)(O:List Nat)(E:XK)(st:Stmt)(fx:XR):Prop:=PS X st (KO X.K O fx E)
def MP(X:Cx)(O:List Nat)(E:XK)(st:List Stmt)(fx:XR):Prop:=PSs X st (KO X.K O fx E)
def rMsg(n:Str)(f:XE):XR:=fun s=>match f s with
 | some (.lst l)=>(match QS l with
  | some is=>if is.length<=100/\∀i∈is,i.natAbs.log2<1920 then some n else none
  | none=>none)
 | _=>none
def NG(fc:XT)(f g:XR):XR:=fun s=>(fc s).bind fun c=>if c=true then f s else g s
def Ue(f1:XR)(f:XS)(g:XR):XR:=fun s=>match f1 s with
 | some c=>some c
 | none=>(match f s with
  | some (.nx s')=>g s'
  | _=>none)
def PL:XR:=fun _=>none
section
variable {X:Cx} {O W:List Nat} {E:XK} {C:Addr} {bmB:List Value} {B newId initId:String} {x y:Str} {np cpos pos p1 p2 p3:Pos} {jj k:Nat} {e:Expr} {f:XE}
variable {st:Stmt} {ZF a b:List Stmt} {c:Expr} {fc:XT} {f1 g1:XR} {fs:XS}
theorem NH:VX X O E st PL:=fun pins s U H D I ⟨_,_,_,_,_,e,_⟩=>by cases e
theorem MQ:MP X O E ZF PL:=fun pins s U H D I ⟨_,_,_,_,_,e,_⟩=>by cases e
theorem L4(hc:VT X c fc)(ha:MP X O E a f1)(hb:MP X O E b g1):VX X O E (.If c a b pos) (NG fc f1 g1):=PS.imp (Ni hc ha hb) fun D U H ⟨H0,fps,s,cls,r,e,q⟩=>by
 obtain⟨d,e1,e⟩:=Ze e
 refine⟨fun _=>False,s,d,fun _ z=>z.elim,r.env,e1,fun H1 s1=>?_⟩
 cases d with
 | true=>rw[if_pos rfl] at e ⊢;exact⟨H0,fps,s,cls,r.grow s1,e,q⟩
 | false=>rw[if_neg Bool.false_ne_true] at e ⊢;exact⟨H0,fps,s,cls,r.grow s1,e,q⟩
theorem Tf(h:VX X O E st f1):MP X O E [st] f1:=SW h
theorem R0{t:TS}(h1:PS X st t)(hx:∀D D' U H,t D U H->t D' U H):PSs X (st::ZF) (fun _ U H=>t { nx:=fun _ _=>False,rt:=fun _ _=>False } U H):=by
 intro pins s U H D I h
 refine wpAny_execs_cons (Z4 (h1 pins s U H { nx:=fun _ _=>False,rt:=fun _ _=>False } I h) fun f s1 q=>?_)
 cases f with
 | next=>obtain⟨_,_,_,z⟩:=q;exact z.elim
 | ret u=>obtain⟨_,_,_,_,_,z⟩:=q;exact z.elim
 | brk=>obtain⟨_,_,_,z⟩:=q;exact z.elim
 | cont=>obtain⟨_,_,_,z⟩:=q;exact z.elim
theorem TQ(h1:VX X O E st f1)(hs:VS X O W st fs)(h2:MP X O E ZF g1):MP X O E (st::ZF) (Ue f1 fs g1):=by
 intro pins s U H D I ⟨H0,fps,sp,cls,r,e,q⟩
 unfold Ue at e
 split at e
 ·rename_i c hc
  cases e
  exact R0 h1 (fun _ _ _ _ z=>z) pins s U H D I ⟨H0,fps,sp,_,r,hc,q⟩
 ·split at e
  ·rename_i s' hf
   refine Tn hs h2 pins s U H D I ⟨H0,fps,sp,.nx s',r,hf,fun fps' U' H' r' _=>?_⟩
   exact⟨H0,fps',s',cls,r',e,q⟩
  ·cases e
end
def spX(K:PySem.W.Frag)(R:List PV->Option Str)(n:Nat):Sp:=fun vs H _ E=>vs.length=n/\∃ls fp nm,Iss K H ls vs fp/\R ls=some nm/\∀C H',PySem.W.nsIn K mainGlobals nm=some (some (.ref C))->Same H H'->E (.ref C) none H'
def PM(m:Nat)(fx:XR):List PV->Option Str:=fun ls=>fx (Yr m ls)
structure CalX(P:Program)(w:World)(K:PySem.W.Frag)(mg:Str->Option Value)(base:Heap)(x:Str)(ps:List Str)(sp:Sp)(k:Nat):Prop where
 ex:∃f fd,mg x=some (.ref f)/\PySem.W.keepIn K (.ref f)=true/\Binds K fd ps []/\Wg P w K mg base (Lb P w) k f fd ps sp
section
variable {K:PySem.W.Frag} {P:Program} {w:World} {mg:Str->Option Value} {base:Heap}
open Classical in
theorem MR{N:List Str}{O:List Nat}{n:Nat}{fx:XR}{vs:List V}{H:Hp}{Q:VK}{E:XK}{D:We}(hO:∀i∈O,n<=i)(h:spX K (PM N.length fx) n vs H Q E):KO K O fx E D (L2.start N vs) H:=by
 obtain⟨hl,ls,fp,cls,hi,e,q⟩:=h
 obtain⟨H0,fps,s,out,r,e1,k⟩:=Tb (N:=N) (n:=n) (O:=O) (W:=[]) (f:=fun s=>if s=Yr N.length ls then some (.rt .non) else none) (vs:=vs) (H:=H) (Q:=fun _ H'=>Same H H') (E:=fun _ _ _=>True) hO ⟨hl,ls,fp,.non,hi,by unfold Ws;simp[Vm],fun _ H' _ sm _ _ _=>sm⟩
 simp only at e1
 split at e1
 ·rename_i hs
  cases e1;subst hs
  exact⟨H0,fps,_,cls,r,e,fun C H' hc sm=>q C H' hc (k .non [] H' sm Is.non List.nodup_nil fun p hp=>by simp at hp)⟩
 ·cases e1
theorem def_x{x:Str}{st:Stmt}{N ps:List Str}{k n:Nat}{O:List Nat}(m:Nat)(fx:XR)(D:Def K mg x st)(S:ZI N ps (Zj st))
  (hb:∀(kV doc pm:Value)(an:Option Addr)(cdv ct:Value)(us:List Value),us.length=ps.length->bindArgs (PySem.W.fnOf x x (YN st) (Z7 st) (Zj st) .none kV doc pm an cdv ct) ⟨us,[]⟩=pure (ps.zip us))
  (hn:ps.length=n) (hm:N.length=m) (hO:∀i∈O,n<=i)
  (hbody:∀(fa:Addr)(cdv:Value)(A:Around)(outer:List Env)(s:Shared)(H:Hp)(E:XK),Room k (A.deeper (envOfC x (Zj st) s.heap.objs.size fa cdv))->MP (VH (Lb P w) P w K mg base N x (Zj st) fa cdv A outer s H E) O E (Z7 st) fx) :
  CalX P w K mg base x ps (spX K (PM m fx) n) (k+1):=by
 subst hm
 obtain⟨f,fd,hm,F⟩:=D.ex
 refine⟨f,fd,hm,F.kp,F.binds hb,?_⟩
 obtain⟨oc,od,kV,doc,pm,an,cdv,ct,osl,rfl,lk,hcd⟩:=F.ex
 exact Nq lk hcd S (fun vs H Q E h=>by rw[hn];exact h.1) fun A outer s H vs Q E hr hsp=>⟨_,hbody f cdv A outer s H E hr,MR hO hsp⟩
end
section
variable {X:Cx} {pins:List (Addr×Obj)} {U:L2.St} {H:Hp} {s:Shared}
theorem R1{A:Around}{E:Value->Shared->Prop}{i:Nat}{n:Str}{pos:Pos}{Q:Unit->Shared->Prop}(I:Inv X pins U H s)(hN:X.N.Nodup)(hi:X.N[i]?=some n)(hk:X.env.scope.names.lookup n=some .local)
  (h:∀s',Inv X pins (U.set i none) H s'->Q () s'):wpAny (model X.prog X.w) A (do bindName X.env n .none;unbindBehindTheSuite X.env n pos) Q E s:=by
 refine wpAny_bind (wpAny_bindName (Xu I hN hi (.inl hk) (v:=.non) (u:=Value.none) rfl (fun s1 I1=>?_) (.inr hk)))
 unfold unbindBehindTheSuite
 refine wpAny_onRaise ?_
 have hcls:(X.env.scope.kind==.class || (X.env.scope.kind==.module&&X.env.locals != X.env.globals))=false:=by rw[I.ok.kind];rfl
 have hiU:i<U.length:=by rw[I.len];exact(List.getElem?_eq_some_iff.mp hi).1
 obtain⟨m,hn,hl⟩:=id I1.loc
 obtain⟨u,ru,lk⟩:=hl i n .non hi (by rw[List.getElem?_set_self hiU]) (.inl hk)
 have hkl:X.env.kindOf n=some .local:=hk
 have hv:m n=some u:=by
  rcases lk with⟨_,z⟩ | ⟨z,_⟩
  ·exact z
  ·rw[hkl] at z;rcases z with z | z<;>cases z
 have cne:=I1.cne
 refine wpAny_unbindName_local hkl hn hv hcls fun h' u' hn' hs=>h _ ?_
 obtain⟨oL,_,_,hoL,_⟩:=id hn
 refine⟨I1.ok,I1.os,I1.bare,⟨fun b o e n hb hx=>?_,fun b o e n hb hx=>?_,I1.base.free,fun b o e hx=>?_,I1.base.tups,I1.base.frzs,I1.base.tbls⟩,⟨_,hn',fun j y v' e1 e2 e3=>?_⟩,fun y c e=>?_,I1.free,I1.freeC,fun p hp=>?_,fun b ob e=>?_,by have:=I1.len;simpa using this⟩
 ·exact(hs.2 b (Nat.ne_of_lt (Nat.lt_of_lt_of_le (Heap.lt_size e) I1.ok.above))).trans (I1.base.keep b o e n hb hx)
 ·obtain⟨sl,e1⟩:=I1.base.slot b o e n hb hx
  exact⟨sl,(hs.2 b (Nat.ne_of_lt (Nat.lt_of_lt_of_le (Heap.lt_size e) I1.ok.above))).trans e1⟩
 ·obtain⟨o',e1⟩:=I1.base.there b o e hx
  exact⟨o',(hs.2 b (Nat.ne_of_lt (Nat.lt_of_lt_of_le (Heap.lt_size e) I1.ok.above))).trans e1⟩
 ·by_cases hj:j=i
  ·subst hj
   rw[List.getElem?_set_self hiU] at e2;cases e2
  ·have e2':(U.set i (some V.non))[j]?=some (some v'):=by rw[List.getElem?_set_ne (Ne.symm hj)] at e2 ⊢;exact e2
   obtain⟨u2,r2,q⟩:=hl j y v' e1 e2' e3
   refine⟨u2,r2,?_⟩
   rcases q with⟨k,e⟩ | ⟨k,c,e,z⟩
   ·refine .inl ⟨k,?_⟩
    have:y≠n:=fun e=>hj (VB hN e1 (e▸hi))
    simp[this,e]
   ·exact .inr ⟨k,c,e,z.sameBut hs (cne y c e)⟩
 ·obtain⟨w',z⟩:=I1.cell y c e
  exact⟨w',z.sameBut hs (cne y c e)⟩
 ·obtain⟨e,n,ne,nf,d⟩:=I1.pin p hp
  exact⟨(hs.2 p.1 ne).trans e,n,ne,nf,d⟩
 ·refine(I1.hok b ob e).stay (fun c w' hc q=>(hs.2 c ?_).trans q) (fun _ q=>q) fun _ _ q=>q
  rintro rfl
  have hf:=I1.free
  rcases hc with rfl | hc
  ·rw[hf] at e;cases e
  ·rw[hf] at hc;cases hc
abbrev Cx.mark(X:Cx)(e:Addr):Cx:={ X with A:=X.A.mark (some (.ref e)),calm:=false,xe:=fun _ _=>False }
theorem TR{e:Addr}(I:Inv X pins U H s):Inv (Cx.mark X e) pins U H s:=
 ⟨⟨I.ok.mod,I.ok.kind,I.ok.glob,I.ok.blt,I.ok.above,I.ok.inj,I.ok.has,I.ok.cab,(fun z=>by cases z),I.ok.frames,I.ok.stk,I.ok.exf,I.ok.bs,I.ok.bsz,I.ok.noex,I.ok.exfs,I.ok.funs,I.ok.frf⟩,I.os,I.bare,I.base,I.loc,I.cell,I.free,I.freeC,I.pin,I.hok,I.len⟩
theorem SG{e:Addr}(ok:X.Ok)(I:Inv (Cx.mark X e) pins U H s):Inv X pins U H s:=
 ⟨ok,I.os,I.bare,I.base,I.loc,I.cell,I.free,I.freeC,I.pin,I.hok,I.len⟩
def NI(X:Cx)(pins:List (Addr×Obj))(b:Addr):Prop:=X.s₀.heap.get? b=none/\b≠X.env.locals/\(∀x c,X.env.cells.lookup x=some c->c≠b)/\∀p∈X.pn++pins,p.1≠b
theorem X8{b:Addr}(I:Inv X pins U H s)(hx:X.ex=[])(h:s.heap.get? b=none):NI X pins b:=by
 refine⟨?_,fun z=>?_,fun x c hc z=>?_,fun p hp z=>?_⟩
 ·cases r:X.s₀.heap.get? b with
  | none=>rfl
  | some o=>
   obtain⟨o',r'⟩:=I.base.there b o r (by rw[hx];simp)
   rw[h] at r';cases r'
 ·obtain⟨m,⟨o,_,_,ho,_⟩,_⟩:=I.loc
  rw[z,ho] at h;cases h
 ·obtain⟨v,o,ho,_⟩:=I.cell x c hc
  rw[z] at ho;rw[ho] at h;cases h
 ·have:=(I.pin p hp).1
  rw[z] at this;rw[this] at h;cases h
theorem Ww{ch:List Addr}{h':Heap}(I:Inv X pins U H s)(hx:X.ex=[])(hfr:X.env.frame=some X.env.locals)(ef:Eff ((X.env::X.outer).filterMap (·.frame)) ch s.heap h')(hc:∀b∈ch,H b=none/\NI X pins b)(hst:X.stack=X.env::X.outer):Inv X pins U H { s with heap:=h' }:=by
 have hf:∀b∈(X.env::X.outer).filterMap (·.frame),H b=none:=fun b hb=>by
  have:=I.stkFree b
  rw[hst] at this
  exact this hb
 have lt:∀b o,X.s₀.heap.get? b=some o->b∉ch:=fun b o z hb=>by rw[(hc b hb).2.1] at z;cases z
 have nL:∀b o,X.s₀.heap.get? b=some o->b≠X.env.locals:=fun b o z hb=>by
  subst hb
  exact Nat.lt_irrefl _ (Nat.lt_of_lt_of_le (Heap.lt_size z) I.ok.above)
 have mem:∀b,b≠X.env.locals->(b∈(X.env::X.outer).filterMap (·.frame)↔b∈X.fs):=fun b z=>by
  rw[List.filterMap_cons_some hfr,List.mem_cons]
  exact⟨fun h=>h.elim (fun q=>absurd q z) fun q=>q,.inr⟩
 have any:∀b o,s.heap.get? b=some o->b∉ch->∃sl,h'.get? b=some { o with slots:=sl }:=fun b o q hb=>by
  by_cases z:b∈(X.env::X.outer).filterMap (·.frame)
  ·exact ef.slot b o q hb z
  ·exact⟨o.slots,ef.keep b o q hb z⟩
 obtain⟨m,⟨oL,es,ep,hoL,rL⟩,hl⟩:=id I.loc
 have nLc:X.env.locals∉ch:=fun z=>(hc _ z).2.2.1 rfl
 obtain⟨slL,hL⟩:=any _ _ hoL nLc
 have cellK:∀c v,(∀b∈ch,c≠b)->s.heap.IsCell c v->h'.IsCell c v:=fun c v hne ⟨o,ho,hd⟩=>by
  obtain⟨sl,q⟩:=any c o ho fun z=>hne c z rfl
  exact⟨_,q,hd⟩
 have cne:∀x c,X.env.cells.lookup x=some c->∀b∈ch,c≠b:=fun x c q b hb=>(hc b hb).2.2.2.1 x c q
 refine⟨I.ok,I.os,I.bare,⟨fun b o e n hb hx'=>?_,fun b o e n hb hx'=>?_,I.base.free,fun b o e hx'=>?_,I.base.tups,I.base.frzs,I.base.tbls⟩,⟨m,⟨_,es,ep,hL,rL⟩,fun j y v' e1 e2 e3=>?_⟩,fun y c e=>?_,I.free,I.freeC,fun p hp=>?_,Rn I.hok ef (fun b hb=>(hc b hb).1) hf,I.len⟩
 ·exact ef.keep b o (I.base.keep b o e n hb hx') (lt b o e) fun z=>hb ((mem b (nL b o e)).mp z)
 ·obtain⟨sl,z1⟩:=I.base.slot b o e n hb hx'
  obtain⟨sl2,z2⟩:=ef.slot b _ z1 (lt b o e) ((mem b (nL b o e)).mpr hb)
  exact⟨sl2,z2⟩
 ·obtain⟨o1,z1⟩:=I.base.there b o e hx'
  exact ef.there b o1 z1
 ·obtain⟨u',r',q⟩:=hl j y v' e1 e2 e3
  refine⟨u',r',?_⟩
  rcases q with q | ⟨k,c,e,z⟩
  ·exact .inl q
  ·exact .inr ⟨k,c,e,cellK c _ (cne y c e) z⟩
 ·obtain⟨w',z⟩:=I.cell y c e
  exact⟨w',cellK c _ (cne y c e) z⟩
 ·obtain⟨e,n,ne,nf,d⟩:=I.pin p hp
  exact⟨ef.keep p.1 p.2 e (fun z=>(hc _ z).2.2.2.2 p hp rfl) (fun z=>nf ((mem p.1 ne).mp z)),n,ne,nf,d⟩
theorem R3{e:Addr}{oe:Obj}(I:Inv X pins U H s)(he:s.heap.get? e=some oe)(hH:H e=none)(ho:NI X pins e):Inv X pins U (YG H e (.frz oe (.own e))) s:=by
 have ne:∀b u,H b=some u->b≠e:=fun b u q z=>by rw[z,hH] at q;cases q
 refine⟨I.ok,I.os,I.bare,⟨I.base.keep,I.base.slot,fun b o q n hx=>?_,I.base.there,fun b xs q=>?_,fun b o u q=>?_,fun b ps q=>?_⟩,I.loc,I.cell,?_,fun x c q=>?_,fun p hp=>?_,fun b u q=>?_,I.len⟩
 ·rw[Zq (fun z=>by rw[z,ho.1] at q;cases q)];exact I.base.free b o q n hx
 ·have:=I.base.tups b xs q;rw[Zq (ne _ _ this)];exact this
 ·have:=I.base.frzs b o u q;rw[Zq (ne _ _ this)];exact this
 ·obtain⟨more,z⟩:=I.base.tbls b ps q
  exact⟨more,by rw[Zq (ne _ _ z)];exact z⟩
 ·rw[Zq (Ne.symm ho.2.1)];exact I.free
 ·rw[Zq (ho.2.2.1 x c q)];exact I.freeC x c q
 ·obtain⟨e1,n,r⟩:=I.pin p hp
  exact⟨e1,by rw[Zq (ho.2.2.2 p hp)];exact n,r⟩
 ·by_cases z:b=e
  ·subst z
   rw[Zw] at q;cases q
   exact⟨he,_,he⟩
  ·rw[Zq z] at q
   exact(I.hok b u q).stay (fun _ _ _ r=>r) (fun c r=>by rw[Zq (ne _ _ r)];exact r) fun c xs r=>by rw[Zq (ne _ _ r)];exact r
end
section
variable {M:Model} {A:Around} {E:Value->Shared->Prop}
variable {nm q nm' q':Str} {C N Cb N':Addr} {bs bm bs' bm':List Value} {hdct hdct':Bool} {sn sn':List Str} {sub sub':List Value} {ab ab':Bool} {col col':Option Bool} {dd dd':Option Addr} {k0 k1 k2 k3 k5 j0 j1 j2 j3 j5:Option Value} {newId newId':String}
theorem TU{h:Heap}{g:Array GenState}{d:Drawn}{t:Nat}{os:OsState}{e:Addr}{oe:Obj}{Q:Bool->Shared->Prop}
  (hC:h.get? C=some (excClassObj nm q C N bs bm hdct sn sub ab col dd k0 k1 k2 k3 k5 newId)) (hB:h.get? Cb=some (excClassObj nm' q' Cb N' bs' bm' hdct' sn' sub' ab' col' dd' j0 j1 j2 j3 j5 newId')) (he:h.get? e=some oe) (hcls:oe.cls = .ref C) (hbase:bm'.contains (.type "BaseException")=true)
  (hq:Q ((Value.ref C::bm).contains (.ref Cb)) ⟨h,g,d,t,os⟩):wpAny M A (excMatches (.ref e) (.ref Cb)) Q E ⟨h,g,d,t,os⟩:=by
 have hcB:(Value.ref Cb::bm').contains (.type "BaseException")=true:=by rw[List.contains_cons,hbase,Bool.or_true]
 have f:=tc_notTuple;unfold excMatches
 cases hcC:(Value.ref C::bm).contains (.ref Cb) with
 | true=>
  rw[hcC] at hq
  repeat (first | (with_reducible refine wpAny_loadPart_at he ?_;rw[hcls]) | with_reducible refine wpAny_loadPart_at hB ?_ | (with_reducible refine wpAny_isSubtype_exc hB ?_;rw[hcB]) | (with_reducible refine wpAny_isSubtype_exc hC ?_;rw[hcC]) | wp_step)
  exact hq
 | false=>
  rw[hcC] at hq
  repeat (first | (with_reducible refine wpAny_loadPart_at he ?_;rw[hcls]) | with_reducible refine wpAny_loadPart_at hB ?_ | (with_reducible refine wpAny_isSubtype_exc hB ?_;rw[hcB]) | (with_reducible refine wpAny_isSubtype_exc hC ?_;rw[hcC]) | wp_step)
  exact hq
end
def belowIn(K:PySem.W.Frag)(C Cb:Addr):Bool:=match K.lookup C with
 | some ⟨_,_,.cls cd,_⟩=>cd.mro.contains (.ref Cb)
 | _=>false
theorem Pg{K:PySem.W.Frag}{h:Heap}{C Cb:Addr}{nm qn:Str}{N:Addr}{bs bm:List Value}{hdct:Bool}{sn:List Str}{sub:List Value}{ab:Bool}{col:Option Bool}{dd:Option Addr}{k0 k1 k2 k3 k5:Option Value}{newId:String}(X:K.In h)(e:belowIn K C Cb=true)
  (hC:h.get? C=some (excClassObj nm qn C N bs bm hdct sn sub ab col dd k0 k1 k2 k3 k5 newId)):(Value.ref C::bm).contains (.ref Cb)=true:=by
 unfold belowIn at e
 split at e
 ·rename_i ho
  have:=X _ _ ho
  rw[hC] at this;cases this;exact e
 ·cases e
section
variable {X:Cx} {pins:List (Addr×Obj)} {U:L2.St} {H:Hp} {s:Shared} {e T C Cb:Addr} {dd:Option Addr} {cx n:Str} {np pos:Pos} {b₀:Stmt} {suite:List Stmt} {ZF:List ExceptHandler} {ts:TS} {D:We} {i:Nat}
def Ph(i:Nat)(D:We):We:={ nx:=fun U H=>D.nx (U.set i none) H,rt:=D.rt,bk:=fun U H=>D.bk (U.set i none) H,ct:=fun U H=>D.ct (U.set i none) H }
theorem KP(I:Inv X pins U H s)(hx:X.ex=[])(hst:X.stack=X.env::X.outer)(hfr:X.env.frame=some X.env.locals)(x:TN s.heap e (.ref C) dd T .none)(hH:H e=none)(hHT:H T=none)(oe:NI X pins e)(oT:NI X pins T)
  (hN:X.N.Nodup) (hi:X.N[i]?=some n) (hk:X.env.scope.names.lookup n=some .local) (hg:Gl X cx) (hm:X.mg cx=some (.ref Cb)) (hC:PySem.W.ktsIn X.K C "BaseException" = true) (hB:PySem.W.ktsIn X.K Cb "BaseException" = true) (hb:belowIn X.K C Cb=true)
  (hs:PSs (Cx.mark X e) (b₀::suite) ts) (q:∀oe:Obj,oe.cls = .ref C->oe.dict=dd->(∃vs,oe.data = .fields vs)->ts (Ph i D) (U.set i (some (.ref e))) (YG H e (.frz oe (.own e))))
  (hdb:(cx==("__debug__" : Str))=false:=by decide) :
  wpAny (model X.prog X.w) X.A (noteFrame (.ref e) X.env) (fun _ s₂=>wpAny (model X.prog X.w) X.A (setFlight (.ref e) none) (fun _ s₃=>
   wpAny (model X.prog X.w) X.A (handleBy (.ref e) X.env (.ExceptHandler (some (.Name cx np)) (some n) (b₀::suite) pos::ZF)) (SP X pins D) X.xe s₃) X.xe s₂) X.xe s:=by
 have hstk:=I.stack;rw[hst] at hstk;have hfrs:=I.ok.frames;rw[hst] at hfrs
 refine NF hfrs hstk hfr x fun h1 T' hT' x1 e1=>?_
 have I1:Inv X pins U H { s with heap:=h1 }:=Ww I hx hfr e1 (fun b hb=>by
  rcases List.mem_cons.mp hb with z | z
  ·rw[z];exact⟨hH,oe⟩
  ·rw[List.mem_singleton.mp z];exact⟨hHT,oT⟩) hst
 have oT':NI X pins T':=X8 I hx (Heap.get?_none_of_le hT')
 have hHT':H T'=none:=I.hok.fresh hT'
 have tch:∀b∈[T'],H b=none/\NI X pins b:=fun b hb=>by rw[List.mem_singleton.mp hb];exact⟨hHT',oT'⟩
 refine Te x1 (fs:=(X.env::X.outer).filterMap (·.frame)) fun h2 x2 e2 _=>?_
 have I2:Inv X pins U H { s with heap:=h2 }:=Ww (s:={ s with heap:=h1 }) I1 hx hfr e2 tch hst
 refine wpAny_handleBy_cons (codeAny_handlers_test ?_) (by intro z;cases z)
 have I2m:Inv (Cx.mark X e) pins U H { s with heap:=h2 }:=TR I2
 refine Xh (X:=Cx.mark X e) I2m hg hm ?_ hdb
 obtain⟨nm,qn,N,bs,bm,hdct,sn,sub,ab,col,dc,k0,k1,k2,k3,k5,nid,hCo,_,_⟩:=PySem.W.kts_cls I2.kIn hC
 obtain⟨nm',qn',N',bs',bm',hdct',sn',sub',ab',col',dc',j0,j1,j2,j3,j5,nid',hBo,hbase,_⟩:=PySem.W.kts_cls I2.kIn hB
 obtain⟨ob,vs,oT2,tsx,heo,hcls,hdd,hdat,_⟩:=id x2
 refine TU hCo hBo heo hcls hbase ?_
 rw[Pg I2.kIn hb hCo]
 refine codeAny_handlers_suite_as ?_
 refine Te (s:={ s with heap:=h2 }) x2 (fs:=(X.env::X.outer).filterMap (·.frame)) fun h3 x3 e3 _=>?_
 have I3:Inv X pins U H { s with heap:=h3 }:=Ww (s:={ s with heap:=h2 }) I2 hx hfr e3 tch hst
 obtain⟨ob3,vs3,oT3,ts3,heo3,hcls3,hdd3,hdat3,_⟩:=id x3
 have I4:=R3 (s:={ s with heap:=h3 }) I3 heo3 hH oe
 refine Xu (X:=Cx.mark X e) (TR I4) hN hi (.inl hk) (v:=.ref e) (u:=.ref e) rfl (fun s5 I5=>?_) (.inr hk)
 refine wpAny_mono (hs pins s5 _ _ (Ph i D) I5 (q ob3 hcls3 hdd3 ⟨_,hdat3⟩)) (fun f s6 h6=>?_) fun _ _ z=>z.elim
 have go:∀U' H' s6,Inv (Cx.mark X e) pins U' H' s6->(∀s7,Inv X pins (U'.set i none) H' s7->SP X pins D f s7)->wpAny (model X.prog X.w) X.A (do bindName X.env n .none;unbindBehindTheSuite X.env n pos) (fun _ s₃=>SP X pins D f s₃) X.xe s6:=fun U' H' s6 I6 k=>
  R1 (SG I.ok I6) hN hi hk k
 cases f with
 | next=>
  obtain⟨U',H',I6,z⟩:=h6
  exact go U' H' s6 I6 fun s7 I7=>⟨_,_,I7,z⟩
 | ret u=>
  obtain⟨v,U',H',I6,r6,z⟩:=h6
  exact go U' H' s6 I6 fun s7 I7=>⟨v,_,_,I7,r6,z⟩
 | brk=>
  obtain⟨U',H',I6,z⟩:=h6
  exact go U' H' s6 I6 fun s7 I7=>⟨_,_,I7,z⟩
 | cont=>
  obtain⟨U',H',I6,z⟩:=h6
  exact go U' H' s6 I6 fun s7 I7=>⟨_,_,I7,z⟩
end
def L5(i:Nat):Out->Out
 | .nx s=>.nx (s.set i none)
 | .bk s=>.bk (s.set i none)
 | .ct s=>.ct (s.set i none)
 | .rt l=>.rt l
def Tg(R:List PV->Option Str)(fs:List XE)(i:Nat)(f:XS):XS:=fun s=>(Vj fs s).bind fun ls=>(R ls).bind fun n=>(f (s.set i (some (.exc n)))).map (L5 i)
theorem Ug{K:PySem.W.Frag}{O:List Nat}{H0 H:Hp}{fps:Nat->List Addr}{s:ZH}{U:Vt}{i:Nat}(hiO:i∉O)(r:Rel K O H0 fps s U H):Rel K O H0 (fun j=>if j=i then [] else fps j) (s.set i none) (U.set i none) H:=by
 refine⟨r.same,by rw[List.length_set,List.length_set];exact r.len,fun j a e=>?_,fun j h=>?_,fun j hj=>?_,fun j hj p hp=>?_,fun j hj k hk p hp=>?_⟩
 ·by_cases hji:j=i
  ·subst hji
   rw[List.getElem?_set] at e
   simp at e
  ·rw[List.getElem?_set_ne (Ne.symm hji)] at e ⊢
   rw[if_neg hji]
   exact r.is j a e
 ·by_cases hji:j=i
  ·rw[if_pos hji]
  ·rw[if_neg hji]
   refine r.emp j fun l z=>h l ?_
   rw[List.getElem?_set_ne (Ne.symm hji)];exact z
 ·have hji:j≠i:=fun z=>hiO (z▸hj)
  simp only[if_neg hji];exact r.nd j hj
 ·have hji:j≠i:=fun z=>hiO (z▸hj)
  simp only[if_neg hji] at hp;exact r.own j hj p hp
 ·have hji:j≠i:=fun z=>hiO (z▸hj)
  simp only[if_neg hji] at hp
  by_cases hki:k=i
  ·rw[if_pos hki];simp
  ·rw[if_neg hki];exact r.dis j hj k hk p hp
section
variable {prog:Program} {w:World} {A:Around} {E:Value->Shared->Prop} {K:PySem.W.Frag} {a C:Addr}
theorem R4{s:Shared}{Q:Option Value->Shared->Prop}(X:K.In s.heap){o:Obj}{vs:Array Value}(hx:s.heap.get? a=some o)(hc:o.cls = .ref C)(hd:o.data = .fields vs)(hdd:o.dict=none)
  (g1:PySem.W.findIn K (.ref C) "__getattribute__" = some (some (.builtin "BaseException.__getattribute__")))
  (g2:PySem.W.findIn K (.ref C) "__getattr__" = some none) (g3:PySem.W.findIn K (.ref C) "__class__" = some (some (.builtin "object.__class__"))) (g4:PySem.W.mroIn K C (.type "object")=some true) (g5:PySem.W.ktsIn K C "BaseException" = true)
  (h:Q (some (.ref C)) { s with toks:=s.toks+1 }):wpAny (model prog w) A (getAttr? (.ref a) "__class__") Q E s:=by
 obtain⟨hh,g,d,t,os⟩:=s
 have I:PySem.W.InstAt hh a o C none:=⟨hx,hc,by unfold PySem.W.notCls;rw[hd],by rw[hdd];trivial⟩
 have L0:=I.type (M:=model prog w)
 have L1:=PySem.W.looks_findIn (M:=model prog w) X g1
 unfold getAttr? getAttrBy? getAttrBy
 refine wpAny_bind (wpAny_mkText (wpAny_bind (wpAny_attempt (wpAny_holding (wpAny_bind (L0.at (wpAny_bind (L1.at ?_))))))))
 have L2:=PySem.W.looks_findIn (M:=model prog w) X g2
 have L3:=PySem.W.looks_findIn (M:=model prog w) X g3
 show wpAny (model prog w) A (getAttrByItsOwn (.ref a) (.str "__class__" t) (.ref C) (.builtin "BaseException.__getattribute__") false false) _ _ _
 have f3:=F.attr_ValueError.ga.bind (.ref a)
 unfold getAttrByItsOwn
 repeat (any_goals (first | assumption | wp_step | (refine wpAny_bind (L2.at ?_)) | (refine L2.at ?_)))
 obtain⟨nm,qn,N,bs,bm,hdct,sn,sub,ab,col,dc,k0,k1,k2,k3,k5,nid,hC,hbase,_⟩:=PySem.W.kts_cls X g5
 have hC:hh.get? C=some (excClassObj nm qn C N bs bm hdct sn sub ab col dc k0 k1 k2 k3 k5 nid):=hC
 have hcB:(Value.ref C::bm).contains (.type "BaseException")=true:=by rw[List.contains_cons,hbase,Bool.or_true]
 have L0':=I.type (M:=model prog w)
 show codeAny (model prog w) A (.call (.builtin "BaseException.__getattribute__") ⟨[.ref a,.str "__class__" t],[]⟩) _ ⟨hh,g,d,t+1,os⟩
 refine codeAny_call_builtin F.attr_ValueError.ga.plain F.entry_bexc_ga ?_
 have hk:builtinKind "BaseException.__getattribute__" = some .slot:=by decide +kernel
 have hsplit:splitId "BaseException.__getattribute__" = some ("BaseException","__getattribute__"):=by decide +kernel
 have ha:=F.args_bexc_ga (.ref a) (.str "__class__" t)
 simp only[checkBuiltinCall,hk,hsplit]
 refine wpAny_bind ?_
 unfold isInstance
 repeat (first | (with_reducible refine wpAny_loadPart_at hx ?_;rw[hc]) | (with_reducible refine wpAny_isSubtype_exc hC ?_;rw[hcB]) | wp_step)
 refine L3.at ?_
 have f5:=PySem.W.KF.type_class;have f6:=F.slot_gs_get.lookup;have f7:=F.slot_gs_set.lookup
 repeat (any_goals (first | assumption | (with_reducible refine wpAny_loadPart_at hx ?_;rw[hc]) | wp_step))
 have X':K.In (⟨hh,g,d,t+1,os⟩:Shared).heap:=X
 have I':PySem.W.InstAt (⟨hh,g,d,t+1,os⟩:Shared).heap a o C none:=I
 refine PySem.W.class_get X' I' g4 ?_
 repeat (any_goals (first | assumption | wp_step))
end
def KQ(a C:Addr)(h:Heap):Prop:=∃o,h.get? a=some o/\o.cls = .ref C/\o.dict=none/\∃vs,o.data = .fields vs
structure Rp(K:PySem.W.Frag)(C:Addr):Prop where
 ga:PySem.W.findIn K (.ref C) "__getattribute__" = some (some (.builtin "BaseException.__getattribute__"))
 gr:PySem.W.findIn K (.ref C) "__getattr__" = some none
 cl:PySem.W.findIn K (.ref C) "__class__" = some (some (.builtin "object.__class__"))
 mr:PySem.W.mroIn K C (.type "object")=some true
 kt:PySem.W.ktsIn K C "BaseException" = true
theorem Pj{K:PySem.W.Frag}{a C:Addr}(c:Rp K C):PySem.W.KitX K (.ref a) (.ref C) (KQ a C) where
 ty:=fun M h _ ⟨o,h1,h2,_⟩=>h2▸(PySem.W.Looks.ld h1).andThen .now
 it:=fun M h X _=>by
  obtain⟨nm,qn,N,bs,bm,hdct,sn,sub,ab,col,dc,k0,k1,k2,k3,k5,nid,hC,_⟩:=PySem.W.kts_cls X c.kt
  intro A' Q' E' s' k q
  unfold isType loadHead
  exact wpAny_bind (wpAny_loadPart (k _ _ hC) (wpAny_pure q))
 ne:=fun h tp dd its n sl X htp=>by
  obtain⟨nm,qn,N,bs,bm,hdct,sn,sub,ab,col,dc,k0,k1,k2,k3,k5,nid,hC,_⟩:=PySem.W.kts_cls X c.kt
  refine Bool.eq_false_iff.mpr fun q=>?_
  have e:C=tp:=Value.ref.inj (beq_iff_eq.mp q)
  subst e;rw[hC] at htp
  exact absurd (congrArg Obj.cls (Option.some.inj htp)) (show ¬(Value.type "type" = Value.type "tuple") by decide)
 ca:=fun X ⟨o,h1,h2,h3,vs,h4⟩ k=>R4 X h1 h2 h4 h3 c.ga c.gr c.cl c.mr c.kt k
def Yg(tb:Str->Option Bool)(f:XE):XE:=fun s=>match f s with
 | some (.exc n)=>(tb n).map PV.bl
 | _=>none
inductive ClsV:V->Value->Prop
 | own (C:Addr):ClsV (.ref C) (.ref C)
 | ty (T:String):ClsV (.ty T) (.type T)
theorem ClsV.rel{cv:V}{c u:Value}(h:ClsV cv c)(r:RelV cv u):u=c:=by
 cases h with
 | own C=>exact r
 | ty T=>exact r
section
variable {X:Cx} {e:Expr} {f:XE} {cx:Str} {p p2 pos:Pos} {tb:Str->Option Bool} {c:Value} {cv:V}
theorem SH:Xb X (.builtin "isinstance") (fun xs H Q=>∃a C cv c b o x,xs=[.ref a,cv]/\ClsV cv c/\H a=some (.frz o (.own x))/\o.cls = .ref C/\o.dict=none/\(∃vs,o.data = .fields vs)/\Rp X.K C/\PySem.W.kitOne X.K (.ref C) c=some b/\Q (.bl b) H):=by
 intro pins s U H xs us Q I r h
 obtain⟨a,C,cv,c,b,o,x,rfl,hcv,hH,hc,hd,hv,ec,hk,q⟩:=h
 obtain⟨u,v,rfl,ru,rv⟩:=Nm r
 obtain rfl:=hcv.rel rv
 obtain rfl:u=Value.ref a:=ru
 exact PySem.W.kia_one (Pj ec) I.kIn ⟨o,(I.hok a _ hH).1,hc,hd,hv⟩ hk (fun z=>nomatch z) fun tk=>⟨.bl b,H,I.tok tk,rfl,q⟩
theorem OM{C:Addr}(hg:Gl X cx)(hm:X.mg cx=some (.ref C))(hdb:(cx==("__debug__" : Str))=false:=by decide):PE X (.Name cx p2) (fun _ H Q=>Q (.ref C) H):=fun pins s U H Q I h=>Xh I hg hm ⟨.ref C,H,I,rfl,h⟩ hdb
theorem ON{T:String}(hg:Gl X cx)(hm:X.mg cx=none)(hv:bootBuiltins cx=some (.type T))(hn:cx≠"__name__":=by decide)(hdb:(cx==("__debug__" : Str))=false:=by decide):PE X (.Name cx p2) (fun _ H Q=>Q (.ty T) H):=fun pins s U H Q I h=>VC I hg hm hv ⟨.ty T,H,I,rfl,h⟩ hn hdb
theorem Pk(hgi:Gl X "isinstance")(hm:X.mg "isinstance" = none)(he:VE X e f)(hcv:ClsV cv c)(hc:PE X (.Name cx p2) (fun _ H Q=>Q cv H))
  (ht:∀n b,tb n=some b->∃C,PySem.W.nsIn X.K mainGlobals n=some (some (.ref C))/\Rp X.K C/\PySem.W.kitOne X.K (.ref C) c=some b)
  (hst:starEach [e,.Name cx p2] X.env=(false,eval e X.env)::starEach [.Name cx p2] X.env:=by rfl) (hst2:starEach [.Name cx p2] X.env=(false,eval (.Name cx p2) X.env)::starEach [] X.env:=by rfl) (hpl:(backTo pos (starEach [.Name cx p2] X.env)).any (·.1)=false:=by rfl):VM X (.Call (.Name "isinstance" p) [e,.Name cx p2] [] pos) (Yg tb f):=
 PE.imp (Tq SH hgi hm (by decide +kernel) (XF he (XF hc VG (hs:=hst2)) (hs:=hst)) (by decide) (by decide) hst hpl) fun U H Q ⟨s,l,env,e1,k⟩=>by
  unfold Yg at e1
  split at e1
  ·rename_i n hn
   obtain⟨b,hb,rfl⟩:=map_some e1
   obtain⟨C,hns,ec,hk⟩:=ht n b hb
   refine⟨fun _=>False,s,.exc n,fun _ z=>z.elim,env,hn,fun v H1 fp s1 i1 _=>?_⟩
   simp only[Is] at i1
   obtain⟨⟨ea,o,x,C',rfl,hH,hcl,hn',hd,hv⟩,_⟩:=i1
   rw[hns] at hn'
   cases hn'
   exact⟨ea,C,cv,c,b,o,x,rfl,hcv,hH,hcl,hd,hv,ec,hk,k _ H1 [] s1 (Is.bl _) List.nodup_nil fun p hp=>by simp at hp⟩
  ·cases e1
end
def Lc(k:Bool):List Bool->Option Nat
 | []=>none
 | x::r=>if x=k then some 0 else(Lc k r).map (· + 1)
theorem TV{k:Bool}:∀{l:List Bool}{j:Nat},Lc k l=some j->l[j]?=some k/\∀m,m<j->l[m]?≠some k
 | [],_,h=>by cases h
 | x::r,j,h=>by
  unfold Lc at h
  split at h
  ·rename_i e
   cases h
   exact⟨by simp[e],fun m hm=>by omega⟩
  ·rename_i e
   cases q:Lc k r with
   | none=>rw[q] at h;cases h
   | some i=>
    rw[q] at h;cases h
    obtain⟨a,b⟩:=TV q
    refine⟨by simpa using a,fun m hm=>?_⟩
    cases m with
    | zero=>simpa using e
    | succ m=>have hm':m+1<i+1:=hm;simpa using b m (by omega)
def OO(K:PySem.W.Frag):V->List V->Hp->VK->Prop:=fun x vs H Q=>∃(p:Addr) (ns:List Bool) (k:Bool) (j:Nat),x = .ref p/\vs=[.bl k]/\SqL K H p (ns.map V.bl)/\Lc k ns=some j/\Q (.int (j:Int)) H
def OP(K:PySem.W.Frag):V->List V->Hp->VK->Prop:=fun x vs H Q=>∃(p:Addr) (ns:List Bool) (k:Bool),x = .ref p/\vs=[.bl k]/\SqL K H p (ns.map V.bl)/\Q (.int ((ns.filter (·==k)).length:Int)) H
theorem TX{ns:List Bool}{its:List Value}(r:Vals (ns.map V.bl) its):its=ns.map Value.bool:=by
 induction ns generalizing its with
 | nil=>cases r;rfl
 | cons a t ih=>
  cases r with
  | cons h1 h2=>rw[ih h2];cases h1;rfl
theorem R5{X:Cx}:Mg X "list.index" (OO X.K):=by
 intro pins s U H x vs v us Q I rx rv h
 obtain⟨p,ns,k,j,rfl,rfl,hq,hj,q⟩:=h
 cases rx
 obtain⟨u,rfl,ru⟩:=Xx rv
 obtain rfl:u=Value.bool k:=ru
 obtain⟨its,r,pl,hz⟩:=I.list hq
 obtain⟨o,n,ho,hc,hd,hs⟩:=pl
 obtain⟨cls,dd,data,sl⟩:=o
 simp only at hc hd hs
 subst hc hd hs
 rw[List.length_map] at hz;have hb:=TX r;subst hb
 obtain⟨a,b⟩:=TV hj
 have hjn:j<ns.length:=(List.getElem?_eq_some_iff.mp a).1
 let e:Value->Bool:=fun y=>match y with | .bool c=>c==k | _=>false
 have sz:sizeLine<2^62:=by decide
 refine call_meets F.slot_list_index ⟨_,ho,rfl⟩ F.entry_list_index (F.args_list_index_2 _ _) (SeqAt.list_indexAt p (ns.map Value.bool).toArray n none sl (.bool k) e j (by simp;omega) (by omega) ?_ ?_) ⟨ho,fun y hy=>?_,.int (j:Int),H,I.tok _,⟨_,rfl⟩,q⟩
 ·rw[List.getElem?_eq_getElem hjn] at a
  simp only[List.getElem_toArray,List.getElem_map]
  show(ns[j]==k)=true
  rw[Option.some.inj a];simp
 ·intro m hm hmj
  have hm2:m<ns.length:=by simpa using hm
  have:=b m hmj
  rw[List.getElem?_eq_getElem hm2] at this;simp only[List.getElem_toArray,List.getElem_map]
  show(ns[m]==k)=false
  simpa using this
 ·simp at hy
  rcases hy with⟨hb,rfl⟩ | ⟨hb,rfl⟩<;>exact SeqAt.EqAt.bool_bool _ _
theorem R6{X:Cx}:Mg X "list.count" (OP X.K):=by
 intro pins s U H x vs v us Q I rx rv h
 obtain⟨p,ns,k,rfl,rfl,hq,q⟩:=h
 cases rx
 obtain⟨u,rfl,ru⟩:=Xx rv
 obtain rfl:u=Value.bool k:=ru
 obtain⟨its,r,pl,hz⟩:=I.list hq
 obtain⟨o,n,ho,hc,hd,hs⟩:=pl
 obtain⟨cls,dd,data,sl⟩:=o
 simp only at hc hd hs
 subst hc hd hs
 have hb:=TX r;subst hb
 let e:Value->Bool:=fun y=>match y with | .bool c=>c==k | _=>false
 have hcnt:((ns.map Value.bool).toArray.toList.countP e)=(ns.filter (·==k)).length:=by
  rw[<-List.countP_eq_length_filter];simp only[List.countP_map];rfl
 refine call_meets F.slot_list_count ⟨_,ho,rfl⟩ F.entry_list_count (F.args_list_count_2 _ _) (SeqAt.list_countAt p (ns.map Value.bool).toArray n none sl (.bool k) e) ⟨ho,fun y hy=>?_,?_⟩
 ·simp at hy
  rcases hy with⟨hb,rfl⟩ | ⟨hb,rfl⟩<;>exact SeqAt.EqAt.bool_bool _ _
 ·rw[hcnt]
  exact⟨.int _,H,I.tok _,⟨_,rfl⟩,q⟩
def Vw:PV->PV->Option PV
 | .lst l,.bl k=>(Y5 l).bind fun ns=>(Lc k ns).map fun(j:Nat)=>PV.int (j:Int)
 | _,_=>none
def Wx:PV->PV->Option PV
 | .lst l,.bl k=>(Y5 l).map fun ns=>PV.int ((ns.filter (·==k)).length:Int)
 | _,_=>none
section
variable {X:Cx} {o e:Expr} {fo fe:XE} {apos cpos:Pos}
theorem R7(ho:VE X o fo)(he:VE X e fe)
  (hbase:attributeBase o "index" X.env (eval o X.env)=eval o X.env:=by rfl)
  (hfew:((backTo cpos (starEach [e] X.env)).all (fun x=>!x.1)&&(backToKw cpos (keywordEach [] X.env)).all (fun x=>x.1.isSome)
   &&decide (([e]:List Expr).length+([]:List Keyword).length+(if([]:List Keyword).isEmpty then 0 else 1)<30))=true:=by rfl)
  (hline:(apos.endLine==cpos.line)=true:=by rfl) (hs:starEach [e] X.env=(false,eval e X.env)::starEach [] X.env:=by rfl) (hplain:(backTo cpos (starEach [] X.env)).any (·.1)=false:=by rfl) :
  VE X (.Call (.Attribute o "index" apos) [e] [] cpos) (Zf Vw fo fe):=
 PE.imp (SY F.plainAttrs_list F.slot_list_index F.type_list_index R5 ho (Zc he Zk hs) hbase hfew hline hs hplain) fun U H Q ⟨Rm,s,l,hd,env,e,k⟩=>by
  obtain⟨x',y',e1,e2,e⟩:=Xc e
  refine⟨Rm,s,x',hd,env,e1,fun v H1 fp s1 i1 n1=>?_⟩
  unfold Vw at e
  split at e
  ·obtain⟨ns,e3,e4⟩:=Ze e
   obtain⟨j,hj,rfl⟩:=map_some e4
   have em:=YQ e3;subst em
   obtain⟨p,xs,fq,rfl,hp,hi,_⟩:=i1.lst_inv
   obtain⟨rfl,rfl⟩:=hi.bL
   refine⟨.inl ⟨rfl,_,.inl (.inl hp)⟩,Rm,s,[.bl _],fun q hq=>Same.mut s1 (hd q hq),env.mono s1,by show(fe s).bind _=_;rw[e2];rfl,fun vs H2 fq s2 i2 n2=>?_⟩
   obtain⟨w,rfl,iw⟩:=i2.one_inv
   rw[iw.bl_inv.1]
   exact⟨p,ns,_,j,rfl,rfl,.inl (.inl (s2 _ _ hp)),hj,k _ _ [] (s1.trans s2) (Is.int _) fun r hr=>by simp at hr⟩
  ·cases e
theorem R8(ho:VE X o fo)(he:VE X e fe)
  (hbase:attributeBase o "count" X.env (eval o X.env)=eval o X.env:=by rfl)
  (hfew:((backTo cpos (starEach [e] X.env)).all (fun x=>!x.1)&&(backToKw cpos (keywordEach [] X.env)).all (fun x=>x.1.isSome)
   &&decide (([e]:List Expr).length+([]:List Keyword).length+(if([]:List Keyword).isEmpty then 0 else 1)<30))=true:=by rfl)
  (hline:(apos.endLine==cpos.line)=true:=by rfl) (hs:starEach [e] X.env=(false,eval e X.env)::starEach [] X.env:=by rfl) (hplain:(backTo cpos (starEach [] X.env)).any (·.1)=false:=by rfl) :
  VE X (.Call (.Attribute o "count" apos) [e] [] cpos) (Zf Wx fo fe):=
 PE.imp (SY F.plainAttrs_list F.slot_list_count F.type_list_count R6 ho (Zc he Zk hs) hbase hfew hline hs hplain) fun U H Q ⟨Rm,s,l,hd,env,e,k⟩=>by
  obtain⟨x',y',e1,e2,e⟩:=Xc e
  refine⟨Rm,s,x',hd,env,e1,fun v H1 fp s1 i1 n1=>?_⟩
  unfold Wx at e
  split at e
  ·obtain⟨ns,e3,rfl⟩:=map_some e
   have em:=YQ e3;subst em
   obtain⟨p,xs,fq,rfl,hp,hi,_⟩:=i1.lst_inv
   obtain⟨rfl,rfl⟩:=hi.bL
   refine⟨.inl ⟨rfl,_,.inl (.inl hp)⟩,Rm,s,[.bl _],fun q hq=>Same.mut s1 (hd q hq),env.mono s1,by show(fe s).bind _=_;rw[e2];rfl,fun vs H2 fq s2 i2 n2=>?_⟩
   obtain⟨w,rfl,iw⟩:=i2.one_inv
   rw[iw.bl_inv.1]
   exact⟨p,ns,_,rfl,rfl,.inl (.inl (s2 _ _ hp)),k _ _ [] (s1.trans s2) (Is.int _) fun r hr=>by simp at hr⟩
  ·cases e
end
section
variable {X:Cx} {O W:List Nat} {k n i:Nat} {x y cx nm:Str} {ps:List Str} {R:List PV->Option Str} {e:Expr} {es:List Expr} {fs:List XE} {p py cp ep np hp pos:Pos} {b₀:Stmt} {suite:List Stmt} {f:XS} {Cb:Addr} {ZF:List ExceptHandler}
theorem OQ(CX:CalX X.prog X.w X.K X.mg X.base x ps (spX X.K R n) k)(hr:Room k X.A)(hg:Gl X x)(ha:VA X.nox (e::es) fs)(hx:X.ex=[])(hst:X.stack=X.env::X.outer)(hfr:X.env.frame=some X.env.locals)
  (hN:X.N.Nodup) (hi:X.N[i]?=some nm) (hk:X.env.scope.names.lookup nm=some .local) (hgc:Gl X cx) (hmc:X.mg cx=some (.ref Cb)) (hB:PySem.W.ktsIn X.K Cb "BaseException" = true)
  (hR:∀ls m,R ls=some m->∃C,PySem.W.nsIn X.K mainGlobals m=some (some (.ref C))/\PySem.W.ktsIn X.K C "BaseException" = true/\belowIn X.K C Cb=true)
  (hs:∀e,Sy (Cx.mark X e) O W (b₀::suite) f) (hiO:i∉O) (hsw:swapsWith (.Call (.Name x p) (e::es) [] cp) (some (.Name y py)) ep.line X.env=pure false:=by rfl) (hn:fs.length=n:=by rfl)
  (hdb:(x==("__debug__" : Str))=false:=by decide) (hdb2:(cx==("__debug__" : Str))=false:=by decide) (he:starEach (e::es) X.env=(false,eval e X.env)::starEach es X.env:=by rfl) (hpl:(backTo cp (starEach es X.env)).any (·.1)=false:=by rfl) :
  VS X O (i::W) (.Try [.Assign [.Name y py] (.Call (.Name x p) (e::es) [] cp) ep] (.ExceptHandler (some (.Name cx np)) (some nm) (b₀::suite) hp::ZF) [] [] pos) (Tg R fs i f):=by
 intro pins s U H D I ⟨H0,fps,sp,out,r,e1,ok⟩
 obtain⟨ls,e2,e1⟩:=Ze e1
 obtain⟨m,e3,e1⟩:=Ze e1
 obtain⟨o1,e4,rfl⟩:=map_some e1
 obtain⟨C,hns,hC,hb⟩:=hR ls m e3
 obtain⟨fa,fd,hmx,hkp,hbd,F⟩:=CX.ex
 refine wpAny_Try_except (wpAny_execs_cons (wpAny_Assign_Name ?_ hsw))
 refine wpAny_Call_Name_kw (Xh I hg hmx ?_ hdb)
 refine PySem.W.callWith_K (h₀:=X.base) I.ok.mod.kin hkp ?_ he hpl
 refine wpAny_mono (ha cp pins s U H (fun vs H1=>Same H H1/\∃fp,Iss X.K H1 ls vs fp) (I.wish _) ⟨fun _=>False,sp,ls,fun _ z=>z.elim,r.env,e2,fun vs H1 fp s1 i1 _=>⟨s1,fp,i1⟩⟩) (fun us s1 ⟨vs,H1,I1,rv,sm,fp,i1⟩=>?_) fun _ _ z=>z.elim
 have I1:Inv X pins U H1 s1:=I1.unwish
 have lv:vs.length=n:=by rw[i1.len,Xl e2,hn]
 have hsp:spX X.K R n vs H1 (fun _ _=>False) (fun cls dd H'=>cls = .ref C/\dd=none/\Same H1 H'):=⟨lv,ls,fp,m,i1,e3,fun C' H' hc sm=>⟨by rw[hns] at hc;cases hc;rfl,rfl,sm⟩⟩
 have hl:(us++[]).length=ps.length:=by rw[List.append_nil,<-rv.length,lv];have:=F.len _ _ _ _ hsp;omega
 have hbb:=hbd s1 us I1.kIn hl;rw[List.append_nil] at hbb
 refine⟨I1.kIn,wpAny_call (codeAny_mono (F.run X.A X.stack s1 H1 ⟨us,[]⟩ us vs _ _ hr I1.env0 hbb rv hsp) fun res s' hq=>?_)⟩
 cases res with
 | ok fl=>
  cases fl with
  | ret u=>obtain⟨_,_,_,_,_,_,_,z⟩:=hq;exact z.elim
  | next=>exact False.elim hq
  | brk=>exact False.elim hq
  | cont=>exact False.elim hq
 | error v=>
  obtain⟨ea,cls,dd,H',rfl,hos,hgn,u,hok,⟨T,xx,hH,hHT,he0,hT0⟩,rfl,rfl,sm1⟩:=hq
  have I2:Inv X pins U H' s':=I1.call' hos u hok hgn fun b hb=>nomatch hb
  refine KP I2 hx hst hfr xx hH hHT (X8 I1 hx he0) (X8 I1 hx hT0) hN hi hk hgc hmc hC hB hb (hs ea) (fun oe h1 h2 h3=>?_) hdb2
  have sm2:Same H (YG H' ea (.frz oe (.own ea))):=fun b o q=>by
   have q':=sm1 b o (sm b o q)
   rw[Zq (Zv q' hH)];exact q'
  have iE:Is X.K (YG H' ea (.frz oe (.own ea))) (.exc m) (.ref ea) []:=by
   simp only[Is]
   exact⟨⟨ea,oe,ea,C,rfl,Zw,h1,hns,h2,h3⟩,trivial⟩
  have hlt:i<sp.length:=by
   have:=(List.getElem?_eq_some_iff.mp hi).1
   rw[r.len,I.len];exact this
  have r2:=(r.grow sm2).set (i:=i) iE (fun z=>absurd z hiO) (fun k _ _ p hp=>by simp at hp)
  refine⟨H0,_,_,o1,r2,e4,?_⟩
  have fin:∀(fps':Nat->List Addr)(U':Vt)(H'':Hp)(s':ZH),(∀j,j∉W->U'[j]?=(U.set i (some (V.ref ea)))[j]?/\Kep (fps' j) (U9 fps sp.length i [] j))->∀j,j∉i::W->(U'.set i none)[j]?=U[j]?/\Kep (if j=i then [] else fps' j) (fps j):=fun fps' U' H'' s' h j hj=>by
   have hji:j≠i:=fun z=>hj (by rw[z];exact .head _)
   obtain⟨a1,a2⟩:=h j fun z=>hj (.tail _ z)
   rw[List.getElem?_set_ne (Ne.symm hji)] at a1 ⊢
   rw[Yq hji] at a2;rw[if_neg hji]
   exact⟨a1,a2⟩
  cases o1 with
  | nx s'=>exact fun fps' U' H'' r' k'=>ok _ _ _ (Ug hiO r') (fin fps' U' H'' s' k')
  | bk s'=>exact fun fps' U' H'' r' k'=>ok _ _ _ (Ug hiO r') (fin fps' U' H'' s' k')
  | ct s'=>exact fun fps' U' H'' r' k'=>ok _ _ _ (Ug hiO r') (fin fps' U' H'' s' k')
  | rt l=>exact ok
theorem OR{body:List Stmt}{h₀:ExceptHandler}{hs:List ExceptHandler}(hb:Sy X.nox O W body f):VS X O W (.Try body (h₀::hs) [] [] pos) f:=by
 intro pins s U H D I h
 refine wpAny_Try_except (wpAny_mono (hb pins s U H D (I.wish _) h) (fun fl s1 q=>?_) fun _ _ z=>z.elim)
 cases fl with
 | next=>
  obtain⟨U',H',I',z⟩:=q
  exact wpAny_execs_nil ⟨U',H',I'.unwish,z⟩
 | ret u=>
  obtain⟨v,U',H',I',r,z⟩:=q
  exact⟨v,U',H',I'.unwish,r,z⟩
 | brk=>
  obtain⟨U',H',I',z⟩:=q
  exact⟨U',H',I'.unwish,z⟩
 | cont=>
  obtain⟨U',H',I',z⟩:=q
  exact⟨U',H',I'.unwish,z⟩
def MS(f g:XS):XS:=fun s=>match f s with
 | some o=>some o
 | none=>g s
theorem L6{st:Stmt}{g:XS}{W1 W2:List Nat}(h1:VS X O W1 st f)(h2:VS X O W2 st g):VS X O (W1++W2) st (MS f g):=by
 intro pins s U H D I ⟨H0,fps,sp,out,r,e,k⟩
 have s1:∀j,j∉W1++W2->j∉W1:=fun j hj z=>hj (List.mem_append_left _ z)
 have s2:∀j,j∉W1++W2->j∉W2:=fun j hj z=>hj (List.mem_append_right _ z)
 unfold MS at e
 split at e
 ·rename_i o ho
  cases e
  exact h1 pins s U H D I ⟨H0,fps,sp,_,r,ho,k.same (fun j _=>⟨rfl,Kep.refl _⟩) s1⟩
 ·exact h2 pins s U H D I ⟨H0,fps,sp,_,r,e,k.same (fun j _=>⟨rfl,Kep.refl _⟩) s2⟩
end
end VX
namespace VX
open PySem PySem.Spec PyProof.Rows L2
section
variable {M:Model} {A:Around} {E:Value->Shared->Prop} {s:Shared} {base:Heap} {env:Env} {outer:List Env} {L e T:Addr} {cls fl:Value} {dd:Option Addr} {Q:Unit->Shared->Prop}
theorem L7(hfr:A.frames=some (env::outer))(hl:s.heap.FunFrames base (env::outer))(hf:env.frame=some L)(x:TN s.heap e cls dd T fl)
  (h:∀h' T' fl',(T'=T\/s.heap.objs.size<=T')->TN h' e cls dd T' fl'->Eff ((env::outer).filterMap (·.frame)) [e,T] s.heap h'->Q () { s with heap:=h' }):wpAny M A (noteFrame (.ref e) env) Q E s:=by
 obtain⟨oe,vs,oT,ts,he,hc,hdd,hd,h1,hTe,hT,hdT,h3⟩:=id x
 unfold noteFrame;simp only[hf]
 refine wpAny_bind (wpAny_field he hd h1 ?_)
 rw[if_pos (show(Value.ref T != Value.none)=true from by simp)]
 refine wpAny_bind (wpAny_field hT hdT h3 ?_)
 by_cases hfl:(fl==rawInt L)=true
 ·rw[if_pos hfl]
  have:=h s.heap T fl (.inl rfl) x Eff.refl
  exact wpAny_pure this
 ·rw[if_neg hfl]
  refine wpAny_bind (wpAny_setField hT hdT (Array.getElem?_eq_some_iff.mp h3).1 ?_)
  have hsz:=(Array.getElem?_eq_some_iff.mp h1).1
  have ef:Eff ((env::outer).filterMap (·.frame)) [T] s.heap (s.heap.update T (Obj.mapFields (·.setIfInBounds 3 Value.none))):=Eff.field hT hdT
  have hl':=ef.funs hl (fun b hb o q=>by rw[List.mem_singleton.mp hb,hT] at q;cases q;exact⟨_,hdT⟩)
  have he':=(Heap.get?_update_other s.heap (Obj.mapFields (·.setIfInBounds 3 Value.none)) hTe).trans he
  have hz:(s.heap.update T (Obj.mapFields (·.setIfInBounds 3 Value.none))).objs.size=s.heap.objs.size:=by simp
  refine X7 (s:={ s with heap:=s.heap.update T (Obj.mapFields (·.setIfInBounds 3 Value.none)) }) hfr hl' hf he' hd hsz fun h' T' hT' p1 ⟨oT',ts',p2,p3,p4⟩ p5=>h h' T' _ (.inr (by rw[<-hz];exact hT')) ⟨_,_,oT',ts',p1,(Obj.cls_mapFields _ _).trans hc,(YZ _ _).trans hdd,Obj.data_mapFields hd _,by simp[hsz],?_,p2,p3,p4⟩ ?_
  ·have hT':(s.heap.update T (Obj.mapFields (·.setIfInBounds 3 Value.none))).objs.size<=T':=hT'
   rw[hz] at hT'
   exact Nat.ne_of_gt (Nat.lt_of_lt_of_le (Heap.lt_size he) hT')
  ·exact(ef.mono fun b hb=>by simp at hb;simp[hb]).trans (p5.mono fun b hb=>by simp at hb;simp[hb])
theorem Pl(hfr:A.frames=some (env::outer))(hl:s.heap.FunFrames base (env::outer))(hf:env.frame=some L)(x:TN s.heap e cls dd T fl)
  (h:∀h' T',(T'=T\/s.heap.objs.size<=T')->TN h' e cls dd T' .none->Eff ((env::outer).filterMap (·.frame)) [e,T] s.heap h'->Q () { s with heap:=h' }):wpAny M A (leaving env (.ref e)) Q E s:=by
 unfold leaving
 refine wpAny_bind (L7 hfr hl hf x fun h1 T' fl' hT x1 e1=>?_)
 refine Te x1 (fs:=(env::outer).filterMap (·.frame)) fun h2 x2 e2 _=>h h2 T' hT x2 ?_
 refine⟨fun b o q hc hf=>?_,fun b o q hc hf=>?_,fun b o q=>?_⟩
 ·refine e2.keep b o (e1.keep b o q hc hf) (fun z=>?_) hf
  rcases hT with hT | hT
  ·rw[hT] at z;exact hc (by simp at z;simp[z])
  ·exact Nat.lt_irrefl _ (Nat.lt_of_lt_of_le (Heap.lt_size q) (by rw[List.mem_singleton.mp z];exact hT))
 ·obtain⟨sl,q1⟩:=e1.slot b o q hc hf
  obtain⟨sl2,q2⟩:=e2.slot b _ q1 (fun z=>by
   rcases hT with hT | hT
   ·rw[hT] at z;exact hc (by simp at z;simp[z])
   ·exact Nat.lt_irrefl _ (Nat.lt_of_lt_of_le (Heap.lt_size q) (by rw[List.mem_singleton.mp z];exact hT))) hf
  exact⟨sl2,q2⟩
 ·obtain⟨o1,q1⟩:=e1.there b o q
  exact e2.there b o1 q1
theorem OS{fs:List Addr}{env':Env}{what:String}{α:Type}{Qa:α->Shared->Prop}(x:TN s.heap e cls dd T fl)
  (h:∀h' fl',TN h' e cls dd T fl'->Eff fs [T] s.heap h'->h'.objs.size=s.heap.objs.size->E (.ref e) { s with heap:=h' }):wpAny M A (PySem.passOn what (.ref e) env':Sem α) Qa E s:=by
 obtain⟨oe,vs,oT,ts,he,hc,hdd,hd,h1,hTe,hT,hdT,h3⟩:=id x
 have hsz:=(Array.getElem?_eq_some_iff.mp h3).1
 unfold PySem.passOn
 refine wpAny_bind (wpAny_field he hd h1 ?_)
 rw[if_neg (show ¬((Value.ref T==Value.none)=true) from by simp)]
 refine wpAny_bind ?_
 unfold setFlight
 refine wpAny_bind (wpAny_field he hd h1 ?_)
 rw[if_pos (show(Value.ref T != Value.none)=true from by simp)]
 refine wpAny_setField hT hdT hsz ?_
 refine wpAny_throw (h _ (env'.frame.elim .none fun f=>rawInt f) ⟨oe,vs,_,_,(Heap.get?_update_other _ _ hTe).trans he,hc,hdd,hd,h1,hTe,Heap.get?_update_self _ hT (Obj.isFreed_of_fields (Obj.data_mapFields hdT _)),Obj.data_mapFields hdT _,by simp[hsz]⟩ (Eff.field hT hdT) (by simp))
end
end VX
namespace L2
open PySem PySem.Spec PyProof.Rows
section
variable {X:Cx} {tg elt iter:Expr} {ifs:List Expr} {scope:Scope} {pos:Pos} {own fr:List Str} {ix:List Nat} {wi:TI} {g:TG} {tt:TT} {te:TE}
theorem TY{pins:List (Addr×Obj)}{U:St}{H2:Hp}{s2:Shared}{fp:List Addr}{it:Addr}{tn:Nat->Heap->Prop}{J:It}{Fin:List V->Hp->Prop}{RR:Value->Addr->Result->Shared->Prop}{E:Value->Shared->Prop}
  (hcalm:X.calm=true) (S:CompScope X.N X.env.scope scope own fr ix)
  (hg:∀cl C s H ex,PG (Zi X (own++fr) scope cl C s H ex) tg g) (ht:∀cl C s H ex,Qp (Zi X (own++fr) scope cl C s H ex) ifs tt) (he:∀cl C s H ex,PE (Zi X (own++fr) scope cl C s H ex) elt te)
  (I2:Inv X pins U H2 s2) (T:Sb X.prog X.w X.K tg J fp it tn) (st2:tn 0 s2.heap) (f2:∀b∈fp,Xv X pins H2 b)
  {ter:St->Hp->Prop} {Z:Cx->List (Addr×Obj)->St->Value->Shared->Prop} (hx:∀cl C s H ex pins st U' H',Inv (Zi X (own++fr) scope cl C s H ex) pins U' H' st->(∀b∈ex,∃o,(b,o)∈pins)->ter U' H'->wpAny (model X.prog X.w) X.A (eval elt (Zi X (own++fr) scope cl C s H ex).env) (fun _ _=>False) (fun v s'=>Z (Zi X (own++fr) scope cl C s H ex) pins U' v s') st)
  {W:Nat->Nat->List V->Hp->Prop} {m0:Nat} (w0:W 0 m0 [] H2)
  (turn:∀i m ys H,W i m ys H->ys.length<=sizeLine/\
   ((J.stop i H/\Fin ys H)\/(J.go i H/\∀x H',J.yld i H x H'->g x (Zt own.length ix U) H' fun U2 H2=>U2.drop own.length=(Zt own.length ix U).drop own.length/\tt U2 H2 fun b H3=>b=true/\ter U2 H3)\/
    (J.go i H/\∃N:List V->Hp->Prop,(∀ys' H',N ys' H'->∃m',m'<m/\W (i+1) m' ys' H')/\
     ∀x H',J.yld i H x H'->g x (Zt own.length ix U) H' fun U2 H2=>U2.drop own.length=(Zt own.length ix U).drop own.length/\tt U2 H2 fun b H3=>if b=true then te U2 H3 fun y H4=>N (ys++[y]) H4 else N ys H3)))
  (hRR:∀(D C:Addr)(oC:Obj)(m:Str->Option Value)(s':Shared)(H':Hp)(ys:List V),Inv X (pins++[(C,oC)]) U (YG H' D (.lst ys)) s'->s'.heap.get? C=some oC->s'.heap.Ns C m->Xv X pins (YG H' D (.lst ys)) C->H' D=none->Fin ys H'->RR (.ref D) C (.ok .next) s')
  (hRX:∀(D C:Addr)(pins':List (Addr×Obj))(U':St)(v:Value)(s':Shared),s2.heap.objs.size<=C->Z (Zi X (own++fr) scope (ZA X.env.cells scope.names []) C s2 H2 fp) pins' U' v s'->notedBy (model X.prog X.w) X.A (compEnvC scope (ZA X.env.cells scope.names []) C X.env) (fun e s'=>RR (.ref D) C (.error e) s') v s') :
  wpAny (model X.prog X.w) X.A (newList []) (fun acc s₃=>wpAny (model X.prog X.w) X.A (newFunctionEnv scope X.env.globals (ZA X.env.cells scope.names []) [] X.env.qual none .none (some X.env)) (fun cenv s₄=>
   codeAny (model X.prog X.w) X.A (.compStart (.ListComp elt [⟨tg,iter,ifs,0⟩] scope pos) 0 (.ref it) acc { cenv with scope:=relabel scope X.env }) (RR acc cenv.locals) s₄) E s₃) E s2:=by
 have hfp:∀b∈fp,b<s2.heap.objs.size:=fun b hb=>by
  obtain⟨o,e,_⟩:=T.obj 0 s2.heap st2 b hb
  exact Heap.lt_size e
 refine wpAny_newObj_type (wpAny_newFunctionEnv S.nocell (by intro y hy;simp at hy) (fun h₁ hns₁ hsb₁=>?_) S.kind)
 dsimp only at hns₁ hsb₁ ⊢
 generalize hH2:s2.heap.push { cls:=.type "list",dict:=none,data:=.seq ([]:List Value).toArray }=G2 at hns₁ hsb₁ ⊢
 have hC:G2.objs.size=s2.heap.objs.size+1:=by rw[<-hH2,Heap.size_push]
 generalize hCC:G2.objs.size=C at hns₁ hsb₁ hC ⊢
 generalize hDD:s2.heap.objs.size=D at hC ⊢
 have hDC:D≠C:=by omega
 have below:∀b,b<s2.heap.objs.size->b≠C/\b≠D:=fun b hb=>by
  rw[hDD] at hb
  exact⟨Nat.ne_of_lt (by omega),Nat.ne_of_lt hb⟩
 have old:∀b o,s2.heap.get? b=some o->h₁.get? b=some o:=fun b o e=>hsb₁.extBut b o (below b (Heap.lt_size e)).1 (Heap.get?_push_of_some _ (hH2▸Heap.get?_push_of_some _ e))
 have hacc:h₁.get? D=some { cls:=.type "list",data:=.seq ([]:List Value).toArray 0 }:=by
  have e0:G2.get? D=some { cls:=.type "list",data:=.seq ([]:List Value).toArray 0 }:=by
   rw[<-hH2,<-hDD]
   exact Heap.get?_push_size _ rfl
  exact hsb₁.extBut _ _ hDC (Heap.get?_push_of_some _ e0)
 have hns₁':h₁.Ns C fun _=>none:=by simpa using hns₁
 have I0:=fun tk=>Tt (tk:=tk) S I2 f2 hfp (C:=C) (by omega) hns₁' old
 -- what stays true of the iterator's objects in the block
 have loop:∀s₃:Shared,s₃={ s2 with heap:=h₁,toks:=s2.toks+([]:List (Str×Value)).length }->
   codeAny (model X.prog X.w) X.A (.compLoop (.ListComp elt [⟨tg,iter,ifs,0⟩] scope pos) 0 (.ref it) (.ref D) (compEnvC scope (ZA X.env.cells scope.names []) C X.env)) (RR (.ref D) C) s₃:=by
  rintro s₃ rfl
  generalize hY:Zi X (own++fr) scope (ZA X.env.cells scope.names []) C s2 H2 fp=Y at I0
  have stat:∀{H':Hp}{pn:List (Addr×Obj)},(∀b∈fp,H' b=none)->(∀p∈pn,∀b∈fp,p.1≠b)->∀b∈fp,Xv Y pn H' b:=fun{H' pn} hn hp b hb=>by
   subst hY
   refine⟨hn b hb,(below b (hfp b hb)).1,fun z=>?_,.inl hb,fun x c e=>?_,fun p hp'=>hp p hp' b hb⟩
   ·exact(I0 0).ok.exfs b hb z
   ·exact((I0 0).ok.exf b hb).2 x c e
  have dfp:∀b∈fp,D≠b:=fun b hb=>Ne.symm (below b (hfp b hb)).2
  have hcellD:∀x c,Y.env.cells.lookup x=some c->c≠D:=fun x c e z=>by
   subst hY
   have e:(ZA X.env.cells scope.names []).lookup x=some c:=e
   have e':=XG scope.names [] (S.clos I2) (fun h=>by simp at h) e
   obtain⟨v,q⟩:=I2.cell x c e'
   exact(below c q.lt).2 z
  have hfsD:D∉Y.fs:=fun z=>by
   subst hY
   obtain⟨_,o,ho,_⟩:=(I0 0).ok.funs.mem z
   have:=Heap.lt_size ho
   have:D<s2.heap.objs.size:=this
   omega
  have eL:Y.env.locals=C:=by subst hY;rfl
  have eS:Y.s₀=s2:=by subst hY;rfl
  have eP:Y.pn=[]:=by subst hY;rfl
  refine Wi (fun n s'=>∃i ys its nn H',Inv Y [] (Zt own.length ix U) H' s'/\tn i s'.heap/\(∀b∈fp,H' b=none)/\s'.heap.get? D=some { cls:=.type "list",data:=.seq its nn }/\Vals ys its.toList/\H' D=none/\W i n ys H') ?_ m0
   ⟨0,[],#[],0,H2,I0 _,T.keep _ _ _ st2 fun b _ o e=>old b o e,fun b hb=>(f2 b hb).1,hacc,.nil,I2.hok.fresh (by omega),w0⟩
  rintro n s3 ⟨i,ys,its,nn,H3,I3,st3,fr3,oD,vD,nD,w3⟩
  obtain⟨hlen,cases3⟩:=turn i n ys H3 w3
  have hsize:its.size<=sizeLine:=by
   have:=vD.length
   simp only[Array.length_toList] at this;omega
  have pD:Inv Y [(D,{ cls:=.type "list",data:=.seq its nn })] (Zt own.length ix U) H3 s3:=I3.pins_of fun p hp=>by
   rw[List.mem_singleton.mp hp]
   exact⟨oD,nD,by rw[eL];exact hDC,hfsD,fun v z=>by cases z⟩
  have YP:Y.prog=X.prog:=by subst hY;rfl
  have Yw:Y.w=X.w:=by subst hY;rfl
  have YK:Y.K=X.K:=by subst hY;rfl
  have YA:Y.A=X.A:=by subst hY;rfl
  have Yx:Y.xe=fun _ _=>False:=by subst hY;rfl
  have Ye:Y.env=compEnvC scope (ZA X.env.cells scope.names []) C X.env:=by subst hY;rfl
  have ne1:∀p∈[((D,{ cls:=.type "list",data:=.seq its nn }):Addr×Obj)],∀b∈fp,p.1≠b:=fun p hp b hb=>by rw[List.mem_singleton.mp hp];exact dfp b hb
  rcases cases3 with⟨stop,qn⟩ | ⟨go,step⟩ | ⟨go,N,hN,step⟩
  ·have d:=T.done Y YP Yw YK (by subst hY;exact hcalm) i _ s3 _ H3 (notedBy (model X.prog X.w) X.A (compEnvC scope (ZA X.env.cells scope.names []) C X.env) fun e s'=>RR (.ref D) C (.error e) s') pD (stat fr3 ne1) st3 stop
   rw[YA] at d
   refine Z4 d fun r s4 ⟨hr,I4⟩=>?_
   subst hr
   show RR (.ref D) C (.ok .next) s4
   obtain⟨oD4,nD4,_⟩:=I4.pin (D,_) (by rw[eP];exact List.mem_cons_self)
   obtain⟨m,hn,_⟩:=I4.loc
   rw[eL] at hn
   obtain⟨oC,es,ep,hoC,hdC,hrest⟩:=id hn
   have hfreeC:H3 C=none:=by have:=I4.free;rw[eL] at this;exact this
   have un:Un (Tj X.stack) fp H2 H3 s2.heap s4.heap:=by
    have:=I4.base
    subst hY;exact this
   have lt2:∀b o,s2.heap.get? b=some o->b≠D:=fun b o e=>(below b (Heap.lt_size e)).2
   have un':Un (Tj X.stack) fp H2 (YG H3 D (.lst ys)) s2.heap s4.heap:=by
    refine⟨un.keep,un.slot,fun b o e n hx=>?_,un.there,fun b xs e=>?_,fun b o u e=>?_,fun b ps e=>?_⟩
    ·rw[Zq (lt2 b o e)];exact un.free b o e n hx
    ·have q:=un.tups b xs e
     rw[Zq (Zv q nD4)];exact q
    ·have q:=un.frzs b o u e
     rw[Zq (Zv q nD4)];exact q
    ·obtain⟨more,q⟩:=un.tbls b ps e
     exact⟨more,by rw[Zq (Zv q nD4)];exact q⟩
   have hok4:HOk X.prog X.w H3 s4.heap:=by
    have:=I4.hok
    rw[YP,Yw] at this;exact this
   have hok':HOk X.prog X.w (YG H3 D (.lst ys)) s4.heap:=fun b u q=>by
    by_cases hb:b=D
    ·subst hb
     rw[Zw] at q;cases q
     exact⟨hlen,its.toList,nn,vD,by simpa using oD4⟩
    ·rw[Zq hb] at q
     exact(hok4 b u q).stay (fun c v _ z=>z) (fun c z=>by rw[Zq (Zv z nD4)];exact z) fun c xs z=>by rw[Zq (Zv z nD4)];exact z
   have os4:s4.os=s2.os:=by rw[I4.os,eS]
   have I5:Inv X pins U (YG H3 D (.lst ys)) s4:=I2.call' os4 un' hok' I4.bare fun b hb=>⟨(f2 b hb).2.2.2.1,(f2 b hb).2.1,(f2 b hb).2.2.2.2.1,(f2 b hb).2.2.2.2.2⟩
   have CL:C≠X.env.locals:=fun z=>by
    exact(below _ I2.lt).1 z.symm
   have fpC:Xv X pins (YG H3 D (.lst ys)) C:=I2.fpOk (by omega) (by rw[Zq (Ne.symm hDC)];exact hfreeC)
   refine hRR D C oC m s4 H3 ys (I5.pins_of fun p hp=>?_) hoC hn fpC nD4 qn
   rcases List.mem_append.mp hp with z | z
   ·exact I5.pin p (List.mem_append_right _ z)
   ·rw[List.mem_singleton.mp z]
    exact⟨hoC,fpC.1,fpC.2.1,fpC.2.2.1,fun v z=>by rw[hdC] at z;cases z⟩
  ·have d:=T.item Y YP Yw YK (by subst hY;exact hcalm) i _ s3 _ H3 (fun _ _=>False) pD (stat fr3 ne1) st3 go
   rw[YA] at d
   refine wpAny_mono d (fun r s4 ⟨u,hr,h4⟩=>?_) fun _ _ z=>z.elim
   subst hr
   refine wpAny_mono h4 (fun _ s5 ⟨x,H5,I5,r5,y5,st5,fr5⟩=>?_) fun _ _ z=>z.elim
   have I5':=I5.pinned (stat fr5 ne1) (T.obj _ _ st5)
   have hg':=hg (ZA X.env.cells scope.names []) C s2 H2 fp
   have ht':=ht (ZA X.env.cells scope.names []) C s2 H2 fp
   have he':=he (ZA X.env.cells scope.names []) C s2 H2 fp
   rw[hY] at hg' ht' he'
   have a6:=hg' _ s5 _ H5 x u _ I5' r5 (step x H5 y5)
   rw[YP,Yw,YA,Ye,Yx] at a6
   refine wpAny_mono a6 (fun _ s6 ⟨U6,H6,I6,dr,q6⟩=>?_) fun _ _ z=>z.elim
   have a7:=ht' _ s6 U6 H6 _ I6 q6;rw[YP,Yw,YA,Ye,Yx] at a7
   refine wpAny_mono a7 (fun ok s7 ⟨H7,I7,q7⟩=>?_) fun _ _ z=>z.elim
   obtain⟨rfl,q7⟩:=q7
   show wpAny _ _ _ _ _ _
   have a8:=hx (ZA X.env.cells scope.names []) C s2 H2 fp _ s7 U6 H7 (by rw[hY];exact I7) (fun b hb=>by
    obtain⟨o5,e5,_⟩:=T.obj _ _ st5 b hb
    exact⟨o5,List.mem_cons_of_mem _ (Yj hb e5)⟩) q7
   rw[hY,Ye] at a8
   refine wpAny_mono a8 (fun _ _ z=>z.elim) fun v s8 z=>?_
   exact hRX D C _ _ v s8 (by omega) (by rw[hY];exact z)
  ·have d:=T.item Y YP Yw YK (by subst hY;exact hcalm) i _ s3 _ H3 (fun _ _=>False) pD (stat fr3 ne1) st3 go
   rw[YA] at d
   refine wpAny_mono d (fun r s4 ⟨u,hr,h4⟩=>?_) fun _ _ z=>z.elim
   subst hr
   refine wpAny_mono h4 (fun _ s5 ⟨x,H5,I5,r5,y5,st5,fr5⟩=>?_) fun _ _ z=>z.elim
   have I5':=I5.pinned (stat fr5 ne1) (T.obj _ _ st5)
   have hg':=hg (ZA X.env.cells scope.names []) C s2 H2 fp
   have ht':=ht (ZA X.env.cells scope.names []) C s2 H2 fp
   have he':=he (ZA X.env.cells scope.names []) C s2 H2 fp
   rw[hY] at hg' ht' he'
   have a6:=hg' _ s5 _ H5 x u _ I5' r5 (step x H5 y5)
   rw[YP,Yw,YA,Ye,Yx] at a6
   refine wpAny_mono a6 (fun _ s6 ⟨U6,H6,I6,dr,q6⟩=>?_) fun _ _ z=>z.elim
   have a7:=ht' _ s6 U6 H6 _ I6 q6;rw[YP,Yw,YA,Ye,Yx] at a7
   refine wpAny_mono a7 (fun ok s7 ⟨H7,I7,q7⟩=>?_) fun _ _ z=>z.elim
   have back:∀{H8:Hp}{s8:Shared},Inv Y ([((D,{ cls:=.type "list",data:=.seq its nn }):Addr×Obj)]++Xw fp s5.heap) U6 H8 s8->
     s8.heap.get? D=some { cls:=.type "list",data:=.seq its nn }/\H8 D=none/\tn (i+1) s8.heap/\(∀b∈fp,H8 b=none):=fun{H8 s8} I8=>by
    obtain⟨e1,e2,_⟩:=I8.pin (D,{ cls:=.type "list",data:=.seq its nn }) (by rw[eP];exact List.mem_cons_self)
    refine⟨e1,e2,T.keep _ _ _ st5 fun b hb o e=>(I8.pin (b,o) (by rw[eP];exact List.mem_cons_of_mem _ (Yj hb e))).1,fun b hb=>?_⟩
    obtain⟨o,e,_⟩:=T.obj _ _ st5 b hb
    exact(I8.pin (b,o) (by rw[eP];exact List.mem_cons_of_mem _ (Yj hb e))).2.1
   have unp:∀{H8:Hp}{s8:Shared},Inv Y ([((D,{ cls:=.type "list",data:=.seq its nn }):Addr×Obj)]++Xw fp s5.heap) U6 H8 s8->Inv Y [] (Zt own.length ix U) H8 s8:=fun{H8 s8} I8=>
    (I8.pins_of (pins':=[]) fun p hp=>absurd hp (by simp)).weak (by
     have e1:=(I0 0).len
     have e2:=I8.len
     rw[e1,e2]) (UE dr)
   cases ok with
   | false=>
    rw[if_neg Bool.false_ne_true] at q7
    show ∃m,m<n/\_
    obtain⟨e1,e2,e3,e4⟩:=back I7
    obtain⟨m',hm,w7⟩:=hN _ _ q7
    exact⟨m',hm,i+1,ys,its,nn,H7,unp I7,e3,e4,e1,vD,e2,w7⟩
   | true=>
    rw[if_pos rfl] at q7
    show wpAny _ _ _ _ _ _
    have a8:=he' _ s7 U6 H7 _ I7 q7;rw[YP,Yw,YA,Ye,Yx] at a8
    refine wpAny_mono a8 (fun yv s8 ⟨y,H8,I8,ry,q8⟩=>?_) fun _ _ z=>z.elim
    obtain⟨e1,e2,e3,e4⟩:=back I8
    obtain⟨m',hm,w8⟩:=hN _ _ q8
    refine append_at e1 (fun h9 hs9 hD9=>?_) hsize
    have I9:Inv Y [] (Zt own.length ix U) H8 { s8 with heap:=h9 }:=(unp I8).turned (t':=s8.toks) (it:=D) (fun b o hb e=>hs9.extBut b o hb e) e2 (by rw[eL];exact hDC) (.inr (by rw[eS];omega)) hcellD (fun p hp=>absurd (show p∈([]:List (Addr×Obj)) by rw[eP] at hp;exact hp) (by simp))
    refine⟨m',hm,i+1,ys++[y],its.push yv,nn+1,H8,I9,T.keep _ _ _ e3 fun b hb o e=>hs9.extBut b o (Ne.symm (dfp b hb)) e,e4,hD9,?_,e2,w8⟩
    rw[Array.toList_push]
    exact vD.append (.cons ry .nil)
 exact codeAny_compStart_list (loop _ rfl) (T.self X.A 0 _ _ _ (T.keep _ _ _ st2 fun b _ o e=>old b o e) (loop _ rfl))
end
end L2
namespace VX
open PySem PySem.Spec PyProof.Rows L2 VL
section
variable {X:Cx} {tg elt iter:Expr} {ifs:List Expr} {scope:Scope} {pos:Pos} {own fr:List Str} {ix:List Nat} {wi:TI} {g:TG} {tt:TT} {te:TE} {E:XK}
def OT(E:XK)(Y:Cx)(pins:List (Addr×Obj))(U:L2.St)(v:Value)(s':Shared):Prop:=
 ∃e cls dd H',v = .ref e/\Inv Y pins U H' s'/\Fl H' Y.s₀.heap s'.heap e cls dd/\E cls dd H'
def MT(n:Nat)(ix:List Nat)(g:TG)(tt:TT)(te:TE)(ter:L2.St->Hp->Prop)(U:L2.St)(Q:VK)(J:It)(H1:Hp):Prop:=
 ∃W:Nat->Nat->List V->Hp->Prop,(∃m,W 0 m [] H1)/\∀i m ys H,W i m ys H->ys.length<=sizeLine/\
  ((J.stop i H/\∀p,H p=none->Q (.ref p) (YG H p (.lst ys)))\/(J.go i H/\∀x H',J.yld i H x H'->g x (Zt n ix U) H' fun U2 H2=>U2.drop n=(Zt n ix U).drop n/\tt U2 H2 fun b H3=>b=true/\ter U2 H3)\/
   (J.go i H/\∃N:List V->Hp->Prop,(∀ys' H',N ys' H'->∃m',m'<m/\W (i+1) m' ys' H')/\
    ∀x H',J.yld i H x H'->g x (Zt n ix U) H' fun U2 H2=>U2.drop n=(Zt n ix U).drop n/\tt U2 H2 fun b H3=>if b=true then te U2 H3 fun y H4=>N (ys++[y]) H4 else N ys H3))
def Pm(n:Nat)(ix:List Nat)(wi:TI)(g:TG)(tt:TT)(te:TE)(ter:L2.St->Hp->Prop):TE:=fun U H Q=>wi U H fun J H1=>MT n ix g tt te ter U Q J H1
theorem Pn{h h':Heap}{e C T:Addr}{cls fl:Value}{dd:Option Addr}(x:TN h e cls dd T fl)(hs:Heap.SameBut C h h')(he:e≠C)(hT:T≠C):TN h' e cls dd T fl:=by
 obtain⟨oe,vs,oT,ts,a,b,c,d,f,g,i,r⟩:=x
 exact⟨oe,vs,oT,ts,(hs.2 e he).trans a,b,c,d,f,g,(hs.2 T hT).trans i,r⟩
theorem Po{ter:L2.St->Hp->Prop}(hcalm:X.calm=true)(DX:SF X E)(hi:PI X tg iter wi)(S:CompScope X.N X.env.scope scope own fr ix)
  (hg:∀cl C s H ex,PG (Zi X (own++fr) scope cl C s H ex) tg g) (ht:∀cl C s H ex,Qp (Zi X (own++fr) scope cl C s H ex) ifs tt) (he:∀cl C s H ex,PE (Zi X (own++fr) scope cl C s H ex) elt te)
  (hx:∀cl C s H ex pins st U' H',Inv (Zi X (own++fr) scope cl C s H ex) pins U' H' st->(∀b∈ex,∃o,(b,o)∈pins)->ter U' H'->wpAny (model X.prog X.w) X.A (eval elt (Zi X (own++fr) scope cl C s H ex).env) (fun _ _=>False) (fun v s'=>OT E (Zi X (own++fr) scope cl C s H ex) pins U' v s') st)
  (hs:∀x,foldedSetIterable iter X.env x=pure x:=by intro _;rfl):PE X (.ListComp elt [⟨tg,iter,ifs,0⟩] scope pos) (Pm own.length ix wi g tt te ter):=by
 intro pins s U H Q I h;rw[eval_ListComp]
 refine wpAny_comprehension_free (use:=none) (cl:=ZA X.env.cells scope.names []) rfl hs (Y9 (S.clos I)) S.kind S.names (Z4 (hi pins s U H _ I h) fun v s1 h1=>Z4 h1 fun itv s2 h2=>?_)
 obtain⟨it,fp,tn,J,H2,e,I2,T,st2,f2,W,⟨m0,w0⟩,turn⟩:=h2
 subst e
 refine TY (Z:=OT E) (Fin:=fun ys H=>∀p,H p=none->Q (.ref p) (YG H p (.lst ys))) (RR:=fun acc C=>compPost (model X.prog X.w) X.A X.xe none (EP X pins U Q) acc C) hcalm S hg ht he I2 T st2 f2 hx w0 turn ?_ ?_
 ·intro D C oC m s' H' ys I5 hoC hn fpC nD fin
  refine⟨m,hn,fun h' hs'=>⟨.ref D,YG H' D (.lst ys),?_,rfl,fin D nD⟩⟩
  exact(I5.unpinned (pl:=[(C,oC)])).turned (t':=s'.toks) (it:=C) (fun b o hb e=>hs'.extBut b o hb e) fpC.1 fpC.2.1 fpC.2.2.2.1 fpC.2.2.2.2.1 fpC.2.2.2.2.2
 ·rintro D C pins' U' v s' hC ⟨e,cls,dd,H',rfl,I',⟨T0,x0,hHe,hHT,he0,hT0⟩,q⟩
  have he0:s2.heap.get? e=none:=he0
  have hT0:s2.heap.get? T0=none:=hT0
  have un:Un (Tj X.stack) fp H2 H' s2.heap s'.heap:=I'.base
  have I5:Inv X pins U H' s':=I2.call' I'.os un I'.hok I'.bare fun b hb=>⟨(f2 b hb).2.2.2.1,(f2 b hb).2.1,(f2 b hb).2.2.2.2.1,(f2 b hb).2.2.2.2.2⟩
  have hst:=DX.stk;have hfr:=DX.fr;have oe:=X8 I2 DX.ex he0;have oT:=X8 I2 DX.ex hT0
  have hCn:H' C=none:=I'.free
  have fpC:Xv X pins H' C:=I2.fpOk hC hCn
  obtain⟨mC,hnC,_⟩:=I'.loc
  have hnC:s'.heap.Ns C mC:=hnC
  obtain⟨oC,es,ep,hoC,rC⟩:=id hnC
  have nofld:∀vs,oC.data≠.fields vs:=fun vs z=>by rw[rC.1] at z;cases z
  have eC:e≠C:=fun z=>by
   obtain⟨oo,vs,_,_,a,_,_,d,_⟩:=x0
   rw[z,hoC] at a;cases a;exact nofld vs d
  have TC:T0≠C:=fun z=>by
   obtain⟨oo,vs,oT,ts,_,_,_,_,_,_,i,d,_⟩:=x0
   rw[z,hoC] at i;cases i;exact nofld ts d
  have hstk:=I5.stack;rw[hst] at hstk;have hfrs:=I5.ok.frames;rw[hst] at hfrs
  show wpAny (model X.prog X.w) X.A (noteFrame (.ref e) X.env) _ _ s'
  refine NF hfrs hstk hfr x0 fun h1 T' hT' x1 e1=>?_
  have I6:Inv X pins U H' { s' with heap:=h1 }:=Ww I5 DX.ex hfr e1 (fun b hb=>by
   rcases List.mem_cons.mp hb with z | z
   ·rw[z];exact⟨hHe,oe⟩
   ·rw[List.mem_singleton.mp z];exact⟨hHT,oT⟩) hst
  have T'C:T'≠C:=fun z=>Nat.lt_irrefl _ (Nat.lt_of_lt_of_le (Heap.lt_size hoC) (by rw[<-z];exact hT'))
  have nch:C∉[e,T0]:=fun z=>by
   simp at z
   rcases z with z | z
   ·exact eC z.symm
   ·exact TC z.symm
  have hC1:∃sl,h1.get? C=some { oC with slots:=sl }:=by
   by_cases z:C∈(X.env::X.outer).filterMap (·.frame)
   ·exact e1.slot C oC hoC nch z
   ·exact⟨oC.slots,e1.keep C oC hoC nch z⟩
  obtain⟨sl,hC1⟩:=hC1
  refine⟨mC,⟨_,es,ep,hC1,rC⟩,fun h' hs' cenv _=>?_⟩
  have x2:=Pn x1 hs' eC T'C
  have I7:Inv X pins U H' { s' with heap:=h' }:=Inv.turned (s:={ s' with heap:=h1 }) (t':=s'.toks) (it:=C) I6 (fun b o hb e=>hs'.extBut b o hb e) fpC.1 fpC.2.1 fpC.2.2.2.1 fpC.2.2.2.2.1 fpC.2.2.2.2.2
  refine OS (s:={ s' with heap:=h' }) (fs:=(X.env::X.outer).filterMap (·.frame)) x2 fun h2 fl' x3 e3 hz=>?_
  have hHT':H' T'=none:=I5.hok.fresh hT'
  have oT':NI X pins T':=X8 I5 DX.ex (Heap.get?_none_of_le hT')
  have I8:Inv X pins U H' { s' with heap:=h2 }:=Ww (s:={ s' with heap:=h' }) I7 DX.ex hfr e3 (fun b hb=>by rw[List.mem_singleton.mp hb];exact⟨hHT',oT'⟩) hst
  rw[DX.xe];have hstk8:=I8.stack;rw[hst] at hstk8
  refine Pl (s:={ s' with heap:=h2 }) hfrs hstk8 hfr x3 fun h3 T3 hT3 x4 e4=>?_
  have t3:H' T3=none/\X.s₀.heap.get? T3=none:=by
   rcases hT3 with z | z
   ·rw[z];exact⟨hHT',oT'.1⟩
   ·exact⟨I8.hok.fresh z,(X8 I8 DX.ex (Heap.get?_none_of_le z)).1⟩
  exact UR (s:={ s' with heap:=h2 }) DX I8 t3.2 oe.1 hHe t3.1 (fun b hb=>by
   rcases List.mem_cons.mp hb with z | z
   ·rw[z];exact⟨hHe,oe.1⟩
   ·rw[List.mem_singleton.mp z];exact⟨hHT',oT'.1⟩) x4 e4 q
end
def OU(K:PySem.W.Frag)(fx:XR)(E:XK)(U:L2.St)(H:Hp):Prop:=∃s n,EnvIs K (fun _=>False) H s U/\fx s=some n/\∀C H',PySem.W.nsIn K mainGlobals n=some (some (.ref C))->Same H H'->E (.ref C) none H'
def K1(K:PySem.W.Frag)(fx:XR)(E:XK):TE:=fun U H _=>OU K fx E U H
def RX(X:Cx)(E:XK)(e:Expr)(fx:XR):Prop:=PE X e (K1 X.K fx E)
def Y8(R:List PV->Option Str)(fs:List XE):XR:=fun s=>(Vj fs s).bind R
section
variable {X:Cx} {E:XK} {k n:Nat} {x:Str} {ps:List Str} {R:List PV->Option Str} {e:Expr} {es:List Expr} {fs:List XE} {p pos:Pos} {own fr:List Str} {scope:Scope}
theorem Pp(CX:CalX X.prog X.w X.K X.mg X.base x ps (spX X.K R n) k)(hr:Room k X.A)(hg:∀cl C s H ex,Gl (Zi X (own++fr) scope cl C s H ex) x)(ha:∀cl C s H ex,VA (Zi X (own++fr) scope cl C s H ex) (e::es) fs)(hn:fs.length=n:=by rfl)
  (hdb:(x==("__debug__" : Str))=false:=by decide) (he:∀env:Env,starEach (e::es) env=(false,eval e env)::starEach es env:=by intro _;rfl) (hpl:∀env:Env,(backTo pos (starEach es env)).any (·.1)=false:=by intro _;rfl) :
  ∀cl C s H ex pins st U' H',Inv (Zi X (own++fr) scope cl C s H ex) pins U' H' st->(∀b∈ex,∃o,(b,o)∈pins)->OU X.K (Y8 R fs) E U' H'->
   wpAny (model X.prog X.w) X.A (eval (.Call (.Name x p) (e::es) [] pos) (Zi X (own++fr) scope cl C s H ex).env) (fun _ _=>False) (fun v s'=>OT E (Zi X (own++fr) scope cl C s H ex) pins U' v s') st:=by
 intro cl C s0 H0 ex pins st U H I cov ⟨sp,nm,env,e1,q⟩
 obtain⟨ls,e2,e3⟩:=Ze e1
 obtain⟨fa,fd,hmx,hkp,hbd,F⟩:=CX.ex
 refine wpAny_Call_Name_kw (Xh I (hg cl C s0 H0 ex) hmx ?_ hdb)
 refine PySem.W.callWith_K (h₀:=X.base) I.ok.mod.kin hkp ?_ (he _) (hpl _)
 refine wpAny_mono (ha cl C s0 H0 ex pos pins st U H (fun vs H1=>Same H H1/\∃fp,Iss X.K H1 ls vs fp) I ⟨fun _=>False,sp,ls,fun _ z=>z.elim,env,e2,fun vs H1 fp s1 i1 _=>⟨s1,fp,i1⟩⟩) (fun us s1 ⟨vs,H1,I1,rv,sm,fp,i1⟩=>?_) fun _ _ z=>z.elim
 have lv:vs.length=n:=by rw[i1.len,Xl e2,hn]
 have hsp:spX X.K R n vs H1 (fun _ _=>False) E:=⟨lv,ls,fp,nm,i1,e3,fun C' H' hc sm'=>q C' H' hc (sm.trans sm')⟩
 have hl:(us++[]).length=ps.length:=by rw[List.append_nil,<-rv.length,lv];have:=F.len _ _ _ _ hsp;omega
 have hbb:=hbd s1 us I1.kIn hl;rw[List.append_nil] at hbb
 refine⟨I1.kIn,wpAny_call (codeAny_mono (F.run X.A X.stack s1 H1 ⟨us,[]⟩ us vs _ _ hr I1.env0 hbb rv hsp) fun res s' hq=>?_)⟩
 cases res with
 | ok fl=>
  cases fl with
  | ret u=>obtain⟨_,_,_,_,_,_,_,z⟩:=hq;exact z.elim
  | next=>exact False.elim hq
  | brk=>exact False.elim hq
  | cont=>exact False.elim hq
 | error v=>
  obtain⟨ea,cls,dd,H',rfl,hos,hgn,u,hok,⟨T,xx,hH,hHT,he0,hT0⟩,q2⟩:=hq
  have I2:Inv (Zi X (own++fr) scope cl C s0 H0 ex) pins U H' s':=I1.call' hos u hok hgn fun b hb=>nomatch hb
  have old:∀b,s1.heap.get? b=none->s0.heap.get? b=none:=fun b z=>by
   cases r:s0.heap.get? b with
   | none=>rfl
   | some o=>
    by_cases hb:b∈ex
    ·obtain⟨o',ho'⟩:=cov b hb
     have:=(I1.pin (b,o') (List.mem_append_right _ ho')).1
     simp only at this
     rw[z] at this;cases this
    ·obtain⟨o',r'⟩:=I1.base.there b o r hb
     rw[z] at r';cases r'
  exact⟨ea,cls,dd,H',rfl,I2,⟨T,xx,hH,hHT,old ea he0,old T hT0⟩,q2⟩
end
def Xf(T:Tgt)(ft:XT)(fe:XE)(fx:XR)(s0:ZH):List PV->Option Str
 | []=>none
 | l::r=>(XY T l s0).bind fun s1=>(ft s1).bind fun c=>if c=true then(match fx s1 with
   | some n=>some n
   | none=>(fe s1).bind fun _=>Xf T ft fe fx s0 r) else Xf T ft fe fx s0 r
def Wy(n:Nat)(ix:List Nat)(fi:XL)(T:Tgt)(ft:XT)(fe:XE)(fx:XR):XR:=fun s=>(fi s).bind fun ls=>if ls.length<=10000 then Xf T ft fe fx (ZQ n ix s) ls else none
section
variable {K:PySem.W.Frag} {n:Nat} {ix:List Nat} {fi:XL} {T:Tgt} {ft:XT} {fe:XE} {fx:XR} {E:XK}
theorem Uh{s0:ZH}{l:PV}{r:List PV}{nm:Str}(h:Xf T ft fe fx s0 (l::r)=some nm):∃s1 c,XY T l s0=some s1/\ft s1=some c/\((c=true/\fx s1=some nm)\/(c=true/\∃y,fe s1=some y/\Xf T ft fe fx s0 r=some nm)\/(c=false/\Xf T ft fe fx s0 r=some nm)):=by
 unfold Xf at h
 obtain⟨s1,e1,h⟩:=Ze h
 obtain⟨c,e2,h⟩:=Ze h
 refine⟨s1,c,e1,e2,?_⟩
 cases c with
 | true=>
  rw[if_pos rfl] at h
  split at h
  ·cases h;exact .inl ⟨rfl,by assumption⟩
  ·obtain⟨y,e3,h⟩:=Ze h
   exact .inr (.inl ⟨rfl,y,e3,h⟩)
 | false=>
  rw[if_neg Bool.false_ne_true] at h
  exact .inr (.inr ⟨rfl,h⟩)
theorem OV(hT:∀i∈T.slots,i<n):∀U H Q,K1 K (Wy n ix fi T ft fe fx) E U H Q->Pm n ix (iF K fi) (gT K T) (Tx K ft) (tF K fe) (OU K fx E) U H Q:=fun U H Q ⟨s,nm,env,e,q⟩=>by
 obtain⟨ls,e1,e⟩:=Ze e
 split at e
 case isFalse=>cases e
 rename_i hlen
 have hd:∀(H:Hp) p,(fun _=>False:Addr->Prop) p->Wc (H p):=fun _ _ z=>z.elim
 refine⟨fun _=>False,s,ls,hd H,env,e1,fun J H1 s1 jis=>?_⟩
 refine⟨fun i m vs Hc=>m=ls.length-i/\i<=ls.length/\Same H1 Hc/\vs.length<=i/\Xf T ft fe fx (ZQ n ix s) (ls.drop i)=some nm,
  ⟨ls.length,by simp,Nat.zero_le _,Same.refl H1,Nat.le_refl _,e⟩,?_⟩
 rintro i m vs Hc ⟨rfl,hi,sc,hvl,ec⟩
 refine⟨Nat.le_of_lt (lt_size (by omega)),?_⟩
 cases r:ls.drop i with
 | nil=>rw[r] at ec;cases ec
 | cons l rr=>
  obtain⟨hl,hr⟩:=Wq r
  have hilt:i<ls.length:=(List.getElem?_eq_some_iff.mp hl).1
  rw[r] at ec
  obtain⟨sb,c,eb,et,alt⟩:=Uh ec
  have go:=jis.go Hc i l (Same.ab sc) hl
  have step:∀x H2,J.yld i Hc x H2->∃bv,Same Hc H2/\(∀(Q':Vt->Hp->Prop),Q' (ZX T.slots bv (Zt n ix U)) H2->gT K T x (Zt n ix U) H2 Q')/\EnvIs K (fun _=>False) H2 sb (ZX T.slots bv (Zt n ix U)):=fun x H2 y=>by
   obtain⟨s2,fx',ix',nx⟩:=jis.yld Hc i l x H2 (Same.ab sc) hl y
   obtain⟨bl,bv,bf,rfl,bi,_,bsub,buse⟩:=U8 (K:=K) ix' eb
   have env2:EnvIs K (fun _=>False) H2 (ZQ n ix s) (Zt n ix U):=(env.mono (s1.trans (sc.trans s2))).comp
   exact⟨bv,s2,fun Q' q'=>buse _ _ q',env2.setAll (is:=T.slots) (V4 n ix s U) bi fun p hp=>(nx p (bsub p hp)).2⟩
  rcases alt with⟨rfl,ex⟩ | ⟨rfl,y',ey,ez⟩ | ⟨rfl,ez⟩
  ·refine .inr (.inl ⟨go,fun x H2 y=>?_⟩)
   obtain⟨bv,s2,buse,env3⟩:=step x H2 y
   refine buse _ ⟨Yb hT,fun _=>False,sb,true,hd H2,env3,et,fun H3 s3=>⟨rfl,sb,nm,env3.mono s3,ex,fun C H' hc sm=>q C H' hc (s1.trans (sc.trans (s2.trans (s3.trans sm))))⟩⟩
  ·refine .inr (.inr ⟨go,fun vs' H'=>Same H1 H'/\vs'.length<=i+1,fun vs' H' h'=>⟨ls.length-(i+1),by omega,rfl,hilt,h'.1,h'.2,by rw[hr];exact ez⟩,fun x H2 y=>?_⟩)
   obtain⟨bv,s2,buse,env3⟩:=step x H2 y
   refine buse _ ⟨Yb hT,fun _=>False,sb,true,hd H2,env3,et,fun H3 s3=>Mn ?_⟩
   exact⟨fun _=>False,sb,y',hd H3,env3.mono s3,ey,fun v H4 f4 s4 i4 n4=>⟨sc.trans (s2.trans (s3.trans s4)),by rw[List.length_append];simp;omega⟩⟩
  ·refine .inr (.inr ⟨go,fun vs' H'=>Same H1 H'/\vs'.length<=i+1,fun vs' H' h'=>⟨ls.length-(i+1),by omega,rfl,hilt,h'.1,h'.2,by rw[hr];exact ez⟩,fun x H2 y=>?_⟩)
   obtain⟨bv,s2,buse,env3⟩:=step x H2 y
   exact buse _ ⟨Yb hT,fun _=>False,sb,false,hd H2,env3,et,fun H3 s3=>Mm ⟨sc.trans (s2.trans s3),by omega⟩⟩
end
section
variable {X:Cx} {E:XK} {tg elt iter c:Expr} {ifs:List Expr} {scope:Scope} {pos p:Pos} {fi:XL} {T:Tgt} {ft:XT} {fe:XE} {fx:XR} {O:List Nat} {e:Expr} {Ty:String} {x:Str} {r:List V->Hp->VK->Prop}
theorem OW(own fr:List Str)(ix:List Nat)(DX:SF X E)(hcalm:X.calm=true)(hi:VI X tg iter fi)(S:X2 X.N X.env.scope scope own fr ix=true)
  (hg:∀cl C s H ex,PG (Zi X (own++fr) scope cl C s H ex) tg (gT X.K T)) (ht:∀cl C s H ex,Ke (Zi X (own++fr) scope cl C s H ex) ifs ft) (he:∀cl C s H ex,VE (Zi X (own++fr) scope cl C s H ex) elt fe)
  (hx:∀cl C s H ex pins st U' H',Inv (Zi X (own++fr) scope cl C s H ex) pins U' H' st->(∀b∈ex,∃o,(b,o)∈pins)->OU X.K fx E U' H'->wpAny (model X.prog X.w) X.A (eval elt (Zi X (own++fr) scope cl C s H ex).env) (fun _ _=>False) (fun v s'=>OT E (Zi X (own++fr) scope cl C s H ex) pins U' v s') st)
  (hT:∀i∈T.slots,i<own.length:=by decide) (hs:∀x,foldedSetIterable iter X.env x=pure x:=by intro _;rfl):RX X E (.ListComp elt [⟨tg,iter,ifs,0⟩] scope pos) (Wy own.length ix fi T ft fe fx):=
 PE.imp (Po hcalm DX hi (WN S) hg (fun cl C s H ex=>(show Qp (Zi X (own++fr) scope cl C s H ex) ifs (Tx X.K ft) from ht cl C s H ex)) (fun cl C s H ex=>(show PE (Zi X (own++fr) scope cl C s H ex) elt (tF X.K fe) from he cl C s H ex)) hx hs) (OV hT)
theorem R9(hc:Xb X (.type Ty) r)(hg:Gl X x)(hm:X.mg x=none)(hv:bootBuiltins x=some (.type Ty))(ha:RX X E e fx)(hn:x≠"__name__":=by decide)(hdb:(x==("__debug__" : Str))=false:=by decide)
  (he:starEach [e] X.env=(false,eval e X.env)::starEach [] X.env:=by rfl) (hpl:(backTo pos (starEach [] X.env)).any (·.1)=false:=by rfl):RX X E (.Call (.Name x p) [e] [] pos) fx:=
 PE.imp (UB hc hg hm hv (XF ha VG (hs:=he)) hn hdb he hpl) fun U H Q h=>h
theorem MU(h:RX X E e fx):VX X O E (.Return (some e) pos) fx:=PS.imp (Qy h) fun D U H ⟨H0,fps,s,n,r,e,q⟩=>⟨s,n,r.env,e,fun C H' hc sm=>q C H' hc (r.same.trans sm)⟩
end
def Wz(n:Str)(f:XE):XR:=fun s=>match f s with
 | some (.str z)=>if(reprText z).length<=100000 then some n else none
 | _=>none
section
variable {X:Cx} {O W:List Nat} {E:XK} {C:Addr} {bmB:List Value} {B newId initId:String} {x y:Str} {np cpos pos p1 p2 p3:Pos} {jj k:Nat} {e:Expr} {f:XE} {te:TE}
def L8(te:TE):TE:=fun U H Q=>te U H fun v H1=>∃z,v = .str z/\(reprText z).length<=100000/\∀z,Q (.str z) H1
theorem OX(he:PE X e te)(hy:y.length<=1000:=by decide):PE X (.JoinedStr [.Constant (.str y) jj p1,.FormattedValue e 114 none p2] p3) (L8 te):=by
 intro pins s U H Q I h
 refine wpAny_JoinedStr ?_
 show wpAny _ _ (eval (.Constant (.str y) jj p1) X.env) _ _ s
 refine Z4 (Qu (X:=X) (x:=y) (j:=jj) (pos:=p1) pins s U H (fun v H1=>v = .str y/\H1=H) I ⟨rfl,rfl⟩) fun u s1 ⟨v,H1,I1,r,hv,hH⟩=>?_
 subst hv hH
 obtain⟨t,rfl⟩:=r
 have e0:(Str.empty++y).length=y.length:=by rw[strLen_append];show 0+_=_;omega
 have sz:(1000:Nat)+100000<=sizeLine:=by decide
 refine⟨y,t,rfl,by omega,?_⟩
 show wpAny _ _ (eval (.FormattedValue e 114 none p2) X.env) _ _ s1
 refine wpAny_FormattedValue_repr ?_
 refine Z4 (he pins s1 U H1 _ I1 h) fun u s2 ⟨v,H2,I2,r,z,hv,hl,q⟩=>?_
 subst hv
 obtain⟨t2,rfl⟩:=r
 refine pyReprObj_str ?_ (by omega)
 refine formatField_str (fun t' tk=>?_) (by omega)
 refine⟨_,_,rfl,by rw[strLen_append,e0];omega,?_⟩
 exact⟨by rw[strLen_append,e0];omega,.str _,H2,I2.tok _,⟨_,rfl⟩,q _⟩
theorem Qb(F:ExcBaseFacts B newId initId bmB)(hq:PySem.W.excIn X.K C bmB newId=true)(hg:Gl X x)(hm:X.mg x=some (.ref C))(hns:PySem.W.nsIn X.K mainGlobals x=some (some (.ref C)))(hcalm:X.calm=true)(DX:SF X E)(he:VE X e f)
  (hy:y.length<=1000:=by decide) (hdb:(x==("__debug__" : Str))=false:=by decide) (hst:starEach [.JoinedStr [.Constant (.str y) jj p1,.FormattedValue e 114 none p2] p3] X.env=(false,eval (.JoinedStr [.Constant (.str y) jj p1,.FormattedValue e 114 none p2] p3) X.env)::starEach [] X.env:=by rfl) :
  VX X O E (.Raise (some (.Call (.Name x np) [.JoinedStr [.Constant (.str y) jj p1,.FormattedValue e 114 none p2] p3] [] cpos)) none pos) (Wz x f):=
 PS.imp (Pf F hq hg hm hcalm DX (OX he hy) hdb hst) fun D U H ⟨H0,fps,s,cls,r,e,q⟩=>by
  unfold Wz at e
  split at e
  ·rename_i z hz
   split at e
   ·cases e
    refine⟨fun _=>False,s,.str z,fun _ z=>z.elim,r.env,hz,fun v H' fp sm i _=>?_⟩
    exact⟨z,i.str_inv.1,by assumption,fun z=>⟨rfl,q C H' hns (r.same.trans sm)⟩⟩
   ·cases e
  ·cases e
end
def nms:List Str:=["NoWeb","Apart","NoText","NoOrder","TooMany","NotSettled","NoTree","NoTotal","NoEnds","NoRow","NoName"]
def Vh(nm cx:Str):Str->Option Bool:=fun n=>if n=nm then some (decide (cx=nm)) else none
def Ld(nm:Str):Str->Option Bool:=fun n=>if n=nm then some true else none
structure QN(nm:Str)(K:PySem.W.Frag)(mg:Str->Option Value)(C Cb:Addr):Prop where
 no:PySem.W.nsIn K mainGlobals nm=some (some (.ref C))
 mgo:mg nm=some (.ref C)
 mgb:mg "PurseError" = some (.ref Cb)
 ex:PySem.W.excIn K C [.type "ValueError",.type "Exception",.type "BaseException",.type "object"] "ValueError.__new__" = true
 ec:Rp K C
 kb:PySem.W.ktsIn K Cb "BaseException" = true
 bl:belowIn K C Cb=true
 cls:∀cx∈nms,∃D,mg cx=some (.ref D)/\PySem.W.kitOne K (.ref C) (.ref D)=some (decide (cx=nm))
 ve:PySem.W.kitOne K (.ref C) (.type "ValueError")=some true
section
variable {X:Cx} {nmC:Str} {C Cb:Addr} {e:Expr} {f:XE} {cx:Str} {p p2 pos:Pos}
theorem Y0(Q:QN nmC X.K X.mg C Cb)(hgi:Gl X "isinstance")(hm:X.mg "isinstance" = none)(he:VE X e f)(hcx:cx∈nms)(hgc:Gl X cx)(hdb:(cx==("__debug__" : Str))=false:=by decide)
  (hst:starEach [e,.Name cx p2] X.env=(false,eval e X.env)::starEach [.Name cx p2] X.env:=by rfl) (hst2:starEach [.Name cx p2] X.env=(false,eval (.Name cx p2) X.env)::starEach [] X.env:=by rfl) (hpl:(backTo pos (starEach [.Name cx p2] X.env)).any (·.1)=false:=by rfl):VM X (.Call (.Name "isinstance" p) [e,.Name cx p2] [] pos) (Yg (Vh nmC cx) f):=by
 obtain⟨D,hD,hk⟩:=Q.cls cx hcx
 refine Pk hgi hm he (.own D) (OM hgc hD hdb) (fun n b h=>?_) hst hst2 hpl
 unfold Vh at h
 split at h
 ·rename_i hn
  subst hn;cases h
  exact⟨C,Q.no,Q.ec,hk⟩
 ·cases h
theorem OY(Q:QN nmC X.K X.mg C Cb)(hgi:Gl X "isinstance")(hm:X.mg "isinstance" = none)(he:VE X e f)(hgc:Gl X "ValueError")(hv:X.mg "ValueError" = none)
  (hst:starEach [e,.Name "ValueError" p2] X.env=(false,eval e X.env)::starEach [.Name "ValueError" p2] X.env:=by rfl) (hst2:starEach [.Name "ValueError" p2] X.env=(false,eval (.Name "ValueError" p2) X.env)::starEach [] X.env:=by rfl) (hpl:(backTo pos (starEach [.Name "ValueError" p2] X.env)).any (·.1)=false:=by rfl):VM X (.Call (.Name "isinstance" p) [e,.Name "ValueError" p2] [] pos) (Yg (Ld nmC) f):=by
 refine Pk hgi hm he (.ty "ValueError") (ON hgc hv (by decide +kernel)) (fun n b h=>?_) hst hst2 hpl
 unfold Ld at h
 split at h
 ·rename_i hn
  subst hn;cases h
  exact⟨C,Q.no,Q.ec,Q.ve⟩
 ·cases h
end
section
variable {X:Cx} {O W:List Nat} {nmC:Str} {C Cb:Addr} {k n i:Nat} {x y nm:Str} {ps:List Str} {R:List PV->Option Str} {e:Expr} {es:List Expr} {fs:List XE} {p py cp ep np hp pos:Pos} {b₀:Stmt} {suite:List Stmt} {f:XS} {ZF:List ExceptHandler}
theorem Pq(Q:QN nmC X.K X.mg C Cb)(CX:CalX X.prog X.w X.K X.mg X.base x ps (spX X.K R n) k)(hR:∀ls m,R ls=some m->m=nmC)(hr:Room k X.A)(hg:Gl X x)(ha:VA X.nox (e::es) fs)(hx:X.ex=[])(hst:X.stack=X.env::X.outer)(hfr:X.env.frame=some X.env.locals)
  (hN:X.N.Nodup) (hi:X.N[i]?=some nm) (hk:X.env.scope.names.lookup nm=some .local) (hgc:Gl X "PurseError")
  (hs:∀e,Sy (Cx.mark X e) O W (b₀::suite) f) (hiO:i∉O) (hsw:swapsWith (.Call (.Name x p) (e::es) [] cp) (some (.Name y py)) ep.line X.env=pure false:=by rfl) (hn:fs.length=n:=by rfl)
  (hdb:(x==("__debug__" : Str))=false:=by decide) (he:starEach (e::es) X.env=(false,eval e X.env)::starEach es X.env:=by rfl) (hpl:(backTo cp (starEach es X.env)).any (·.1)=false:=by rfl) :
  VS X O (i::W) (.Try [.Assign [.Name y py] (.Call (.Name x p) (e::es) [] cp) ep] (.ExceptHandler (some (.Name "PurseError" np)) (some nm) (b₀::suite) hp::ZF) [] [] pos) (Tg R fs i f):=
 OQ CX hr hg ha hx hst hfr hN hi hk hgc Q.mgb Q.kb (fun ls m h=>by rw[hR ls m h];exact⟨C,Q.no,Q.ec.kt,Q.bl⟩) hs hiO hsw hn hdb (by decide) he hpl
end
end VX
namespace PW
open PySem L2 VL VX
noncomputable def Yh:XS:=(Z2 (eP (Zf XB (eC (.str ",")) (ZR 1 [] (Wo (Za 0)) (.one 0) ZS (Zb Wv [(Za 0)])))))
noncomputable def ZO:List PV->Option PV:=Ws 1 Yh
noncomputable def XJ:XS:=(ZG (Zx 1 (eP (Za 0)))
  (ZG (X6 (xB (Zf (Yd false) (WT Yl (Za 0) Vv (Wr (eC (.int 1)))) (eC (.str "-")))) (Zx 1 (eP (WT Yl (Za 0) (Wr (eC (.int 1))) Vv))) ZL)
  (ZG (X6 (Wd (xB (Zf M8 (Zb Yk [(Za 1)]) (eC (.int 1)))) (Wd (xB (Zf QK (Zb Yk [(Za 1)]) (eC (.int 30)))) (Wd (So (xB (Zf QK (Zb Yk [(Za 1)]) (eC (.int 1)))) (xB (Zf (Yd false) (Zf Wk (Za 1) (eC (.int 0))) (eC (.str "0"))))) (xB (Zf (Yd false) (Za 0) (eC (.str "-0"))))))) (Z2 (eP (eC .non))) ZL)
  (ZG (X6 (YD (xB (Zb Wm [(ZR 1 [] (Uc (Za 1)) (.one 0) ZS (Qq WY WY (eC (.str "0")) (Za 0) (eC (.str "9"))))]))) (Z2 (eP (eC .non))) ZL)
  (ZG (X6 (xB (Zf (Yd false) (Za 1) (Za 0))) (Z2 (eP (Zb Xr [(Za 1)]))) ZL)
  (Z2 (eP (Zf Sm (eC (.int 0)) (Zb Xr [(Za 1)])))))))))
noncomputable def YV:List PV->Option PV:=Ws 2 XJ
noncomputable def Vx:XS:=(ZG (Zx 1 (ZR 1 [] (V1 (Zf Ys (Za 0) (eC (.str ",")))) (.one 0) ZS (Zb YV [(Za 0)])))
  (ZG (X6 (xB (Zf TM (eC .non) (Za 1))) (Z2 (eP (eC .non))) ZL)
  (Z2 (eP (Zb Xn [(Za 1)])))))
noncomputable def XM:List PV->Option PV:=Ws 2 Vx
noncomputable def Xp:XS:=(ZG (X6 (YD (xB (Qq M9 M9 (eC (.int 1)) (Zb Yk [(Za 0)]) (Za 1)))) (Z2 (eP (eC (.bl false)))) ZL)
  (Z2 (eP (QL (Zb Wm [(ZR 1 [] (Uc (Za 0)) (.one 0) ZS (Zf (SE false) (Za 0) (eC (.str "0123456789"))))]) (Kd (Zf (Yd false) (Za 0) (eC (.str "0"))) (Zf (Yd true) (Zf Wk (Za 0) (eC (.int 0))) (eC (.str "0"))))))))
noncomputable def Zy:List PV->Option PV:=Ws 2 Xp
noncomputable def Zm:List PV->Option Str:=PM 2 (Ue PL (Zx 1 (eP (Ox (xB (Zf ZW (Za 0) (eC (.str "-")))) (WT Yl (Za 0) (Wr (eC (.int 1))) Vv) (Za 0))))
  (Ue (NG (Wd (xB (Zf (Yd false) (Za 0) (eC (.str "-0")))) (YD (xB (Zb Zy [(Za 1),(eC (.int 30))])))) (Wz "NoText" (Za 0)) PL) (X6 (Wd (xB (Zf (Yd false) (Za 0) (eC (.str "-0")))) (YD (xB (Zb Zy [(Za 1),(eC (.int 30))])))) WV ZL)
  PL))
noncomputable def YB:XS:=(ZG (Zx 1 (eP (Ox (xB (Zf ZW (Za 0) (eC (.str "-")))) (WT Yl (Za 0) (Wr (eC (.int 1))) Vv) (Za 0))))
  (ZG (X6 (Wd (xB (Zf (Yd false) (Za 0) (eC (.str "-0")))) (YD (xB (Zb Zy [(Za 1),(eC (.int 30))])))) WV ZL)
  (Z2 (eP (Zb Xr [(Za 0)])))))
noncomputable def Zr:List PV->Option PV:=Ws 2 YB
noncomputable def Zn:List PV->Option Str:=PM 1 (Wy 1 [] (V1 (Zf Ys (Za 0) (eC (.str ",")))) (.one 0) ZS (Zb Zr [(Za 0)]) (Y8 Zm [(Za 0)]))
noncomputable def Yt:XS:=(Z2 (eP (Zb Xn [(ZR 1 [] (V1 (Zf Ys (Za 0) (eC (.str ",")))) (.one 0) ZS (Zb Zr [(Za 0)]))])))
noncomputable def ZM:List PV->Option PV:=Ws 1 Yt
noncomputable def WA:XS:=(ZG (Zx 1 (Xm [(eP (Yg (Vh "NoText" "NoWeb") (Za 0))),(eP (Yg (Vh "NoText" "Apart") (Za 0))),(eP (Yg (Vh "NoText" "NoText") (Za 0))),(eP (Yg (Vh "NoText" "NoOrder") (Za 0)))]))
  (ZG (Zx 1 (Zf V7 (Za 1) (Xm [(Yg (Vh "NoText" "TooMany") (Za 0)),(Yg (Vh "NoText" "NotSettled") (Za 0)),(Yg (Vh "NoText" "NoTree") (Za 0))])))
  (ZG (Zx 1 (Zf V7 (Za 1) (Xm [(Yg (Vh "NoText" "NoTotal") (Za 0)),(Yg (Vh "NoText" "NoEnds") (Za 0)),(Yg (Vh "NoText" "NoRow") (Za 0)),(Yg (Vh "NoText" "NoName") (Za 0))])))
  (ZG (X6 (Wd (YD (xB (Yg (Ld "NoText") (Za 0)))) (xB (Zf (Yd true) (Zf Wx (Za 1) (eC (.bl true))) (eC (.int 1))))) (Z2 (eP (Mu RO (eC (.int 1))))) ZL)
  (Z2 (eP (Zf Vw (Za 1) (eC (.bl true)))))))))
noncomputable def XC:List PV->Option PV:=Ws 2 WA
noncomputable def WB:XS:=(ZG (Zx 1 (eP (eC .non)))
  (ZG (Zx 2 (eP (eC .non)))
  (ZG (MS (Tg Zn [(Za 0)] 3 (Zx 1 (eP (Za 3)))) (Zx 2 (Zb ZM [(Za 0)])))
  (ZG (X6 (xB (WR true (Za 1))) (Z2 (Zb XC [(Za 1)])) ZL)
  (ZG (X6 (Wd (YD (xB (Zb Xd [(Za 2),(eC (.ty "tuple"))]))) (YD (xB (Zb Wm [(ZR 1 [] (Wo (Za 2)) (.one 0) ZS (Zb YT [(Za 0)]))])))) (Z2 (eP (Mu RO (eC (.int 1))))) ZL)
  (Z2 (eP (Za 2))))))))
noncomputable def Z9:List PV->Option PV:=Ws 4 WB
noncomputable def Y1:XS:=(ZG (X6 (xB (Zf (Yd false) (Zf Z6 (Za 0) (eC (.int 3))) (eC (.int 0)))) (Z2 (eP (Zf Sm (Zf Z6 (Zf X4 (Za 0) (eC (.int 3))) (eC (.int 21))) (eC (.int 10))))) ZL)
  (ZG (X6 (xB (Zf (Yd false) (Zf Z6 (Za 0) (eC (.int 3))) (eC (.int 1)))) (Z2 (eP (Zf Sm (Zf Z6 (Zf X4 (Za 0) (eC (.int 3))) (Zf Z5 (Zf X3 (eC (.int 2)) (Zf QJ (eC (.int 10)) (eC (.int 6)))) (eC (.int 1)))) (Zf QJ (eC (.int 10)) (eC (.int 6)))))) ZL)
  (Z2 (eP (Zf Z5 (Zf Sm (Zf Z6 (Zf X4 (Za 0) (eC (.int 3))) (Zf Sm (Zf X3 (eC (.int 2)) (Zf QJ (eC (.int 10)) (eC (.int 30)))) (eC (.int 1)))) (Zf QJ (eC (.int 10)) (eC (.int 30)))) (eC (.int 1)))))))
noncomputable def ZY:List PV->Option PV:=Ws 1 Y1
noncomputable def Rq:XS:=(ZG (Zx 1 (eP (Zb Xn [(ZR 1 [0] (Xq [(Zf Z5 (eC (.int 1)) (Zf Z6 (Zb Zh [(Za 0),(eC (.int 0))]) (eC (.int 9))))]) (.one 0) ZS (Zb ZY [(Zb Zh [(Za 1),(Zf Z5 (eC (.int 1)) (Za 0))])]))])))
  (ZG (Zx 2 (eP (Zf XB (eC (.str ",")) (ZR 1 [] (Wo (Za 1)) (.one 0) ZS (Zb Wv [(Za 0)])))))
  (ZG (Zx 3 (Zb ZO [(Za 1)]))
  (ZG (X6 (Wd (YD (xB (Zb Xd [(Za 3),(eC (.ty "str"))]))) (Wd (xB (Zf (Yd true) (Za 3) (Za 2))) (xB (Zf (Yd true) (Zb Z9 [(Za 2)]) (Za 1))))) (Z2 (eP (eC (.bl false)))) ZL)
  (ZG (OF [] (Xq [(Zf Z6 (Zb Zh [(Za 0),(eC (.int 10))]) (eC (.int 3)))]) (.one 4) (ZG (Zx 5 (eP (Zf Z6 (Zb Zh [(Za 0),(Zf Z5 (eC (.int 11)) (Zf X3 (eC (.int 2)) (Za 4)))]) (Zf Z5 (Zb Yk [(Za 2)]) (eC (.int 1))))))
  (ZG (Zx 6 (Zb Zh [(Za 0),(Zf Z5 (eC (.int 12)) (Zf X3 (eC (.int 2)) (Za 4)))]))
  (ZG (Zx 7 (eP (Zf Wk (eC (.str "0123456789,- +_.x0\n\t")) (Zf Z6 (Za 6) (eC (.int 20))))))
  (Zx 2 (eP (Zf Yc (Zf Yc (WT Yl (Za 2) Vv (Wr (Za 5))) (Za 7)) (WT Yl (Za 2) (Wr (Zf Z5 (Za 5) (Zf Z6 (Zf X4 (Za 6) (eC (.int 20))) (eC (.int 2))))) Vv))))))))
  (ZG (X6 (xB (Zf (Yd false) (Zf Z6 (Zb Zh [(Za 0),(eC (.int 15))]) (eC (.int 8))) (eC (.int 1)))) (ZG (Zx 8 (Xm [(eP (eC (.str ""))),(eP (eC (.str ","))),(eP (eC (.str "0,"))),(eP (eC (.str ",0"))),(eP (eC (.str "-0"))),(eP (eC (.str "00"))),(eP (eC (.str "--1"))),(eP (eC (.str "1-"))),(eP (eC (.str "+1"))),(eP (eC (.str " 1"))),(eP (eC (.str "1, 2"))),(eP (Zf Yc (eC (.str "1")) (Zf YM (eC (.str "0")) (eC (.int 30))))),(eP (eC (.str "-"))),(eP (Zf YM (eC (.str "9")) (eC (.int 30))))]))
  (Zx 2 (eP (Zf Wk (Za 8) (Zf Z6 (Zf X4 (Zb Zh [(Za 0),(eC (.int 15))]) (eC (.int 8))) (eC (.int 14))))))) ZL)
  (ZG (Zx 9 (Zb XM [(Za 2)]))
  (ZG (X6 (xB (WR false (Za 9))) (Z2 (eP (Zf (Yd false) (Zb Z9 [(Za 2)]) (eC (.int 2))))) ZL)
  (Z2 (eP (Zf (Yd false) (Zb Z9 [(Za 2)]) (Za 9))))))))))))
noncomputable def D_law:List PV->Option PV:=Ws 10 Rq
theorem Pr{n:Str}{f:XE}{s:ZH}{m:Str}(h:Wz n f s=some m):m=n:=by
 unfold Wz at h
 split at h
 ·split at h
  ·cases h;rfl
  ·cases h
 ·cases h
theorem W0:∀ls m,Zm ls=some m->m = "NoText":=by
 intro ls m h;unfold Zm PM Ue at h
 split at h
 ·rename_i c hc;cases hc
 ·split at h
  ·split at h
   ·rename_i c hc
    cases h;unfold NG at hc
    obtain⟨b,_,e⟩:=Ze hc
    split at e
    ·exact Pr e
    ·cases e
   ·split at h
    ·cases h
    ·cases h
  ·cases h
theorem Ui{T:Tgt}{ft:XT}{fe:XE}{fx:XR}{s0:ZH}{n:Str}(hx:∀s m,fx s=some m->m=n):∀{ls:List PV}{m:Str},Xf T ft fe fx s0 ls=some m->m=n
 | [],_,h=>by cases h
 | l::r,m,h=>by
  obtain⟨s1,c,_,_,alt⟩:=Uh h
  rcases alt with⟨_,e⟩ | ⟨_,_,_,e⟩ | ⟨_,e⟩
  ·exact hx _ _ e
  ·exact Ui hx e
  ·exact Ui hx e
theorem WC:∀ls m,Zn ls=some m->m = "NoText":=by
 intro ls m h;unfold Zn PM Wy at h
 obtain⟨l,_,e⟩:=Ze h
 split at e
 ·exact Ui (fun s m h=>by
   unfold Y8 at h
   obtain⟨l,_,e⟩:=Ze h
   exact W0 _ _ e) e
 ·cases e
def Qr(i:Nat):Stmt:=PySem.Challenge.pw_purseweb_k05_numbers_written.main.body.getD i (.Pass ⟨0,0,0,0⟩)
section
variable {P:Program} {w:World} {K:PySem.W.Frag} {mg:Str->Option Value} {base:Heap}
abbrev YJ:Stmt:=Qr 19
theorem W3:ZI (["numbers"]:List Str) (["numbers"]:List Str) (Zj YJ):=⟨rfl,rfl,rfl,by decide +kernel,rfl,by decide +kernel,by decide +kernel⟩
theorem W4(Df:Def K mg "shown_numbers" YJ)(B:Sj mg):WG P w K mg base "shown_numbers" (["numbers"]:List Str) (Xt K ZO 1) 1:=
 YY (O:=[]) (k:=0) 1 Yh Df W3 (fun _ _ _ _ _ _ us hl=>match us,hl with | [_],_=>rfl) rfl rfl (by decide) (fun fa cdv A outer s H E hr=>
  (Zs (ZJ (VE.pure (Rf F.slot_str_join F.type_str_join Rg Rh UM ZN (Xo (["number"]:List Str) ([]:List Str) [] rfl (Sw (Zd (pv 0))) (by kernel_rfl) (fun _ _ _ _ _=>(Yy (i:=0) (show((["number"]:List Str)++([]:List Str)).Nodup by decide +kernel) rfl (Or.inl rfl) (.inr rfl))) (fun _ _ _ _ _=>YR) (fun _ _ _ _ _=>(Ym Wf Ri rfl B.str (by decide +kernel) (Zc (Zd (pv 0)) Zk)))))))))
abbrev W5:Stmt:=Qr 25
theorem sc_l_value:ZI (["_law_word","_law_figures"]:List Str) (["_law_word"]:List Str) (Zj W5):=⟨rfl,rfl,rfl,by decide +kernel,rfl,by decide +kernel,by decide +kernel⟩
theorem SI(Df:Def K mg "_law_value" W5)(B:Sj mg):WG P w K mg base "_law_value" (["_law_word"]:List Str) (Xt K YV 1) 1:=
 YY (O:=[]) (k:=0) 2 XJ Df sc_l_value (fun _ _ _ _ _ _ us hl=>match us,hl with | [_],_=>rfl) rfl rfl (by decide) (fun fa cdv A outer s H E hr=>
  (Zl (ZT (i:=1) sc_l_value.nd rfl (Or.inl rfl) (VE.pure (Zd (pv 0))))
  (Zl (YL (XZ hr.units (YU (Zd (pv 0)) XI (Y6 Zg)) ZN) (Zs (ZT (i:=1) sc_l_value.nd rfl (Or.inl rfl) (VE.pure (YU (Zd (pv 0)) (Y6 Zg) XI)))) ZV)
  (Zl (YL (VW.vt (XW (LN (ZZ Xy VZ rfl B.len (by decide +kernel) (Zc (Zd (pv 1)) Zk)) Zg) (XW (Nu (ZZ Xy VZ rfl B.len (by decide +kernel) (Zc (Zd (pv 1)) Zk)) Zg) (XW (VW.vt (Mr (Nu (ZZ Xy VZ rfl B.len (by decide +kernel) (Zc (Zd (pv 1)) Zk)) Zg) (Ou (XZ hr.units (Wl (Zd (pv 1)) Zg) ZN)))) (X5 (XZ hr.units (Zd (pv 0)) ZN)))))) (Zs (ZJ (VE.pure WQ))) ZV)
  (Zl (YL (Xk (Xa (ZZ (WL rfl) Su rfl B.all (by decide +kernel) (Zc (Xo (["_law_sign"]:List Str) ([]:List Str) [] rfl (Pb (Zd (pv 1))) (by kernel_rfl) (fun _ _ _ _ _=>(Yy (i:=0) (show((["_law_sign"]:List Str)++([]:List Str)).Nodup by decide +kernel) rfl (Or.inl rfl) (.inr rfl))) (fun _ _ _ _ _=>YR) (fun _ _ _ _ _=>(Q1 Pc Pc Pd Pd ZN (Zd (pv 0)) ZN))) Zk)))) (Zs (ZJ (VE.pure WQ))) ZV)
  (Zl (YL (XZ hr.units (Zd (pv 1)) (Zd (pv 0))) (Zs (ZJ (VE.pure (Ym WX Tc rfl B.int (by decide +kernel) (Zc (Zd (pv 1)) Zk))))) ZV)
  (Zs (ZJ (VE.pure (VQ Zg (Ym WX Tc rfl B.int (by decide +kernel) (Zc (Zd (pv 1)) Zk))))))))))))
abbrev Th:Stmt:=Qr 26
theorem sc_l_due:ZI (["_law_text","_law_found"]:List Str) (["_law_text"]:List Str) (Zj Th):=⟨rfl,rfl,rfl,by decide +kernel,rfl,by decide +kernel,by decide +kernel⟩
theorem Pt(Df:Def K mg "_law_due" Th)(B:Sj mg)(C_l_value:WG P w K mg base "_law_value" (["_law_word"]:List Str) (Xt K YV 1) 1):WG P w K mg base "_law_due" (["_law_text"]:List Str) (Xt K XM 1) 2:=
 YY (O:=[]) (k:=1) 2 Vx Df sc_l_due (fun _ _ _ _ _ _ us hl=>match us,hl with | [_],_=>rfl) rfl rfl (by decide) (fun fa cdv A outer s H E hr=>
  (Zl (OG (["_law_word"]:List Str) ([]:List Str) [] (i:=1) sc_l_due.nd rfl rfl rfl (U7 (VM.ve (Ub (Zd (pv 0)) ZN))) (by kernel_rfl) (fun _ _ _ _ _=>(Yy (i:=0) (show((["_law_word"]:List Str)++([]:List Str)).Nodup by decide +kernel) rfl (Or.inl rfl) (.inr rfl))) (fun _ _ _ _ _=>YR) (fun _ _ _ _ _=>(ZC C_l_value (hr.mono (by decide)) rfl (Zc (Zd (pv 0)) Zk))))
  (Zl (YL (ML WQ (Zd (pv 1))) (Zs (ZJ (VE.pure WQ))) ZV)
  (Zs (ZJ (VE.pure (Ym Yz V0 rfl B.tuple (by decide +kernel) (Zc (Zd (pv 1)) Zk))))))))
abbrev Uj:Stmt:=Qr 21
theorem Qc:ZI (["_law_script","_law_k"]:List Str) (["_law_script","_law_k"]:List Str) (Zj Uj):=⟨rfl,rfl,rfl,by decide +kernel,rfl,by decide +kernel,by decide +kernel⟩
theorem Qd(Df:Def K mg "_law_cell" Uj)(B:Sj mg):WG P w K mg base "_law_cell" (["_law_script","_law_k"]:List Str) (Xt K Zh 2) 1:=
 YY (O:=[]) (k:=0) 2 V9 Df Qc (fun _ _ _ _ _ _ us hl=>match us,hl with | [_,_],_=>rfl) rfl rfl (by decide) (fun fa cdv A outer s H E hr=>
  (Zs (ZJ (VE.pure (Wl (VM.ve (Ta (RU (Zd (pv 0)) (Y6 (Zd (pv 1))) (Y6 (Xj (Zd (pv 1)) Zg))) (Ss (Zc Zg Zk)))) Zg)))))
abbrev X9:Stmt:=Qr 16
theorem TZ:ZI (["word","most_figures"]:List Str) (["word","most_figures"]:List Str) (Zj X9):=⟨rfl,rfl,rfl,by decide +kernel,rfl,by decide +kernel,by decide +kernel⟩
theorem T1(Df:Def K mg "is_plain" X9)(B:Sj mg)(Z_FIGURES:OK mg "FIGURES" "0123456789"):WG P w K mg base "is_plain" (["word","most_figures"]:List Str) (Xt K Zy 2) 1:=
 YY (O:=[]) (k:=0) 2 Xp Df TZ (fun _ _ _ _ _ _ us hl=>match us,hl with | [_,_],_=>rfl) rfl rfl (by decide) (fun fa cdv A outer s H E hr=>
  (Zl (YL (Xk (Q2 Nl Nl (Oq _) (Oq _) Zg (ZZ Xy VZ rfl B.len (by decide +kernel) (Zc (Zd (pv 0)) Zk)) (Zd (pv 1)))) (Zs (ZJ (VE.pure S1))) ZV)
  (Zs (ZJ (VE.pure (QM (ZZ (WL rfl) Su rfl B.all (by decide +kernel) (Zc (Xo (["sign"]:List Str) ([]:List Str) [] rfl (Pb (Zd (pv 0))) (by kernel_rfl) (fun _ _ _ _ _=>(Yy (i:=0) (show((["sign"]:List Str)++([]:List Str)).Nodup by decide +kernel) rfl (Or.inl rfl) (.inr rfl))) (fun _ _ _ _ _=>YR) (fun _ _ _ _ _=>(MH (Zd (pv 0)) (OL rfl Z_FIGURES)))) Zk)) (Sq (LO (QY hr.units (Zd (pv 0)) ZN) (Sq (LV hr.units (Wl (Zd (pv 0)) Zg) ZN))))))))))
abbrev YC:Stmt:=Qr 18
theorem sc_read_number:ZI (["word","figures"]:List Str) (["word"]:List Str) (Zj YC):=⟨rfl,rfl,rfl,by decide +kernel,rfl,by decide +kernel,by decide +kernel⟩
theorem Uk(Df:Def K mg "read_number" YC)(B:Sj mg)(Z_MOST_FIGURES_IN_PURSES:LW mg "MOST_FIGURES_IN_PURSES" 30)(C_is_plain:WG P w K mg base "is_plain" (["word","most_figures"]:List Str) (Xt K Zy 2) 1):WG P w K mg base "read_number" (["word"]:List Str) (Xt K Zr 1) 2:=
 YY (O:=[]) (k:=1) 2 YB Df sc_read_number (fun _ _ _ _ _ _ us hl=>match us,hl with | [_],_=>rfl) rfl rfl (by decide) (fun fa cdv A outer s H E hr=>
  (Zl (ZT (i:=1) sc_read_number.nd rfl (Or.inl rfl) (VE.pure (Nv (Xa (Rf F.slot_str_startswith F.type_str_startswith UP UQ Vg (Zd (pv 0)) ZN)) (YU (Zd (pv 0)) (Y6 Zg) XI) (Zd (pv 0)))))
  (Zl (YL (VW.vt (XW (XZ hr.units (Zd (pv 0)) ZN) (X5 (Xk (Xa (VM.ve (ZC C_is_plain (hr.mono (by decide)) rfl (Zc (Zd (pv 1)) (Zc (SD rfl Z_MOST_FIGURES_IN_PURSES) Zk))))))))) (Zs (TH (W:=[]))) ZV)
  (Zs (ZJ (VE.pure (Ym WX Tc rfl B.int (by decide +kernel) (Zc (Zd (pv 0)) Zk))))))))
theorem Vn{Ca Cb:Addr}(Df:Def K mg "read_number" YC)(B:Sj mg)(Q:VX.QN "NoText" K mg Ca Cb)(Z_MOST_FIGURES_IN_PURSES:LW mg "MOST_FIGURES_IN_PURSES" 30)(C_is_plain:WG P w K mg base "is_plain" (["word","most_figures"]:List Str) (Xt K Zy 2) 1):VX.CalX P w K mg base "read_number" (["word"]:List Str) (VX.spX K Zm 1) 2:=
 VX.def_x (O:=[]) (k:=1) 2 (Ue PL (Zx 1 (eP (Ox (xB (Zf ZW (Za 0) (eC (.str "-")))) (WT Yl (Za 0) (Wr (eC (.int 1))) Vv) (Za 0))))
  (Ue (NG (Wd (xB (Zf (Yd false) (Za 0) (eC (.str "-0")))) (YD (xB (Zb Zy [(Za 1),(eC (.int 30))])))) (Wz "NoText" (Za 0)) PL) (X6 (Wd (xB (Zf (Yd false) (Za 0) (eC (.str "-0")))) (YD (xB (Zb Zy [(Za 1),(eC (.int 30))])))) WV ZL)
  PL)) Df sc_read_number (fun _ _ _ _ _ _ us hl=>match us,hl with | [_],_=>rfl) rfl rfl (by decide) (fun fa cdv A outer s H E hr=>
  (TQ NH (ZT (i:=1) sc_read_number.nd rfl (Or.inl rfl) (VE.pure (Nv (Xa (Rf F.slot_str_startswith F.type_str_startswith UP UQ Vg (Zd (pv 0)) ZN)) (YU (Zd (pv 0)) (Y6 Zg) XI) (Zd (pv 0)))))
  (TQ (L4 (VW.vt (XW (XZ hr.units (Zd (pv 0)) ZN) (X5 (Xk (Xa (VM.ve (ZC C_is_plain (hr.mono (by decide)) rfl (Zc (Zd (pv 1)) (Zc (SD rfl Z_MOST_FIGURES_IN_PURSES) Zk))))))))) (Tf (Qb F.excBase_ValueError Q.ex rfl Q.mgo Q.no rfl Ro (Zd (pv 0)))) MQ) (YL (VW.vt (XW (XZ hr.units (Zd (pv 0)) ZN) (X5 (Xk (Xa (VM.ve (ZC C_is_plain (hr.mono (by decide)) rfl (Zc (Zd (pv 1)) (Zc (SD rfl Z_MOST_FIGURES_IN_PURSES) Zk))))))))) (Zs (TH (W:=[]))) ZV)
  (Tf NH))))
abbrev Yu:Stmt:=Qr 17
theorem Xs:ZI (["text"]:List Str) (["text"]:List Str) (Zj Yu):=⟨rfl,rfl,rfl,by decide +kernel,rfl,by decide +kernel,by decide +kernel⟩
theorem Vo(Df:Def K mg "read_numbers" Yu)(B:Sj mg)(C_read_number:WG P w K mg base "read_number" (["word"]:List Str) (Xt K Zr 1) 2):WG P w K mg base "read_numbers" (["text"]:List Str) (Xt K ZM 1) 3:=
 YY (O:=[]) (k:=2) 1 Yt Df Xs (fun _ _ _ _ _ _ us hl=>match us,hl with | [_],_=>rfl) rfl rfl (by decide) (fun fa cdv A outer s H E hr=>
  (Zs (ZJ (VE.pure (Ym Yz V0 rfl B.tuple (by decide +kernel) (Zc (Xo (["word"]:List Str) ([]:List Str) [] rfl (U7 (VM.ve (Ub (Zd (pv 0)) ZN))) (by kernel_rfl) (fun _ _ _ _ _=>(Yy (i:=0) (show((["word"]:List Str)++([]:List Str)).Nodup by decide +kernel) rfl (Or.inl rfl) (.inr rfl))) (fun _ _ _ _ _=>YR) (fun _ _ _ _ _=>(VM.ve (ZC C_read_number (hr.mono (by decide)) rfl (Zc (Zd (pv 0)) Zk))))) Zk))))))
theorem W6{Ca Cb:Addr}(Df:Def K mg "read_numbers" Yu)(B:Sj mg)(Q:VX.QN "NoText" K mg Ca Cb)(C_read_number:WG P w K mg base "read_number" (["word"]:List Str) (Xt K Zr 1) 2)(X_read_number:VX.CalX P w K mg base "read_number" (["word"]:List Str) (VX.spX K Zm 1) 2):VX.CalX P w K mg base "read_numbers" (["text"]:List Str) (VX.spX K Zn 1) 3:=
 VX.def_x (O:=[]) (k:=2) 1 (Wy 1 [] (V1 (Zf Ys (Za 0) (eC (.str ",")))) (.one 0) ZS (Zb Zr [(Za 0)]) (Y8 Zm [(Za 0)])) Df Xs (fun _ _ _ _ _ _ us hl=>match us,hl with | [_],_=>rfl) rfl rfl (by decide) (fun fa cdv A outer s H E hr=>
  (Tf (MU (R9 Yz rfl B.tuple (by decide +kernel) (OW (["word"]:List Str) ([]:List Str) [] Ro rfl (U7 (VM.ve (Ub (Zd (pv 0)) ZN))) (by kernel_rfl) (fun _ _ _ _ _=>(Yy (i:=0) (show((["word"]:List Str)++([]:List Str)).Nodup by decide +kernel) rfl (Or.inl rfl) (.inr rfl))) (fun _ _ _ _ _=>YR) (fun _ _ _ _ _=>(VM.ve (ZC C_read_number (hr.mono (by decide)) rfl (Zc (Zd (pv 0)) Zk)))) (Pp X_read_number (hr.mono (by decide)) (fun _ _ _ _ _=>rfl) (fun _ _ _ _ _=>(Zc (Zd (pv 0)) Zk))))))))
abbrev Ul:Stmt:=Qr 23
theorem sc_l_kind:ZI (["_law_e","_law_found"]:List Str) (["_law_e"]:List Str) (Zj Ul):=⟨rfl,rfl,rfl,by decide +kernel,rfl,by decide +kernel,by decide +kernel⟩
theorem Qe(Df:Def K mg "_law_kind" Ul)(B:Sj mg){Ca Cb:Addr}(Q:VX.QN "NoText" K mg Ca Cb):WG P w K mg base "_law_kind" (["_law_e"]:List Str) (Xt K XC 1) 1:=
 YY (O:=[]) (k:=0) 2 WA Df sc_l_kind (fun _ _ _ _ _ _ us hl=>match us,hl with | [_],_=>rfl) rfl rfl (by decide) (fun fa cdv A outer s H E hr=>
  (Zl (ZT (i:=1) sc_l_kind.nd rfl (Or.inl rfl) (QQ (YX (VE.pure (VM.ve (Y0 Q rfl B.isinstance (Zd (pv 0)) (by decide) rfl))) (YX (VE.pure (VM.ve (Y0 Q rfl B.isinstance (Zd (pv 0)) (by decide) rfl))) (YX (VE.pure (VM.ve (Y0 Q rfl B.isinstance (Zd (pv 0)) (by decide) rfl))) (YX (VE.pure (VM.ve (Y0 Q rfl B.isinstance (Zd (pv 0)) (by decide) rfl))) S5))))))
  (Zl (ZT (i:=1) sc_l_kind.nd rfl (Or.inl rfl) (Ta (Zd (pv 1)) (Ss (Zc (VM.ve (Y0 Q rfl B.isinstance (Zd (pv 0)) (by decide) rfl)) (Zc (VM.ve (Y0 Q rfl B.isinstance (Zd (pv 0)) (by decide) rfl)) (Zc (VM.ve (Y0 Q rfl B.isinstance (Zd (pv 0)) (by decide) rfl)) Zk))))))
  (Zl (ZT (i:=1) sc_l_kind.nd rfl (Or.inl rfl) (Ta (Zd (pv 1)) (Ss (Zc (VM.ve (Y0 Q rfl B.isinstance (Zd (pv 0)) (by decide) rfl)) (Zc (VM.ve (Y0 Q rfl B.isinstance (Zd (pv 0)) (by decide) rfl)) (Zc (VM.ve (Y0 Q rfl B.isinstance (Zd (pv 0)) (by decide) rfl)) (Zc (VM.ve (Y0 Q rfl B.isinstance (Zd (pv 0)) (by decide) rfl)) Zk)))))))
  (Zl (YL (VW.vt (XW (Xk (Xa (VM.ve (OY Q rfl B.isinstance (Zd (pv 0)) rfl B.ValueError)))) (X5 (QZ hr.units (R8 (Zd (pv 1)) S1) Zg)))) (Zs (ZJ (VE.pure (QP Zg)))) ZV)
  (Zs (ZJ (VE.pure (R7 (Zd (pv 1)) S1)))))))))
abbrev W7:Stmt:=Qr 22
theorem SJ:ZI (["_law_thing"]:List Str) (["_law_thing"]:List Str) (Zj W7):=⟨rfl,rfl,rfl,by decide +kernel,rfl,by decide +kernel,by decide +kernel⟩
theorem SK(Df:Def K mg "_law_whole" W7)(B:Sj mg):WG P w K mg base "_law_whole" (["_law_thing"]:List Str) (Xt K YT 1) 1:=
 YY (O:=[]) (k:=0) 1 UK Df SJ (fun _ _ _ _ _ _ us hl=>match us,hl with | [_],_=>rfl) rfl rfl (by decide) (fun fa cdv A outer s H E hr=>
  (Zs (ZJ (VE.pure (QM (ZZ Y4 Vu rfl B.isinstance (by decide +kernel) (Zc (Zd (pv 0)) (Zc (S7 rfl B.int (by decide +kernel)) Zk))) (Sq (Ms (ZZ Y4 Vu rfl B.isinstance (by decide +kernel) (Zc (Zd (pv 0)) (Zc (S7 rfl B.bool (by decide +kernel)) Zk))))))))))
abbrev Um:Stmt:=Qr 27
theorem sc_l_told:ZI (["_law_text","_law_caught","_law_found","_law_e"]:List Str) (["_law_text"]:List Str) (Zj Um):=⟨rfl,rfl,rfl,by decide +kernel,rfl,by decide +kernel,by decide +kernel⟩
theorem Qf(Df:Def K mg "_law_told" Um)(B:Sj mg)(C_read_numbers:WG P w K mg base "read_numbers" (["text"]:List Str) (Xt K ZM 1) 3)(C_l_kind:WG P w K mg base "_law_kind" (["_law_e"]:List Str) (Xt K XC 1) 1)(C_l_whole:WG P w K mg base "_law_whole" (["_law_thing"]:List Str) (Xt K YT 1) 1){Ca Cb:Addr}(Q:VX.QN "NoText" K mg Ca Cb)(X_read_numbers:VX.CalX P w K mg base "read_numbers" (["text"]:List Str) (VX.spX K Zn 1) 3):WG P w K mg base "_law_told" (["_law_text"]:List Str) (Xt K Z9 1) 4:=
 YY (O:=[]) (k:=3) 4 WB Df sc_l_told (fun _ _ _ _ _ _ us hl=>match us,hl with | [_],_=>rfl) rfl rfl (by decide) (fun fa cdv A outer s H E hr=>
  (Zl (ZT (i:=1) sc_l_told.nd rfl (Or.inl rfl) (VE.pure WQ))
  (Zl (ZT (i:=2) sc_l_told.nd rfl (Or.inl rfl) (VE.pure WQ))
  (Zl (L6 (Pq Q X_read_numbers WC (hr.mono (by decide)) rfl (Zc (Zd (pv 0)) Zk) rfl rfl rfl sc_l_told.nd rfl rfl rfl (fun _=>(Zs (ZT (i:=1) sc_l_told.nd rfl (Or.inl rfl) (VE.pure (Zd (pv 3)))))) (by decide)) (OR (Zs (ZT (i:=2) sc_l_told.nd rfl (Or.inl rfl) (ZC C_read_numbers (hr.mono (by decide)) rfl (Zc (Zd (pv 0)) Zk))))))
  (Zl (YL (Oz (Zd (pv 1))) (Zs (ZJ (ZC C_l_kind (hr.mono (by decide)) rfl (Zc (Zd (pv 1)) Zk)))) ZV)
  (Zl (YL (VW.vt (XW (Xk (Xa (ZZ Y4 Vu rfl B.isinstance (by decide +kernel) (Zc (Zd (pv 2)) (Zc (S7 rfl B.tuple (by decide +kernel)) Zk))))) (X5 (Xk (Xa (ZZ (WL rfl) Su rfl B.all (by decide +kernel) (Zc (Xo (["_law_number_here"]:List Str) ([]:List Str) [] rfl (Sw (Zd (pv 2))) (by kernel_rfl) (fun _ _ _ _ _=>(Yy (i:=0) (show((["_law_number_here"]:List Str)++([]:List Str)).Nodup by decide +kernel) rfl (Or.inl rfl) (.inr rfl))) (fun _ _ _ _ _=>YR) (fun _ _ _ _ _=>(VM.ve (ZC C_l_whole (hr.mono (by decide)) rfl (Zc (Zd (pv 0)) Zk))))) Zk))))))) (Zs (ZJ (VE.pure (QP Zg)))) ZV)
  (Zs (ZJ (VE.pure (Zd (pv 2)))))))))))
abbrev Wa:Stmt:=Qr 24
theorem T2:ZI (["_law_cell_here"]:List Str) (["_law_cell_here"]:List Str) (Zj Wa):=⟨rfl,rfl,rfl,by decide +kernel,rfl,by decide +kernel,by decide +kernel⟩
theorem T4(Df:Def K mg "_law_number" Wa)(B:Sj mg):WG P w K mg base "_law_number" (["_law_cell_here"]:List Str) (Xt K ZY 1) 1:=
 YY (O:=[]) (k:=0) 1 Y1 Df T2 (fun _ _ _ _ _ _ us hl=>match us,hl with | [_],_=>rfl) rfl rfl (by decide) (fun fa cdv A outer s H E hr=>
  (Zl (YL (XZ hr.units (YH (Zd (pv 0)) Zg) Zg) (Zs (ZJ (VE.pure (VQ (YH (Wj (Zd (pv 0)) Zg) Zg) Zg)))) ZV)
  (Zl (YL (XZ hr.units (YH (Zd (pv 0)) Zg) Zg) (Zs (ZJ (VE.pure (VQ (YH (Wj (Zd (pv 0)) Zg) (Xj (U2 Zg (U3 Zg Zg)) Zg)) (U3 Zg Zg))))) ZV)
  (Zs (ZJ (VE.pure (Xj (VQ (YH (Wj (Zd (pv 0)) Zg) (VQ (U2 Zg (U3 Zg Zg)) Zg)) (U3 Zg Zg)) Zg)))))))
end
section
structure WM(X:Cx)(e:Expr)(f:XE):Prop where
 h:VM X e f
structure NJ(X:Cx)(es:List Expr)(fs:List XE):Prop where
 h:LQ X es fs
structure WS(X:Cx)(O W:List Nat)(st:Stmt)(f:XS):Prop where
 h:VS X O W st f
structure K2(X:Cx)(O W:List Nat)(st:List Stmt)(f:XS):Prop where
 h:Sy X O W st f
section
variable {X:Cx} {c d:Str} {j j2 j3:Nat} {n:Int} {p p2 p3 p4 p5 pos:Pos} {es:List Expr} {fs:List XE} {O W1 W2:List Nat} {st:Stmt} {ZF:List Stmt} {f g:XS}
theorem OZ:NJ X [] []:=⟨S5⟩
theorem Yi(hr:NJ X es fs):NJ X (.Constant (.str c) j p::es) (eP (eC (.str c))::fs):=⟨YX (VE.pure ZN) hr.h⟩
theorem O0(hr:NJ X es fs):NJ X (.BinOp (.Constant (.str d) j2 p2) .Mult (.Constant (.int n) j3 p3) p4::es) (eP (Zf YM (eC (.str d)) (eC (.int n)))::fs):=⟨YX (VE.pure (Xz Rk Rl ZN Zg)) hr.h⟩
theorem O1(hr:NJ X es fs):NJ X (.BinOp (.Constant (.str c) j p) .Add (.BinOp (.Constant (.str d) j2 p2) .Mult (.Constant (.int n) j3 p3) p4) p5::es) (eP (Zf Yc (eC (.str c)) (Zf YM (eC (.str d)) (eC (.int n))))::fs):=⟨YX (VE.pure (Xz X1 U4 ZN (Xz Rk Rl ZN Zg))) hr.h⟩
theorem MV(h:NJ X es fs)(hl:fs.length<=1000:=by decide):WM X (.List es pos) (Xm fs):=⟨QQ h.h hl⟩
theorem MW{i:Nat}{x:Str}{e:Expr}{fe:XE}{pos':Pos}(hN:X.N.Nodup)(hi:X.N[i]?=some x)(hx:M7 X.env.scope x)(he:WM X e fe)(hs:swapsWith e (some (.Name x pos')) pos.line X.env=pure false:=by rfl)(hf:X.fn x=true\/X.env.scope.names.lookup x=some .local:=by first | exact .inl rfl | exact .inr rfl | assumption):WS X O [i] (.Assign [.Name x pos'] e pos) (Zx i fe):=⟨ZT hN hi hx he.h hs hf⟩
theorem Pu(h1:WS X O W1 st f)(h2:Sy X O W2 ZF g):K2 X O (W1++W2) (st::ZF) (ZG f g):=⟨Zl h1.h h2⟩
theorem MX{c:Expr}{a b:List Stmt}{fc:XT}(hc:VT X c fc)(ha:K2 X O W1 a f)(hb:Sy X O W2 b g):VS X O (W1++W2) (.If c a b pos) (X6 fc f g):=YL hc ha.h hb
end
variable {P:Program} {w:World} {K:PySem.W.Frag} {mg:Str->Option Value} {base:Heap}
abbrev Pw:Stmt:=Qr 28
theorem sc_law:ZI (["_law_script","_law_numbers","_law_text","_law_told_here","_law_k","_law_at","_law_cell_here","_law_sign","_law_some","_law_due_here"]:List Str) (["_law_script"]:List Str) (Zj Pw):=⟨rfl,rfl,rfl,by decide +kernel,rfl,by decide +kernel,by decide +kernel⟩
theorem MY{ff:Addr}{fd:FuncData}(Fn:Fun K "law" "law" Pw ff fd)(B:Sj mg)(C_l_number:WG P w K mg base "_law_number" (["_law_cell_here"]:List Str) (Xt K ZY 1) 1)(C_l_cell:WG P w K mg base "_law_cell" (["_law_script","_law_k"]:List Str) (Xt K Zh 2) 1)(C_shown_numbers:WG P w K mg base "shown_numbers" (["numbers"]:List Str) (Xt K ZO 1) 1)(C_l_told:WG P w K mg base "_law_told" (["_law_text"]:List Str) (Xt K Z9 1) 4)(C_l_due:WG P w K mg base "_law_due" (["_law_text"]:List Str) (Xt K XM 1) 2):Wg P w K mg base S0 5 ff fd (["_law_script"]:List Str) (Xt K D_law 1):=
 MB (O:=[]) (k:=4) 10 Rq Fn sc_law rfl rfl (by decide) (fun fa cdv A outer s H E hr=>
  (Zl (ZT (i:=1) sc_law.nd rfl (Or.inl rfl) (VE.pure (Ym Yz V0 rfl B.tuple (by decide +kernel) (Zc (Xo (["_law_k"]:List Str) (["_law_script"]:List Str) [0] rfl (UH rfl B.range (Zc (Xj Zg (YH (VM.ve (ZC C_l_cell (hr.mono (by decide)) rfl (Zc (Zd (pv 0)) (Zc Zg Zk)))) Zg)) Zk)) (by kernel_rfl) (fun _ _ _ _ _=>(Yy (i:=0) (show((["_law_k"]:List Str)++(["_law_script"]:List Str)).Nodup by decide +kernel) rfl (Or.inl rfl) (.inr rfl))) (fun _ _ _ _ _=>YR) (fun _ _ _ _ _=>(VM.ve (ZC C_l_number (hr.mono (by decide)) rfl (Zc (VM.ve (ZC C_l_cell (hr.mono (by decide)) rfl (Zc (Zd (pv 1)) (Zc (Xj Zg (Zd (pv 0))) Zk)))) Zk))))) Zk))))
  (Zl (ZT (i:=2) sc_law.nd rfl (Or.inl rfl) (VE.pure (Rf F.slot_str_join F.type_str_join Rg Rh UM ZN (Xo (["_law_number_here"]:List Str) ([]:List Str) [] rfl (Sw (Zd (pv 1))) (by kernel_rfl) (fun _ _ _ _ _=>(Yy (i:=0) (show((["_law_number_here"]:List Str)++([]:List Str)).Nodup by decide +kernel) rfl (Or.inl rfl) (.inr rfl))) (fun _ _ _ _ _=>YR) (fun _ _ _ _ _=>(Ym Wf Ri rfl B.str (by decide +kernel) (Zc (Zd (pv 0)) Zk)))))))
  (Zl (ZT (i:=3) sc_law.nd rfl (Or.inl rfl) (ZC C_shown_numbers (hr.mono (by decide)) rfl (Zc (Zd (pv 1)) Zk)))
  (Zl (YL (VW.vt (XW (Xk (Xa (ZZ Y4 Vu rfl B.isinstance (by decide +kernel) (Zc (Zd (pv 3)) (Zc (S7 rfl B.str (by decide +kernel)) Zk))))) (XW (QZ hr.units (Zd (pv 3)) (Zd (pv 2))) (X5 (QZ hr.units (VM.ve (ZC C_l_told (hr.mono (by decide)) rfl (Zc (Zd (pv 2)) Zk))) (Zd (pv 1))))))) (Zs (ZJ (VE.pure S1))) ZV)
  (Zl (Mz PassesOwn.never rfl (UH rfl B.range (Zc (YH (VM.ve (ZC C_l_cell (hr.mono (by decide)) rfl (Zc (Zd (pv 0)) (Zc Zg Zk)))) Zg) Zk)) (Yy (i:=4) sc_law.nd rfl (Or.inl rfl)) (Zl (ZT (i:=5) sc_law.nd rfl (Or.inl rfl) (VE.pure (YH (VM.ve (ZC C_l_cell (hr.mono (by decide)) rfl (Zc (Zd (pv 0)) (Zc (Xj Zg (U2 Zg (Zd (pv 4)))) Zk)))) (Xj (ZZ Xy VZ rfl B.len (by decide +kernel) (Zc (Zd (pv 2)) Zk)) Zg))))
  (Zl (ZT (i:=6) sc_law.nd rfl (Or.inl rfl) (ZC C_l_cell (hr.mono (by decide)) rfl (Zc (Zd (pv 0)) (Zc (Xj Zg (U2 Zg (Zd (pv 4)))) Zk))))
  (Zl (ZT (i:=7) sc_law.nd rfl (Or.inl rfl) (VE.pure (Wl ZN (YH (Zd (pv 6)) Zg))))
  (Zs (ZT (i:=2) sc_law.nd rfl (Or.inl rfl) (VE.pure (Xz X1 U4 (Xz X1 U4 (YU (Zd (pv 2)) XI (Y6 (Zd (pv 5)))) (Zd (pv 7))) (YU (Zd (pv 2)) (Y6 (Xj (Zd (pv 5)) (YH (Wj (Zd (pv 6)) Zg) Zg))) XI)))))))))
  (Zl (MX (XZ hr.units (YH (VM.ve (ZC C_l_cell (hr.mono (by decide)) rfl (Zc (Zd (pv 0)) (Zc Zg Zk)))) Zg) Zg) (Pu (MW (i:=8) sc_law.nd rfl (Or.inl rfl) (MV (Yi (Yi (Yi (Yi (Yi (Yi (Yi (Yi (Yi (Yi (Yi (O1 (Yi (O0 OZ))))))))))))))))
  (Zs (ZT (i:=2) sc_law.nd rfl (Or.inl rfl) (VE.pure (Wl (Zd (pv 8)) (YH (Wj (VM.ve (ZC C_l_cell (hr.mono (by decide)) rfl (Zc (Zd (pv 0)) (Zc Zg Zk)))) Zg) Zg)))))) ZV)
  (Zl (ZT (i:=9) sc_law.nd rfl (Or.inl rfl) (ZC C_l_due (hr.mono (by decide)) rfl (Zc (Zd (pv 2)) Zk)))
  (Zl (YL (Mt (Zd (pv 9))) (Zs (ZJ (VE.pure (QY hr.units (VM.ve (ZC C_l_told (hr.mono (by decide)) rfl (Zc (Zd (pv 2)) Zk))) Zg)))) ZV)
  (Zs (ZJ (VE.pure (QY hr.units (VM.ve (ZC C_l_told (hr.mono (by decide)) rfl (Zc (Zd (pv 2)) Zk))) (Zd (pv 9)))))))))))))))
end
end PW
namespace VL
open PySem
def Zo(x:Str):List Nat:=x.cps.toList
theorem WD{x y:Str}(h:Zo x=Zo y):x=y:=by
 cases x;cases y;unfold Zo at h
 simp only at h
 rw[Str.mk.injEq]
 exact Array.toList_inj.mp h
theorem YS(x y:Str):Zo (x++y)=Zo x++Zo y:=by
 show(x.cps++y.cps).toList=_
 rw[Array.toList_append];rfl
theorem Rr{c:Nat}:∀{x y u v:List Nat},c∉x->c∉y->x++c::u=y++c::v->x=y/\u=v
 | [],[],u,v,_,_,h=>⟨rfl,by simpa using h⟩
 | [],b::y,u,v,_,hy,h=>by
  simp only[List.nil_append,List.cons_append,List.cons.injEq] at h
  exact absurd (by rw[h.1];simp) hy
 | a::x,[],u,v,hx,_,h=>by
  simp only[List.nil_append,List.cons_append,List.cons.injEq] at h
  exact absurd (by rw[h.1];simp) hx
 | a::x,b::y,u,v,hx,hy,h=>by
  simp only[List.cons_append,List.cons.injEq] at h
  obtain⟨e1,e2⟩:=Rr (fun z=>hx (by simp[z])) (fun z=>hy (by simp[z])) h.2
  exact⟨by rw[h.1,e1],e2⟩
theorem XN(c:Nat)(x y:Str)(r:List Str):Zo (Str.join ⟨#[c]⟩ (x::y::r))=Zo x++c::Zo (Str.join ⟨#[c]⟩ (y::r)):=by
 show Zo (x++⟨#[c]⟩++Str.join ⟨#[c]⟩ (y::r))=_
 rw[YS,YS,List.append_assoc];rfl
theorem T5{c:Nat}:∀{ps qs:List Str},ps≠[]->qs≠[]->(∀p∈ps,c∉Zo p)->(∀p∈qs,c∉Zo p)->Str.join ⟨#[c]⟩ ps=Str.join ⟨#[c]⟩ qs->ps=qs
 | [],_,h,_,_,_,_=>absurd rfl h
 | _,[],_,h,_,_,_=>absurd rfl h
 | [x],[y],_,_,_,_,h=>by rw[show x=y from h]
 | [x],y::z::r,_,_,hx,_,h=>by
  have e:=congrArg Zo h;rw[XN] at e
  have:c∈Zo x:=by rw[show Zo x=_ from e];simp
  exact absurd this (hx x (by simp))
 | x::z::r,[y],_,_,_,hy,h=>by
  have e:=congrArg Zo h;rw[XN] at e
  have:c∈Zo y:=by rw[show Zo y=_ from e.symm];simp
  exact absurd this (hy y (by simp))
 | x::x2::r,y::y2::q,_,_,hx,hy,h=>by
  have e:=congrArg Zo h;rw[XN,XN] at e
  obtain⟨e1,e2⟩:=Rr (hx x (by simp)) (hy y (by simp)) e
  rw[WD e1,T5 (by simp) (by simp) (fun p hp=>hx p (by simp[hp])) (fun p hp=>hy p (by simp[hp])) (WD e2)]
theorem SM{c:Nat}{ws:List Str}(h0:ws≠[])(h:∀p∈ws,c∉Zo p):Txt.split (Txt.join ⟨#[c]⟩ ws) ⟨#[c]⟩=ws:=by
 refine T5 (c:=c) (fun z=>?_) h0 (fun p hp=>StrLaws.split_free _ c p hp) h ?_
 ·have:=PyProof.Rows.split_pos (Txt.join ⟨#[c]⟩ ws) ⟨#[c]⟩
  rw[z] at this
  simp at this
 ·rw[StrLaws.join_split]
  exact StrLaws.glued_eq_join _ _
theorem Zz(x:Str):x.length=(Zo x).length:=by
 show x.cps.size=_
 unfold Zo;rw[Array.length_toList]
theorem Qg{c:Nat}{ws:List Str}{m:Nat}(hl:∀p∈ws,p.length<=m)(h:ws.length*(m+1)<=100000):JoinOk ⟨#[c]⟩ ws=true:=by
 have fold:∀(l:List Str)(a:Nat),(∀p∈l,p.length<=m)->l.foldl (fun(acc:Nat) (p:Str)=>acc+p.length+(⟨#[c]⟩:Str).length) a<=a+l.length*(m+1):=by
  intro l
  induction l with
  | nil=>intro a _;simp
  | cons x r ih=>
   intro a hp;rw[List.foldl_cons,List.length_cons,Nat.add_mul]
   have h1:=ih (a+x.length+(⟨#[c]⟩:Str).length) (fun p hp'=>hp p (by simp[hp']))
   have h2:=hp x (by simp)
   have h3:(⟨#[c]⟩:Str).length=1:=rfl
   omega
 have h1:=fold ws 0 hl;unfold JoinOk;rw[List.foldl_toArray']
 ·have h2:ws.foldl (fun(acc:Nat) (p:Str)=>acc+p.length+(⟨#[c]⟩:Str).length) 0<=100000:=by omega
  revert h2
  generalize ws.foldl (fun(acc:Nat) (p:Str)=>acc+p.length+(⟨#[c]⟩:Str).length) 0=n
  intro h2
  have h3:(100000:Nat)<=sizeLine:=by decide
  show(!Builtin.Str.tooLong n)=true
  unfold Builtin.Str.tooLong
  rw[decide_eq_false (by omega)];rfl
 ·rfl
end VL
namespace PW
open L2 VL
theorem Px(l:List PV)(lo hi:Option Int):(Vk l lo hi).length<=l.length:=by
 unfold Vk;rw[List.length_take,List.length_drop];omega
theorem Qh(ns:List Int)(k:Nat):VJ (Vk (iL ns) (some (k:Int)) (some ((k:Int)+1))++[PV.int 0]) 0=some (.int (Vd ns k)):=by
 have e1:((k:Int)+1)=((k+1:Nat):Int):=by omega
 rw[e1]
 refine Wh (j:=0) ?_
 unfold Vk;rw[HT.sIx_nat,HT.sIx_nat,List.length_map]
 by_cases h:k<ns.length
 ·rw[Nat.min_eq_left (by omega),Nat.min_eq_left (by omega),show k+1-k=1 by omega]
  rw[List.drop_eq_getElem_cons (by rw[List.length_map];exact h)]
  simp[Vd,List.getD_eq_getElem?_getD,List.getElem?_eq_getElem h]
 ·rw[Nat.min_eq_right (by omega),List.drop_eq_nil_of_le (by rw[List.length_map];omega)]
  simp[Vd,List.getD_eq_getElem?_getD,List.getElem?_eq_none (Nat.not_lt.mp h)]
theorem O2{ns:List Int}(h:ns.length<=63)(k:Nat):Zh [.cst (iL ns),.int (k:Int)]=some (.int (Vd ns k)):=by
 have hl:=Px (iL ns) (some (k:Int)) (some ((k:Int)+1))
 rw[List.length_map] at hl
 have hp:Z8 (Vk (iL ns) (some (k:Int)) (some ((k:Int)+1)))=true:=RT _ _ (UG ns)
 have c:(Vk (iL ns) (some (k:Int)) (some ((k:Int)+1))).length+1<=10000:=by omega
 simp[Zh,V9,Ws,Yr,Wr,Mx,V7,hp,c,Qh]
def tk(e:Ja):List Vs:=[.inl (e.1:Int),.inl (e.2.1:Int)]
def rL(M:List (List Int)):List PV:=M.map fun r=>.lst (iL r)
theorem Yo{f g:XS}{s s1:ZH}(e1:f s=some (.nx s1)):ZG f g s=g s1:=by
 simp only[Yf,e1,Option.bind_some]
end PW
namespace PW
open PySem L2 VL VX
abbrev sMi:Str:=("-" : String)
abbrev PN:Str:=("," : String)
structure Small(n:Nat)(x:Str):Prop where
 len:x.length<=n
 asc:∀c∈Zo x,c<128
theorem Small.mono{m n:Nat}{x:Str}(h:Small m x)(hmn:m<=n):Small n x:=⟨Nat.le_trans h.len hmn,h.asc⟩
theorem Small.app{m n:Nat}{x y:Str}(h:Small m x)(h':Small n y):Small (m+n) (x++y):=⟨by
 rw[Zz,YS,List.length_append,<-Zz,<-Zz]
 have:=h.len
 have:=h'.len
 omega,fun c hc=>by
 rw[YS,List.mem_append] at hc
 rcases hc with hc | hc
 ·exact h.asc c hc
 ·exact h'.asc c hc⟩
theorem Qi{x:Str}{lo hi:Option Int}{c:Nat}(h:c∈Zo (Txt.slice x lo hi)):c∈Zo x:=by
 unfold Txt.slice at h
 split at h
 ·exact h
 ·unfold Zo at h
  simp only at h
  rw[List.mem_filterMap] at h
  obtain⟨i,_,e⟩:=h
  unfold Zo;rw[Array.mem_toList_iff]
  exact Array.mem_of_getElem? e
theorem Small.slice{n:Nat}{x:Str}(h:Small n x)(lo hi:Option Int):Small n (Txt.slice x lo hi):=⟨Nat.le_trans (Txt.slice_le x lo hi) h.len,fun c hc=>h.asc c (Qi hc)⟩
theorem T6{sep:Str}{c:Nat}:∀{ps:List Str}{p:Str},p∈ps->c∈Zo p->c∈Zo (Str.join sep ps)
 | [x],p,hp,hc=>by
  rw[List.mem_singleton.mp hp] at hc;exact hc
 | x::y::r,p,hp,hc=>by
  show c∈Zo (x++sep++Str.join sep (y::r))
  rw[YS,YS]
  rcases List.mem_cons.mp hp with rfl | hp
  ·simp[hc]
  ·have:=T6 (sep:=sep) hp hc
   simp[this]
theorem Small.part{n:Nat}{x:Str}(h:Small n x){p:Str}(hp:p∈Txt.split x PN):Small n p:=⟨Nat.le_trans (PyProof.Rows.part_short hp) h.len,fun c hc=>h.asc c (by
 have:=T6 (sep:=PN) hp hc
 rwa [StrLaws.join_split] at this)⟩
theorem SN{n:Nat}{x:Str}(h:Small n x)(hn:n<=1000):(reprText x).length<=100000:=by
 have:=StrLaws.reprText_len x fun c hc=>by
  have:=h.asc c hc
  have:(128:Nat)<=16^8:=by decide
  omega
 have:=h.len
 omega
def YW(l:List Nat):List Nat:=if l.head?=some 45 then l.tail else l
def Xg(c:Nat):Bool:=decide (48<=c/\c<=57)
def Vp(l:List Nat):Bool:=decide (1<=(YW l).length)&&decide ((YW l).length<=30)&&(YW l).all Xg&&(decide (YW l=[48]) || !decide ((YW l).head?=some 48))&&!decide (l=[45,48])
def YF(l:List Nat):Int:=if l.head?=some 45 then-((NumText.digitsVal (YW l):Nat):Int) else((NumText.digitsVal (YW l):Nat):Int)
theorem Qj(x:Str):Txt.startswith x sMi=decide ((Zo x).head?=some 45):=by
 unfold Txt.startswith
 cases hx:Zo x with
 | nil=>
  have:x.length=0:=by rw[Zz,hx];rfl
  rw[this];rfl
 | cons c r=>
  have e:x=⟨(c::r).toArray⟩:=WD (by unfold Zo at hx ⊢;simpa using hx)
  subst e
  have h1:(0+sMi.length<=(⟨(c::r).toArray⟩:Str).length):=by show 0+1<=(c::r).toArray.size;simp
  rw[decide_eq_true h1,Bool.true_and]
  show((c::r).toArray.extract 0 (0+1)==#[45])=_
  have h2:(c::r).toArray.extract 0 (0+1) = #[c]:=by simp
  rw[h2]
  by_cases q:c=45
  ·subst q;simp
  ·simp[q]
theorem US(x:Str):Zo (Txt.slice x (some 1) none)=(Zo x).tail:=by
 by_cases h:(x.length:Int)<=1
 ·rw[PyProof.Rows.slice_beyond h]
  have:(Zo x).length<=1:=by rw[<-Zz];omega
  show []=_
  cases hx:Zo x with
  | nil=>rfl
  | cons c r=>rw[hx] at this;simp at this;rw[this];rfl
 ·rw[PyProof.Rows.slice_from_eq (b:=x.length) (by omega) (by omega) rfl]
  show((Zo x).drop 1).take ((x.length:Int)-1).toNat=_
  have e:((x.length:Int)-1).toNat=(Zo x).length-1:=by rw[Zz];omega
  rw[e,List.drop_one]
  exact List.take_of_length_le (by simp)
theorem O3(x:Str):Zo (Txt.slice x none (some 1))=(Zo x).take 1:=by
 by_cases h:(Zo x).length=0
 ·have hx:Zo x=[]:=List.length_eq_zero_iff.mp h
  rw[hx]
  have:=Txt.slice_le x none (some 1)
  rw[Zz,Zz,hx] at this
  exact List.length_eq_zero_iff.mp (by simpa using this)
 ·have e:Txt.slice x none (some 1)=StrLaws.sliceText x none (some 1):=rfl
  rw[e,StrLaws.sliceText_to ⟨by omega,by show(1:Int)<=((Zo x).length:Int);omega⟩]
  rfl
theorem W8{x:Str}{l:List Nat}(y:Str)(hy:Zo y=l):decide (x=y)=decide (Zo x=l):=by
 by_cases q:x=y
 ·rw[decide_eq_true q,decide_eq_true (by rw[q,hy])]
 ·rw[decide_eq_false q,decide_eq_false (fun z=>q (WD (by rw[z,hy])))]
theorem T7:∀c,c<128->(!(Builtin.Str.occurrences ("0123456789" : String) (⟨#[c]⟩:Str) 0 (Str.length ("0123456789" : String)) 1).isEmpty)=Xg c:=by decide +kernel
theorem Qk:∀c,c<128->(!decide ((⟨#[c]⟩:Str).cps.toList<(Str.ofString "0").cps.toList))=decide (48<=c)/\(!decide ((Str.ofString "9").cps.toList<(⟨#[c]⟩:Str).cps.toList))=decide (c<=57):=by decide +kernel
theorem Wb(neg:Bool)(a b:Str):Yd neg (.str a) (.str b)=some (.bl (if neg then !decide (a=b) else decide (a=b))):=by
 unfold Yd;rw[if_pos (show Y3 8 (.str a) (.str b)=true from rfl)]
 have:decide (PV.str a=PV.str b)=decide (a=b):=decide_eq_decide.mpr (by rw[PV.str.injEq])
 rw[this]
theorem SO{x:Str}(h:x.length<=1000):Yk [.str x]=some (.int ((Zo x).length:Int)):=by
 have:(1000:Nat)<=sizeLine:=by decide
 unfold Yk
 simp only
 rw[if_pos (by omega),Zz]
theorem Uo{x:Str}(h:x.length<=1000)(lo hi:Option Int):Yl (.str x) lo hi=some (.str (Txt.slice x lo hi)):=by
 have:(1000:Nat)<=sizeLine:=by decide
 unfold Yl
 simp only
 rw[if_pos (by omega)]
def W9(l:List Nat):Bool:=decide (1<=l.length)&&decide (l.length<=30)&&l.all Xg&&(decide (l=[48]) || !decide (l.head?=some 48))
abbrev L9:Str:=("NoText" : String)
theorem SQ(l:List Nat):Vp l=(W9 (YW l)&&!decide (l=[45,48])):=rfl
theorem Py(c:Nat):Zo (⟨#[c]⟩:Str)=[c]:=rfl
theorem T8{y:Str}(h:Small 1000 y):Zy [.str y,.int 30]=some (.bl (W9 (Zo y))):=by
 have gl:=SO h.len
 let st:ZH:=[some (.str y),some (.int 30)]
 have c0:Qq M9 M9 (eC (.int 1)) (Zb Yk [(Za 0)]) (Za 1) st=some (.bl (decide (1<=(Zo y).length)&&decide ((Zo y).length<=30))):=by
  unfold Qq;simp only[Sz,Zp,Yn,Wt,XA,st,List.getElem?_cons_zero,Option.join_some,Option.bind_some,Option.map_some,gl,List.getElem?_cons_succ,S9,YI]
  by_cases q:1<=(Zo y).length
  ·have:(1:Int)<=((Zo y).length:Int):=by omega
   simp only[decide_eq_true q,decide_eq_true this,if_true,Bool.true_and]
   congr 2
   exact decide_eq_decide.mpr (by omega)
  ·have:¬(1:Int)<=((Zo y).length:Int):=by omega
   simp only[decide_eq_false q,decide_eq_false this,Bool.false_eq_true,if_false,Bool.false_and]
 show Ws 2 Xp _=_
 unfold Xp
 show(ZG _ _ st).bind Vm=_
 unfold W9
 cases q:(decide (1<=(Zo y).length)&&decide ((Zo y).length<=30)) with
 | false=>
  rw[q] at c0
  rw[Yf,ZD,YE,ZK,c0];rfl
 | true=>
  rw[q] at c0
  have e1:X6 (YD (xB (Qq M9 M9 (eC (.int 1)) (Zb Yk [(Za 0)]) (Za 1)))) (Z2 (eP (eC (.bl false)))) ZL st=some (.nx st):=by
   rw[ZD,YE,ZK,c0];rfl
  rw[Yo e1]
  have hl:(Zo y).length<=1000:=by rw[<-Zz];exact h.len
  have cc:ZR 1 [] (Uc (Za 0)) (.one 0) ZS (Zf (SE false) (Za 0) (eC (.str "0123456789"))) st=some (.lst (((Zo y).map Xg).map PV.bl)):=by
   rw[Yv (Zo y) (fun c=>.str ⟨#[c]⟩) (fun c=>.bl (Xg c)) (show Uc (Za 0) st=some ((Zo y).map fun c=>.str ⟨#[c]⟩) from rfl) (by omega) fun c hc=>⟨[some (.str ⟨#[c]⟩)],rfl,rfl,?_⟩]
   ·rw[List.map_map];rfl
   ·have d:=T7 c (h.asc c hc)
    show SE false (.str ⟨#[c]⟩) (.str "0123456789")=_
    unfold SE
    simp only
    rw[d]
    simp
  have ga:Wm [.lst (((Zo y).map Xg).map PV.bl)]=some (.bl ((Zo y).all Xg)):=by
   rw[SA,List.all_map];rfl
  rw[Z3,ZU,Q5,ZK,Zp,Yn,cc];simp only[Wt,Option.bind_some,Option.map_some,ga,YI]
  cases qa:(Zo y).all Xg with
  | false=>rfl
  | true=>
   simp only[if_true,Bool.true_and]
   obtain⟨c,r,hy⟩:∃c r,Zo y=c::r:=by
    cases hy:Zo y with
    | nil=>rw[hy] at q;simp at q
    | cons c r=>exact⟨c,r,rfl⟩
   have gx:Wk (.str y) (.int 0)=some (.str ⟨#[c]⟩):=by
    have:(1000:Nat)<=sizeLine:=by decide
    have:=h.len
    unfold Wk
    simp only
    rw[if_pos (by omega)]
    have:VJ y.cps.toList ((0:Nat):Int)=some c:=Wh (by rw[show y.cps.toList=Zo y from rfl,hy];rfl)
    rw[show(0:Int)=((0:Nat):Int) from rfl,this];rfl
   have g1:=Wb false y ("0" : String)
   have g2:=Wb true (⟨#[c]⟩:Str) ("0" : String)
   have d1:decide (y=(Str.ofString "0"))=decide (Zo y=[48]):=W8 _ rfl
   have d2:decide ((⟨#[c]⟩:Str)=(Str.ofString "0"))=decide (Zo (⟨#[c]⟩:Str)=[48]):=W8 _ rfl
   simp only[OH,ZK,Zu,XA,Sz,st,List.getElem?_cons_zero,Option.join_some,Option.bind_some,gx,g1,g2,YI,if_false,if_true,Bool.false_eq_true,d1,d2];rw[hy]
   by_cases z:(c::r)=[48]
   ·simp[z]
   ·rw[decide_eq_false z]
    simp only[Bool.false_eq_true,if_false,Bool.false_or,List.head?_cons,Option.some.injEq,Py,List.cons.injEq,and_true];rfl
theorem UT{w:Str}(h:Small 1000 w):∃y:Str,Small 1000 y/\Zo y=YW (Zo w)/\∀z,eP (Ox (xB (Zf ZW (Za 0) (eC (.str "-")))) (WT Yl (Za 0) (Wr (eC (.int 1))) Vv) (Za 0)) [some (.str w),z]=some (.str y):=by
 have gs:ZW (.str w) (.str "-")=some (.bl (decide ((Zo w).head?=some 45))):=by
  unfold ZW
  simp only
  rw[Qj]
 unfold YW
 by_cases q:(Zo w).head?=some 45
 ·refine⟨Txt.slice w (some 1) none,h.slice _ _,?_,fun z=>?_⟩
  ·rw[if_pos q,US]
  ·rw[decide_eq_true q] at gs
   have c:xB (Zf ZW (Za 0) (eC (.str "-"))) [some (.str w),z]=some true:=by
    rw[ZK,Zu]
    show(ZW (.str w) (.str "-")).bind _=_
    rw[gs];rfl
   rw[ZU,Ra,c]
   show(Yl (.str w) (some 1) none).bind _=_
   rw[Uo h.len];rfl
 ·refine⟨w,h,?_,fun z=>?_⟩
  ·rw[if_neg q]
  ·rw[decide_eq_false q] at gs
   have c:xB (Zf ZW (Za 0) (eC (.str "-"))) [some (.str w),z]=some false:=by
    rw[ZK,Zu]
    show(ZW (.str w) (.str "-")).bind _=_
    rw[gs];rfl
   rw[ZU,Ra,c];rfl
theorem Rt{l:List Nat}(h:l.all Xg=true):NumText.AllDigits l:=fun c hc=>by
 have:=List.all_eq_true.mp h c hc
 exact of_decide_eq_true this
theorem O4{w:Str}(h:Small 1000 w)(ok:Vp (Zo w)=true):PySem.intText? w=some (YF (Zo w))/\w.length<=31:=by
 rw[SQ] at ok;unfold W9 at ok;simp only[Bool.and_eq_true,decide_eq_true_eq] at ok
 obtain⟨⟨⟨⟨h1,h2⟩,h3⟩,_⟩,_⟩:=ok
 have ad:=Rt h3;unfold YF
 have hn:YW (Zo w)≠[]:=fun z=>by rw[z] at h1;simp at h1
 have hlen:=Zz w
 by_cases q:(Zo w).head?=some 45
 ·rw[if_pos q]
  have e:Zo w=45::YW (Zo w):=by
   unfold YW;rw[if_pos q]
   cases hw:Zo w with
   | nil=>rw[hw] at q;cases q
   | cons c r=>rw[hw] at q;simp at q;rw[q];rfl
  have hl:w.length<=31:=by rw[hlen,e];simp;omega
  exact⟨intText_neg (show w.cps.toList=45::YW (Zo w) from e) ad hn (by omega),hl⟩
 ·rw[if_neg q]
  have e:YW (Zo w)=Zo w:=by unfold YW;rw[if_neg q]
  rw[e] at ad hn h2 ⊢
  exact⟨intText_digits ad hn (by omega),by omega⟩
theorem Ru{w y:Str}(h:Small 1000 w)(hy:Small 1000 y)(hf:Zo y=YW (Zo w)):Wd (xB (Zf (Yd false) (Za 0) (eC (.str "-0")))) (YD (xB (Zb Zy [(Za 1),(eC (.int 30))]))) [some (.str w),some (.str y)]=some (!Vp (Zo w)):=by
 have p:=T8 hy
 have g:=Wb false w ("-0" : String)
 have d:decide (w=(Str.ofString "-0"))=decide (Zo w=[45,48]):=W8 _ rfl
 have a1:xB (Zf (Yd false) (Za 0) (eC (.str "-0"))) [some (.str w),some (.str y)]=some (decide (Zo w=[45,48])):=by
  rw[ZK,Zu]
  show(Yd false (.str w) (.str "-0")).bind _=_
  rw[g];simp only[Bool.false_eq_true,if_false,Option.bind_some,YI,d]
 have a2:xB (Zb Zy [(Za 1),(eC (.int 30))]) [some (.str w),some (.str y)]=some (W9 (YW (Zo w))):=by
  rw[ZK,Zp]
  show(Zy [.str y,.int 30]).bind _=_
  rw[p,hf];rfl
 rw[Y7,a1,YE,a2,SQ]
 by_cases q:Zo w=[45,48]
 ·simp[q]
 ·simp[q]
theorem Y2{w:Str}(h:Small 1000 w)(ok:Vp (Zo w)=true):Zr [.str w]=some (.int (YF (Zo w)))/\Zm [.str w]=none:=by
 obtain⟨y,hy,hf,ey⟩:=UT h
 have c:=Ru h hy hf;rw[ok] at c
 obtain⟨iv,il⟩:=O4 h ok
 have q1:Zx 1 (eP (Ox (xB (Zf ZW (Za 0) (eC (.str "-")))) (WT Yl (Za 0) (Wr (eC (.int 1))) Vv) (Za 0))) [some (.str w),none]=some (.nx [some (.str w),some (.str y)]):=by
  rw[ZE,ey none];rfl
 have q2:X6 (Wd (xB (Zf (Yd false) (Za 0) (eC (.str "-0")))) (YD (xB (Zb Zy [(Za 1),(eC (.int 30))])))) WV ZL [some (.str w),some (.str y)]=some (.nx [some (.str w),some (.str y)]):=by
  rw[ZD,c];rfl
 constructor
 ·show Ws 2 YB _=_
  unfold YB
  show(ZG _ _ [some (.str w),none]).bind Vm=_
  rw[Yo q1,Yo q2,Z3,ZU,Zp]
  have g:Xr [.str w]=some (.int (YF (Zo w))):=by
   unfold Xr
   simp only
   rw[if_pos (by omega),iv];rfl
  show(((Xr [.str w]).bind _).map _).bind _=_
  rw[g];rfl
 ·unfold Zm PM
  show Ue _ _ _ [some (.str w),none]=_
  unfold Ue
  show(match (none:Option Str) with | some c=>some c | none=>_)=_
  simp only
  rw[q1]
  simp only
  have r1:NG (Wd (xB (Zf (Yd false) (Za 0) (eC (.str "-0")))) (YD (xB (Zb Zy [(Za 1),(eC (.int 30))])))) (Wz "NoText" (Za 0)) PL [some (.str w),some (.str y)]=none:=by
   unfold NG
   rw[c];rfl
  rw[r1]
  simp only
  rw[q2];rfl
theorem Up{w:Str}(h:Small 1000 w)(ok:Vp (Zo w)=false):Zm [.str w]=some L9:=by
 obtain⟨y,hy,hf,ey⟩:=UT h
 have c:=Ru h hy hf;rw[ok] at c
 have q1:Zx 1 (eP (Ox (xB (Zf ZW (Za 0) (eC (.str "-")))) (WT Yl (Za 0) (Wr (eC (.int 1))) Vv) (Za 0))) [some (.str w),none]=some (.nx [some (.str w),some (.str y)]):=by
  rw[ZE,ey none];rfl
 have r1:NG (Wd (xB (Zf (Yd false) (Za 0) (eC (.str "-0")))) (YD (xB (Zb Zy [(Za 1),(eC (.int 30))])))) (Wz "NoText" (Za 0)) PL [some (.str w),some (.str y)]=some L9:=by
  unfold NG;rw[c]
  show Wz "NoText" (Za 0) [some (.str w),some (.str y)]=_
  show(if(reprText w).length<=100000 then some _ else none)=_
  rw[if_pos (SN h (by omega))]
 unfold Zm PM
 show Ue _ _ _ [some (.str w),none]=_
 unfold Ue
 show(match (none:Option Str) with | some c=>some c | none=>_)=_
 simp only
 rw[q1]
 simp only
 rw[r1]
def Ql(l f:List Nat):Bool:=decide (f.length<1) || (decide (30<f.length) || ((decide (1<f.length)&&decide (f.head?=some 48)) || decide (l=[45,48])))
theorem SR(l:List Nat):Vp l=(!Ql l (YW l)&&(YW l).all Xg):=by
 rw[SQ];unfold W9 Ql
 generalize (YW l).all Xg=a
 generalize decide (l=[45,48])=z
 cases hf:YW l with
 | nil=>simp
 | cons c r=>
  cases r with
  | nil=>by_cases q:c=48<;>cases a<;>cases z<;>simp[q]
  | cons d r=>
   have e:(decide ((c::d::r)=[48]))=false:=decide_eq_false (by simp)
   rw[e]
   by_cases q2:30<(c::d::r).length
   ·rw[decide_eq_false (show ¬(c::d::r).length<=30 by omega),decide_eq_true q2];simp
   ·rw[decide_eq_true (show(c::d::r).length<=30 by omega),decide_eq_false q2]
    by_cases q:c=48<;>cases a<;>cases z<;>simp[q]
theorem O5(w:Str):decide (Txt.slice w none (some 1)=(Str.ofString "-"))=decide ((Zo w).head?=some 45):=by
 rw[W8 (l:=[45]) _ rfl,O3]
 cases Zo w with
 | nil=>simp
 | cons c r=>simp
theorem Pz{y:Str}{c:Nat}{r:List Nat}(h:y.length<=1000)(hy:Zo y=c::r):Wk (.str y) (.int 0)=some (.str ⟨#[c]⟩):=by
 have:(1000:Nat)<=sizeLine:=by decide
 unfold Wk
 simp only
 rw[if_pos (by omega)]
 have:VJ y.cps.toList ((0:Nat):Int)=some c:=Wh (by rw[show y.cps.toList=Zo y from rfl,hy];rfl)
 rw[show(0:Int)=((0:Nat):Int) from rfl,this];rfl
theorem PB{w:Str}(h:Small 1000 w):YV [.str w]=some (if Vp (Zo w)=true then .int (YF (Zo w)) else .non):=by
 have q1:Zx 1 (eP (Za 0)) [some (.str w),none]=some (.nx [some (.str w),some (.str w)]):=rfl
 obtain⟨y,hy,hf,q2⟩:∃y:Str,Small 1000 y/\Zo y=YW (Zo w)/\X6 (xB (Zf (Yd false) (WT Yl (Za 0) Vv (Wr (eC (.int 1)))) (eC (.str "-")))) (Zx 1 (eP (WT Yl (Za 0) (Wr (eC (.int 1))) Vv))) ZL [some (.str w),some (.str w)]=some (.nx [some (.str w),some (.str y)]):=by
  have c:xB (Zf (Yd false) (WT Yl (Za 0) Vv (Wr (eC (.int 1)))) (eC (.str "-"))) [some (.str w),some (.str w)]=some (decide ((Zo w).head?=some 45)):=by
   rw[ZK,Zu]
   show(((Yl (.str w) none (some 1))).bind fun x=>Yd false x (.str "-")).bind _=_
   rw[Uo h.len]
   show(Yd false (.str (Txt.slice w none (some 1))) (.str "-")).bind _=_
   rw[Wb];simp only[Bool.false_eq_true,if_false,Option.bind_some,YI];rw[O5]
  unfold YW
  by_cases q:(Zo w).head?=some 45
  ·refine⟨Txt.slice w (some 1) none,h.slice _ _,by rw[if_pos q,US],?_⟩
   rw[decide_eq_true q] at c;rw[ZD,c]
   show Zx 1 _ _=_
   rw[ZE,ZU]
   show((Yl (.str w) (some 1) none).bind _).map _=_
   rw[Uo h.len];rfl
  ·refine⟨w,h,by rw[if_neg q],?_⟩
   rw[decide_eq_false q] at c
   rw[ZD,c];rfl
 have gl:=SO hy.len;rw[hf] at gl
 have c3:Wd (xB (Zf M8 (Zb Yk [(Za 1)]) (eC (.int 1)))) (Wd (xB (Zf QK (Zb Yk [(Za 1)]) (eC (.int 30)))) (Wd (So (xB (Zf QK (Zb Yk [(Za 1)]) (eC (.int 1)))) (xB (Zf (Yd false) (Zf Wk (Za 1) (eC (.int 0))) (eC (.str "0"))))) (xB (Zf (Yd false) (Za 0) (eC (.str "-0")))))) [some (.str w),some (.str y)]=some (Ql (Zo w) (YW (Zo w))):=by
  have a1:xB (Zf M8 (Zb Yk [(Za 1)]) (eC (.int 1))) [some (.str w),some (.str y)]=some (decide ((YW (Zo w)).length<1)):=by
   rw[ZK,Zu]
   show(((Yk [.str y]).bind fun x=>M8 x (.int 1))).bind _=_
   rw[gl];simp only[Option.bind_some,S9,YI]
   congr 1
   exact decide_eq_decide.mpr (by omega)
  have a2:xB (Zf QK (Zb Yk [(Za 1)]) (eC (.int 30))) [some (.str w),some (.str y)]=some (decide (30<(YW (Zo w)).length)):=by
   rw[ZK,Zu]
   show(((Yk [.str y]).bind fun x=>QK x (.int 30))).bind _=_
   rw[gl];simp only[Option.bind_some,S9,YI]
   congr 1
   exact decide_eq_decide.mpr (by omega)
  have a3:xB (Zf QK (Zb Yk [(Za 1)]) (eC (.int 1))) [some (.str w),some (.str y)]=some (decide (1<(YW (Zo w)).length)):=by
   rw[ZK,Zu]
   show(((Yk [.str y]).bind fun x=>QK x (.int 1))).bind _=_
   rw[gl];simp only[Option.bind_some,S9,YI]
   congr 1
   exact decide_eq_decide.mpr (by omega)
  have a5:xB (Zf (Yd false) (Za 0) (eC (.str "-0"))) [some (.str w),some (.str y)]=some (decide (Zo w=[45,48])):=by
   rw[ZK,Zu]
   show(Yd false (.str w) (.str "-0")).bind _=_
   rw[Wb];simp only[Bool.false_eq_true,if_false,Option.bind_some,YI]
   rw[show decide (w=(Str.ofString "-0"))=decide (Zo w=[45,48]) from W8 _ rfl]
  have a4:1<(YW (Zo w)).length->xB (Zf (Yd false) (Zf Wk (Za 1) (eC (.int 0))) (eC (.str "0"))) [some (.str w),some (.str y)]=some (decide ((YW (Zo w)).head?=some 48)):=fun hl=>by
   obtain⟨c,r,hc⟩:∃c r,YW (Zo w)=c::r:=by
    cases hc:YW (Zo w) with
    | nil=>rw[hc] at hl;simp at hl
    | cons c r=>exact⟨c,r,rfl⟩
   rw[ZK,Zu]
   show((Wk (.str y) (.int 0)).bind fun x=>Yd false x (.str "0")).bind _=_
   rw[Pz hy.len (hf.trans hc)]
   show(Yd false (.str ⟨#[c]⟩) (.str "0")).bind _=_
   rw[Wb];simp only[Bool.false_eq_true,if_false,Option.bind_some,YI]
   rw[show decide ((⟨#[c]⟩:Str)=(Str.ofString "0"))=decide (Zo (⟨#[c]⟩:Str)=[48]) from W8 _ rfl,Py,hc]
   simp
  rw[Y7,a1];unfold Ql
  by_cases z1:(YW (Zo w)).length<1
  ·simp[z1]
  ·rw[decide_eq_false z1]
   simp only[Option.bind_some,Bool.false_eq_true,if_false,Bool.false_or];rw[Y7,a2]
   by_cases z2:30<(YW (Zo w)).length
   ·simp[z2]
   ·rw[decide_eq_false z2]
    simp only[Option.bind_some,Bool.false_eq_true,if_false,Bool.false_or];rw[Y7,Q4,a3]
    by_cases z3:1<(YW (Zo w)).length
    ·rw[decide_eq_true z3]
     simp only[Option.bind_some,if_true,a4 z3,Bool.true_and]
     by_cases z4:(YW (Zo w)).head?=some 48
     ·simp[z4]
     ·rw[decide_eq_false z4]
      simp only[Bool.false_eq_true,if_false,Bool.false_or,a5]
    ·rw[decide_eq_false z3]
     simp only[Option.bind_some,Bool.false_eq_true,if_false,Bool.false_and,Bool.false_or,a5]
 have hl:(Zo y).length<=1000:=by rw[<-Zz];exact hy.len
 have c4:Zb Wm [(ZR 1 [] (Uc (Za 1)) (.one 0) ZS (Qq WY WY (eC (.str "0")) (Za 0) (eC (.str "9"))))] [some (.str w),some (.str y)]=some (.bl ((YW (Zo w)).all Xg)):=by
  have cc:ZR 1 [] (Uc (Za 1)) (.one 0) ZS (Qq WY WY (eC (.str "0")) (Za 0) (eC (.str "9"))) [some (.str w),some (.str y)]=some (.lst (((Zo y).map Xg).map PV.bl)):=by
   rw[Yv (Zo y) (fun c=>.str ⟨#[c]⟩) (fun c=>.bl (Xg c)) (show Uc (Za 1) [some (.str w),some (.str y)]=some ((Zo y).map fun c=>.str ⟨#[c]⟩) from rfl) (by omega) fun c hc=>⟨[some (.str ⟨#[c]⟩)],rfl,rfl,?_⟩]
   ·rw[List.map_map];rfl
   ·obtain⟨d1,d2⟩:=Qk c (hy.asc c hc)
    unfold Qq
    show(((WY (.str "0") (.str ⟨#[c]⟩)).bind MA).bind fun k=>if k=true then WY (.str ⟨#[c]⟩) (.str "9") else some (.bl false))=_
    unfold WY;simp only[Option.bind_some,YI];rw[d1,d2];unfold Xg
    by_cases z:48<=c
    ·simp[z]
    ·simp[z]
  rw[Zp,Yn,cc]
  show Wm [.lst (((Zo y).map Xg).map PV.bl)]=_
  rw[SA,List.all_map,hf];rfl
 show Ws 2 XJ _=_
 unfold XJ
 show(ZG _ _ [some (.str w),none]).bind Vm=_
 rw[Yo q1,Yo q2]
 cases hb:Ql (Zo w) (YW (Zo w)) with
 | true=>
  rw[hb] at c3
  rw[Yf,ZD,c3,SR,hb];rfl
 | false=>
  rw[hb] at c3
  have q3:X6 (Wd (xB (Zf M8 (Zb Yk [(Za 1)]) (eC (.int 1)))) (Wd (xB (Zf QK (Zb Yk [(Za 1)]) (eC (.int 30)))) (Wd (So (xB (Zf QK (Zb Yk [(Za 1)]) (eC (.int 1)))) (xB (Zf (Yd false) (Zf Wk (Za 1) (eC (.int 0))) (eC (.str "0"))))) (xB (Zf (Yd false) (Za 0) (eC (.str "-0"))))))) (Z2 (eP (eC .non))) ZL [some (.str w),some (.str y)]=some (.nx [some (.str w),some (.str y)]):=by
   rw[ZD,c3];rfl
  rw[Yo q3]
  cases hd:(YW (Zo w)).all Xg with
  | false=>
   rw[hd] at c4
   rw[Yf,ZD,YE,ZK,c4,SR,hb,hd];rfl
  | true=>
   rw[hd] at c4
   have q4:X6 (YD (xB (Zb Wm [(ZR 1 [] (Uc (Za 1)) (.one 0) ZS (Qq WY WY (eC (.str "0")) (Za 0) (eC (.str "9"))))]))) (Z2 (eP (eC .non))) ZL [some (.str w),some (.str y)]=some (.nx [some (.str w),some (.str y)]):=by
    rw[ZD,YE,ZK,c4];rfl
   have ok:Vp (Zo w)=true:=by rw[SR,hb,hd];rfl
   rw[Yo q4,if_pos ok]
   have lim:(YW (Zo w)).length<=30/\1<=(YW (Zo w)).length:=by
    unfold Ql at hb;simp only[Bool.or_eq_false_iff,decide_eq_false_iff_not] at hb;omega
   have gi:Xr [.str y]=some (.int ((NumText.digitsVal (YW (Zo w)):Nat):Int)):=by
    have hyl:=Zz y;rw[hf] at hyl;unfold Xr
    simp only
    rw[if_pos (by omega)];have ad:=Rt hd;rw[<-hf] at ad
    rw[intText_digits (show NumText.AllDigits y.cps.toList from ad) (show Zo y≠[] from fun z=>by rw[hf] at z;rw[z] at lim;simp at lim) (by omega),show y.cps.toList=Zo y from rfl,hf];rfl
   have ge:xB (Zf (Yd false) (Za 1) (Za 0)) [some (.str w),some (.str y)]=some (!decide ((Zo w).head?=some 45)):=by
    rw[ZK,Zu]
    show(Yd false (.str y) (.str w)).bind _=_
    rw[Wb];simp only[Bool.false_eq_true,if_false,Option.bind_some,YI]
    congr 1
    by_cases q:(Zo w).head?=some 45
    ·rw[decide_eq_true q,decide_eq_false]
     ·rfl
     ·intro z
      have e:YW (Zo w)=Zo w:=by rw[<-hf,z]
      unfold YW at e;rw[if_pos q] at e
      have:=congrArg List.length e
      cases hw:Zo w with
      | nil=>rw[hw] at q;cases q
      | cons c r=>rw[hw] at this;simp at this
    ·rw[decide_eq_false q,decide_eq_true]
     ·rfl
     ·exact WD (by rw[hf];unfold YW;rw[if_neg q])
   unfold YF
   by_cases q:(Zo w).head?=some 45
   ·rw[decide_eq_true q] at ge
    rw[if_pos q,Yf,ZD,ge]
    show((Z2 _ [some (.str w),some (.str y)])).bind _=_
    rw[Z3,ZU,Zu]
    show((((Xr [.str y]).bind fun z=>Sm (.int 0) z).bind _).map _).bind _=_
    rw[gi]
    simp
   ·rw[decide_eq_false q] at ge
    rw[if_neg q,Yf,ZD,ge]
    show((match (Z2 _ [some (.str w),some (.str y)]) with | o=>o).bind _).bind _=_
    simp only
    rw[Z3,ZU,Zp]
    show(((((Xr [.str y]).bind _).map _).bind _).bind _)=_
    rw[gi];rfl
def Uq(t:Str):List Str:=Txt.split t PN
def Qs(t:Str):Bool:=(Uq t).all fun w=>Vp (Zo w)
def WH(t:Str):List Int:=(Uq t).map fun w=>YF (Zo w)
theorem PD{t:Str}(h:Small 1000 t):Ys (.str t) (.str ",")=some (.lst ((Uq t).map .str)):=by
 have:(2000:Nat)<=sizeLine:=by decide
 have:=h.len
 unfold Ys
 simp only
 rw[if_pos ⟨rfl,by omega⟩];rfl
theorem Vy{t:Str}(h:Small 1000 t):(Uq t).length<=10000:=by
 have:=UN t PN
 have:=h.len
 unfold Uq;omega
theorem XQ{t:Str}(h:Small 1000 t):∀w∈Uq t,Small 1000 w:=fun w hw=>h.part hw
theorem WE{t:Str}(h:Small 1000 t)(r:ZH):V1 (Zf Ys (Za 0) (eC (.str ","))) (some (.str t)::r)=some ((Uq t).map .str):=by
 unfold V1
 rw[show Zf Ys (Za 0) (eC (.str ",")) (some (.str t)::r)=Ys (.str t) (.str ",") from rfl,PD h];rfl
theorem Vq{t:Str}(h:Small 1000 t)(ok:Qs t=true):ZM [.str t]=some (pP (WH t))/\Zn [.str t]=none:=by
 have hok:∀w∈Uq t,Vp (Zo w)=true:=fun w hw=>List.all_eq_true.mp ok w hw
 have fe:∀w∈Uq t,Zb Zr [(Za 0)] [some (.str w)]=some (.int (YF (Zo w))):=fun w hw=>by
  rw[Zp]
  exact(Y2 (XQ h w hw) (hok w hw)).1
 have fx:∀w∈Uq t,Y8 Zm [(Za 0)] [some (.str w)]=none:=fun w hw=>by
  unfold Y8
  exact(Y2 (XQ h w hw) (hok w hw)).2
 constructor
 ·show Ws 1 Yt _=_
  unfold Yt
  show(Z2 _ [some (.str t)]).bind Vm=_
  have c:ZR 1 [] (V1 (Zf Ys (Za 0) (eC (.str ",")))) (.one 0) ZS (Zb Zr [(Za 0)]) [some (.str t)]=some (.lst ((Uq t).map fun w=>.int (YF (Zo w)))):=
   Yv (Uq t) PV.str (fun w=>.int (YF (Zo w))) (WE h []) (Vy h) fun w hw=>⟨[some (.str w)],rfl,rfl,fe w hw⟩
  rw[Z3,ZU,Zp,Yn,c];unfold WH;simp only[Wt,Option.bind_some,Option.map_some,V8]
  rw[show((List.map (fun w=>PV.int (YF (Zo w))) (Uq t)))=iL ((Uq t).map fun w=>YF (Zo w)) from by rw[iL,List.map_map];rfl]
  generalize (Uq t).map (fun w=>YF (Zo w))=l
  simp
 ·unfold Zn PM
  show Wy 1 [] _ _ _ _ _ [some (.str t)]=_
  unfold Wy
  rw[WE h []]
  simp only[Option.bind_some]
  split
  ·have go:∀l:List Str,(∀w∈l,w∈Uq t)->Xf (.one 0) ZS (Zb Zr [(Za 0)]) (Y8 Zm [(Za 0)]) (ZQ 1 [] [some (.str t)]) (l.map .str)=none:=by
    intro l
    induction l with
    | nil=>intro _;rfl
    | cons w r ih=>
     intro hl
     have h1:=fx w (hl w (by simp))
     have h2:=fe w (hl w (by simp))
     rw[List.map_cons];unfold Xf
     show(match Y8 Zm [(Za 0)] [some (.str w)] with | some n=>some n | none=>(Zb Zr [(Za 0)] [some (.str w)]).bind fun _=>_)=_
     rw[h1,h2]
     exact ih fun x hx=>hl x (by simp[hx])
   exact go _ fun w hw=>hw
  ·rfl
theorem Vr{t:Str}(h:Small 1000 t)(ok:Qs t=false):Zn [.str t]=some L9:=by
 unfold Zn PM
 show Wy 1 [] _ _ _ _ _ [some (.str t)]=_
 unfold Wy
 rw[WE h []]
 simp only[Option.bind_some]
 rw[if_pos (by rw[List.length_map];exact Vy h)]
 have go:∀l:List Str,(∀w∈l,w∈Uq t)->l.all (fun w=>Vp (Zo w))=false->Xf (.one 0) ZS (Zb Zr [(Za 0)]) (Y8 Zm [(Za 0)]) (ZQ 1 [] [some (.str t)]) (l.map .str)=some L9:=by
  intro l
  induction l with
  | nil=>intro _ z;cases z
  | cons w r ih=>
   intro hl hn;rw[List.map_cons];unfold Xf
   show(match Y8 Zm [(Za 0)] [some (.str w)] with | some n=>some n | none=>(Zb Zr [(Za 0)] [some (.str w)]).bind fun _=>_)=_
   have sm:=XQ h w (hl w (by simp))
   cases q:Vp (Zo w) with
   | false=>
    have:Y8 Zm [(Za 0)] [some (.str w)]=some L9:=by
     unfold Y8
     exact Up sm q
    rw[this]
   | true=>
    obtain⟨a,b⟩:=Y2 sm q
    have h1:Y8 Zm [(Za 0)] [some (.str w)]=none:=by unfold Y8;exact b
    have h2:Zb Zr [(Za 0)] [some (.str w)]=some (.int (YF (Zo w))):=by rw[Zp];exact a
    rw[h1,h2];rw[List.all_cons,q,Bool.true_and] at hn
    exact ih (fun x hx=>hl x (by simp[hx])) hn
 exact go _ (fun w hw=>hw) ok
theorem O6:XC [.exc "NoText"]=some (.int 2):=by
 have t':∀(cx:PySem.Str)(x:Option PV),Yg (Vh "NoText" cx) (Za 0) [some (.exc "NoText"),x]=some (.bl (decide (cx = "NoText"))):=fun cx x=>by
  simp[Yg,Vh]
 have v':∀(x:Option PV),Yg (Ld "NoText") (Za 0) [some (.exc "NoText"),x]=some (.bl true):=fun x=>by
  simp[Yg,Ld]
 have e1:Zx 1 (Xm [(eP (Yg (Vh "NoText" "NoWeb") (Za 0))),(eP (Yg (Vh "NoText" "Apart") (Za 0))),(eP (Yg (Vh "NoText" "NoText") (Za 0))),(eP (Yg (Vh "NoText" "NoOrder") (Za 0)))]) [some (.exc "NoText"),none]=some (.nx [some (.exc "NoText"),some (.lst (bL [false,false,true,false]))]):=by
  rw[ZE];simp only[Xm,Vj,ZU,t',Option.bind_some,Yp,if_true,Option.map_some];rfl
 have e2:Zx 1 (Zf V7 (Za 1) (Xm [(Yg (Vh "NoText" "TooMany") (Za 0)),(Yg (Vh "NoText" "NotSettled") (Za 0)),(Yg (Vh "NoText" "NoTree") (Za 0))])) [some (.exc "NoText"),some (.lst (bL [false,false,true,false]))]=some (.nx [some (.exc "NoText"),some (.lst (bL [false,false,true,false,false,false,false]))]):=by
  rw[ZE,Zu];simp only[Xm,Vj,t',Option.bind_some,Option.map_some,XA];rfl
 have e3:Zx 1 (Zf V7 (Za 1) (Xm [(Yg (Vh "NoText" "NoTotal") (Za 0)),(Yg (Vh "NoText" "NoEnds") (Za 0)),(Yg (Vh "NoText" "NoRow") (Za 0)),(Yg (Vh "NoText" "NoName") (Za 0))])) [some (.exc "NoText"),some (.lst (bL [false,false,true,false,false,false,false]))]=some (.nx [some (.exc "NoText"),some (.lst (bL [false,false,true,false,false,false,false,false,false,false,false]))]):=by
  rw[ZE,Zu];simp only[Xm,Vj,t',Option.bind_some,Option.map_some,XA];rfl
 have c:Zf Wx (Za 1) (eC (.bl true)) [some (.exc "NoText"),some (.lst (bL [false,false,true,false,false,false,false,false,false,false,false]))]=some (.int 1):=rfl
 have x:Zf Vw (Za 1) (eC (.bl true)) [some (.exc "NoText"),some (.lst (bL [false,false,true,false,false,false,false,false,false,false,false]))]=some (.int 2):=rfl
 have e4:X6 (Wd (YD (xB (Yg (Ld "NoText") (Za 0)))) (xB (Zf (Yd true) (Zf Wx (Za 1) (eC (.bl true))) (eC (.int 1))))) (Z2 (eP (Mu RO (eC (.int 1))))) ZL [some (.exc "NoText"),some (.lst (bL [false,false,true,false,false,false,false,false,false,false,false]))]=some (.nx [some (.exc "NoText"),some (.lst (bL [false,false,true,false,false,false,false,false,false,false,false]))]):=by
  rw[ZD,Y7,YE,ZK,v'];simp only[Option.bind_some,MA,Option.map_some,Bool.not_true,Bool.false_eq_true,if_false];rw[ZK,Zu,c]
  simp
 show Ws 2 WA _=_
 unfold WA
 show(ZG _ _ [some (.exc "NoText"),none]).bind Vm=_
 rw[Yo e1,Yo e2,Yo e3,Yo e4,Z3,ZU,x];rfl
theorem MZ{t:Str}(h:Small 1000 t):XM [.str t]=some (if Qs t=true then pP (WH t) else .non):=by
 let oi:List (Option Int):=(Uq t).map fun w=>if Vp (Zo w)=true then some (YF (Zo w)) else none
 have q1:Zx 1 (ZR 1 [] (V1 (Zf Ys (Za 0) (eC (.str ",")))) (.one 0) ZS (Zb YV [(Za 0)])) [some (.str t),none]=some (.nx [some (.str t),some (.lst (oi.map Sa))]):=by
  have c:ZR 1 [] (V1 (Zf Ys (Za 0) (eC (.str ",")))) (.one 0) ZS (Zb YV [(Za 0)]) [some (.str t),none]=some (.lst ((Uq t).map fun w=>if Vp (Zo w)=true then .int (YF (Zo w)) else .non)):=
   Yv (Uq t) PV.str (fun w=>if Vp (Zo w)=true then .int (YF (Zo w)) else .non) (WE h _) (Vy h) fun w hw=>⟨[some (.str w)],rfl,rfl,by
    rw[Zp]
    exact PB (XQ h w hw)⟩
  rw[ZE,c]
  have:(Uq t).map (fun w=>if Vp (Zo w)=true then PV.int (YF (Zo w)) else PV.non)=oi.map Sa:=by
   rw[List.map_map]
   refine List.map_congr_left fun w _=>?_
   show _=Sa (if Vp (Zo w)=true then some (YF (Zo w)) else none)
   cases Vp (Zo w)<;>rfl
  rw[this];rfl
 have an:oi.any Option.isNone = !Qs t:=by
  have:∀l:List Str,(l.map fun w=>if Vp (Zo w)=true then some (YF (Zo w)) else none).any Option.isNone = !(l.all fun w=>Vp (Zo w)):=by
   intro l
   induction l with
   | nil=>rfl
   | cons w r ih=>
    rw[List.map_cons,List.any_cons,List.all_cons,ih]
    cases Vp (Zo w)<;>simp
  exact this _
 have c2:xB (Zf TM (eC .non) (Za 1)) [some (.str t),some (.lst (oi.map Sa))]=some (!Qs t):=by
  rw[ZK,Zu]
  show(TM .non (.lst (oi.map Sa))).bind _=_
  unfold TM
  simp only
  rw[Ud,Option.map_some,an];rfl
 show Ws 2 Vx _=_
 unfold Vx
 show(ZG _ _ [some (.str t),none]).bind Vm=_
 rw[Yo q1]
 cases ok:Qs t with
 | false=>
  rw[ok] at c2
  rw[Yf,ZD,c2];rfl
 | true=>
  rw[ok] at c2
  have q2:X6 (xB (Zf TM (eC .non) (Za 1))) (Z2 (eP (eC .non))) ZL [some (.str t),some (.lst (oi.map Sa))]=some (.nx [some (.str t),some (.lst (oi.map Sa))]):=by
   rw[ZD,c2];rfl
  have e:oi.map Sa=iL (WH t):=by
   unfold WH;rw[iL,List.map_map,List.map_map]
   refine List.map_congr_left fun w hw=>?_
   have:=List.all_eq_true.mp ok w hw
   show Sa (if Vp (Zo w)=true then some (YF (Zo w)) else none)=_
   rw[if_pos this];rfl
  rw[Yo q2,if_pos rfl,e,Z3,ZU]
  show(((Xn [.lst (iL (WH t))]).bind _).map _).bind _=_
  rw[V8]
  simp
theorem Rv{t:Str}(h:Small 1000 t):Z9 [.str t]=some (if Qs t=true then pP (WH t) else .int 2):=by
 let s:Option PV->Option PV->ZH:=fun x y=>[some (.str t),x,y,none]
 have q1:Zx 1 (eP (eC .non)) (s none none)=some (.nx (s (some .non) none)):=rfl
 have q2:Zx 2 (eP (eC .non)) (s (some .non) none)=some (.nx (s (some .non) (some .non))):=rfl
 show Ws 4 WB _=_
 unfold WB
 show(ZG _ _ (s none none)).bind Vm=_
 rw[Yo q1,Yo q2]
 cases ok:Qs t with
 | false=>
  have hR:=Vr h ok
  have q3:MS (Tg Zn [(Za 0)] 3 (Zx 1 (eP (Za 3)))) (Zx 2 (Zb ZM [(Za 0)])) (s (some .non) (some .non))=some (.nx (s (some (.exc "NoText")) (some .non))):=by
   have:Tg Zn [(Za 0)] 3 (Zx 1 (eP (Za 3))) (s (some .non) (some .non))=some (.nx (s (some (.exc "NoText")) (some .non))):=by
    unfold Tg
    show(Zn [.str t]).bind _=_
    rw[hR];rfl
   unfold MS;rw[this]
  rw[Yo q3,Yf,ZD]
  rw[show xB (WR true (Za 1)) (s (some (.exc "NoText")) (some .non))=some true from rfl,Option.bind_some,if_pos rfl,Z3,Zp,show Vj [Za 1] (s (some (.exc "NoText")) (some .non))=some [.exc "NoText"] from rfl,Option.bind_some,O6];rfl
 | true=>
  obtain⟨hD,hR⟩:=Vq h ok
  have q3:MS (Tg Zn [(Za 0)] 3 (Zx 1 (eP (Za 3)))) (Zx 2 (Zb ZM [(Za 0)])) (s (some .non) (some .non))=some (.nx (s (some .non) (some (pP (WH t))))):=by
   have:Tg Zn [(Za 0)] 3 (Zx 1 (eP (Za 3))) (s (some .non) (some .non))=none:=by
    unfold Tg
    show(Zn [.str t]).bind _=_
    rw[hR];rfl
   unfold MS;rw[this]
   simp only
   rw[ZE,Zp]
   show(ZM [.str t]).map _=_
   rw[hD];rfl
  have q4:X6 (xB (WR true (Za 1))) (Z2 (Zb XC [(Za 1)])) ZL (s (some .non) (some (pP (WH t))))=some (.nx (s (some .non) (some (pP (WH t))))):=by
   rw[ZD];rfl
  have q5:X6 (Wd (YD (xB (Zb Xd [(Za 2),(eC (.ty "tuple"))]))) (YD (xB (Zb Wm [(ZR 1 [] (Wo (Za 2)) (.one 0) ZS (Zb YT [(Za 0)]))])))) (Z2 (eP (Mu RO (eC (.int 1))))) ZL (s (some .non) (some (pP (WH t))))=some (.nx (s (some .non) (some (pP (WH t))))):=by
   have c:ZR 1 [] (Wo (Za 2)) (.one 0) ZS (Zb YT [(Za 0)]) (s (some .non) (some (pP (WH t))))=some (.lst (((WH t).map fun _=>true).map PV.bl)):=by
    rw[List.map_map]
    refine Yv (WH t) PV.int (fun _=>.bl true) rfl ?_ fun i _=>⟨[some (.int i)],rfl,rfl,rfl⟩
    unfold WH;rw[List.length_map]
    exact Vy h
   have a:Zb Wm [(ZR 1 [] (Wo (Za 2)) (.one 0) ZS (Zb YT [(Za 0)]))] (s (some .non) (some (pP (WH t))))=some (.bl true):=by
    rw[Zp,Yn,c]
    show Wm [.lst (((WH t).map fun _=>true).map PV.bl)]=_
    rw[SA]
    simp
   rw[ZD,Y7,YE,ZK]
   show((((some true).map not).bind fun b=>if b=true then some true else YD (xB _) _)).bind _=_
   rw[show((some true).map not)=some false from rfl,Option.bind_some,if_neg Bool.false_ne_true,YE,ZK,a];rfl
  rw[Yo q3,Yo q4,Yo q5,Z3,ZU];rw[if_pos rfl]
  generalize WH t=l
  simp[s]
def Vz(m:Nat):List Nat:=(Nat.toDigits 10 m).map Char.toNat
theorem PF:Vz 0=[48]:=by decide +kernel
theorem O7(m:Nat):NumText.digitsVal (Vz m)=m:=PySem.W.KIN.val_back m
theorem Rw(m:Nat):(Vz m).all Xg=true:=by
 rw[List.all_eq_true];intro c hc
 obtain⟨ch,hch,e⟩:=List.mem_map.mp hc
 have r:=PyProof.Rows.digit_range (Nat.isDigit_of_mem_toDigits (by decide) (by decide) hch)
 rw[<-e]
 exact decide_eq_true r
theorem Rx(m:Nat):1<=(Vz m).length:=by
 unfold Vz;rw[List.length_map,Nat.toDigits_eq_if (by decide)]
 split
 ·simp
 ·simp
theorem O8{m:Nat}(h:m<10^30):(Vz m).length<=30:=by
 unfold Vz;rw[List.length_map]
 exact(Nat.length_toDigits_le_iff (by decide) (by decide)).mpr h
theorem M0:∀d,d<10->0<d->(Nat.digitChar d).toNat≠48:=by decide
theorem T9(m:Nat):0<m->(Vz m).head?≠some 48:=by
 induction m using Nat.strongRecOn with
 | _ m ih=>
  intro hm;unfold Vz;rw[Nat.toDigits_eq_if (by decide)]
  split
  ·rename_i h
   simp
   exact M0 m h hm
  ·rename_i h
   have:=ih (m/10) (by omega) (by omega)
   have h1:=Rx (m/10)
   unfold Vz at this h1
   cases hd:Nat.toDigits 10 (m/10) with
   | nil=>rw[hd] at h1;simp at h1
   | cons c r=>rw[hd] at this;simpa using this
def nS(n:Int):Str:=(toString n:String)
theorem M1(n:Int):Zo (nS n)=if n<0 then 45::Vz n.natAbs else Vz n.natAbs:=by
 cases n with
 | ofNat m=>
  rw[if_neg (by show ¬((m:Int)<0);omega)]
  exact PySem.W.KIN.signs_num m
 | negSucc m=>
  rw[if_pos (by omega)]
  show(Str.ofString (("-" : String)++Nat.repr (m+1))).cps.toList=_
  rw[PyProof.Rows.signs_ofString,String.toList_append,List.map_append,Nat.toList_repr];rfl
structure UU(n:Int):Prop where
 ok:Vp (Zo (nS n))=true
 val:YF (Zo (nS n))=n
 sm:Small 31 (nS n)
 no:44∉Zo (nS n)
theorem SS(m c:Nat)(h:c<48):c∉Vz m:=fun z=>by
 have:=List.all_eq_true.mp (Rw m) c z
 unfold Xg at this
 have:=of_decide_eq_true this
 omega
theorem PH{n:Int}(h:n.natAbs<10^30):UU n:=by
 have e:=M1 n;have h1:=Rx n.natAbs;have h2:=O8 h;have hd:=Rw n.natAbs
 have asc:∀c∈Vz n.natAbs,c<128:=fun c hc=>by
  have:=List.all_eq_true.mp hd c hc
  unfold Xg at this
  have:=of_decide_eq_true this
  omega
 have hv:=O7 n.natAbs
 have hh:(decide (Vz n.natAbs=[48]) || !decide ((Vz n.natAbs).head?=some 48))=true:=by
  by_cases q:n.natAbs=0
  ·rw[q,PF];rfl
  ·rw[decide_eq_false (T9 n.natAbs (by omega))];simp
 by_cases q:n<0
 ·rw[if_pos q] at e
  have ef:YW (Zo (nS n))=Vz n.natAbs:=by rw[e];rfl
  have nz:¬(45::Vz n.natAbs=[45,48]):=fun z=>by
   have z1:Vz n.natAbs=[48]:=by simpa using z
   have:=T9 n.natAbs (by omega)
   rw[z1] at this
   exact this rfl
  refine⟨?_,?_,⟨?_,?_⟩,?_⟩
  ·unfold Vp
   rw[ef,e,hd,hh,decide_eq_true h1,decide_eq_true h2,decide_eq_false nz];rfl
  ·unfold YF
   rw[ef,e,if_pos (show(45::Vz n.natAbs).head?=some 45 from rfl),hv];omega
  ·rw[Zz,e];simp;omega
  ·rw[e]
   intro c hc
   rcases List.mem_cons.mp hc with rfl | hc
   ·omega
   ·exact asc c hc
  ·rw[e]
   intro z
   rcases List.mem_cons.mp z with z | z
   ·omega
   ·exact SS _ _ (by omega) z
 ·rw[if_neg q] at e
  have nh:¬(Vz n.natAbs).head?=some 45:=fun z=>by
   cases hc:Vz n.natAbs with
   | nil=>rw[hc] at z;cases z
   | cons c r=>
    rw[hc] at z
    simp at z
    subst z
    exact SS n.natAbs 45 (by omega) (by rw[hc];simp)
  have ef:YW (Zo (nS n))=Vz n.natAbs:=by
   rw[e];unfold YW;rw[if_neg nh]
  have nz:¬(Vz n.natAbs=[45,48]):=fun z=>nh (by rw[z];rfl)
  refine⟨?_,?_,⟨?_,?_⟩,?_⟩
  ·unfold Vp
   rw[ef,e,hd,hh,decide_eq_true h1,decide_eq_true h2,decide_eq_false nz];rfl
  ·unfold YF
   rw[ef,e,if_neg nh,hv];omega
  ·rw[Zz,e];omega
  ·rw[e];exact asc
  ·rw[e];exact SS _ _ (by omega)
theorem O9{n:Int}(h:n.natAbs<10^30):Wv [.int n]=some (.str (nS n)):=by
 unfold Wv
 simp only
 rw[if_pos]
 ·rfl
 ·by_cases q:n.natAbs=0
  ·rw[q];decide
  ·rw[Nat.log2_lt q]
   have:(10:Nat)^30<=2^1920:=by decide +kernel
   omega
def SU(c:Int):Int:=if c%3=0 then c/3%21-10 else if c%3=1 then c/3%(2*10^6+1)-10^6 else c/3%(2*10^30-1)-10^30+1
theorem Qm(c:Int):ZY [.int c]=some (.int (SU c)):=by
 unfold SU
 by_cases h:c%3=0
 ·simp[ZY,Y1,Ws,Yr,h,Us,Sf,CMul]
 ·by_cases h1:c%3=1
  ·simp[ZY,Y1,Ws,Yr,h1,Us,Sf,CMul]
  ·simp[ZY,Y1,Ws,Yr,h,h1,Us,Sf,CMul]
theorem Na(c:Int):(SU c).natAbs<10^30:=by
 unfold SU
 split
 ·omega
 ·split
  ·omega
  ·have:(0:Int)<2*10^30-1:=by decide
   have h1:=Int.emod_nonneg (c/3) (show(2*10^30-1:Int)≠0 by decide)
   have h2:=Int.emod_lt_of_pos (c/3) this
   omega
theorem Ur{v:PV}(neg:Bool)(h:Y3 8 v v=true):Yd neg v v=some (.bl (!neg)):=by
 unfold Yd;rw[if_pos h]
 cases neg<;>simp
def Va(l:List Int):Str:=Txt.join PN (l.map nS)
theorem Nb(l:List Int)(h:∀n∈l,UU n)(hl:l.length<=9):Small 300 (Va l):=by
 have e:Va l=Str.join PN (l.map nS):=StrLaws.glued_eq_join _ _
 have h2:∀ps:List Str,(∀p∈ps,Small 31 p)->Small (32*ps.length) (Str.join PN ps):=by
  intro ps
  induction ps with
  | nil=>intro _;exact⟨Nat.le_refl _,fun c hc=>by cases hc⟩
  | cons x r ih=>
   intro hp
   cases r with
   | nil=>exact(hp x (by simp)).mono (by simp)
   | cons y r=>
    have h1:=ih fun p hp'=>hp p (by simp[hp'])
    have hx:=hp x (by simp)
    have hc:Small 1 PN:=⟨Nat.le_refl _,by decide⟩
    have:=(hx.app hc).app h1
    show Small _ (x++PN++Str.join PN (y::r))
    refine this.mono ?_
    simp only[List.length_cons];omega
 rw[e]
 refine(h2 (l.map nS) fun p hp=>?_).mono (by rw[List.length_map];omega)
 obtain⟨n,hn,rfl⟩:=List.mem_map.mp hp
 exact(h n hn).sm
theorem M3(l:List Int)(h:∀n∈l,UU n)(hn:l≠[]):Uq (Va l)=l.map nS:=by
 unfold Uq Va
 refine SM (c:=44) (by simpa using hn) fun p hp=>?_
 obtain⟨n,hn,rfl⟩:=List.mem_map.mp hp
 exact(h n hn).no
theorem M4(l:List Int)(h:∀n∈l,UU n)(hn:l≠[]):Qs (Va l)=true/\WH (Va l)=l:=by
 unfold Qs WH;rw[M3 l h hn];constructor
 ·rw[List.all_map,List.all_eq_true]
  exact fun n hn=>(h n hn).ok
 ·rw[List.map_map]
  have:∀m:List Int,(∀n∈m,UU n)->m.map ((fun w=>YF (Zo w)) ∘ nS)=m:=by
   intro m
   induction m with
   | nil=>intro _;rfl
   | cons n r ih=>
    intro hm
    rw[List.map_cons,ih fun x hx=>hm x (by simp[hx])]
    show YF (Zo (nS n))::r=_
    rw[(hm n (by simp)).val]
  exact this l h
theorem PJ{l:List Int}{s:ZH}{k:Nat}(hs:s[k]?=some (some (pP l)))(h:∀n∈l,n.natAbs<10^30)(hl:l.length<=9):eP (Zf XB (eC (.str ",")) (ZR 1 [] (Wo (Za k)) (.one 0) ZS (Zb Wv [(Za 0)]))) s=some (.str (Va l)):=by
 have c:ZR 1 [] (Wo (Za k)) (.one 0) ZS (Zb Wv [(Za 0)]) s=some (.lst ((l.map nS).map PV.str)):=by
  rw[List.map_map]
  refine Yv l PV.int (fun n=>.str (nS n)) (Q7 (by rw[XA,hs];rfl)) (by omega) fun n hn=>⟨[some (.int n)],rfl,rfl,?_⟩
  rw[Zp]
  exact O9 (h n hn)
 have j:XB (.str ",") (.lst ((l.map nS).map PV.str))=some (.str (Va l)):=by
  unfold XB
  simp only
  rw[Ua];simp only[Option.bind_some]
  have jo:JoinOk (Str.ofString ",") (l.map nS)=true:=Qg (c:=44) (m:=31) (fun p hp=>by
   obtain⟨n,hn,rfl⟩:=List.mem_map.mp hp
   exact(PH (h n hn)).sm.len) (by rw[List.length_map];omega)
  rw[if_pos jo];rfl
 rw[ZU,Zu,c]
 show(XB (.str ",") (.lst ((l.map nS).map PV.str))).bind _=_
 rw[j];rfl
theorem PK{l:List Int}(h:∀n∈l,n.natAbs<10^30)(hl:l.length<=9):ZO [pP l]=some (.str (Va l)):=by
 show Ws 1 Yh _=_
 unfold Yh
 show(Z2 _ [some (pP l)]).bind Vm=_
 rw[Z3,PJ (l:=l) rfl h hl];rfl
theorem M5{x:Str}{k:Nat}(h:k<=x.length):Zo (Txt.slice x none (some (k:Int)))=(Zo x).take k:=by
 have e:Txt.slice x none (some (k:Int))=StrLaws.sliceText x none (some (k:Int)):=rfl
 rw[e,StrLaws.sliceText_to ⟨by omega,by rw[Zz] at h;show(k:Int)<=((Zo x).length:Int);omega⟩]
 show((Zo x).drop 0).take ((k:Int)-0).toNat=_
 rw[List.drop_zero,Int.sub_zero,Int.toNat_natCast]
theorem Ti{x:Str}{k:Nat}:(Zo (Txt.slice x (some (k:Int)) none)).length<=x.length-k:=by
 by_cases h:(x.length:Int)<=(k:Int)
 ·rw[PyProof.Rows.slice_beyond h]
  show 0<=_
  omega
 ·rw[PyProof.Rows.slice_from_eq (b:=x.length) (by omega) (by omega) rfl]
  show(((Zo x).drop _).take _).length<=_
  rw[List.length_take,List.length_drop,Zz];omega
theorem Ry{m:Nat}{t g:Str}{a b:Nat}(h:Small m t)(hg:Small 1 g)(ha:a<=t.length)(hab:a<=b):Small (m+1) (Txt.slice t none (some (a:Int))++g++Txt.slice t (some (b:Int)) none):=by
 refine⟨?_,(((h.slice none (some (a:Int))).app hg).app (h.slice (some (b:Int)) none)).asc⟩
 rw[Zz,YS,YS,List.length_append,List.length_append,M5 ha,List.length_take]
 have:=@Ti t b
 have:=h.len
 have:=hg.len
 have:=Zz t
 have:=Zz g
 omega
abbrev sgn:Str:=("0123456789,- +_.x0\n\t" : String)
theorem Qn:∀j,j<20->∃c,VJ sgn.cps.toList ((j:Nat):Int)=some c/\c<128:=by
 intro j hj
 have h:sgn.cps.toList.length=20:=by decide +kernel
 have hj':j<sgn.cps.toList.length:=by omega
 refine⟨sgn.cps.toList[j],Wh (List.getElem?_eq_getElem hj'),?_⟩
 have:∀c∈sgn.cps.toList,c<128:=by decide +kernel
 exact this _ (List.getElem_mem hj')
theorem Nc{j:Nat}(hj:j<20):∃g:Str,Small 1 g/\Wk (.str sgn) (.int (j:Int))=some (.str g):=by
 obtain⟨c,hc,hl⟩:=Qn j hj
 refine⟨⟨#[c]⟩,⟨Nat.le_refl _,fun d hd=>by
  rw[Py,List.mem_singleton] at hd
  omega⟩,?_⟩
 have:sgn.length<=sizeLine:=by decide +kernel
 unfold Wk
 simp only
 rw[if_pos this,hc];rfl
def t14:List Str:=[Str.ofString "",Str.ofString ",",Str.ofString "0,",Str.ofString ",0",Str.ofString "-0",Str.ofString "00",Str.ofString "--1",Str.ofString "1-",Str.ofString "+1",Str.ofString " 1",Str.ofString "1, 2",Str.ofString "1"++Txt.mul (Str.ofString "0") 30,Str.ofString "-",Txt.mul (Str.ofString "9") 30]
theorem Qo:∀t∈t14,Small 1000 t:=by
 have h:∀t∈t14,t.length<=1000/\∀c∈Zo t,c<128:=by decide +kernel
 exact fun t ht=>⟨(h t ht).1,(h t ht).2⟩
theorem Nd:t14.length=14:=rfl
theorem M6(s:ZH):Xm [(eP (eC (.str ""))),(eP (eC (.str ","))),(eP (eC (.str "0,"))),(eP (eC (.str ",0"))),(eP (eC (.str "-0"))),(eP (eC (.str "00"))),(eP (eC (.str "--1"))),(eP (eC (.str "1-"))),(eP (eC (.str "+1"))),(eP (eC (.str " 1"))),(eP (eC (.str "1, 2"))),(eP (Zf Yc (eC (.str "1")) (Zf YM (eC (.str "0")) (eC (.int 30))))),(eP (eC (.str "-"))),(eP (Zf YM (eC (.str "9")) (eC (.int 30))))] s=some (.lst (t14.map PV.str)):=by
 have m1:YM (.str "0") (.int 30)=some (.str (Txt.mul ("0" : String) 30)):=by
  unfold YM
  simp only
  rw[if_pos (by decide +kernel)]
 have m2:YM (.str "9") (.int 30)=some (.str (Txt.mul ("9" : String) 30)):=by
  unfold YM
  simp only
  rw[if_pos (by decide +kernel)]
 have a1:Yc (.str "1") (.str (Txt.mul ("0" : String) 30))=some (.str (Str.ofString "1"++Txt.mul ("0" : String) 30)):=by
  unfold Yc
  simp only
  rw[if_pos (by decide +kernel)]
 unfold Xm;simp only[Yn,Wt,ZU,Sz,Zu,Option.bind_some,m1,m2,a1];rfl
theorem law_true:∀ns:List Int,ns.length<=63->D_law [.cst (iL ns)]=some (.bl true):=by
 intro ns hns
 have ce:∀k:Nat,Zh [PV.cst (ns.map PV.int),PV.int (k:Int)]=some (PV.int (Vd ns k)):=fun k=>O2 hns k
 obtain⟨n,hn1,hn9,en⟩:∃n:Nat,1<=n/\n<=9/\1+Vd ns 0%9=(n:Int):=⟨(1+Vd ns 0%9).toNat,by omega,by omega,by omega⟩
 let l:List Int:=(List.range n).map fun k=>SU (Vd ns (1+k))
 have hl:l.length=n:=by simp[l]
 have hb:∀i∈l,i.natAbs<10^30:=fun i hi=>by
  obtain⟨k,_,rfl⟩:=List.mem_map.mp hi
  exact Na _
 have hok:∀i∈l,UU i:=fun i hi=>PH (hb i hi)
 have hne:l≠[]:=fun z=>by rw[z] at hl;simp at hl;omega
 have sm0:=Nb l hok (by omega)
 obtain⟨ok0,vs0⟩:=M4 l hok hne
 have te0:=Rv (sm0.mono (show 300<=1000 by omega))
 rw[if_pos ok0,vs0] at te0
 have sh:=PK hb (by omega)
 let st:Option PV->Option PV->Option PV->Option PV->Option PV->Option PV->Option PV->Option PV->Option PV->ZH:=fun a b c d e f g h i=>[some (.cst (iL ns)),a,b,c,d,e,f,g,h,i]
 have q1:Zx 1 (eP (Zb Xn [(ZR 1 [0] (Xq [(Zf Z5 (eC (.int 1)) (Zf Z6 (Zb Zh [(Za 0),(eC (.int 0))]) (eC (.int 9))))]) (.one 0) ZS (Zb ZY [(Zb Zh [(Za 1),(Zf Z5 (eC (.int 1)) (Za 0))])]))])) (st none none none none none none none none none)=some (.nx (st (some (pP l)) none none none none none none none none)):=by
  have c0:=ce 0
  have r:Xq [(Zf Z5 (eC (.int 1)) (Zf Z6 (Zb Zh [(Za 0),(eC (.int 0))]) (eC (.int 9))))] (st none none none none none none none none none)=some (V2 n):=by
   refine UJ ?_ (by omega)
   have c0':Zh [PV.cst (ns.map PV.int),PV.int 0]=some (PV.int (Vd ns 0)):=c0
   simp[st,c0',en]
  have c:ZR 1 [0] (Xq [(Zf Z5 (eC (.int 1)) (Zf Z6 (Zb Zh [(Za 0),(eC (.int 0))]) (eC (.int 9))))]) (.one 0) ZS (Zb ZY [(Zb Zh [(Za 1),(Zf Z5 (eC (.int 1)) (Za 0))])]) (st none none none none none none none none none)=some (.lst (iL l)):=by
   show _=some (PV.lst (((List.range n).map fun k=>SU (Vd ns (1+k))).map PV.int))
   rw[List.map_map]
   refine Yv (List.range n) (fun k=>.int (k:Int)) (fun k=>.int (SU (Vd ns (1+k)))) r (by simp;omega) fun k _=>⟨[some (.int (k:Int)),some (.cst (iL ns))],rfl,rfl,?_⟩
   have c1:Zb Zh [(Za 1),(Zf Z5 (eC (.int 1)) (Za 0))] [some (.int (k:Int)),some (.cst (iL ns))]=some (.int (Vd ns (1+k))):=by
    rw[Zp]
    show Zh [PV.cst (ns.map PV.int),PV.int (1+(k:Int))]=_
    rw[show(1+(k:Int))=((1+k:Nat):Int) from by omega]
    exact ce (1+k)
   rw[Zp,Yn,c1]
   exact Qm _
  rw[ZE,ZU,Zp,Yn,c];simp only[Wt,Option.bind_some,Option.map_some,V8,RW,Q6,if_true];rfl
 have q2:Zx 2 (eP (Zf XB (eC (.str ",")) (ZR 1 [] (Wo (Za 1)) (.one 0) ZS (Zb Wv [(Za 0)])))) (st (some (pP l)) none none none none none none none none)=some (.nx (st (some (pP l)) (some (.str (Va l))) none none none none none none none)):=by
  rw[ZE,PJ (l:=l) rfl hb (by omega)];rfl
 have q3:Zx 3 (Zb ZO [(Za 1)]) (st (some (pP l)) (some (.str (Va l))) none none none none none none none)=some (.nx (st (some (pP l)) (some (.str (Va l))) (some (.str (Va l))) none none none none none none)):=by
  rw[ZE,Zp]
  show(ZO [pP l]).map _=_
  rw[sh];rfl
 have q4:X6 (Wd (YD (xB (Zb Xd [(Za 3),(eC (.ty "str"))]))) (Wd (xB (Zf (Yd true) (Za 3) (Za 2))) (xB (Zf (Yd true) (Zb Z9 [(Za 2)]) (Za 1))))) (Z2 (eP (eC (.bl false)))) ZL (st (some (pP l)) (some (.str (Va l))) (some (.str (Va l))) none none none none none none)=some (.nx (st (some (pP l)) (some (.str (Va l))) (some (.str (Va l))) none none none none none none)):=by
  have a1:YD (xB (Zb Xd [(Za 3),(eC (.ty "str"))])) (st (some (pP l)) (some (.str (Va l))) (some (.str (Va l))) none none none none none none)=some false:=rfl
  have a2:xB (Zf (Yd true) (Za 3) (Za 2)) (st (some (pP l)) (some (.str (Va l))) (some (.str (Va l))) none none none none none none)=some false:=by
   rw[ZK,Zu]
   show(Yd true (.str (Va l)) (.str (Va l))).bind _=_
   rw[Ur true rfl];rfl
  have a3:xB (Zf (Yd true) (Zb Z9 [(Za 2)]) (Za 1)) (st (some (pP l)) (some (.str (Va l))) (some (.str (Va l))) none none none none none none)=some false:=by
   rw[ZK,Zu,Zp]
   show((Z9 [.str (Va l)]).bind fun x=>Yd true x (pP l)).bind _=_
   rw[te0]
   show(Yd true (pP l) (pP l)).bind _=_
   rw[Ur true (Rc 6 l l)];rfl
  rw[ZD,Y7,a1];simp only[Option.bind_some,Bool.false_eq_true,if_false];rw[Y7,a2];simp only[Option.bind_some,Bool.false_eq_true,if_false]
  rw[a3];rfl
 generalize Va l=t0 at sm0 q2 q3 q4
 obtain⟨m,hm3,em⟩:∃m:Nat,m<=2/\Vd ns 10%3=(m:Int):=⟨(Vd ns 10%3).toNat,by omega,by omega⟩
 obtain⟨s',f,hs⟩:=TF (T:=.one 4) (fb:=ZG (Zx 5 (eP (Zf Z6 (Zb Zh [(Za 0),(Zf Z5 (eC (.int 11)) (Zf X3 (eC (.int 2)) (Za 4)))]) (Zf Z5 (Zb Yk [(Za 2)]) (eC (.int 1))))))
  (ZG (Zx 6 (Zb Zh [(Za 0),(Zf Z5 (eC (.int 12)) (Zf X3 (eC (.int 2)) (Za 4)))]))
  (ZG (Zx 7 (eP (Zf Wk (eC (.str "0123456789,- +_.x0\n\t")) (Zf Z6 (Za 6) (eC (.int 20))))))
  (Zx 2 (eP (Zf Yc (Zf Yc (WT Yl (Za 2) Vv (Wr (Za 5))) (Za 7)) (WT Yl (Za 2) (Wr (Zf Z5 (Za 5) (Zf Z6 (Zf X4 (Za 6) (eC (.int 20))) (eC (.int 2))))) Vv))))))) (ls:=V2 m) (s:=st (some (pP l)) (some (.str t0)) (some (.str t0)) none none none none none none)
  (fun i x=>∃t a b c d,x=st (some (pP l)) (some (.str t)) (some (.str t0)) a b c d none none/\Small (300+i) t) ⟨t0,none,none,none,none,rfl,sm0⟩ (by
   rintro i p x hp ⟨t,a,b,c,d,rfl,sm⟩
   have him:i<m:=by have:=(List.getElem?_eq_some_iff.mp hp).1;simpa [V2] using this
   have hp':p = .int (i:Int):=by
    unfold V2 at hp;rw[List.getElem?_map,List.getElem?_range him] at hp
    exact(Option.some.inj hp).symm
   subst hp'
   have hsm:Small 1000 t:=sm.mono (by omega)
   have gl:=SO hsm.len;rw[<-Zz] at gl
   let y:Option PV->Option PV->Option PV->Option PV->ZH:=fun t b c d=>st (some (pP l)) t (some (.str t0)) (some (.int (i:Int))) b c d none none
   obtain⟨at_,hat,eat⟩:∃at_:Nat,at_<=t.length/\Vd ns (11+2*i)%((t.length:Int)+1)=(at_:Int):=by
    have h1:=Int.emod_nonneg (Vd ns (11+2*i)) (show((t.length:Int)+1)≠0 by omega)
    have h2:=Int.emod_lt_of_pos (Vd ns (11+2*i)) (show(0:Int)<(t.length:Int)+1 by omega)
    exact⟨(Vd ns (11+2*i)%((t.length:Int)+1)).toNat,by omega,by omega⟩
   have ix:∀(k:Nat) b c d,Zb Zh [(Za 0),(Zf Z5 (eC (.int (k:Int))) (Zf X3 (eC (.int 2)) (Za 4)))] (y (some (.str t)) b c d)=some (.int (Vd ns (k+2*i))):=fun k b c d=>by
    rw[Zp]
    have:Vj [(Za 0),(Zf Z5 (eC (.int (k:Int))) (Zf X3 (eC (.int 2)) (Za 4)))] (y (some (.str t)) b c d)=some [PV.cst (ns.map PV.int),PV.int ((k:Int)+2*(i:Int))]:=by
     simp[y,st,CMul]
    rw[this,Option.bind_some,show((k:Int)+2*(i:Int))=((k+2*i:Nat):Int) from by omega]
    exact ce _
   have p1:Zx 5 (eP (Zf Z6 (Zb Zh [(Za 0),(Zf Z5 (eC (.int 11)) (Zf X3 (eC (.int 2)) (Za 4)))]) (Zf Z5 (Zb Yk [(Za 2)]) (eC (.int 1))))) (y (some (.str t)) b c d)=some (.nx (y (some (.str t)) (some (.int (at_:Int))) c d)):=by
    have a1:=ix 11 b c d
    have a1':Zb Zh [(Za 0),(Zf Z5 (eC (.int 11)) (Zf X3 (eC (.int 2)) (Za 4)))] (y (some (.str t)) b c d)=some (.int (Vd ns (11+2*i))):=a1
    have a2:Zf Z5 (Zb Yk [(Za 2)]) (eC (.int 1)) (y (some (.str t)) b c d)=some (.int ((t.length:Int)+1)):=by
     rw[Zu,Zp]
     show((Yk [.str t]).bind fun x=>Z5 x (.int 1))=_
     rw[gl];rfl
    have pos:(0:Int)<(t.length:Int)+1:=by omega
    rw[ZE,ZU,Zu,a1',a2];simp only[Option.bind_some,MD]
    rw[if_pos pos,eat];rfl
   have p2:Zx 6 (Zb Zh [(Za 0),(Zf Z5 (eC (.int 12)) (Zf X3 (eC (.int 2)) (Za 4)))]) (y (some (.str t)) (some (.int (at_:Int))) c d)=some (.nx (y (some (.str t)) (some (.int (at_:Int))) (some (.int (Vd ns (12+2*i)))) d)):=by
    have a1:Zb Zh [(Za 0),(Zf Z5 (eC (.int 12)) (Zf X3 (eC (.int 2)) (Za 4)))] (y (some (.str t)) (some (.int (at_:Int))) c d)=some (.int (Vd ns (12+2*i))):=ix 12 _ c d
    rw[ZE,a1];rfl
   generalize Vd ns (12+2*i)=e at p2
   obtain⟨j,hj,ej⟩:∃j:Nat,j<20/\e%20=(j:Int):=⟨(e%20).toNat,by omega,by omega⟩
   obtain⟨w,hw,ew⟩:∃w:Nat,w<2/\e/20%2=(w:Int):=⟨(e/20%2).toNat,by omega,by omega⟩
   obtain⟨g,hg,eg⟩:=Nc hj
   have p3:Zx 7 (eP (Zf Wk (eC (.str "0123456789,- +_.x0\n\t")) (Zf Z6 (Za 6) (eC (.int 20))))) (y (some (.str t)) (some (.int (at_:Int))) (some (.int e)) d)=some (.nx (y (some (.str t)) (some (.int (at_:Int))) (some (.int e)) (some (.str g)))):=by
    have a1:Zf Z6 (Za 6) (eC (.int 20)) (y (some (.str t)) (some (.int (at_:Int))) (some (.int e)) d)=some (.int (j:Int)):=by
     rw[Zu]
     show(if(0:Int)<20 then some (PV.int (e%20)) else none)=_
     rw[if_pos (by omega),ej]
    rw[ZE,ZU,Zu,a1]
    show(((Wk (.str sgn) (.int (j:Int)))).bind _).map _=_
    rw[eg];rfl
   have ch:=Ry (b:=at_+w) sm hg hat (by omega)
   have p4:Zx 2 (eP (Zf Yc (Zf Yc (WT Yl (Za 2) Vv (Wr (Za 5))) (Za 7)) (WT Yl (Za 2) (Wr (Zf Z5 (Za 5) (Zf Z6 (Zf X4 (Za 6) (eC (.int 20))) (eC (.int 2))))) Vv))) (y (some (.str t)) (some (.int (at_:Int))) (some (.int e)) (some (.str g)))=some (.nx (y (some (.str (Txt.slice t none (some (at_:Int))++g++Txt.slice t (some ((at_+w:Nat):Int)) none))) (some (.int (at_:Int))) (some (.int e)) (some (.str g)))):=by
    have z:(5000:Nat)<=sizeLine:=by decide
    have l1:=(hsm.slice none (some (at_:Int))).len
    have l2:=(hsm.slice (some ((at_+w:Nat):Int)) none).len
    have lg:=hg.len
    have a1:WT Yl (Za 2) Vv (Wr (Za 5)) (y (some (.str t)) (some (.int (at_:Int))) (some (.int e)) (some (.str g)))=some (.str (Txt.slice t none (some (at_:Int)))):=by
     show Yl (.str t) none (some (at_:Int))=_
     exact Uo hsm.len _ _
    have a2:Zf Yc (WT Yl (Za 2) Vv (Wr (Za 5))) (Za 7) (y (some (.str t)) (some (.int (at_:Int))) (some (.int e)) (some (.str g)))=some (.str (Txt.slice t none (some (at_:Int))++g)):=by
     rw[Zu,a1]
     show Yc (.str (Txt.slice t none (some (at_:Int)))) (.str g)=_
     unfold Yc
     simp only
     rw[if_pos (by omega)]
    have a3:Zf Z5 (Za 5) (Zf Z6 (Zf X4 (Za 6) (eC (.int 20))) (eC (.int 2))) (y (some (.str t)) (some (.int (at_:Int))) (some (.int e)) (some (.str g)))=some (.int ((at_+w:Nat):Int)):=by
     have cd:Us e 20:=Q9 (by omega) (by omega)
     have:(at_:Int)+(w:Int)=((at_+w:Nat):Int):=by omega
     rw[<-this];simp[y,st,cd,ew]
    have a4:WT Yl (Za 2) (Wr (Zf Z5 (Za 5) (Zf Z6 (Zf X4 (Za 6) (eC (.int 20))) (eC (.int 2))))) Vv (y (some (.str t)) (some (.int (at_:Int))) (some (.int e)) (some (.str g)))=some (.str (Txt.slice t (some ((at_+w:Nat):Int)) none)):=by
     have b1:Wr (Zf Z5 (Za 5) (Zf Z6 (Zf X4 (Za 6) (eC (.int 20))) (eC (.int 2)))) (y (some (.str t)) (some (.int (at_:Int))) (some (.int e)) (some (.str g)))=some (some ((at_+w:Nat):Int)):=by
      unfold Wr;rw[a3]
     unfold WT;rw[b1]
     show Yl (.str t) (some ((at_+w:Nat):Int)) none=_
     exact Uo hsm.len _ _
    rw[ZE,ZU,Zu,a2,a4]
    have ga:Yc (.str (Txt.slice t none (some (at_:Int))++g)) (.str (Txt.slice t (some ((at_+w:Nat):Int)) none))=some (.str (Txt.slice t none (some (at_:Int))++g++Txt.slice t (some ((at_+w:Nat):Int)) none)):=by
     have:(Txt.slice t none (some (at_:Int))++g).length<=1001:=by
      rw[Zz,YS,List.length_append,<-Zz,<-Zz];omega
     unfold Yc
     simp only
     rw[if_pos (by omega)]
    simp only[Option.bind_some,ga];rfl
   refine⟨y (some (.str t)) b c d,y (some (.str (Txt.slice t none (some (at_:Int))++g++Txt.slice t (some ((at_+w:Nat):Int)) none))) (some (.int (at_:Int))) (some (.int e)) (some (.str g)),rfl,?_,_,_,_,_,_,rfl,ch⟩
   rw[Yo p1,Yo p2,Yo p3,p4])
 obtain⟨t,a,b,c,d,rfl,sm⟩:=hs
 have hsm:Small 1000 t:=sm.mono (by simp[V2];omega)
 have q5:OF [] (Xq [(Zf Z6 (Zb Zh [(Za 0),(eC (.int 10))]) (eC (.int 3)))]) (.one 4) (ZG (Zx 5 (eP (Zf Z6 (Zb Zh [(Za 0),(Zf Z5 (eC (.int 11)) (Zf X3 (eC (.int 2)) (Za 4)))]) (Zf Z5 (Zb Yk [(Za 2)]) (eC (.int 1))))))
  (ZG (Zx 6 (Zb Zh [(Za 0),(Zf Z5 (eC (.int 12)) (Zf X3 (eC (.int 2)) (Za 4)))]))
  (ZG (Zx 7 (eP (Zf Wk (eC (.str "0123456789,- +_.x0\n\t")) (Zf Z6 (Za 6) (eC (.int 20))))))
  (Zx 2 (eP (Zf Yc (Zf Yc (WT Yl (Za 2) Vv (Wr (Za 5))) (Za 7)) (WT Yl (Za 2) (Wr (Zf Z5 (Za 5) (Zf Z6 (Zf X4 (Za 6) (eC (.int 20))) (eC (.int 2))))) Vv))))))) (st (some (pP l)) (some (.str t0)) (some (.str t0)) none none none none none none)=some (.nx (st (some (pP l)) (some (.str t)) (some (.str t0)) a b c d none none)):=by
  have r:Xq [(Zf Z6 (Zb Zh [(Za 0),(eC (.int 10))]) (eC (.int 3)))] (WU [] (st (some (pP l)) (some (.str t0)) (some (.str t0)) none none none none none none))=some (V2 m):=by
   refine UJ ?_ (by omega)
   have c0':Zh [PV.cst (ns.map PV.int),PV.int 10]=some (PV.int (Vd ns 10)):=ce 10
   show Zf Z6 (Zb Zh [(Za 0),(eC (.int 10))]) (eC (.int 3)) (st (some (pP l)) (some (.str t0)) (some (.str t0)) none none none none none none)=_
   simp[st,c0',em]
  rw[Q8,r];exact f
 obtain⟨t',x8,hst',q6⟩:∃t' x8,Small 1000 t'/\X6 (xB (Zf (Yd false) (Zf Z6 (Zb Zh [(Za 0),(eC (.int 15))]) (eC (.int 8))) (eC (.int 1)))) (ZG (Zx 8 (Xm [(eP (eC (.str ""))),(eP (eC (.str ","))),(eP (eC (.str "0,"))),(eP (eC (.str ",0"))),(eP (eC (.str "-0"))),(eP (eC (.str "00"))),(eP (eC (.str "--1"))),(eP (eC (.str "1-"))),(eP (eC (.str "+1"))),(eP (eC (.str " 1"))),(eP (eC (.str "1, 2"))),(eP (Zf Yc (eC (.str "1")) (Zf YM (eC (.str "0")) (eC (.int 30))))),(eP (eC (.str "-"))),(eP (Zf YM (eC (.str "9")) (eC (.int 30))))]))
  (Zx 2 (eP (Zf Wk (Za 8) (Zf Z6 (Zf X4 (Zb Zh [(Za 0),(eC (.int 15))]) (eC (.int 8))) (eC (.int 14))))))) ZL (st (some (pP l)) (some (.str t)) (some (.str t0)) a b c d none none)=some (.nx (st (some (pP l)) (some (.str t')) (some (.str t0)) a b c d x8 none)):=by
  have c15:Zh [PV.cst (ns.map PV.int),PV.int 15]=some (PV.int (Vd ns 15)):=ce 15
  generalize Vd ns 15=v at c15
  have cc:xB (Zf (Yd false) (Zf Z6 (Zb Zh [(Za 0),(eC (.int 15))]) (eC (.int 8))) (eC (.int 1))) (st (some (pP l)) (some (.str t)) (some (.str t0)) a b c d none none)=some (decide (v%8=1)):=by
   simp[st,c15]
  by_cases q:v%8=1
  ·rw[decide_eq_true q] at cc
   obtain⟨j,hj,ej⟩:∃j:Nat,j<14/\v/8%14=(j:Int):=⟨(v/8%14).toNat,by omega,by omega⟩
   have hj':j<t14.length:=by rw[Nd];exact hj
   refine⟨t14[j],some (.lst (t14.map PV.str)),Qo _ (List.getElem_mem hj'),?_⟩
   have p1:Zx 8 (Xm [(eP (eC (.str ""))),(eP (eC (.str ","))),(eP (eC (.str "0,"))),(eP (eC (.str ",0"))),(eP (eC (.str "-0"))),(eP (eC (.str "00"))),(eP (eC (.str "--1"))),(eP (eC (.str "1-"))),(eP (eC (.str "+1"))),(eP (eC (.str " 1"))),(eP (eC (.str "1, 2"))),(eP (Zf Yc (eC (.str "1")) (Zf YM (eC (.str "0")) (eC (.int 30))))),(eP (eC (.str "-"))),(eP (Zf YM (eC (.str "9")) (eC (.int 30))))]) (st (some (pP l)) (some (.str t)) (some (.str t0)) a b c d none none)=some (.nx (st (some (pP l)) (some (.str t)) (some (.str t0)) a b c d (some (.lst (t14.map PV.str))) none)):=by
    rw[ZE,M6];rfl
   have a1:Zf Z6 (Zf X4 (Zb Zh [(Za 0),(eC (.int 15))]) (eC (.int 8))) (eC (.int 14)) (st (some (pP l)) (some (.str t)) (some (.str t0)) a b c d (some (.lst (t14.map PV.str))) none)=some (.int (j:Int)):=by
    have cd:Us v 8:=Q9 (by omega) (by omega)
    simp[st,c15,cd,ej]
   have p2:Zx 2 (eP (Zf Wk (Za 8) (Zf Z6 (Zf X4 (Zb Zh [(Za 0),(eC (.int 15))]) (eC (.int 8))) (eC (.int 14))))) (st (some (pP l)) (some (.str t)) (some (.str t0)) a b c d (some (.lst (t14.map PV.str))) none)=some (.nx (st (some (pP l)) (some (.str t14[j])) (some (.str t0)) a b c d (some (.lst (t14.map PV.str))) none)):=by
    rw[ZE,ZU,Zu,a1]
    have gx:Wk (.lst (t14.map PV.str)) (.int (j:Int))=some (.str t14[j]):=by
     show VJ (t14.map PV.str) (j:Int)=_
     exact Wh (by rw[List.getElem?_map,List.getElem?_eq_getElem hj'];rfl)
    show((Wk (.lst (t14.map PV.str)) (.int (j:Int))).bind _).map _=_
    rw[gx];rfl
   rw[ZD,cc,Option.bind_some,if_pos rfl,Yo p1,p2]
  ·rw[decide_eq_false q] at cc
   exact⟨t,none,hsm,by rw[ZD,cc];rfl⟩
 have du:=MZ hst';have tl:=Rv hst'
 have q7:Zx 9 (Zb XM [(Za 2)]) (st (some (pP l)) (some (.str t')) (some (.str t0)) a b c d x8 none)=some (.nx (st (some (pP l)) (some (.str t')) (some (.str t0)) a b c d x8 (some (if Qs t'=true then pP (WH t') else .non)))):=by
  rw[ZE,Zp]
  show(XM [.str t']).map _=_
  rw[du];rfl
 show Ws 10 Rq _=_
 unfold Rq
 show(ZG _ _ (st none none none none none none none none none)).bind Vm=_
 rw[Yo q1,Yo q2,Yo q3,Yo q4,Yo q5,Yo q6,Yo q7]
 cases ok:Qs t' with
 | false=>
  rw[ok] at tl;rw[Yf,ZD];rw[show xB (WR false (Za 9)) (st (some (pP l)) (some (.str t')) (some (.str t0)) a b c d x8 (some (if false=true then pP (WH t') else .non)))=some true from rfl,Option.bind_some,if_pos rfl,Z3,ZU,Zu,Zp]
  show((((((Z9 [.str t'])).bind fun x=>Yd false x (.int 2)).bind _).map _).bind _).bind _=_
  rw[tl]
  simp
 | true=>
  rw[ok] at tl;rw[Yf,ZD];rw[show xB (WR false (Za 9)) (st (some (pP l)) (some (.str t')) (some (.str t0)) a b c d x8 (some (if true=true then pP (WH t') else .non)))=some false from rfl,Option.bind_some,if_neg Bool.false_ne_true]
  show((some (Out.nx (st (some (pP l)) (some (.str t')) (some (.str t0)) a b c d x8 (some (pP (WH t')))))).bind _).bind _=_
  rw[Option.bind_some]
  simp only
  rw[Z3,ZU,Zu,Zp]
  show(((((Z9 [.str t'])).bind fun x=>Yd false x (pP (WH t'))).bind _).map _).bind _=_
  rw[tl]
  show((((Yd false (pP (WH t')) (pP (WH t')))).bind _).map _).bind _=_
  rw[Ur false (Rc 6 _ _)];rfl
end PW
namespace PW
open PySem L2 VL
theorem cst_mk{K:PySem.W.Frag}{h:Heap}{mg:Str->Option Value}{x:Str}{v:Int}{t:Tok}(X:K.In h)(G:h.Ns mainGlobals mg)(y:PySem.W.nsIn K mainGlobals x=some (some (.int v t))):LW mg x v:=⟨t,PySem.W.mg_of X G y⟩
theorem cstS_mk{K:PySem.W.Frag}{h:Heap}{mg:Str->Option Value}{x v:Str}{t:Tok}(X:K.In h)(G:h.Ns mainGlobals mg)(y:PySem.W.nsIn K mainGlobals x=some (some (.str v t))):OK mg x v:=⟨t,PySem.W.mg_of X G y⟩
theorem all_mk{P:Program}{w:World}{K:PySem.W.Frag}{h:Heap}{mg:Str->Option Value}{fa:Addr}(X:K.In h)(G:h.Ns mainGlobals mg)(hfa:mg "law" = some (.ref fa))(B:Sj mg)
  (Z_FIGURES:OK mg "FIGURES" "0123456789")
  (Z_MOST_FIGURES_IN_PURSES:LW mg "MOST_FIGURES_IN_PURSES" 30)
  (d0:Def K mg "shown_numbers" YJ)
  (d1:Def K mg "_law_value" W5)
  (d2:Def K mg "_law_due" Th)
  (d3:Def K mg "_law_cell" Uj)
  (d4:Def K mg "is_plain" X9)
  (d5:Def K mg "read_number" YC)
  (d6:Def K mg "read_numbers" Yu)
  (d7:Def K mg "_law_kind" Ul)
  (d8:Def K mg "_law_whole" W7)
  (d9:Def K mg "_law_told" Um)
  (d10:Def K mg "_law_number" Wa)
  (d11:Def K mg "law" Pw)
  {CNoWeb CApart CNoText CNoOrder CTooMany CNotSettled CNoTree CNoTotal CNoEnds CNoRow CNoName Cb:Addr}
  (qNoText:PySem.W.nsIn K mainGlobals "NoText" = some (some (.ref CNoText))) (tNoText:PySem.W.kitOne K (.ref CNoText) (.ref CNoText)=some true)
  (qNoWeb:PySem.W.nsIn K mainGlobals "NoWeb" = some (some (.ref CNoWeb))) (tNoWeb:PySem.W.kitOne K (.ref CNoText) (.ref CNoWeb)=some false)
  (qApart:PySem.W.nsIn K mainGlobals "Apart" = some (some (.ref CApart))) (tApart:PySem.W.kitOne K (.ref CNoText) (.ref CApart)=some false)
  (qNoOrder:PySem.W.nsIn K mainGlobals "NoOrder" = some (some (.ref CNoOrder))) (tNoOrder:PySem.W.kitOne K (.ref CNoText) (.ref CNoOrder)=some false)
  (qTooMany:PySem.W.nsIn K mainGlobals "TooMany" = some (some (.ref CTooMany))) (tTooMany:PySem.W.kitOne K (.ref CNoText) (.ref CTooMany)=some false)
  (qNotSettled:PySem.W.nsIn K mainGlobals "NotSettled" = some (some (.ref CNotSettled))) (tNotSettled:PySem.W.kitOne K (.ref CNoText) (.ref CNotSettled)=some false)
  (qNoTree:PySem.W.nsIn K mainGlobals "NoTree" = some (some (.ref CNoTree))) (tNoTree:PySem.W.kitOne K (.ref CNoText) (.ref CNoTree)=some false)
  (qNoTotal:PySem.W.nsIn K mainGlobals "NoTotal" = some (some (.ref CNoTotal))) (tNoTotal:PySem.W.kitOne K (.ref CNoText) (.ref CNoTotal)=some false)
  (qNoEnds:PySem.W.nsIn K mainGlobals "NoEnds" = some (some (.ref CNoEnds))) (tNoEnds:PySem.W.kitOne K (.ref CNoText) (.ref CNoEnds)=some false)
  (qNoRow:PySem.W.nsIn K mainGlobals "NoRow" = some (some (.ref CNoRow))) (tNoRow:PySem.W.kitOne K (.ref CNoText) (.ref CNoRow)=some false)
  (qNoName:PySem.W.nsIn K mainGlobals "NoName" = some (some (.ref CNoName))) (tNoName:PySem.W.kitOne K (.ref CNoText) (.ref CNoName)=some false)
  (qB:PySem.W.nsIn K mainGlobals "PurseError" = some (some (.ref Cb))) (x0:PySem.W.excIn K CNoText [.type "ValueError",.type "Exception",.type "BaseException",.type "object"] "ValueError.__new__" = true) (x1:PySem.W.ktsIn K CNoText "BaseException" = true) (x2:PySem.W.ktsIn K Cb "BaseException" = true) (x3:VX.belowIn K CNoText Cb=true)
  (x4:PySem.W.findIn K (.ref CNoText) "__getattribute__" = some (some (.builtin "BaseException.__getattribute__"))) (x5:PySem.W.findIn K (.ref CNoText) "__getattr__" = some none) (x6:PySem.W.findIn K (.ref CNoText) "__class__" = some (some (.builtin "object.__class__"))) (x7:PySem.W.mroIn K CNoText (.type "object")=some true) (x8:PySem.W.kitOne K (.ref CNoText) (.type "ValueError")=some true)
  : ∃fd:FuncData,(∀(s:Shared)(u:Value),BindsTo s fd ⟨[u],[]⟩ [("_law_script",u)])/\∀base:Heap,K.In base->base.Ns mainGlobals mg->Wg P w K mg base S0 5 fa fd ["_law_script"] (Xt K D_law 1):=by
 have Q:VX.QN "NoText" K mg CNoText Cb:=⟨qNoText,PySem.W.mg_of X G qNoText,PySem.W.mg_of X G qB,x0,⟨x4,x5,x6,x7,x1⟩,x2,x3,fun cx hc=>by
  unfold VX.nms at hc;simp only[List.mem_cons,List.not_mem_nil,or_false] at hc
  rcases hc with rfl | rfl | rfl | rfl | rfl | rfl | rfl | rfl | rfl | rfl | rfl
  ·exact⟨CNoWeb,PySem.W.mg_of X G qNoWeb,tNoWeb⟩
  ·exact⟨CApart,PySem.W.mg_of X G qApart,tApart⟩
  ·exact⟨CNoText,PySem.W.mg_of X G qNoText,tNoText⟩
  ·exact⟨CNoOrder,PySem.W.mg_of X G qNoOrder,tNoOrder⟩
  ·exact⟨CTooMany,PySem.W.mg_of X G qTooMany,tTooMany⟩
  ·exact⟨CNotSettled,PySem.W.mg_of X G qNotSettled,tNotSettled⟩
  ·exact⟨CNoTree,PySem.W.mg_of X G qNoTree,tNoTree⟩
  ·exact⟨CNoTotal,PySem.W.mg_of X G qNoTotal,tNoTotal⟩
  ·exact⟨CNoEnds,PySem.W.mg_of X G qNoEnds,tNoEnds⟩
  ·exact⟨CNoRow,PySem.W.mg_of X G qNoRow,tNoRow⟩
  ·exact⟨CNoName,PySem.W.mg_of X G qNoName,tNoName⟩,x8⟩
 refine Q3 d11 hfa (fun _ _ _ _ _ _ _=>rfl) fun base f fd _ _ F=>?_
 have C_shown_numbers:=W4 (P:=P) (w:=w) (base:=base) d0 B
 have C_l_value:=SI (P:=P) (w:=w) (base:=base) d1 B
 have C_l_due:=Pt (P:=P) (w:=w) (base:=base) d2 B C_l_value
 have C_l_cell:=Qd (P:=P) (w:=w) (base:=base) d3 B
 have C_is_plain:=T1 (P:=P) (w:=w) (base:=base) d4 B Z_FIGURES
 have C_read_number:=Uk (P:=P) (w:=w) (base:=base) d5 B Z_MOST_FIGURES_IN_PURSES C_is_plain
 have X_read_number:=Vn (P:=P) (w:=w) (base:=base) d5 B Q Z_MOST_FIGURES_IN_PURSES C_is_plain
 have C_read_numbers:=Vo (P:=P) (w:=w) (base:=base) d6 B C_read_number
 have X_read_numbers:=W6 (P:=P) (w:=w) (base:=base) d6 B Q C_read_number X_read_number
 have C_l_kind:=Qe (P:=P) (w:=w) (base:=base) d7 B  Q
 have C_l_whole:=SK (P:=P) (w:=w) (base:=base) d8 B
 have C_l_told:=Qf (P:=P) (w:=w) (base:=base) d9 B C_read_numbers C_l_kind C_l_whole Q X_read_numbers
 have C_l_number:=T4 (P:=P) (w:=w) (base:=base) d10 B
 exact MY F B C_l_number C_l_cell C_shown_numbers C_l_told C_l_due
end PW
def PySem.W.Fast.tw9132298129627292397:Unit:=()
def PySem.W.Fast.tw11502598077974720881:Unit:=()
def PySem.W.Fast.tw6761845582223142910:Unit:=()
def PySem.W.Fast.tw11241176662397115080:Unit:=()
def PySem.W.Fast.tw17849349697735845650:Unit:=()
def PySem.W.Fast.tw18064212894989662092:Unit:=()
def PySem.W.Fast.tw5492820582450592982:Unit:=()
def PySem.W.Fast.tw11618098426439414814:Unit:=()
def PySem.W.Fast.tw15242773297973849415:Unit:=()
def PySem.W.Fast.tw8417819351714376366:Unit:=()
def PySem.W.Fast.tw12606963969684096778:Unit:=()
def PySem.W.Fast.tw9389286583521528343:Unit:=()
def PySem.W.Fast.tw6951785559234407881:Unit:=()
def PySem.W.Fast.tw12293089280060157924:Unit:=()
def PySem.W.Fast.tw15103259536720321933:Unit:=()
open PySem PySem.W PyProof.Rows
set_option maxRecDepth 100000 in
set_option maxHeartbeats 0 in
theorem PySem.Challenge.cw_purseweb_k05_numbers_written_holds : PySem.Challenge.rw_purseweb_k05_numbers_written.Holds := by
 w_on;o_law;k_head;(case hw=>w_witness2)
 k_fill
 refine VL.law_walk (l:=PySem.Challenge.rw_purseweb_k05_numbers_written) (D:=PW.D_law) (x:="_law_script") 5 rfl rfl ⟨rfl,by decide,by decide,rfl⟩ PW.law_true (fun w h Y=>PySem.W.kIn_of Y) ?F
 case F=>
  intro w mg fa h KX G hmg
  refine' PW.all_mk KX G hmg ?B ?Z0 ?Z1 ?d0 ?d1 ?d2 ?d3 ?d4 ?d5 ?d6 ?d7 ?d8 ?d9 ?d10 ?d11 ?qNoText ?tNoText ?qNoWeb ?tNoWeb ?qApart ?tApart ?qNoOrder ?tNoOrder ?qTooMany ?tTooMany ?qNotSettled ?tNotSettled ?qNoTree ?tNoTree ?qNoTotal ?tNoTotal ?qNoEnds ?tNoEnds ?qNoRow ?tNoRow ?qNoName ?tNoName ?qB ?x0 ?x1 ?x2 ?x3 ?x4 ?x5 ?x6 ?x7 ?x8
  case B=>constructor<;>(refine PySem.W.mg_none_of KX G ?_;k_is)
  case Z1=>(refine' PW.cst_mk KX G ?y;(case y=>k_is))
  case Z0=>(refine' PW.cstS_mk KX G ?y;(case y=>k_is))
  case d0 | d1 | d2 | d3 | d4 | d5 | d6 | d7 | d8 | d9 | d10 | d11=>(refine' L2.def_mk KX G ?a ?l ?c ?k;(case a=>k_is);(case l=>k_is);(case c=>k_is);(case k=>k_is))
  (case qNoText=>k_is)
  (case tNoText=>kernel_rfl)
  (case qNoWeb=>k_is)
  (case tNoWeb=>kernel_rfl)
  (case qApart=>k_is)
  (case tApart=>kernel_rfl)
  (case qNoOrder=>k_is)
  (case tNoOrder=>kernel_rfl)
  (case qTooMany=>k_is)
  (case tTooMany=>kernel_rfl)
  (case qNotSettled=>k_is)
  (case tNotSettled=>kernel_rfl)
  (case qNoTree=>k_is)
  (case tNoTree=>kernel_rfl)
  (case qNoTotal=>k_is)
  (case tNoTotal=>kernel_rfl)
  (case qNoEnds=>k_is)
  (case tNoEnds=>kernel_rfl)
  (case qNoRow=>k_is)
  (case tNoRow=>kernel_rfl)
  (case qNoName=>k_is)
  (case tNoName=>kernel_rfl)
  (case qB=>k_is)
  (case x0=>k_exc)
  (case x1=>kernel_rfl)
  (case x2=>kernel_rfl)
  (case x3=>kernel_rfl)
  (case x4=>k_is)
  (case x5=>k_is)
  (case x6=>k_is)
  (case x7=>k_is)
  (case x8=>kernel_rfl)
