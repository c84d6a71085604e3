import PyProof.Rows.All
import Wide.All
import OpenK.AllK
import Wide.FinOn
import Lean
import PyProof.EqAt
import PyProof.EqKinds
import PyProof.TupleCall
import PyProof.NeKinds
import PyProof.ListMulRoad
import PyProof.WalkInts
import PyProof.ListRange
import KE.KRevIter
import PySem.Challenge.RW_purseweb_k33_whole_alike_or_two_settled
set_option Elab.async false
set_option linter.all false
set_option maxRecDepth 100000
namespace L2
open PySem PySem.Spec PyProof.Rows
abbrev TV:=Sum Int Str
def JH:TV->Value->Bool
 | .inl k,v=>Value.isInt k v
 | .inr x,v=>Value.isStrOf x v
def GM(w:World):TV->Int
 | .inl k=>hashInt k
 | .inr x=>hashStr w x
theorem Yq:∀{k:TV}{v:Value},JH k v=true->(∃i t,k=Sum.inl i/\v=Value.int i t)\/(∃x t,k=Sum.inr x/\v=Value.str x t)
 | .inl i,v,h=>by
  obtain⟨t,e⟩:=Value.isInt_shape (k:=i) (v:=v) h
  exact .inl ⟨i,t,rfl,e⟩
 | .inr x,v,h=>by
  obtain⟨t,e⟩:=Value.isStrOf_shape (x:=x) (v:=v) h
  exact .inr ⟨x,t,rfl,e⟩
theorem JY(a b:Int):decide ((Sum.inl a:TV)=Sum.inl b)=(a==b):=by
 by_cases e:a=b
 ·subst e;simp
 ·have h:¬(Sum.inl a:TV)=Sum.inl b:=fun q=>e (Sum.inl.inj q)
  rw[decide_eq_false h]
  exact(beq_eq_false_iff_ne.mpr e).symm
theorem JZ(a b:Str):decide ((Sum.inr a:TV)=Sum.inr b)=decide (a=b):=by
 by_cases e:a=b
 ·subst e;simp
 ·have h:¬(Sum.inr a:TV)=Sum.inr b:=fun q=>e (Sum.inr.inj q)
  rw[decide_eq_false h,decide_eq_false e]
theorem J0(a:Int)(b:Str):decide ((Sum.inl a:TV)=Sum.inr b)=false:=decide_eq_false (fun q=>nomatch q)
theorem J1(a:Str)(b:Int):decide ((Sum.inr a:TV)=Sum.inl b)=false:=decide_eq_false (fun q=>nomatch q)
def Qh(prog:Program)(w:World):PySem.KeyKind prog w TV where
 is:=JH
 hash:=GM w
 inj:=fun v a b ha hb=>by
  rcases Yq ha with⟨i,t,rfl,rfl⟩ | ⟨x,t,rfl,rfl⟩
  ·rcases Yq hb with⟨j,u,rfl,e⟩ | ⟨y,u,rfl,e⟩
   ·injection e with e1 _;rw[e1]
   ·exact nomatch e
  ·rcases Yq hb with⟨j,u,rfl,e⟩ | ⟨y,u,rfl,e⟩
   ·exact nomatch e
   ·injection e with e1 _;rw[e1]
 byValue:=fun k v h=>by
  rcases Yq h with⟨i,t,rfl,rfl⟩ | ⟨x,t,rfl,rfl⟩<;>rfl
 pyHash:=fun hv h=>by
  rcases Yq hv with⟨i,t,rfl,rfl⟩ | ⟨x,t,rfl,rfl⟩
  ·exact wpAny_pyHash_int h
  ·exact wpAny_pyHash_str h
 eqBool:=fun hu hv h=>by
  rcases Yq hu with⟨i,t,rfl,rfl⟩ | ⟨x,t,rfl,rfl⟩
  ·rcases Yq hv with⟨j,u,rfl,rfl⟩ | ⟨y,u,rfl,rfl⟩
   ·rw[JY] at h;exact wpAny_eqBool_int h
   ·rw[J0] at h;exact SeqAt.EqAt.int_str i t y u _ _ _ _ h
  ·rcases Yq hv with⟨j,u,rfl,rfl⟩ | ⟨y,u,rfl,rfl⟩
   ·rw[J1] at h;exact SeqAt.EqAt.str_int x t j u _ _ _ _ h
   ·rw[JZ] at h;exact wpAny_eqBool_str h
 «strs»:=fun k x t v h=>by
  rcases Yq h with⟨i,u,rfl,e⟩ | ⟨y,u,rfl,e⟩
  ·exact nomatch e
  ·injection e with e1 _
   subst e1
   cases v<;>rfl
inductive V where
 | non | bl (b:Bool) | int (i:Int) | str (x:Str) | byt (b:Array UInt8) | flt (b:UInt64) | ref (a:Addr) | ty (n:String)
 deriving DecidableEq
def RelV:V->Value->Prop
 | .non,u=>u=Value.none
 | .bl b,u=>u=Value.bool b
 | .int i,u=>∃t,u=Value.int i t
 | .str x,u=>∃t,u=Value.str x t
 | .byt b,u=>∃t,u=Value.bytes b t
 | .flt b,u=>∃t,u=Value.float b t
 | .ref a,u=>u=Value.ref a
 | .ty n,u=>u=Value.type n
abbrev Vals:List V->List Value->Prop:=Paired RelV
theorem Vals.length{xs:List V}{us:List Value}(r:Vals xs us):xs.length=us.length:=Paired.length r
theorem Vals.get:∀{xs:List V}{us:List Value}{i:Nat}{x:V},Vals xs us->xs[i]?=some x->∃u,us[i]?=some u/\RelV x u
 | _,_,_,_,.nil,e=>by simp at e
 | _,_,0,_,.cons r _,e=>by simp at e;subst e;exact⟨_,rfl,r⟩
 | _,_,i+1,x,.cons _ t,e=>by
  obtain⟨u,h1,h2⟩:=Vals.get (i:=i) (x:=x) t (by simpa using e)
  exact⟨u,by simpa using h1,h2⟩
theorem Vals.set{x:V}{u:Value}(r:RelV x u):∀{xs:List V}{us:List Value}(i:Nat),Vals xs us->Vals (xs.set i x) (us.set i u)
 | _,_,_,.nil=>.nil
 | _,_,0,.cons _ t=>.cons r t
 | _,_,i+1,.cons q t=>.cons q (Vals.set r i t)
theorem Vals.append:∀{xs ys:List V}{us ws:List Value},Vals xs us->Vals ys ws->Vals (xs++ys) (us++ws)
 | _,_,_,_,.nil,s=>s
 | _,_,_,_,.cons r t,s=>.cons r (Vals.append t s)
theorem Vals.take:∀{xs:List V}{us:List Value}(n:Nat),Vals xs us->Vals (xs.take n) (us.take n)
 | _,_,0,_=>.nil
 | _,_,_+1,.nil=>.nil
 | _,_,n+1,.cons r t=>.cons r (Vals.take n t)
theorem Vals.drop:∀{xs:List V}{us:List Value}(n:Nat),Vals xs us->Vals (xs.drop n) (us.drop n)
 | _,_,0,r=>r
 | _,_,_+1,.nil=>.nil
 | _,_,n+1,.cons _ t=>Vals.drop n t
def J2:Option V->Option Value->Prop
 | some v,some u=>RelV v u
 | none,none=>True
 | _,_=>False
def KV{κ:Type}:List (κ×V)->List (κ×Value)->Prop:=Paired fun(p:κ×V) (q:κ×Value)=>p.1=q.1/\RelV p.2 q.2
def kV:TV->V
 | .inl i=>.int i
 | .inr x=>.str x
inductive HO where
 /-- a list -/
 | lst (xs:List V)
 /-- a tuple (never changes) -/
 | tup (xs:List V)
 /-- a dict whose keys are ints and texts;one whose keys are tuples of ints and texts (the empty one is both) -/
 | dK (kvs:List (TV×V)) | dT (kvs:List (List TV×V))
 /-- a set of ints: its members,its size -/
 | set (S:Int->Bool) (n:Nat)
 /-- an instance of the class at C,its dict at dx,its attributes -/
 | ins (C dx:Addr) (fs:List (Str×V))
 /-- the dict of the instance at x -/
 | own (x:Addr)
 /-- the dict of an exception -/
 | xd (fs:List (Str×V))
 /-- a bound method,f of x -/
 | met (f x:Addr)
 /-- a range object lo,lo+1,.. below hi -/
 | rng (lo hi:Int)
 /-- a thing that is known to the object (the script;a dict while a loop walks it): read,never written while it is so -/
 | frz (o:Obj) (u:HO)
 /-- a code object's table -/
 | tbl (ps:Array Value)
 /-- any other thing,by what is true of its one object (a def of one's own: SetO a S n:=HO.ext fun h=>..) -/
 | ext (φ:Heap->Prop)
abbrev Hp:=Addr->Option HO
def upd(H:Hp)(a:Addr)(o:HO):Hp:=fun b=>if b=a then some o else H b
theorem Zx{H:Hp}{a:Addr}{o:HO}:upd H a o a=some o:=by unfold upd;rw[if_pos rfl]
theorem upd_ne{H:Hp}{a b:Addr}{o:HO}(h:b≠a):upd H a o b=H b:=by unfold upd;rw[if_neg h]
theorem ZG{H:Hp}{a b:Addr}{o:HO}(h:H a=some o)(h':H b=none):a≠b:=by
 intro e;subst e;rw[h] at h';cases h'
section
variable (P:Program) (w:World)
def ObjOk(H:Hp)(h:Heap)(a:Addr):HO->Prop
 | .lst xs=>xs.length<=sizeLine/\∃(its:List Value) (n:Nat),Vals xs its/\h.get? a=some { cls:=.type "list",data:=.seq its.toArray n }
 | .tup xs=>xs.length<=sizeLine/\∃its:List Value,Vals xs its/\IsTup h a its.toArray
 | .dK kvs=>kvs.length<=sizeLine/\(a==sysModules)=false/\∃vs,KV kvs vs/\h.DictOf (Qh P w) a vs
 | .dT kvs=>kvs.length<=sizeLine/\(a==sysModules)=false/\∃xs:List (List TV×Addr×Value),
   Paired (fun(p:List TV×V) (q:List TV×Addr×Value)=>p.1=q.1/\H q.2.1=some (.tup (p.1.map kV))/\RelV p.2 q.2.2) kvs xs/\
   ∃o es ep,h.get? a=some o/\o.ExactDict/\o.data = .dict es ep/\es.toList=xs.map (entryOfKey (tupleKind (Qh P w)))/\(xs.map (·.1)).Nodup
 | .set S n=>h.SetOf (intKind P w) a S n
 | .ins C dx fs=>H dx=some (.own a)/\fs.length<=1000/\dx≠a/\h.get? a=some (PySem.W.instObj C dx)/\
   ∃mA,h.Ns1 dx mA/\(∀f,J2 (fs.lookup f) (mA f))/\PySem.Within mA (fs.map (·.1))
 | .own _=>∃o,h.get? a=some o
 | .xd fs=>∃mA,h.Ns1 a mA/\∀f,J2 (fs.lookup f) (mA f)
 | .rng lo hi=>∃t u v,h.get? a=some { cls:=.type "range",data:=.fields #[.int lo t,.int hi u,.int 1 v] }
 | .frz o u=>h.get? a=some o/\ObjOk H h a u
 | .tbl ps=>h.get? a=some { cls:=.none,data:=.fields ps }
 | .met f x=>h.get? a=some (PySem.W.methodObj (.ref f) (.ref x))
 | .ext φ=>φ h/\(∃o,h.get? a=some o)/\∀h1 h2:Heap,φ h1->(∀o,h1.get? a=some o->h2.get? a=some o)->φ h2
def HOk(H:Hp)(h:Heap):Prop:=∀a o,H a=some o->ObjOk P w H h a o
end
section
variable {P:Program} {w:World} {H H':Hp} {h h':Heap} {a:Addr} {o:HO}
theorem ObjOk.lt(x:ObjOk P w H h a o):a<h.objs.size:=by
 cases o with
 | lst xs=>obtain⟨_,_,_,_,e⟩:=x;exact Heap.lt_size e
 | tup xs=>obtain⟨_,_,_,p⟩:=x;exact p.lt
 | dK kvs=>obtain⟨_,_,_,_,o,_,_,e,_⟩:=x;exact Heap.lt_size e
 | dT kvs=>obtain⟨_,_,_,_,o,_,_,e,_⟩:=x;exact Heap.lt_size e
 | set S n=>obtain⟨o,_,_,_,e,_⟩:=x;exact Heap.lt_size e
 | ins C dx fs=>obtain⟨_,_,_,e,_⟩:=x;exact Heap.lt_size e
 | own y=>obtain⟨_,e⟩:=x;exact Heap.lt_size e
 | xd fs=>obtain⟨_,⟨_,_,_,e,_⟩,_⟩:=x;exact Heap.lt_size e
 | rng lo hi=>obtain⟨_,_,_,e⟩:=x;exact Heap.lt_size e
 | frz ob u=>obtain⟨e,_⟩:=x;exact Heap.lt_size e
 | tbl ps=>exact Heap.lt_size (show h.get? a=some _ from x)
 | met f y=>exact Heap.lt_size (show h.get? a=some _ from x)
 | ext φ=>obtain⟨_,⟨_,e⟩,_⟩:=x;exact Heap.lt_size e
theorem Paired.mapP{α β:Type}{F G:α->β->Prop}:∀{l₁:List α}{l₂:List β},Paired F l₁ l₂->(∀a b,F a b->G a b)->Paired G l₁ l₂
 | _,_,.nil,_=>.nil
 | _,_,.cons r t,f=>.cons (f _ _ r) (Paired.mapP t f)
theorem ObjOk.stay(x:ObjOk P w H h a o)(k:∀b u,(b=a\/H b=some (.own a))->h.get? b=some u->h'.get? b=some u)
  (ho:∀b,H b=some (.own a)->H' b=some (.own a)) (ht:∀b xs,H b=some (.tup xs)->H' b=some (.tup xs)):ObjOk P w H' h' a o:=by
 induction o with
 | lst xs=>obtain⟨z,its,n,r,e⟩:=x;exact⟨z,its,n,r,k _ _ (.inl rfl) e⟩
 | tup xs=>obtain⟨z,its,r,ob,e,c⟩:=x;exact⟨z,its,r,ob,k _ _ (.inl rfl) e,c⟩
 | dK kvs=>obtain⟨z,y,vs,r,ob,es,ep,e,c⟩:=x;exact⟨z,y,vs,r,ob,es,ep,k _ _ (.inl rfl) e,c⟩
 | dT kvs=>
  obtain⟨z,y,xs,r,ob,es,ep,e,c⟩:=x
  exact⟨z,y,xs,Paired.mapP r fun p q z=>⟨z.1,ht _ _ z.2.1,z.2.2⟩,ob,es,ep,k _ _ (.inl rfl) e,c⟩
 | set S n=>obtain⟨ob,es,ep,t,e,c⟩:=x;exact⟨ob,es,ep,t,k _ _ (.inl rfl) e,c⟩
 | ins C dx fs=>
  obtain⟨d,z,ne,e,mA,⟨od,es,ep,e2,c⟩,r⟩:=x
  exact⟨ho _ d,z,ne,k _ _ (.inl rfl) e,mA,⟨od,es,ep,k _ _ (.inr d) e2,c⟩,r⟩
 | own y=>obtain⟨ob,e⟩:=x;exact⟨ob,k _ _ (.inl rfl) e⟩
 | xd fs=>obtain⟨mA,⟨od,es,ep,e,c⟩,r⟩:=x;exact⟨mA,⟨od,es,ep,k _ _ (.inl rfl) e,c⟩,r⟩
 | rng lo hi=>obtain⟨t,u,v,e⟩:=x;exact⟨t,u,v,k _ _ (.inl rfl) e⟩
 | frz ob u ih=>obtain⟨e,q⟩:=x;exact⟨k _ _ (.inl rfl) e,ih q⟩
 | tbl ps=>
  have e:h.get? a=some { cls:=.none,data:=.fields ps }:=x
  show h'.get? a=some { cls:=.none,data:=.fields ps }
  exact k a _ (.inl rfl) e
 | met f y=>
  have e:h.get? a=some (PySem.W.methodObj (.ref f) (.ref y)):=x
  show h'.get? a=some (PySem.W.methodObj (.ref f) (.ref y))
  exact k a _ (.inl rfl) e
 | ext φ=>obtain⟨p,⟨o,e⟩,st⟩:=x;exact⟨st _ _ p fun o q=>k _ _ (.inl rfl) q,⟨o,k _ _ (.inl rfl) e⟩,st⟩
theorem HOk.lt(x:HOk P w H h)(e:H a=some o):a<h.objs.size:=(x a o e).lt
theorem HOk.fresh(x:HOk P w H h)(e:h.objs.size<=a):H a=none:=by
 cases q:H a with
 | none=>rfl
 | some u=>exact absurd (Nat.lt_of_lt_of_le (x.lt q) e) (Nat.lt_irrefl _)
theorem HOk.kept(x:HOk P w H h)(k:∀b u,h.get? b=some u->h'.get? b=some u):HOk P w H h':=fun a o e=>
 (x a o e).stay (fun b u _ q=>k b u q) (fun _ q=>q) fun _ _ q=>q
theorem HOk.laid(x:HOk P w H h)(k:∀b u,h.get? b=some u->h'.get? b=some u)(hp:h.objs.size<=a)(new:ObjOk P w (upd H a o) h' a o):HOk P w (upd H a o) h':=fun b u e=>by
 have hn:=x.fresh hp
 by_cases hb:b=a
 ·subst hb;rw[Zx] at e;cases e;exact new
 ·rw[upd_ne hb] at e
  exact(x b u e).stay (fun c v _ q=>k c v q) (fun c q=>by rw[upd_ne (ZG q hn)];exact q) fun c xs q=>by rw[upd_ne (ZG q hn)];exact q
end
def Rd(H:Hp)(a:Addr)(u:HO):Prop:=H a=some u\/∃o,H a=some (.frz o u)
theorem Rd.ok{P:Program}{w:World}{H:Hp}{h:Heap}{a:Addr}{u:HO}(r:Rd H a u)(x:HOk P w H h):ObjOk P w H h a u:=by
 rcases r with r | ⟨o,r⟩
 ·exact x a u r
 ·obtain⟨_,q⟩:=x a _ r
  exact q
def Wv:Option HO->Prop
 | some (.lst _)=>True
 | some (.dK _)=>True
 | some (.dT _)=>True
 | some (.set _ _)=>True
 | some (.ins _ _ _)=>True
 | some (.ext _)=>True
 | _=>False
section
variable {P:Program} {w:World} {H:Hp} {h h':Heap} {x e:Addr} {o':HO}
theorem HOk.write(ok:HOk P w H h)(mu:Wv (H x))(he:e=x\/H e=some (.own x))(k:∀b u,b≠e->h.get? b=some u->h'.get? b=some u)(heo:∃u,h'.get? e=some u)
  (new:ObjOk P w (upd H x o') h' x o'):HOk P w (upd H x o') h':=fun b u q=>by
 have nown:∀c y,H c=some (.own y)->c≠x:=fun c y r z=>by subst z;rw[r] at mu;exact mu
 have ntup:∀c xs,H c=some (.tup xs)->c≠x:=fun c xs r z=>by subst z;rw[r] at mu;exact mu
 by_cases hb:b=x
 ·subst hb;rw[Zx] at q;cases q;exact new
 ·rw[upd_ne hb] at q
  by_cases hbe:b=e
  ·have q':H b=some (.own x):=by
    rcases he with z | z
    ·exact absurd (hbe.trans z) hb
    ·rw[hbe];exact z
   rw[q] at q';cases q'
   obtain⟨v,hv⟩:=heo
   exact⟨v,by rw[hbe];exact hv⟩
  ·refine(ok b u q).stay (fun c v hc r=>k c v ?_ r) (fun c r=>by rw[upd_ne (nown c b r)];exact r) fun c xs r=>by rw[upd_ne (ntup c xs r)];exact r
   rcases hc with rfl | hc
   ·exact hbe
   ·rintro rfl
    rcases he with z | z
    ·exact nown c b hc z
    ·rw[hc] at z;cases z;exact hb rfl
end
structure Un(fs ex:List Addr)(H H':Hp)(h h':Heap):Prop where
 keep:∀b o,h.get? b=some o->H b=none->b∉fs->b∉ex->h'.get? b=some o
 slot:∀b o,h.get? b=some o->H b=none->b∈fs->b∉ex->∃sl,h'.get? b=some { o with slots:=sl }
 free:∀b o,h.get? b=some o->H b=none->b∉ex->H' b=none
 there:∀b o,h.get? b=some o->b∉ex->∃o',h'.get? b=some o'
 tups:∀b xs,H b=some (.tup xs)->H' b=some (.tup xs)
 frzs:∀b o u,H b=some (.frz o u)->H' b=some (.frz o u)
 tbls:∀b ps,H b=some (.tbl ps)->∃more,H' b=some (.tbl (ps++more))
section
variable {fs fs' ex ex':List Addr} {H H1 H2:Hp} {h h1 h2 h':Heap} {a x e:Addr} {o:HO}
theorem Un.any(u:Un fs ex H H1 h h1){b:Addr}{ob:Obj}(q:h.get? b=some ob)(n:H b=none)(hx:b∉ex):∃sl,h1.get? b=some { ob with slots:=sl }:=by
 by_cases hb:b∈fs
 ·exact u.slot b ob q n hb hx
 ·exact⟨ob.slots,u.keep b ob q n hb hx⟩
theorem Un.kept(k:∀b u,h.get? b=some u->h'.get? b=some u):Un fs ex H H h h':=
 ⟨fun b ob q _ _ _=>k b ob q,fun b ob q _ _ _=>⟨ob.slots,k b ob q⟩,fun _ _ _ n _=>n,fun b ob q _=>⟨ob,k b ob q⟩,fun _ _ q=>q,fun _ _ _ q=>q,fun _ ps q=>⟨#[],by rw[q];simp⟩⟩
theorem Un.refl:Un fs ex H H h h:=Un.kept fun _ _ q=>q
theorem Un.laid(k:∀b u,h.get? b=some u->h'.get? b=some u)(hp:h.objs.size<=a)(hn:H a=none):Un fs ex H (upd H a o) h h' where
 keep:=fun b u q _ _ _=>k b u q
 slot:=fun b u q _ _ _=>⟨u.slots,k b u q⟩
 free:=fun b u q n _=>by rw[upd_ne (Nat.ne_of_lt (Nat.lt_of_lt_of_le (Heap.lt_size q) hp))];exact n
 there:=fun b u q _=>⟨u,k b u q⟩
 tups:=fun b xs q=>by rw[upd_ne (ZG q hn)];exact q
 frzs:=fun b u xs q=>by rw[upd_ne (ZG q hn)];exact q
 tbls:=fun b ps q=>⟨#[],by rw[upd_ne (ZG q hn),q];simp⟩
theorem Un.write(mu:Wv (H x))(he:e=x\/H e=some (.own x))(k:∀b u,b≠e->h.get? b=some u->h'.get? b=some u)(heo:∃u,h'.get? e=some u):Un fs ex H (upd H x o) h h':=by
 have hx:∀b,H b=none->b≠x:=fun b n z=>by subst z;rw[n] at mu;exact mu
 have hb:∀b,H b=none->b≠e:=fun b n z=>by
  subst z
  rcases he with r | r
  ·exact hx b n r
  ·rw[n] at r;cases r
 have hm:∀b u,H b=some u->¬Wv (some u)->b≠x:=fun b u q nm z=>by subst z;rw[q] at mu;exact nm mu
 refine⟨fun b u q n _ _=>k b u (hb b n) q,fun b u q n _ _=>⟨u.slots,k b u (hb b n) q⟩,fun b u q n _=>by rw[upd_ne (hx b n)];exact n,fun b u q _=>?_,
  fun b xs q=>by rw[upd_ne (hm b _ q fun z=>z)];exact q,fun b u xs q=>by rw[upd_ne (hm b _ q fun z=>z)];exact q,fun b ps q=>⟨#[],by rw[upd_ne (hm b _ q fun z=>z),q];simp⟩⟩
 by_cases hbe:b=e
 ·subst hbe;exact heo
 ·exact⟨u,k b u hbe q⟩
end
def Gx(h:Heap)(H:Hp):List Addr:=(List.range h.objs.size).filter fun a=>(H a).isSome
def Qi(h:Heap)(H:Hp):Heap:=PySem.W.hideAll h (Gx h H)
theorem NZ(h:Heap)(H:Hp):(Qi h H).objs.size=h.objs.size:=PySem.W.hideAll_size _ _
theorem ML{h:Heap}{H:Hp}{b:Addr}{o:Obj}(e:h.get? b=some o)(n:H b=none):(Qi h H).get? b=some o:=
 PySem.W.hideAll_get _ e fun hm=>by
  have q:(H b).isSome=true:=(List.mem_filter.mp hm).2
  rw[n] at q;simp at q
theorem Kr{h:Heap}{H:Hp}{b:Addr}{o:Obj}(e:(Qi h H).get? b=some o):h.get? b=some o/\H b=none:=by
 have e':h.get? b=some o:=PySem.W.of_hideAll (Gx h H) e
 refine⟨e',?_⟩
 cases q:H b with
 | none=>rfl
 | some x=>
  have hm:b∈Gx h H:=List.mem_filter.mpr ⟨List.mem_range.mpr (Heap.lt_size e'),by simp[q]⟩
  have z:(Qi h H).get? b=none:=PySem.W.hideAll_none (Gx h H) hm
  rw[z] at e;cases e
def Ks(g h:Heap)(L:Addr):List (Addr×Obj):=(List.range h.objs.size).filterMap fun a=>if a=L\/(g.get? a).isSome=true then none else(h.get? a).map fun o=>(a,o)
def YJ(g h:Heap)(L d:Addr):List (Addr×Obj):=(Ks g h L).filter fun p=>decide (p.1≠d)
structure Mod(K:PySem.W.Frag)(mg:Str->Option Value)(base:Heap):Prop where
 kin:K.In base
 glob:base.Ns mainGlobals mg
 blt:∃mb,base.Ns builtinsNs mb/\∀x:Str,x≠"__name__"->mb x=bootBuiltins x
 nolimit:base.NoLimit
structure Cx where
 prog:Program
 w:World
 K:PySem.W.Frag
 mg:Str->Option Value
 base:Heap
 A:Around
 N:List Str
 s₀:Shared
 H₀:Hp
 env:Env
 outer:List Env
 stack:List Env
 ex:List Addr
 fn:Str->Bool
 calm:Bool
 pn:List (Addr×Obj)
 xe:Value->Shared->Prop
def PZ(l:List Env):List Addr:=l.filterMap (·.frame)
abbrev Cx.fs(X:Cx):List Addr:=PZ X.outer
def GN(sc:Scope)(x:Str):Prop:=sc.names.lookup x=some .local\/sc.names.lookup x=some .cell\/sc.names.lookup x=some .free
def Hy(sc:Scope)(x:Str):Prop:=sc.names.lookup x=some .local\/sc.names.lookup x=some .cell
def GO(env:Env)(h:Heap)(m:Str->Option Value)(x:Str)(u:Value):Prop:=
 (env.kindOf x=some .local/\m x=some u)\/((env.kindOf x=some .cell\/env.kindOf x=some .free)/\∃c,env.cells.lookup x=some c/\h.IsCell c (some u))
structure Cx.Ok(X:Cx):Prop where
 mod:Mod X.K X.mg X.base
 kind:X.env.scope.kind = .function
 glob:X.env.globals=mainGlobals
 blt:X.env.builtins=builtinsNs
 above:X.s₀.heap.objs.size<=X.env.locals
 inj:∀x y c,X.env.cells.lookup x=some c->X.env.cells.lookup y=some c->x=y
 has:∀x,(X.env.kindOf x=some .cell\/X.env.kindOf x=some .free)->∃c,X.env.cells.lookup x=some c
 cab:∀x c,X.fn x=true->X.env.cells.lookup x=some c->X.s₀.heap.objs.size<=c
 hd:X.calm=true->X.A.handled=none
 frames:X.A.frames=some X.stack
 stk:X.stack=X.outer\/(X.stack=X.env::X.outer/\X.env.frame=some X.env.locals)
 exf:∀b∈X.ex,b≠X.env.locals/\∀x c,X.env.cells.lookup x=some c->c≠b
 bs:∀b o,X.base.get? b=some o->X.s₀.heap.get? b=some o/\X.H₀ b=none
 bsz:X.base.objs.size<=X.s₀.heap.objs.size
 noex:∀b o,X.base.get? b=some o->b∉X.ex
 exfs:∀b∈X.ex,b∉X.fs
 funs:X.s₀.heap.FunFrames X.base X.outer
 frf:∀b∈X.fs,X.H₀ b=none
structure Inv(X:Cx)(pins:List (Addr×Obj))(σ:List (Option V))(H:Hp)(s:Shared):Prop where
 ok:X.Ok
 os:s.os=X.s₀.os
 bare:AllBare s.gens
 base:Un X.fs X.ex X.H₀ H X.s₀.heap s.heap
 loc:∃m,s.heap.Ns X.env.locals m/\∀(i:Nat)(x:Str)(v:V),X.N[i]?=some x->σ[i]?=some (some v)->GN X.env.scope x->∃u,RelV v u/\GO X.env s.heap m x u
 cell:∀x c,X.env.cells.lookup x=some c->∃v,s.heap.IsCell c v
 free:H X.env.locals=none
 freeC:∀x c,X.env.cells.lookup x=some c->H c=none
 pin:∀p∈X.pn++pins,s.heap.get? p.1=some p.2/\H p.1=none/\p.1≠X.env.locals/\p.1∉X.fs/\∀v,p.2.data≠.cell v
 hok:HOk X.prog X.w H s.heap
 len:σ.length=X.N.length
section
variable {X:Cx} {pins:List (Addr×Obj)} {σ:List (Option V)} {H H':Hp} {s:Shared} {h':Heap}
theorem Cx.Ok.nofr(ok:X.Ok){b:Addr}{o:Obj}(e:X.base.get? b=some o):b∉X.fs:=fun hb=>by
 have:=(ok.funs.mem hb).1
 rw[e] at this;cases this
theorem Inv.bs(I:Inv X pins σ H s):∀b o,X.base.get? b=some o->s.heap.get? b=some o/\H b=none:=fun b o e=>
 ⟨I.base.keep b o (I.ok.bs b o e).1 (I.ok.bs b o e).2 (I.ok.nofr e) (I.ok.noex b o e),I.base.free b o (I.ok.bs b o e).1 (I.ok.bs b o e).2 (I.ok.noex b o e)⟩
theorem Inv.bk(I:Inv X pins σ H s):∀b o,X.base.get? b=some o->s.heap.get? b=some o:=fun b o e=>(I.bs b o e).1
theorem Inv.mod(I:Inv X pins σ H s):Mod X.K X.mg X.base:=I.ok.mod
theorem Inv.kIn(I:Inv X pins σ H s):X.K.In s.heap:=I.ok.mod.kin.keeps I.bk
theorem Inv.fr(I:Inv X pins σ H s):∃m,Fr X.base X.env.locals s.heap m:=
 let⟨m,hn,_⟩:=I.loc
 ⟨m,hn,I.bk,Nat.le_trans I.ok.bsz I.ok.above⟩
theorem Inv.lt(I:Inv X pins σ H s):X.env.locals<s.heap.objs.size:=let⟨_,hn,_⟩:=I.loc;hn.lt
theorem Inv.sz(I:Inv X pins σ H s):X.s₀.heap.objs.size<=s.heap.objs.size:=Nat.le_trans I.ok.above (Nat.le_of_lt I.lt)
theorem Inv.nofs(I:Inv X pins σ H s){a:Addr}(h:s.heap.objs.size<=a):a∉X.fs:=fun hb=>by
 obtain⟨_,o,ho,_⟩:=I.ok.funs.mem hb
 exact absurd (Nat.lt_of_lt_of_le (Heap.lt_size ho) (Nat.le_trans I.sz h)) (Nat.lt_irrefl _)
theorem Inv.cne(I:Inv X pins σ H s):∀x c,X.env.cells.lookup x=some c->c≠X.env.locals:=fun x c e z=>by
 obtain⟨v,o,ho,hd⟩:=I.cell x c e
 obtain⟨m,⟨o',es,ep,ho',hd',_⟩,_⟩:=I.loc
 rw[z,ho'] at ho;cases ho;rw[hd'] at hd;cases hd
theorem Inv.funs(I:Inv X pins σ H s):s.heap.FunFrames X.base X.outer:=by
 have all:∀(l:List Env),(∀b∈PZ l,b∈X.fs)->X.s₀.heap.FunFrames X.base l->s.heap.FunFrames X.base l:=by
  intro l
  induction l with
  | nil=>intro _ _;trivial
  | cons env r ih=>
   intro hs hl
   obtain⟨hk,⟨L,o,hf,hn,ho,hd⟩,hr⟩:=hl
   have hL:L∈X.fs:=hs L (by unfold PZ;rw[List.filterMap_cons,hf];exact List.mem_cons_self)
   obtain⟨sl,e⟩:=I.base.slot L o ho (I.ok.frf L hL) hL fun z=>I.ok.exfs L z hL
   exact⟨hk,⟨L,_,hf,hn,e,hd⟩,ih (fun b hb=>hs b (by unfold PZ;rw[List.filterMap_cons,hf];exact List.mem_cons_of_mem _ hb)) hr⟩
 exact all X.outer (fun _ hb=>hb) I.ok.funs
theorem Inv.stack(I:Inv X pins σ H s):s.heap.FunFrames X.base X.stack:=by
 rcases I.ok.stk with e | ⟨e,hf⟩
 ·rw[e];exact I.funs
 ·rw[e]
  obtain⟨m,hn,_⟩:=I.loc
  refine .cons (by rw[I.ok.kind];decide) hf hn ?_ I.funs
  exact Heap.get?_none_of_le (Nat.le_trans I.ok.bsz I.ok.above)
theorem Inv.stkSub(I:Inv X pins σ H s):∀b∈PZ X.stack,b∈X.env.locals::X.fs:=fun b hb=>by
 rcases I.ok.stk with e | ⟨e,hf⟩
 ·rw[e] at hb;exact List.mem_cons_of_mem _ hb
 ·rw[e] at hb
  unfold PZ at hb;rw[List.filterMap_cons,hf] at hb;exact hb
theorem Inv.stkFree(I:Inv X pins σ H s):∀b∈PZ X.stack,H b=none:=fun b hb=>by
 rcases List.mem_cons.mp (I.stkSub b hb) with e | hb
 ·rw[e];exact I.free
 ·obtain⟨_,o,ho,_⟩:=I.ok.funs.mem hb
  exact I.base.free b o ho (I.ok.frf b hb) fun z=>I.ok.exfs b z hb
theorem Inv.step{g':Array GenState}{t':Nat}{d':Drawn}{ch:List Addr}(I:Inv X pins σ H s)
  (hch:∀b∈ch,(b∈X.ex\/X.s₀.heap.objs.size<=b)/\b≠X.env.locals/\(∀x c,X.env.cells.lookup x=some c->c≠b)/\∀p∈X.pn++pins,p.1≠b)
  (keep:∀b o,b≠X.env.locals->b∉X.fs->b∉ch->s.heap.get? b=some o->H b=none->h'.get? b=some o)
  (slot:∀b o,b≠X.env.locals->b∈X.fs->b∉ch->s.heap.get? b=some o->H b=none->∃sl,h'.get? b=some { o with slots:=sl }) (free:∀b o,b∉ch->s.heap.get? b=some o->H b=none->H' b=none)
  (there:∀b o,b∉ch->s.heap.get? b=some o->∃o',h'.get? b=some o')
  (tups:∀b xs,H b=some (.tup xs)->H' b=some (.tup xs)) (frzs:∀b o u,H b=some (.frz o u)->H' b=some (.frz o u)) (tbls:∀b ps,H b=some (.tbl ps)->∃more,H' b=some (.tbl (ps++more)))
  (ns:∀m,s.heap.Ns X.env.locals m->h'.Ns X.env.locals m) (hok:HOk X.prog X.w H' h') (hg:AllBare g') :
  Inv X pins σ H' { s with heap:=h',gens:=g',drawn:=d',toks:=t' }:=by
 have neL:∀b o,X.s₀.heap.get? b=some o->b≠X.env.locals:=fun b o e=>Nat.ne_of_lt (Nat.lt_of_lt_of_le (Heap.lt_size e) I.ok.above)
 have neC:∀b o,X.s₀.heap.get? b=some o->b∉X.ex->b∉ch:=fun b o e hx hb=>by
  rcases(hch b hb).1 with z | z
  ·exact hx z
  ·exact absurd (Nat.lt_of_lt_of_le (Heap.lt_size e) z) (Nat.lt_irrefl _)
 have cellK:∀x c,X.env.cells.lookup x=some c->∀v,s.heap.IsCell c v->h'.IsCell c v:=fun x c e v ⟨o,ho,hd⟩=>by
  have nch:c∉ch:=fun z=>(hch c z).2.2.1 x c e rfl
  by_cases hc:c∈X.fs
  ·obtain⟨sl,q⟩:=slot c o (I.cne x c e) hc nch ho (I.freeC x c e)
   exact⟨_,q,hd⟩
  ·exact⟨o,keep c o (I.cne x c e) hc nch ho (I.freeC x c e),hd⟩
 refine⟨I.ok,I.os,hg,⟨fun b o e n hb hx=>?_,fun b o e n hb hx=>?_,fun b o e n hx=>?_,fun b o e hx=>?_,fun b xs e=>tups b xs (I.base.tups b xs e),fun b o xs e=>frzs b o xs (I.base.frzs b o xs e),fun b ps e=>?_⟩,?_,fun x c e=>?_,?_,fun x c e=>?_,fun p hp=>?_,hok,I.len⟩
 ·exact keep b o (neL b o e) hb (neC b o e hx) (I.base.keep b o e n hb hx) (I.base.free b o e n hx)
 ·obtain⟨sl,e1⟩:=I.base.slot b o e n hb hx
  obtain⟨sl',e2⟩:=slot b _ (neL b o e) hb (neC b o e hx) e1 (I.base.free b o e n hx)
  exact⟨sl',e2⟩
 ·obtain⟨o',e1⟩:=I.base.there b o e hx
  exact free b o' (neC b o e hx) e1 (I.base.free b o e n hx)
 ·obtain⟨o',e1⟩:=I.base.there b o e hx
  exact there b o' (neC b o e hx) e1
 ·obtain⟨m1,e1⟩:=I.base.tbls b ps e
  obtain⟨m2,e2⟩:=tbls b _ e1
  exact⟨m1++m2,by rw[e2,Array.append_assoc]⟩
 ·obtain⟨m,hn,hl⟩:=I.loc
  refine⟨m,ns m hn,fun i x v e1 e2 e3=>?_⟩
  obtain⟨u,r,l⟩:=hl i x v e1 e2 e3
  refine⟨u,r,?_⟩
  rcases l with l | ⟨k,c,e,z⟩
  ·exact .inl l
  ·exact .inr ⟨k,c,e,cellK x c e _ z⟩
 ·obtain⟨v,z⟩:=I.cell x c e
  exact⟨v,cellK x c e v z⟩
 ·obtain⟨m,⟨o,_,_,ho,_⟩,_⟩:=I.loc
  exact free _ o (fun z=>(hch _ z).2.1 rfl) ho I.free
 ·obtain⟨v,o,ho,hd⟩:=I.cell x c e
  exact free c o (fun z=>(hch c z).2.2.1 x c e rfl) ho (I.freeC x c e)
 ·obtain⟨e,n,ne,nf,d⟩:=I.pin p hp
  have nch:p.1∉ch:=fun z=>(hch p.1 z).2.2.2 p hp rfl
  exact⟨keep p.1 p.2 ne nf nch e n,free p.1 p.2 nch e n,ne,nf,d⟩
theorem Inv.un{t':Nat}(I:Inv X pins σ H s)(u:Un X.fs [] H H' s.heap h')(hok:HOk X.prog X.w H' h'):Inv X pins σ H' { s with heap:=h',toks:=t' }:=by
 obtain⟨m,⟨o,es,ep,ho,r⟩,_⟩:=id I.loc
 obtain⟨sl,hL⟩:=u.any ho I.free (by simp)
 exact I.step (g':=s.gens) (d':=s.drawn) (ch:=[]) (fun _ z=>nomatch z) (fun b o _ hb _ e n=>u.keep b o e n hb (by simp)) (fun b o _ hb _ e n=>u.slot b o e n hb (by simp)) (fun b o _ e n=>u.free b o e n (by simp)) (fun b o _ e=>u.there b o e (by simp)) u.tups u.frzs u.tbls (fun m' hm=>by
  obtain⟨o',es',ep',ho',r'⟩:=hm
  rw[ho] at ho';cases ho'
  exact⟨_,es',ep',hL,r'⟩) hok I.bare
theorem Inv.call{g':Array GenState}{t':Nat}{d':Drawn}{ch:List Addr}(I:Inv X pins σ H s)(u:Un (PZ X.stack) ch H H' s.heap h')(hok:HOk X.prog X.w H' h')(hg:AllBare g')
  (hch:∀b∈ch,(b∈X.ex\/X.s₀.heap.objs.size<=b)/\b≠X.env.locals/\(∀x c,X.env.cells.lookup x=some c->c≠b)/\∀p∈X.pn++pins,p.1≠b) :
  Inv X pins σ H' { s with heap:=h',gens:=g',drawn:=d',toks:=t' }:=by
 obtain⟨m,⟨o,es,ep,ho,r⟩,_⟩:=id I.loc
 obtain⟨sl,hL⟩:=u.any ho I.free fun z=>(hch _ z).2.1 rfl
 exact I.step (ch:=ch) hch (fun b o hL hb hc e n=>u.keep b o e n (fun z=>(List.mem_cons.mp (I.stkSub b z)).elim hL hb) hc) (fun b o _ _ hc e n=>u.any e n hc) (fun b o hc e n=>u.free b o e n hc) (fun b o hc e=>u.there b o e hc) u.tups u.frzs u.tbls (fun m' hm=>by
  obtain⟨o',es',ep',ho',r'⟩:=hm
  rw[ho] at ho';cases ho'
  exact⟨_,es',ep',hL,r'⟩) hok hg
theorem Inv.turned{t':Nat}{it:Addr}(I:Inv X pins σ H s)(k:∀b o,b≠it->s.heap.get? b=some o->h'.get? b=some o)(hn:H it=none)(hL:it≠X.env.locals)
  (h1:it∈X.ex\/X.s₀.heap.objs.size<=it) (h2:∀x c,X.env.cells.lookup x=some c->c≠it) (h3:∀p∈X.pn++pins,p.1≠it):Inv X pins σ H { s with heap:=h',toks:=t' }:=by
 have nit:∀b u,H b=some u->b≠it:=fun b u e z=>by rw[z,hn] at e;cases e
 refine I.step (g':=s.gens) (d':=s.drawn) (ch:=[it]) (fun b hb=>?_) (fun b o _ _ hc e _=>k b o (fun z=>hc (by simp[z])) e) (fun b o _ _ hc e _=>⟨o.slots,k b o (fun z=>hc (by simp[z])) e⟩) (fun _ _ _ _ n=>n)
  (fun b o hc e=>⟨o,k b o (fun z=>hc (by simp[z])) e⟩) (fun _ _ e=>e) (fun _ _ _ e=>e) (fun b ps e=>⟨#[],by rw[e];simp⟩) (fun m hm=>?_) (fun b u e=>?_) I.bare
 ·have e:b=it:=by simpa using hb
  subst e
  exact⟨h1,hL,h2,h3⟩
 ·obtain⟨o,es,ep,ho,r⟩:=hm
  exact⟨o,es,ep,k _ o (Ne.symm hL) ho,r⟩
 ·refine(I.hok b u e).stay (fun c v hc q=>k c v ?_ q) (fun _ q=>q) fun _ _ q=>q
  rcases hc with z | z
  ·rw[z];exact nit b u e
  ·exact nit c _ z
theorem Inv.tok(I:Inv X pins σ H s)(t:Nat):Inv X pins σ H { s with toks:=t }:=I.un (h':=s.heap) (t':=t) Un.refl I.hok
theorem Inv.kept{t':Nat}(I:Inv X pins σ H s)(k:∀b u,s.heap.get? b=some u->h'.get? b=some u):Inv X pins σ H { s with heap:=h',toks:=t' }:=I.un (Un.kept k) (I.hok.kept k)
theorem Inv.laid{a:Addr}{o:HO}{t':Nat}(I:Inv X pins σ H s)(k:∀b u,s.heap.get? b=some u->h'.get? b=some u)(hp:s.heap.objs.size<=a)(new:ObjOk X.prog X.w (upd H a o) h' a o) :
  Inv X pins σ (upd H a o) { s with heap:=h',toks:=t' }:=I.un (Un.laid k hp (I.hok.fresh hp)) (I.hok.laid k hp new)
theorem Inv.write{x e:Addr}{o:HO}{t':Nat}(I:Inv X pins σ H s)(mu:Wv (H x))(he:e=x\/H e=some (.own x))(k:∀b u,b≠e->s.heap.get? b=some u->h'.get? b=some u)(heo:∃u,h'.get? e=some u)
  (new:ObjOk X.prog X.w (upd H x o) h' x o):Inv X pins σ (upd H x o) { s with heap:=h',toks:=t' }:=I.un (Un.write mu he k heo) (I.hok.write mu he k heo new)
theorem Inv.weak{σ':List (Option V)}(I:Inv X pins σ H s)(hl:σ'.length=σ.length)(w:∀(i:Nat) v,σ'[i]?=some (some v)->σ[i]?=some (some v)):Inv X pins σ' H s:=
 ⟨I.ok,I.os,I.bare,I.base,let⟨m,hn,hl'⟩:=I.loc;⟨m,hn,fun i x v e1 e2 e3=>hl' i x v e1 (w i v e2) e3⟩,I.cell,I.free,I.freeC,I.pin,I.hok,hl.trans I.len⟩
theorem Inv.pins_of{pins':List (Addr×Obj)}(I:Inv X pins σ H s)(h:∀p∈pins',s.heap.get? p.1=some p.2/\H p.1=none/\p.1≠X.env.locals/\p.1∉X.fs/\∀v,p.2.data≠.cell v):Inv X pins' σ H s:=
 ⟨I.ok,I.os,I.bare,I.base,I.loc,I.cell,I.free,I.freeC,fun p hp=>(List.mem_append.mp hp).elim (fun z=>I.pin p (List.mem_append_left _ z)) (h p),I.hok,I.len⟩
theorem Q5{N:List Str}(hN:N.Nodup){i j:Nat}{x:Str}(a:N[i]?=some x)(b:N[j]?=some x):i=j:=by
 obtain⟨h1,e1⟩:=List.getElem?_eq_some_iff.mp a
 obtain⟨h2,e2⟩:=List.getElem?_eq_some_iff.mp b
 exact(List.getElem_inj hN).mp (e1.trans e2.symm)
theorem N0{M:Model}{A:Around}{E:Value->Shared->Prop}{i:Nat}{x:Str}{v:V}{u:Value}{Q:Unit->Shared->Prop}(I:Inv X pins σ H s)(hN:X.N.Nodup)(hi:X.N[i]?=some x)(hx:Hy X.env.scope x)(r:RelV v u)
  (h:∀s',Inv X pins (σ.set i (some v)) H s'->(∃a,Heap.SameBut a s.heap s'.heap/\(a=X.env.locals\/X.env.cells.lookup x=some a))->Q () s') (hf:X.fn x=true\/X.env.scope.names.lookup x=some .local:=by first | exact .inl rfl | exact .inr rfl | assumption):wpAny M A (storeName X.env x u) Q E s:=by
 obtain⟨m,hn,hl⟩:=id I.loc
 have hcls:(X.env.scope.kind==.class || (X.env.scope.kind==.module&&X.env.locals != X.env.globals))=false:=by rw[I.ok.kind];rfl
 have hiσ:i<σ.length:=by rw[I.len];exact(List.getElem?_eq_some_iff.mp hi).1
 have cne:=I.cne
 have tracked:∀{a:Addr}{h':Heap},(∃o,s.heap.get? a=some o/\H a=none)->Heap.SameBut a s.heap h'->HOk X.prog X.w H h':=fun{a h'} ha hs b ob e=>by
  obtain⟨_,_,hfree⟩:=ha
  refine(I.hok b ob e).stay (fun c w' hc q=>(hs.2 c ?_).trans q) (fun _ q=>q) fun _ _ q=>q
  rintro rfl
  rcases hc with rfl | hc
  ·rw[hfree] at e;cases e
  ·rw[hfree] at hc;cases hc
 rcases hx with hk | hk
 ·refine wpAny_storeName_local hk hn (fun h' hn' hs=>?_) hcls
  obtain⟨oL,_,_,hoL,_⟩:=id hn
  refine h _ ⟨I.ok,I.os,I.bare,⟨fun b o e n hb hx=>?_,fun b o e n hb hx=>?_,I.base.free,fun b o e hx=>?_,I.base.tups,I.base.frzs,I.base.tbls⟩,⟨_,hn',fun j y v' e1 e2 e3=>?_⟩,fun y c e=>?_,I.free,I.freeC,fun p hp=>?_,tracked ⟨oL,hoL,I.free⟩ hs,by simpa using I.len⟩ ⟨_,hs,.inl rfl⟩
  ·exact(hs.2 b (Nat.ne_of_lt (Nat.lt_of_lt_of_le (Heap.lt_size e) I.ok.above))).trans (I.base.keep b o e n hb hx)
  ·obtain⟨sl,e1⟩:=I.base.slot b o e n hb hx
   exact⟨sl,(hs.2 b (Nat.ne_of_lt (Nat.lt_of_lt_of_le (Heap.lt_size e) I.ok.above))).trans e1⟩
  ·obtain⟨o',e1⟩:=I.base.there b o e hx
   exact⟨o',(hs.2 b (Nat.ne_of_lt (Nat.lt_of_lt_of_le (Heap.lt_size e) I.ok.above))).trans e1⟩
  ·by_cases hj:j=i
   ·subst hj
    rw[hi] at e1;cases e1;rw[List.getElem?_set_self hiσ] at e2;cases e2
    exact⟨u,r,.inl ⟨hk,by simp⟩⟩
   ·rw[List.getElem?_set_ne (Ne.symm hj)] at e2
    obtain⟨u',r',q⟩:=hl j y v' e1 e2 e3
    refine⟨u',r',?_⟩
    rcases q with⟨k,e⟩ | ⟨k,c,e,z⟩
    ·refine .inl ⟨k,?_⟩
     have:y≠x:=fun e=>hj (Q5 hN e1 (e▸hi))
     simp[this,e]
    ·exact .inr ⟨k,c,e,z.sameBut hs (cne y c e)⟩
  ·obtain⟨w',z⟩:=I.cell y c e
   exact⟨w',z.sameBut hs (cne y c e)⟩
  ·obtain⟨e,n,ne,nf,d⟩:=I.pin p hp
   exact⟨(hs.2 p.1 ne).trans e,n,ne,nf,d⟩
 ·have hfn:X.fn x=true:=by
   rcases hf with z | z
   ·exact z
   ·rw[z] at hk;cases hk
  obtain⟨c,hc⟩:=I.ok.has x (.inl hk)
  obtain⟨w',z⟩:=I.cell x c hc
  refine wpAny_storeName_cell I.ok.kind hk hc z (fun h' hc' hs=>?_)
  obtain⟨oc,hoc,hocd⟩:=id z
  refine h { s with heap:=h' } ⟨I.ok,I.os,I.bare,⟨fun b o e n hb hx=>?_,fun b o e n hb hx=>?_,I.base.free,fun b o e hx=>?_,I.base.tups,I.base.frzs,I.base.tbls⟩,⟨m,hn.sameBut hs (Ne.symm (cne x c hc)),fun j y v' e1 e2 e3=>?_⟩,fun y c' e=>?_,I.free,I.freeC,fun p hp=>?_,tracked ⟨oc,hoc,I.freeC x c hc⟩ hs,by simpa using I.len⟩ ⟨c,hs,.inr hc⟩
  ·exact(hs.2 b (Nat.ne_of_lt (Nat.lt_of_lt_of_le (Heap.lt_size e) (I.ok.cab x c hfn hc)))).trans (I.base.keep b o e n hb hx)
  ·obtain⟨sl,e1⟩:=I.base.slot b o e n hb hx
   exact⟨sl,(hs.2 b (Nat.ne_of_lt (Nat.lt_of_lt_of_le (Heap.lt_size e) (I.ok.cab x c hfn hc)))).trans e1⟩
  ·obtain⟨o',e1⟩:=I.base.there b o e hx
   exact⟨o',(hs.2 b (Nat.ne_of_lt (Nat.lt_of_lt_of_le (Heap.lt_size e) (I.ok.cab x c hfn hc)))).trans e1⟩
  ·by_cases hj:j=i
   ·subst hj
    rw[hi] at e1;cases e1;rw[List.getElem?_set_self hiσ] at e2;cases e2
    exact⟨u,r,.inr ⟨.inl hk,c,hc,hc'⟩⟩
   ·rw[List.getElem?_set_ne (Ne.symm hj)] at e2
    obtain⟨u',r',q⟩:=hl j y v' e1 e2 e3
    refine⟨u',r',?_⟩
    rcases q with q | ⟨k,c',e,z'⟩
    ·exact .inl q
    ·refine .inr ⟨k,c',e,z'.sameBut hs ?_⟩
     rintro rfl
     exact hj (Q5 hN e1 (I.ok.inj _ _ _ e hc▸hi))
  ·by_cases hcc:c'=c
   ·subst hcc;exact⟨_,hc'⟩
   ·obtain⟨w2,z2⟩:=I.cell y c' e
    exact⟨w2,z2.sameBut hs hcc⟩
  ·obtain⟨e,n,ne,nf,d⟩:=I.pin p hp
   refine⟨(hs.2 p.1 ?_).trans e,n,ne,nf,d⟩
   intro q;rw[q,hoc] at e
   have q':oc=p.2:=Option.some.inj e
   exact d w' (by rw[<-q'];exact hocd)
theorem Si{M:Model}{A:Around}{E:Value->Shared->Prop}{i:Nat}{x:Str}{v:V}{u:Value}{Q:Unit->Shared->Prop}(I:Inv X pins σ H s)(hN:X.N.Nodup)(hi:X.N[i]?=some x)(hx:Hy X.env.scope x)(r:RelV v u)
  (h:∀s',Inv X pins (σ.set i (some v)) H s'->Q () s') (hf:X.fn x=true\/X.env.scope.names.lookup x=some .local:=by first | exact .inl rfl | exact .inr rfl | assumption):wpAny M A (storeName X.env x u) Q E s:=
 N0 I hN hi hx r (fun s' I' _=>h s' I') hf
theorem Inv.call'{s':Shared}{ch:List Addr}(I:Inv X pins σ H s)(ho:s'.os=s.os)(u:Un (PZ X.stack) ch H H' s.heap s'.heap)(hok:HOk X.prog X.w H' s'.heap)(hg:AllBare s'.gens)
  (hch:∀b∈ch,(b∈X.ex\/X.s₀.heap.objs.size<=b)/\b≠X.env.locals/\(∀x c,X.env.cells.lookup x=some c->c≠b)/\∀p∈X.pn++pins,p.1≠b):Inv X pins σ H' s':=by
 obtain⟨h',g',d',t',o'⟩:=s'
 have e:o'=s.os:=ho
 subst e
 exact I.call (g':=g') (t':=t') (d':=d') u hok hg hch
end
abbrev XK:=Value->Option Addr->Hp->Prop
abbrev St:=List (Option V)
abbrev VK:=V->Hp->Prop
abbrev TE:=St->Hp->VK->Prop
abbrev TT:=St->Hp->(Bool->Hp->Prop)->Prop
abbrev TA:=St->Hp->(List V->Hp->Prop)->Prop
structure Sj where
 nx:St->Hp->Prop
 rt:VK
 bk:St->Hp->Prop:=fun _ _=>False
 ct:St->Hp->Prop:=fun _ _=>False
abbrev TS:=Sj->St->Hp->Prop
def EP(X:Cx)(pins:List (Addr×Obj))(σ:St)(Q:VK)(u:Value)(s':Shared):Prop:=∃v H',Inv X pins σ H' s'/\RelV v u/\Q v H'
def TP(X:Cx)(pins:List (Addr×Obj))(σ:St)(Q:Bool->Hp->Prop)(b:Bool)(s':Shared):Prop:=∃H',Inv X pins σ H' s'/\Q b H'
def AP(X:Cx)(pins:List (Addr×Obj))(σ:St)(Q:List V->Hp->Prop)(us:List Value)(s':Shared):Prop:=∃vs H',Inv X pins σ H' s'/\Vals vs us/\Q vs H'
def SP(X:Cx)(pins:List (Addr×Obj))(D:Sj)(f:Flow)(s':Shared):Prop:=
 match f with
 | .next=>∃σ' H',Inv X pins σ' H' s'/\D.nx σ' H'
 | .brk=>∃σ' H',Inv X pins σ' H' s'/\D.bk σ' H'
 | .cont=>∃σ' H',Inv X pins σ' H' s'/\D.ct σ' H'
 | .ret u=>∃v σ' H',Inv X pins σ' H' s'/\RelV v u/\D.rt v H'
def PE(X:Cx)(e:Expr)(t:TE):Prop:=
 ∀(pins:List (Addr×Obj))(s:Shared)(σ:St)(H:Hp)(Q:VK),Inv X pins σ H s->t σ H Q->wpAny (model X.prog X.w) X.A (eval e X.env) (EP X pins σ Q) X.xe s
def PT(X:Cx)(e:Expr)(t:TT):Prop:=
 ∀(pins:List (Addr×Obj))(s:Shared)(σ:St)(H:Hp)(Q:Bool->Hp->Prop),Inv X pins σ H s->t σ H Q->wpAny (model X.prog X.w) X.A (isTrue e X.env (eval e X.env)) (TP X pins σ Q) X.xe s
def PW(X:Cx)(e:Expr)(t:TT):Prop:=
 ∀(whole:Sem Value)(pins:List (Addr×Obj))(s:Shared)(σ:St)(H:Hp)(Q:Bool->Hp->Prop),Inv X pins σ H s->t σ H Q->wpAny (model X.prog X.w) X.A (isTrue e X.env whole) (TP X pins σ Q) X.xe s
theorem PW.pt{X:Cx}{e:Expr}{t:TT}(h:PW X e t):PT X e t:=h _
def PA(X:Cx)(es:List Expr)(t:TA):Prop:=
 ∀(pos:Pos)(pins:List (Addr×Obj))(s:Shared)(σ:St)(H:Hp)(Q:List V->Hp->Prop),Inv X pins σ H s->t σ H Q->wpAny (model X.prog X.w) X.A (spliced (backTo pos (starEach es X.env))) (AP X pins σ Q) X.xe s
def PS(X:Cx)(st:Stmt)(t:TS):Prop:=
 ∀(pins:List (Addr×Obj))(s:Shared)(σ:St)(H:Hp)(D:Sj),Inv X pins σ H s->t D σ H->wpAny (model X.prog X.w) X.A (exec st X.env) (SP X pins D) X.xe s
def PSs(X:Cx)(st:List Stmt)(t:TS):Prop:=
 ∀(pins:List (Addr×Obj))(s:Shared)(σ:St)(H:Hp)(D:Sj),Inv X pins σ H s->t D σ H->wpAny (model X.prog X.w) X.A (execs st X.env) (SP X pins D) X.xe s
theorem YS{α:Type}{t:Sem α}{Q Q':α->Shared->Prop}{M:Model}{A:Around}{E:Value->Shared->Prop}{s:Shared}(h:wpAny M A t Q E s)(hQ:∀a s,Q a s->Q' a s):wpAny M A t Q' E s:=wpAny_mono h hQ fun _ _ x=>x
section
variable {X:Cx}
theorem bin{a b:Expr}{ta tb:TE}(ha:PE X a ta)(hb:PE X b tb){pins:List (Addr×Obj)}{s:Shared}{σ:St}{H:Hp}{R:V->V->Hp->Prop}(I:Inv X pins σ H s)(h:ta σ H fun x H1=>tb σ H1 fun y H2=>R x y H2)
  {α:Type} {Q:α->Shared->Prop} {f:Value->Value->Sem α}
  (hf:∀v u s2 x y H2,Inv X pins σ H2 s2->RelV x v->RelV y u->R x y H2->wpAny (model X.prog X.w) X.A (f v u) Q X.xe s2) :
  wpAny (model X.prog X.w) X.A (eval a X.env) (fun v s₁=>wpAny (model X.prog X.w) X.A (eval b X.env) (fun u s₂=>wpAny (model X.prog X.w) X.A (f v u) Q X.xe s₂) X.xe s₁) X.xe s:=by
 refine YS (ha pins s σ H _ I h) fun v s1 ⟨x,H1,I1,r1,q1⟩=>?_
 refine YS (hb pins s1 σ H1 _ I1 q1) fun u s2 ⟨y,H2,I2,r2,q2⟩=>?_
 exact hf v u s2 x y H2 I2 r1 r2 q2
def Rt(i:Nat):TE:=fun σ H Q=>∃v,σ[i]?=some (some v)/\Q v H
def tC(v:V):TE:=fun _ H Q=>Q v H
theorem J3{i:Nat}{x:Str}{pos:Pos}(hN:X.N[i]?=some x)(hv:GN X.env.scope x)(hd:(x==("__debug__" : Str))=false:=by decide)(hcd:(x==("__classdict__" : Str))=false:=by decide):PE X (.Name x pos) (Rt i):=by
 intro pins s σ H Q I h
 obtain⟨v,e,h⟩:=h
 obtain⟨m,hn,hl⟩:=I.loc
 obtain⟨u,r,l⟩:=hl i x v hN e hv
 have fin:EP X pins σ Q u s:=⟨v,H,I,r,h⟩
 rcases l with⟨hk,hm⟩ | ⟨hk,c,hc,hcell⟩
 ·exact wpAny_Name (wpAny_loadName_local I.ok.kind hk hn hm fin) hd
 ·rcases hk with hk | hk
  ·exact wpAny_Name (wpAny_loadName_cell I.ok.kind hk hc hcell fin) hd
  ·exact wpAny_Name (wpAny_loadName_free I.ok.kind hk hc hcell fin hcd) hd
theorem J4{i j pos}:PE X (.Constant (.int i) j pos) (tC (.int i)):=fun _ _ _ H _ I h=>wpAny_Constant_int ⟨.int i,H,I.tok _,⟨_,rfl⟩,h⟩
theorem Hz{b j pos}:PE X (.Constant (.bool b) j pos) (tC (.bl b)):=fun _ _ _ H _ I h=>Constant_bool ⟨.bl b,H,I,rfl,h⟩
theorem J5{j pos}:PE X (.Constant .none j pos) (tC .non):=fun _ _ _ H _ I h=>Constant_none ⟨.non,H,I,rfl,h⟩
def Gl(X:Cx)(x:Str):Prop:=X.env.kindOf x=some .globalImplicit
theorem Kt{E:Value->Shared->Prop}{pins:List (Addr×Obj)}{s:Shared}{σ:St}{H:Hp}{x:Str}{u:Value}{pos:Pos}{Q:Value->Shared->Prop}(I:Inv X pins σ H s)(hg:Gl X x)(hm:X.mg x=some u)(h:Q u s)
  (hd:(x==("__debug__" : Str))=false:=by decide):wpAny (model X.prog X.w) X.A (eval (.Name x pos) X.env) Q E s:=
 Calls.Name_function_global I.ok.kind hg (Calls.loadGlobal_global (by rw[I.ok.glob];exact I.mod.glob.keeps I.bk) hm h) hd
theorem Ww{E:Value->Shared->Prop}{pins:List (Addr×Obj)}{s:Shared}{σ:St}{H:Hp}{x:Str}{u:Value}{pos:Pos}{Q:Value->Shared->Prop}(I:Inv X pins σ H s)(hg:Gl X x)(hm:X.mg x=none)(hv:bootBuiltins x=some u)(h:Q u s)
  (hn:x≠"__name__":=by decide) (hd:(x==("__debug__" : Str))=false:=by decide):wpAny (model X.prog X.w) X.A (eval (.Name x pos) X.env) Q E s:=by
 obtain⟨mb,h1,h2⟩:=I.mod.blt
 exact Calls.Name_function_global I.ok.kind hg (Calls.loadGlobal_builtin (by rw[I.ok.glob];exact I.mod.glob.keeps I.bk) hm (by rw[I.ok.blt];exact h1.keeps I.bk) ((h2 x hn).trans hv) h) hd
theorem Ku{x:Str}{v:V}{u:Value}{pos:Pos}(hg:Gl X x)(hm:X.mg x=none)(hv:bootBuiltins x=some u)(r:RelV v u)(hn:x≠"__name__":=by decide)(hd:(x==("__debug__" : Str))=false:=by decide):PE X (.Name x pos) (tC v):=
 fun _ _ _ H _ I h=>Ww I hg hm hv ⟨v,H,I,r,h⟩ hn hd
variable {a b:Expr} {ta tb:TE} {pos:Pos}
def PC(X:Cx)(op:CmpOp)(a b:Expr)(t:TE):Prop:=
 ∀(pins:List (Addr×Obj))(s:Shared)(σ:St)(H:Hp)(Q:VK),Inv X pins σ H s->t σ H Q->
  wpAny (model X.prog X.w) X.A (eval a X.env) (fun v s₁=>wpAny (model X.prog X.w) X.A (eval b X.env) (fun u s₂=>wpAny (model X.prog X.w) X.A (compareOp op v u) (EP X pins σ Q) X.xe s₂) X.xe s₁) X.xe s
theorem Q6(b:Expr){op:CmpOp}(h:op≠.In)(h2:op≠.NotIn):behindInMarks op b=false:=by
 have e1:(op==CmpOp.In)=false:=by cases op<;>first | rfl | exact absurd rfl h
 have e2:(op==CmpOp.NotIn)=false:=by cases op<;>first | rfl | exact absurd rfl h2
 cases b<;>simp[behindInMarks,e1,e2]
def HA(ta:TE):TE:=fun σ H Q=>ta σ H fun x H1=>Q (.bl (decide (x = .non))) H1
def JI(ta:TE):TE:=fun σ H Q=>ta σ H fun x H1=>Q (.bl (!decide (x = .non))) H1
theorem RelV.none_iff{x:V}{v:Value}(r:RelV x v):(v==Value.none)=decide (x = .non):=by
 cases x with
 | non=>cases r;rfl
 | bl _=>cases r;rfl
 | int _=>obtain⟨t,rfl⟩:=r;rfl
 | str _=>obtain⟨t,rfl⟩:=r;rfl
 | byt _=>obtain⟨t,rfl⟩:=r;rfl
 | flt _=>obtain⟨t,rfl⟩:=r;rfl
 | ref _=>cases r;rfl
 | ty _=>cases r;rfl
theorem J6{j pos'}(ha:PE X a ta):PC X .Is a (.Constant .none j pos') (HA ta):=by
 intro pins s σ H Q I h
 refine YS (ha pins s σ H _ I h) fun v s1 ⟨x,H1,I1,r1,q1⟩=>?_
 exact Constant_none (is_none_gen ⟨.bl _,H1,I1,by rw[r1.none_iff];rfl,q1⟩)
theorem Kv{j pos'}(ha:PE X a ta):PC X .IsNot a (.Constant .none j pos') (JI ta):=by
 intro pins s σ H Q I h
 refine YS (ha pins s σ H _ I h) fun v s1 ⟨x,H1,I1,r1,q1⟩=>?_
 exact Constant_none (isnot_none_gen ⟨.bl _,H1,I1,by rw[r1.none_iff];rfl,q1⟩)
def tB(t:TE):TT:=fun σ H Q=>t σ H fun x H1=>∃c,x = .bl c/\Q c H1
theorem J7{op:CmpOp}{t:TE}(h:PC X op a b t)(h1:behindInMarks op b=false:=by first | exact Q6 _ (by decide) (by decide) | rfl):PE X (.Compare a [op] [b] pos) t:=fun pins s σ H Q I hw=>wpAny_Compare1 (h pins s σ H Q I hw) h1
theorem J8{op:CmpOp}{t:TE}(h:PC X op a b t)(h1:behindInMarks op b=false:=by first | exact Q6 _ (by decide) (by decide) | rfl):PT X (.Compare a [op] [b] pos) (tB t):=by
 intro pins s σ H Q I hw
 refine wpAny_isTrue_Compare1 (YS (h pins s σ H _ I hw) fun v s1 h1=>YS h1 fun u s2 h2=>YS h2 fun c s3 ⟨x,H1,I1,r1,q1⟩=>?_) h1
 obtain⟨d,rfl,q⟩:=q1
 cases r1
 exact wpAny_truthy_bool ⟨H1,I1,q⟩
theorem J9{e:Expr}{t:TE}(h:PE X e t)(he:∀whole,isTrue e X.env whole=(do let v <-whole;standAt e.pos;holding [v] (truthy v)):=by intro _;rfl):PT X e (tB t):=by
 intro pins s σ H Q I hw
 refine isTrue_plain (YS (h pins s σ H _ I hw) fun v s1 ⟨x,H1,I1,r1,q1⟩=>?_) (he _)
 obtain⟨d,rfl,q⟩:=q1
 cases r1
 exact wpAny_truthy_bool ⟨H1,I1,q⟩
variable {tA tB':TT} {YJ:List Expr}
def HB(t u:TT):TT:=fun σ H Q=>t σ H fun c H1=>if c=true then u σ H1 Q else Q false H1
def Ff(t u:TT):TT:=fun σ H Q=>t σ H fun c H1=>if c=true then Q true H1 else u σ H1 Q
def GP(t:TT):TT:=fun σ H Q=>t σ H fun c H1=>Q (!c) H1
theorem Kw(ha:PT X a tA):PW X (.BoolOp .And [a] pos) tA:=by
 intro wh pins s σ H Q I h
 refine isTrue_and (YS (ha pins s σ H Q I h) fun c s1 e=>?_)
 cases c with
 | true=>exact isTrue_and_nil e
 | false=>exact e
theorem Ia(ha:PT X a tA):PW X (.BoolOp .Or [a] pos) tA:=by
 intro wh pins s σ H Q I h
 refine isTrue_or (YS (ha pins s σ H Q I h) fun c s1 e=>?_)
 cases c with
 | false=>exact isTrue_or_nil e
 | true=>exact e
theorem Ib(ha:PT X a tA)(hb:PW X (.BoolOp .And (b::YJ) pos) tB'):PW X (.BoolOp .And (a::b::YJ) pos) (HB tA tB'):=by
 intro wh pins s σ H Q I h
 refine isTrue_and (YS (ha pins s σ H _ I h) fun c s1 ⟨H1,I1,q1⟩=>?_)
 cases c with
 | true=>exact hb wh pins s1 σ H1 Q I1 q1
 | false=>exact⟨H1,I1,q1⟩
theorem HC(ha:PT X a tA)(hb:PW X (.BoolOp .Or (b::YJ) pos) tB'):PW X (.BoolOp .Or (a::b::YJ) pos) (Ff tA tB'):=by
 intro wh pins s σ H Q I h
 refine isTrue_or (YS (ha pins s σ H _ I h) fun c s1 ⟨H1,I1,q1⟩=>?_)
 cases c with
 | true=>exact⟨H1,I1,q1⟩
 | false=>exact hb wh pins s1 σ H1 Q I1 q1
theorem Ic(ha:PT X a tA):PT X (.UnaryOp .Not a pos) (GP tA):=by
 intro pins s σ H Q I h
 exact isTrue_not (ha pins s σ H (fun c H1=>Q (!c) H1) I h)
def HD(ta tb:TE):TE:=fun σ H Q=>ta σ H fun x H1=>∃c,x = .bl c/\if c=true then tb σ H1 Q else Q (.bl false) H1
def HE(ta:TE):TE:=fun σ H Q=>ta σ H fun x H1=>∃c,x = .bl c/\Q (.bl (!c)) H1
theorem Ie{op}{t:TE}(h:PE X a t):PE X (.BoolOp op [a] pos) t:=fun pins s σ H Q I hw=>BoolOp_one (h pins s σ H Q I hw)
theorem Ig(ha:PE X a ta)(hb:PE X (.BoolOp .And (b::YJ) pos) tb):PE X (.BoolOp .And (a::b::YJ) pos) (HD ta tb):=by
 intro pins s σ H Q I h
 refine BoolOp_and (YS (ha pins s σ H _ I h) fun v s1 ⟨x,H1,I1,r1,q1⟩=>?_)
 obtain⟨c,rfl,q1⟩:=q1
 cases r1
 refine wpAny_truthy_bool ?_
 cases c with
 | true=>exact hb pins s1 σ H1 Q I1 q1
 | false=>exact⟨.bl false,H1,I1,rfl,q1⟩
theorem Ih(ha:PE X a ta):PE X (.UnaryOp .Not a pos) (HE ta):=by
 intro pins s σ H Q I h
 refine UnaryOp_ (YS (ha pins s σ H _ I h) fun v s1 ⟨x,H1,I1,r1,q1⟩=>?_)
 obtain⟨c,rfl,q1⟩:=q1
 cases r1
 exact not_of (wpAny_truthy_bool ⟨.bl (!c),H1,I1,rfl,q1⟩)
def Fo(t:TT)(ta tb:TE):TE:=fun σ H Q=>t σ H fun c H1=>if c=true then ta σ H1 Q else tb σ H1 Q
theorem MM{c:Expr}(hc:PT X c tA)(ha:PE X a ta)(hb:PE X b tb):PE X (.IfExp c a b pos) (Fo tA ta tb):=by
 intro pins s σ H Q I h
 refine wpAny_IfExp (YS (hc pins s σ H _ I h) fun d s1 ⟨H1,I1,q1⟩=>?_)
 cases d with
 | true=>exact ha pins s1 σ H1 Q I1 q1
 | false=>exact hb pins s1 σ H1 Q I1 q1
end
def SqL(K:PySem.W.Frag)(H:Hp)(a:Addr)(xs:List V):Prop:=
 Rd H a (.lst xs)\/
  ∃(o:Obj) (its:Array Value) (n:Nat),K.lookup a=some o/\o.cls = .type "list"/\o.dict=none/\o.data = .seq its n/\its.size<=sizeLine/\Vals xs its.toList
def SqT(K:PySem.W.Frag)(H:Hp)(a:Addr)(xs:List V):Prop:=
 Rd H a (.tup xs)\/
  ∃(o:Obj) (its:Array Value) (n:Nat),K.lookup a=some o/\o.cls = .type "tuple"/\o.data = .seq its n/\its.size<=sizeLine/\Vals xs its.toList
def GQ:Value->Option V
 | .none=>some .non
 | .bool b=>some (.bl b)
 | .int i _=>some (.int i)
 | .str x _=>some (.str x)
 | .bytes b _=>some (.byt b)
 | .float b _=>some (.flt b)
 | .ref a=>some (.ref a)
 | .type n=>some (.ty n)
 | _=>none
theorem RelV.abs{x:V}{u:Value}(r:RelV x u):GQ u=some x:=by
 cases x with
 | non=>cases r;rfl
 | bl _=>cases r;rfl
 | int _=>obtain⟨t,rfl⟩:=r;rfl
 | str _=>obtain⟨t,rfl⟩:=r;rfl
 | byt _=>obtain⟨t,rfl⟩:=r;rfl
 | flt _=>obtain⟨t,rfl⟩:=r;rfl
 | ref _=>cases r;rfl
 | ty _=>cases r;rfl
theorem RelV.inj{x y:V}{u:Value}(r:RelV x u)(q:RelV y u):x=y:=Option.some.inj (r.abs.symm.trans q.abs)
theorem Vals.inj:∀{xs ys:List V}{us:List Value},Vals xs us->Vals ys us->xs=ys
 | _,_,_,.nil,.nil=>rfl
 | _,_,_,.cons r t,.cons r' t'=>by rw[r.inj r',Vals.inj t t']
section
variable {X:Cx} {pins:List (Addr×Obj)} {σ:St} {H:Hp} {s:Shared} {a:Addr} {xs ys:List V}
theorem SqL.of{K:PySem.W.Frag}(h:H a=some (.lst xs)):SqL K H a xs:=.inl (.inl h)
theorem SqT.of{K:PySem.W.Frag}(h:H a=some (.tup xs)):SqT K H a xs:=.inl (.inl h)
theorem Inv.list(I:Inv X pins σ H s)(h:SqL X.K H a xs):∃its:List Value,Vals xs its/\PlainL s.heap a its.toArray/\xs.length<=sizeLine:=by
 rcases h with h | ⟨o,its,n,hk,hc,hd,hs,hz,r⟩
 ·obtain⟨z,its,n,r,e⟩:=h.ok I.hok
  exact⟨its,r,⟨_,n,e,rfl,rfl,rfl⟩,z⟩
 ·refine⟨its.toList,r,⟨o,n,I.kIn a o hk,hc,hd,by simpa using hs⟩,?_⟩
  have e:=r.length;simp only[Array.length_toList] at e;omega
theorem Inv.tuple(I:Inv X pins σ H s)(h:SqT X.K H a xs):∃its:List Value,Vals xs its/\IsTup s.heap a its.toArray/\xs.length<=sizeLine:=by
 rcases h with h | ⟨o,its,n,hk,hc,hs,hz,r⟩
 ·obtain⟨z,its,r,p⟩:=h.ok I.hok
  exact⟨its,r,p,z⟩
 ·refine⟨its.toList,r,⟨o,I.kIn a o hk,hc,n,by simpa using hs⟩,?_⟩
  have e:=r.length;simp only[Array.length_toList] at e;omega
theorem Inv.list_inj(I:Inv X pins σ H s)(h:SqL X.K H a xs)(h':SqL X.K H a ys):xs=ys:=by
 obtain⟨its,r,⟨o,n,e,_,_,d⟩,_⟩:=I.list h
 obtain⟨its',r',⟨o',n',e',_,_,d'⟩,_⟩:=I.list h'
 rw[e] at e';cases e'
 rw[d] at d'
 injection d' with d1 _
 have:its=its':=by simpa using congrArg Array.toList d1
 subst this
 exact r.inj r'
theorem Inv.tuple_inj(I:Inv X pins σ H s)(h:SqT X.K H a xs)(h':SqT X.K H a ys):xs=ys:=by
 obtain⟨its,r,⟨o,e,_,n,d⟩,_⟩:=I.tuple h
 obtain⟨its',r',⟨o',e',_,n',d'⟩,_⟩:=I.tuple h'
 rw[e] at e';cases e'
 rw[d] at d'
 injection d' with d1 _
 have:its=its':=by simpa using congrArg Array.toList d1
 subst this
 exact r.inj r'
end
abbrev Cx.wish(X:Cx)(E:Value->Shared->Prop):Cx:={ X with xe:=E }
abbrev Cx.nox(X:Cx):Cx:=X.wish fun _ _=>False
theorem Cx.Ok.wish{X:Cx}(ok:X.Ok)(E:Value->Shared->Prop):(X.wish E).Ok:=
 ⟨ok.mod,ok.kind,ok.glob,ok.blt,ok.above,ok.inj,ok.has,ok.cab,ok.hd,ok.frames,ok.stk,ok.exf,ok.bs,ok.bsz,ok.noex,ok.exfs,ok.funs,ok.frf⟩
theorem Cx.Ok.unwish{X:Cx}{E:Value->Shared->Prop}(ok:(X.wish E).Ok):X.Ok:=
 ⟨ok.mod,ok.kind,ok.glob,ok.blt,ok.above,ok.inj,ok.has,ok.cab,ok.hd,ok.frames,ok.stk,ok.exf,ok.bs,ok.bsz,ok.noex,ok.exfs,ok.funs,ok.frf⟩
section
variable {X:Cx} {pins:List (Addr×Obj)} {σ:St} {H:Hp} {s:Shared} {E:Value->Shared->Prop}
theorem Inv.wish(I:Inv X pins σ H s)(E:Value->Shared->Prop):Inv (X.wish E) pins σ H s:=⟨I.ok.wish E,I.os,I.bare,I.base,I.loc,I.cell,I.free,I.freeC,I.pin,I.hok,I.len⟩
theorem Inv.unwish(I:Inv (X.wish E) pins σ H s):Inv X pins σ H s:=⟨I.ok.unwish,I.os,I.bare,I.base,I.loc,I.cell,I.free,I.freeC,I.pin,I.hok,I.len⟩
theorem SP.unwish{D:Sj}{f:Flow}{s':Shared}(h:SP (X.wish E) pins D f s'):SP X pins D f s':=by
 cases f with
 | next=>obtain⟨σ',H',I,q⟩:=h;exact⟨σ',H',I.unwish,q⟩
 | brk=>obtain⟨σ',H',I,q⟩:=h;exact⟨σ',H',I.unwish,q⟩
 | cont=>obtain⟨σ',H',I,q⟩:=h;exact⟨σ',H',I.unwish,q⟩
 | ret u=>obtain⟨v,σ',H',I,r,q⟩:=h;exact⟨v,σ',H',I.unwish,r,q⟩
theorem PSs.nox{st:List Stmt}{t:TS}(h:PSs X.nox st t):PSs X st t:=fun pins s σ H D I hw=>
 wpAny_mono (h pins s σ H D (I.wish _) hw) (fun _ _ q=>q.unwish) fun _ _ z=>False.elim z
end
section
variable {X:Cx} {st:Stmt} {YJ:List Stmt} {t u:TS} {e:Expr} {te:TE} {pos:Pos}
def JJ:TS:=fun D σ H=>D.nx σ H
def GR(t u:TS):TS:=fun D σ H=>t { D with nx:=u D } σ H
theorem Kx:PSs X [] JJ:=fun _ _ σ H _ I h=>wpAny_execs_nil ⟨σ,H,I,h⟩
theorem Q7(h1:PS X st t)(h2:PSs X YJ u):PSs X (st::YJ) (GR t u):=by
 intro pins s σ H D I h
 refine wpAny_execs_cons (YS (h1 pins s σ H { D with nx:=u D } I h) fun f s1 q=>?_)
 cases f with
 | next=>
  obtain⟨σ',H',I',q⟩:=q
  exact h2 pins s1 σ' H' D I' q
 | ret v=>exact q
 | brk=>exact q
 | cont=>exact q
theorem Nd(h1:PS X st t):PSs X [st] t:=by
 intro pins s σ H D I h
 refine wpAny_execs_cons (YS (h1 pins s σ H D I h) fun f s1 q=>?_)
 cases f with
 | next=>exact wpAny_execs_nil q
 | ret v=>exact q
 | brk=>exact q
 | cont=>exact q
theorem Inv.quiet{pins:List (Addr×Obj)}{σ:St}{H:Hp}{s:Shared}(I:Inv X pins σ H s):interactive X.env=false:=by simp[interactive,I.ok.kind]
def Nf(te:TE):TS:=fun D σ H=>te σ H fun _ H1=>D.nx σ H1
theorem Vu(he:PE X e te)(hs:swapsWith e none pos.line X.env=pure false:=by rfl):PS X (.Expr e pos) (Nf te):=by
 intro pins s σ H D I h
 exact wpAny_Expr_any (YS (he pins s σ H _ I h) fun v s1 ⟨x,H1,I1,r1,q1⟩=>⟨σ,H1,I1,q1⟩) I.quiet hs
def GS(te:TE):TS:=fun D σ H=>te σ H D.rt
theorem P4(he:PE X e te):PS X (.Return (some e) pos) (GS te):=by
 intro pins s σ H D I h
 exact wpAny_Return_some (YS (he pins s σ H _ I h) fun v s1 ⟨x,H1,I1,r1,q1⟩=>⟨x,σ,H1,I1,r1,q1⟩)
def GT(c:TT)(t u:TS):TS:=fun D σ H=>c σ H fun b H1=>if b=true then t D σ H1 else u D σ H1
theorem HF{c:Expr}{a b:List Stmt}{tc:TT}(hc:PT X c tc)(ha:PSs X a t)(hb:PSs X b u):PS X (.If c a b pos) (GT tc t u):=by
 intro pins s σ H D I h
 refine wpAny_If (YS (hc pins s σ H _ I h) fun d s1 ⟨H1,I1,q1⟩=>?_)
 cases d with
 | true=>exact ha pins s1 σ H1 D I1 q1
 | false=>exact hb pins s1 σ H1 D I1 q1
end
abbrev TG:=V->St->Hp->(St->Hp->Prop)->Prop
abbrev JK:=List V->St->Hp->(St->Hp->Prop)->Prop
def PG(X:Cx)(target:Expr)(t:TG):Prop:=
 ∀(pins:List (Addr×Obj))(s:Shared)(σ:St)(H:Hp)(v:V)(u:Value)(Q:St->Hp->Prop),Inv X pins σ H s->RelV v u->t v σ H Q->
  wpAny (model X.prog X.w) X.A (assign target X.env u) (fun _ s'=>∃σ' H',Inv X pins σ' H' s'/\Q σ' H') X.xe s
def Gy(X:Cx)(ts:List Expr)(t:JK):Prop:=
 ∀(pins:List (Addr×Obj))(s:Shared)(σ:St)(H:Hp)(vs:List V)(us:List Value)(Q:St->Hp->Prop),Inv X pins σ H s->Vals vs us->t vs σ H Q->
  wpAny (model X.prog X.w) X.A (assignInOrder ((assignEach ts X.env).map (·.2)) us) (fun _ s'=>∃σ' H',Inv X pins σ' H' s'/\Q σ' H') X.xe s
abbrev Ii:=V->V->V->Hp->(Hp->Prop)->Prop
def HG(X:Cx)(t:Ii):Prop:=
 ∀(pins:List (Addr×Obj))(s:Shared)(σ:St)(H:Hp)(o i v:V)(ov iv u:Value)(Q:Hp->Prop),Inv X pins σ H s->RelV o ov->RelV i iv->RelV v u->t o i v H Q->
  wpAny (model X.prog X.w) X.A (setItem ov iv u) (fun _ s'=>∃H',Inv X pins σ H' s'/\Q H') X.xe s
section
variable {X:Cx} {pos:Pos}
def Tz(i:Nat):TG:=fun v σ H Q=>Q (σ.set i (some v)) H
theorem Zt{i:Nat}{x:Str}(hN:X.N.Nodup)(hi:X.N[i]?=some x)(hx:Hy X.env.scope x)(hf:X.fn x=true\/X.env.scope.names.lookup x=some .local:=by first | exact .inl rfl | exact .inr rfl | assumption):PG X (.Name x pos) (Tz i):=by
 intro pins s σ H v u Q I r h
 exact wpAny_assign_Name (Si I hN hi hx r (fun s' I'=>⟨_,H,I',h⟩) hf)
def HH:JK:=fun vs σ H Q=>vs=[]/\Q σ H
def JL(t:TG)(u:JK):JK:=fun vs σ H Q=>∃v r,vs=v::r/\t v σ H fun σ' H'=>u r σ' H' Q
theorem Xx:Gy X [] HH:=by
 intro pins s σ H vs us Q I r h
 obtain⟨e,h⟩:=h
 subst e;cases r
 exact assignInOrder_nil ⟨σ,H,I,h⟩
theorem ZT{e:Expr}{es:List Expr}{t:TG}{u:JK}(h1:PG X e t)(h2:Gy X es u)
  (hs:(assignEach (e::es) X.env).map (·.2)=assign e X.env::(assignEach es X.env).map (·.2):=by rfl):Gy X (e::es) (JL t u):=by
 intro pins s σ H vs us Q I r h
 obtain⟨v,vr,e1,h⟩:=h
 subst e1
 cases r with
 | cons r rr=>
  rw[hs]
  refine assignInOrder_cons (YS (h1 pins s σ H _ _ _ I r h) fun _ s1 ⟨σ1,H1,I1,q1⟩=>?_)
  exact h2 pins s1 σ1 H1 _ _ Q I1 rr q1
def HI(K:PySem.W.Frag)(n:Nat)(t:JK):TG:=fun v σ H Q=>∃a xs,v = .ref a/\SqT K H a xs/\xs.length=n/\t xs σ H Q
theorem Wi{es:List Expr}{k:Nat}{t:JK}{n:Nat}(hc:X.calm=true)(h:Gy X es t)
  (hn:(assignEach es X.env).length=n:=by rfl) (hst:(assignEach es X.env).findIdx? (·.1)=none:=by rfl):PG X (.Tuple es k pos) (HI X.K n t):=by
 intro pins s σ H v u Q I r hw
 obtain⟨a,xs,e1,hq,hl,hw⟩:=hw
 subst e1;cases r
 obtain⟨its,rv,ht,hz⟩:=I.tuple hq
 refine assign_Tuple_tuple (I.ok.hd hc) ht (by simp[hn,<-hl,rv.length]) hst fun h' hx=>?_
 have I1:Inv X pins σ H { s with heap:=h' }:=I.kept (t':=s.toks) fun b o e=>hx b o (Nat.ne_of_lt (Heap.lt_size e)) e
 exact h pins _ σ H xs _ Q I1 (by simpa using rv) hw
def Ij(to ti:TE)(t:Ii):TG:=fun v σ H Q=>to σ H fun o H1=>ti σ H1 fun i H2=>t o i v H2 fun H3=>Q σ H3
theorem Sk{o i:Expr}{to ti:TE}{t:Ii}(ho:PE X o to)(hi:PE X i ti)(hs:HG X t)
  (ha:∀v,assign (.Subscript o i pos) X.env v=(do
   let ov <-holding [v] (eval o X.env)
   let iv <-holding [v,ov] (eval i X.env)
   standAt pos
   holding [v,ov,iv] (setItem ov iv v)
   release [v,ov,iv] []):=by intro _;rfl):PG X (.Subscript o i pos) (Ij to ti t):=by
 intro pins s σ H v u Q I r h;rw[ha]
 refine wpAny_bind (wpAny_holding (YS (ho pins s σ H _ I h) fun ov s1 ⟨x,H1,I1,r1,q1⟩=>?_))
 refine wpAny_bind (wpAny_holding (YS (hi pins s1 σ H1 _ I1 q1) fun iv s2 ⟨y,H2,I2,r2,q2⟩=>?_))
 refine wpAny_bind (wpAny_standAt (wpAny_bind (wpAny_holding (YS (hs pins s2 σ H2 x y v ov iv u _ I2 r1 r2 r q2) fun _ s3 ⟨H3,I3,q3⟩=>?_))))
 exact wpAny_release ⟨σ,H3,I3,q3⟩
def Q8(te:TE)(g:TG):TS:=fun D σ H=>te σ H fun x H1=>g x σ H1 D.nx
theorem UP{tg e:Expr}{te:TE}{g:TG}(he:PE X e te)(hg:PG X tg g)(hs:swapsWithSole [tg] e pos.line X.env=pure false:=by rfl)(hw:swappedStores [tg] e X.env=pure none:=by rfl)
  (h1:(assignEach [tg] X.env).map (·.2)=[assign tg X.env]:=by rfl):PS X (.Assign [tg] e pos) (Q8 te g):=by
 intro pins s σ H D I h
 refine wpAny_Assign_stores (YS (he pins s σ H _ I h) fun v s1 ⟨x,H1,I1,r1,q1⟩=>?_) hs hw
 rw[h1]
 exact YS (hg pins s1 σ H1 x v _ I1 r1 q1) fun _ s2 q=>q
theorem Ik{i:Nat}{x:Str}{e:Expr}{te:TE}{pos':Pos}(hN:X.N.Nodup)(hi:X.N[i]?=some x)(hx:Hy X.env.scope x)(he:PE X e te)(hs:swapsWith e (some (.Name x pos')) pos.line X.env=pure false:=by rfl)(hf:X.fn x=true\/X.env.scope.names.lookup x=some .local:=by first | exact .inl rfl | exact .inr rfl | assumption) :
  PS X (.Assign [.Name x pos'] e pos) (Q8 te (Tz i)):=by
 intro pins s σ H D I h
 refine wpAny_Assign_Name (YS (he pins s σ H _ I h) fun v s1 ⟨y,H1,I1,r1,q1⟩=>?_) hs
 exact Si I1 hN hi hx r1 (fun s2 I2=>⟨_,H1,I2,q1⟩) hf
end
section
variable {X:Cx} {pos:Pos}
def Il(c:TT)(tb:TS):TS:=fun D σ H=>∃W:Nat->St->Hp->Prop,(∃m,W m σ H)/\∀m σ H,W m σ H->
 c σ H fun b H1=>if b=true then ∃N:St->Hp->Prop,(∀σ' H',N σ' H'->∃m',m'<m/\W m' σ' H')/\tb { D with nx:=N,ct:=N,bk:=D.nx } σ H1 else D.nx σ H1
theorem MN{c:Expr}{body:List Stmt}{tc:TT}{tb:TS}(hp:PassesOwn (model X.prog X.w) X.A X.env X.xe)(hc:PT X c tc)(hb:PSs X body tb):PS X (.While c body [] pos) (Il tc tb):=by
 intro pins s σ H D I h
 obtain⟨W,⟨m0,w0⟩,turn⟩:=h
 refine wpAny_While (codeAny_whileLoop (fun n s'=>∃σ' H',Inv X pins σ' H' s'/\W n σ' H') ?_ m0 ⟨σ,H,I,w0⟩)
 rintro n s1 ⟨σ1,H1,I1,w1⟩
 refine wpAny_passesOwn hp (YS (hc pins s1 σ1 H1 _ I1 (turn n σ1 H1 w1)) fun b s2 ⟨H2,I2,q2⟩=>?_)
 cases b with
 | true=>
  obtain⟨N,hN,q2⟩:=q2
  rw[if_pos rfl]
  refine wpAny_passesOwn hp (YS (hb pins s2 σ1 H2 _ I2 q2) fun f s3 q3=>?_)
  cases f with
  | next=>
   obtain⟨σ3,H3,I3,n3⟩:=q3
   obtain⟨m',hm,w3⟩:=hN σ3 H3 n3
   exact⟨m',hm,σ3,H3,I3,w3⟩
  | cont=>
   obtain⟨σ3,H3,I3,n3⟩:=q3
   obtain⟨m',hm,w3⟩:=hN σ3 H3 n3
   exact⟨m',hm,σ3,H3,I3,w3⟩
  | brk=>exact q3
  | ret v=>exact q3
 | false=>
  rw[if_neg Bool.false_ne_true]
  exact wpAny_execs_nil ⟨σ1,H2,I2,q2⟩
end
structure It where
 go:Nat->Hp->Prop
 yld:Nat->Hp->V->Hp->Prop
 stop:Nat->Hp->Prop
def V9(X:Cx)(pins:List (Addr×Obj))(H:Hp)(b:Addr):Prop:=
 H b=none/\b≠X.env.locals/\b∉X.fs/\(b∈X.ex\/X.s₀.heap.objs.size<=b)/\(∀x c,X.env.cells.lookup x=some c->c≠b)/\∀p∈X.pn++pins,p.1≠b
theorem Inv.fpOk{X:Cx}{pins:List (Addr×Obj)}{σ:St}{H H':Hp}{s:Shared}{b:Addr}(I:Inv X pins σ H s)(hb:s.heap.objs.size<=b)(hn:H' b=none):V9 X pins H' b:=by
 refine⟨hn,Nat.ne_of_gt (Nat.lt_of_lt_of_le I.lt hb),I.nofs hb,.inr (Nat.le_trans I.sz hb),fun x c e z=>?_,fun p hp z=>?_⟩
 ·obtain⟨v,q⟩:=I.cell x c e
  exact absurd (Nat.lt_of_lt_of_le q.lt (by rw[z];exact hb)) (Nat.lt_irrefl _)
 ·exact absurd (Nat.lt_of_lt_of_le (Heap.lt_size (I.pin p hp).1) (by rw[z];exact hb)) (Nat.lt_irrefl _)
structure P5(P:Program)(w:World)(K:PySem.W.Frag)(tg:Expr)(J:It)(fp:List Addr)(it:Addr)(tn:Nat->Heap->Prop):Prop where
 mem:it∈fp
 obj:∀i h,tn i h->∀b∈fp,∃o,h.get? b=some o/\∀v,o.data≠.cell v
 keep:∀i h h',tn i h->(∀b∈fp,∀o,h.get? b=some o->h'.get? b=some o)->tn i h'
 item:∀(X:Cx),X.prog=P->X.w=w->X.K=K->X.calm=true->∀(i:Nat)(pins:List (Addr×Obj))(s:Shared)(σ:St)(H:Hp)(E:Value->Shared->Prop),Inv X pins σ H s->(∀b∈fp,V9 X pins H b)->tn i s.heap->J.go i H->
  wpAny (model P w) X.A (pyNext (.ref it)) (fun r s1=>∃u,r=some u/\
   wpAny (model P w) X.A (letOwnedTupleGo tg (.ref it) u) (fun _ s2=>∃x H',Inv X pins σ H' s2/\RelV x u/\J.yld i H x H'/\tn (i+1) s2.heap/\∀b∈fp,H' b=none) E s1) E s
 done:∀(X:Cx),X.prog=P->X.w=w->X.K=K->X.calm=true->∀(i:Nat)(pins:List (Addr×Obj))(s:Shared)(σ:St)(H:Hp)(E:Value->Shared->Prop),Inv X pins σ H s->(∀b∈fp,V9 X pins H b)->tn i s.heap->J.stop i H->
  wpAny (model P w) X.A (pyNext (.ref it)) (fun r s1=>r=none/\Inv X pins σ H s1) E s
 self:∀(A:Around)(i:Nat)(s:Shared)(Q:Value->Shared->Prop)(E:Value->Shared->Prop),tn i s.heap->Q (.ref it) s->wpAny (model P w) A (pyIter (.ref it)) Q E s
abbrev TI:=St->Hp->(It->Hp->Prop)->Prop
def Fg(X:Cx)(pins:List (Addr×Obj))(σ:St)(tg:Expr)(R:It->Hp->Prop)(itv:Value)(s2:Shared):Prop:=
 ∃(it:Addr) (fp:List Addr) (tn:Nat->Heap->Prop) (J:It) (H':Hp),itv = .ref it/\Inv X pins σ H' s2/\P5 X.prog X.w X.K tg J fp it tn/\tn 0 s2.heap/\(∀b∈fp,V9 X pins H' b)/\R J H'
def PI(X:Cx)(tg iter:Expr)(wi:TI):Prop:=
 ∀(pins:List (Addr×Obj))(s:Shared)(σ:St)(H:Hp)(R:It->Hp->Prop),Inv X pins σ H s->wi σ H R->
  wpAny (model X.prog X.w) X.A (eval iter X.env) (fun v s1=>wpAny (model X.prog X.w) X.A (pyIter v) (Fg X pins σ tg R) X.xe s1) X.xe s
theorem MO{M:Model}{A:Around}{E:Value->Shared->Prop}{s:Shared}{tg:Expr}{it:Addr}{u:Value}{o:Obj}{n:String}{vs:Array Value}{Q:Unit->Shared->Prop}(ho:s.heap.get? it=some o)(hc:o.cls = .type n)(hd:o.data = .fields vs)
    (hn:["enumerate","zip","dict_itemiterator","dict_reverseitemiterator","odict_iterator","itertools.zip_longest","itertools.pairwise"].contains n=false) (hQ:Q () s):wpAny M A (letOwnedTupleGo tg (.ref it) u) Q E s:=by
  unfold letOwnedTupleGo
  cases tg<;>first
    | exact wpAny_pure hQ
    | (cases u<;>first
        | exact wpAny_pure hQ
        | (refine wpAny_bind (wpAny_load ho ?_)
           rw[hc,hd]
           show wpAny M A (if(["enumerate","zip","dict_itemiterator","dict_reverseitemiterator","odict_iterator","itertools.zip_longest","itertools.pairwise"].contains n&&vs[0]?==some (rawInt _))=true then _ else _) Q E s
           rw[if_neg (by intro h;rw[hn,Bool.false_and] at h;cases h)]
           exact wpAny_pure hQ))
def GU(K:PySem.W.Frag)(a:Addr):It:=
 ⟨fun i H=>∃xs x,SqL K H a xs/\xs[i]?=some x,fun i H x H'=>H'=H/\∀xs,SqL K H a xs->xs[i]?=some x,fun i H=>∃xs,SqL K H a xs/\xs.length<=i⟩
def Fh(K:PySem.W.Frag)(a:Addr):It:=
 ⟨fun i H=>∃xs x,SqT K H a xs/\xs[i]?=some x,fun i H x H'=>H'=H/\∀xs,SqT K H a xs->xs[i]?=some x,fun i H=>∃xs,SqT K H a xs/\xs.length<=i⟩
def HJ(lo:Int)(n:Nat):It:=⟨fun i _=>i<n,fun i H x H'=>H'=H/\x = .int (lo+i),fun i _=>n<=i⟩
theorem N3{P:Program}{w:World}{K:PySem.W.Frag}{tg:Expr}(a it:Addr):P5 P w K tg (GU K a) [it] it (fun i h=>h.IsListIter it a i) where
 mem:=by simp
 obj:=fun i h st b hb=>by
  have e:b=it:=by simpa using hb
  subst e
  obtain⟨o,e,c,d⟩:=st
  exact⟨o,e,fun v z=>by rw[d] at z;cases z⟩
 keep:=fun i h h' st k=>st.at fun o e=>k it (by simp) o e
 item:=by
  intro X hP hw hK hc i pins s σ H E I hf st hg
  subst hP hw hK
  obtain⟨xs,x,hq,hx⟩:=hg
  obtain⟨its,rv,p,hz⟩:=I.list hq
  obtain⟨u,hu,ru⟩:=rv.get hx
  obtain⟨f0,f1,f2,f3,f4,f5⟩:=hf it (by simp)
  refine wpAny_pyNext_list_item st p.isList (x:=u) (by simpa using hu) fun h' st' sb=>?_
  have I1:Inv X pins σ H { s with heap:=h' }:=I.turned (t':=s.toks) (fun b o hb e=>(sb.2 b hb).trans e) f0 f1 f3 f4 f5
  obtain⟨o,e,c,d⟩:=id st'
  exact⟨u,rfl,MO (s:={ s with heap:=h' }) e c d (by decide) ⟨x,H,I1,ru,⟨rfl,fun ys hy=>by rw[I.list_inj hy hq];exact hx⟩,st',fun b hb=>(hf b hb).1⟩⟩
 done:=by
  intro X hP hw hK hc i pins s σ H E I hf st hg
  subst hP hw hK
  obtain⟨xs,hq,hx⟩:=hg
  obtain⟨its,rv,p,hz⟩:=I.list hq
  obtain⟨f0,f1,f2,f3,f4,f5⟩:=hf it (by simp)
  have hl:=rv.length
  exact wpAny_pyNext_list_end (I.ok.hd hc) st p.isList (by simp;omega) fun h' eb=>⟨rfl,I.turned (t':=s.toks) (fun b o hb e=>eb b o hb e) f0 f1 f3 f4 f5⟩
 self:=fun _ _ _ _ _ st h=>wpAny_pyIter_listiter st h
theorem P6{P:Program}{w:World}{K:PySem.W.Frag}{tg:Expr}(a it:Addr):P5 P w K tg (Fh K a) [it] it (fun i h=>h.IsTupleIter it a i) where
 mem:=by simp
 obj:=fun i h st b hb=>by
  have e:b=it:=by simpa using hb
  subst e
  obtain⟨o,e,c,d⟩:=st
  exact⟨o,e,fun v z=>by rw[d] at z;cases z⟩
 keep:=fun i h h' st k=>st.at fun o e=>k it (by simp) o e
 item:=by
  intro X hP hw hK hc i pins s σ H E I hf st hg
  subst hP hw hK
  obtain⟨xs,x,hq,hx⟩:=hg
  obtain⟨its,rv,p,hz⟩:=I.tuple hq
  obtain⟨u,hu,ru⟩:=rv.get hx
  obtain⟨f0,f1,f2,f3,f4,f5⟩:=hf it (by simp)
  refine wpAny_pyNext_tuple_item st (show s.heap.IsTuple a its.toArray from p) (x:=u) (by simpa using hu) fun h' st' sb=>?_
  have I1:Inv X pins σ H { s with heap:=h' }:=I.turned (t':=s.toks) (fun b o hb e=>(sb.2 b hb).trans e) f0 f1 f3 f4 f5
  obtain⟨o,e,c,d⟩:=id st'
  exact⟨u,rfl,MO (s:={ s with heap:=h' }) e c d (by decide) ⟨x,H,I1,ru,⟨rfl,fun ys hy=>by rw[I.tuple_inj hy hq];exact hx⟩,st',fun b hb=>(hf b hb).1⟩⟩
 done:=by
  intro X hP hw hK hc i pins s σ H E I hf st hg
  subst hP hw hK
  obtain⟨xs,hq,hx⟩:=hg
  obtain⟨its,rv,p,hz⟩:=I.tuple hq
  obtain⟨f0,f1,f2,f3,f4,f5⟩:=hf it (by simp)
  have hl:=rv.length
  exact wpAny_pyNext_tuple_end (I.ok.hd hc) st (show s.heap.IsTuple a its.toArray from p) (by simp;omega) fun h' eb=>⟨rfl,I.turned (t':=s.toks) (fun b o hb e=>eb b o hb e) f0 f1 f3 f4 f5⟩
 self:=fun _ _ _ _ _ st h=>wpAny_pyIter_tupleiter st h
theorem P7{P:Program}{w:World}{K:PySem.W.Frag}{tg:Expr}(it:Addr)(lo:Int)(n:Nat):P5 P w K tg (HJ lo n) [it] it (fun i h=>IsRangeIter h it (lo+(i:Nat)*1) ((n:Int)-(i:Nat)) 1) where
 mem:=by simp
 obj:=fun i h st b hb=>by
  have e:b=it:=by simpa using hb
  subst e
  exact⟨_,st,fun v z=>by
   have z':Data.fields _=Data.cell v:=z
   cases z'⟩
 keep:=fun i h h' st k=>k it (by simp) _ st
 item:=by
  intro X hP hw hK hc i pins s σ H E I hf st hg
  subst hP hw hK
  obtain⟨f0,f1,f2,f3,f4,f5⟩:=hf it (by simp)
  have W:=Walks.range (prog:=X.prog) (w:=X.w) (I.ok.hd hc) it lo 1 n
  refine W.item i s _ _ hg st fun v h' tk hv st' kk=>?_
  obtain⟨t,rfl⟩:=hv
  have I1:Inv X pins σ H { s with heap:=h',toks:=tk }:=I.turned (fun b o hb e=>kk b o (by simpa using hb) e) f0 f1 f3 f4 f5
  refine⟨_,rfl,MO (s:={ s with heap:=h',toks:=tk }) (n:="range_iterator") st' rfl rfl (by decide) ⟨.int (lo+i),H,I1,⟨t,?_⟩,⟨rfl,rfl⟩,st',fun b hb=>(hf b hb).1⟩⟩
  rw[Int.mul_one]
 done:=by
  intro X hP hw hK hc i pins s σ H E I hf st hg
  subst hP hw hK
  obtain⟨f0,f1,f2,f3,f4,f5⟩:=hf it (by simp)
  exact wpAny_pyNext_range_end (I.ok.hd hc) st (by have:n<=i:=hg;omega) fun h' eb=>⟨rfl,I.turned (t':=s.toks) (fun b o hb e=>eb b o hb e) f0 f1 f3 f4 f5⟩
 self:=fun _ _ _ _ _ st h=>wpAny_pyIter_rangeiter st h
section
variable {X:Cx} {tg:Expr}
def HK(K:PySem.W.Frag)(tl:TE):TI:=fun σ H R=>tl σ H fun x H1=>∃a,x = .ref a/\(∃xs,SqL K H1 a xs)/\R (GU K a) H1
def GV(K:PySem.W.Frag)(tl:TE):TI:=fun σ H R=>tl σ H fun x H1=>∃a,x = .ref a/\(∃xs,SqT K H1 a xs)/\R (Fh K a) H1
theorem Ky{l:Expr}{tl:TE}(hl:PE X l tl):PI X tg l (HK X.K tl):=by
 intro pins s σ H R I h
 refine YS (hl pins s σ H _ I h) fun v s1 ⟨x,H1,I1,r1,q1⟩=>?_
 obtain⟨a,e,⟨xs,hq⟩,q⟩:=q1
 subst e;cases r1
 obtain⟨its,rv,p,hz⟩:=I1.list hq
 refine wpAny_pyIter_list p.isList ?_
 refine⟨s1.heap.objs.size,[s1.heap.objs.size],_,_,H1,rfl,I1.kept (t':=s1.toks) fun b o e=>Heap.get?_push_of_some _ e,N3 a _,⟨_,Heap.get?_push_size _ rfl,rfl,rfl⟩,fun b hb=>?_,q⟩
 have e:b=s1.heap.objs.size:=by simpa using hb
 subst e
 exact I1.fpOk (Nat.le_refl _) (I1.hok.fresh (Nat.le_refl _))
theorem Im{l:Expr}{tl:TE}(hl:PE X l tl):PI X tg l (GV X.K tl):=by
 intro pins s σ H R I h
 refine YS (hl pins s σ H _ I h) fun v s1 ⟨x,H1,I1,r1,q1⟩=>?_
 obtain⟨a,e,⟨xs,hq⟩,q⟩:=q1
 subst e;cases r1
 obtain⟨its,rv,p,hz⟩:=I1.tuple hq
 refine wpAny_pyIter_tuple (show s1.heap.IsTuple a its.toArray from p) ?_
 refine⟨s1.heap.objs.size,[s1.heap.objs.size],_,_,H1,rfl,I1.kept (t':=s1.toks) fun b o e=>Heap.get?_push_of_some _ e,P6 a _,⟨_,Heap.get?_push_size _ rfl,rfl,rfl⟩,fun b hb=>?_,q⟩
 have e:b=s1.heap.objs.size:=by simpa using hb
 subst e
 exact I1.fpOk (Nat.le_refl _) (I1.hok.fresh (Nat.le_refl _))
theorem Q9{pins:List (Addr×Obj)}{σ:St}{H:Hp}{s:Shared}{R:It->Hp->Prop}{E:Value->Shared->Prop}{lo hi:Int}{t u v:Tok}{tk:Nat}(I:Inv X pins σ H s)(h1 : -(2^62)<=lo)(h2:lo<2^62)(h3 : -(2^62)<=hi)(h4:hi<2^62)
  (q:R (HJ lo (hi-lo).toNat) H):wpAny (model X.prog X.w) X.A (pyIter (.ref s.heap.objs.size)) (Fg X pins σ tg R) E { s with heap:=s.heap.push { cls:=.type "range",data:=.fields #[.int lo t,.int hi u,.int 1 v] },toks:=tk }:=by
 refine wpAny_pyIter_range (IsRange.new ..) (small_one h1 h2 h3 h4) ?_
 have I1:Inv X pins σ H { s with heap:=s.heap.push { cls:=.type "range",data:=.fields #[.int lo t,.int hi u,.int 1 v] },toks:=tk }:=I.kept fun b o e=>Heap.get?_push_of_some _ e
 refine⟨(s.heap.push { cls:=.type "range",data:=.fields #[.int lo t,.int hi u,.int 1 v] }).objs.size,[(s.heap.push { cls:=.type "range",data:=.fields #[.int lo t,.int hi u,.int 1 v] }).objs.size],_,_,H,rfl,
  I1.kept (t':=tk) fun b o e=>Heap.get?_push_of_some _ e,P7 _ lo (hi-lo).toNat,?_,fun b hb=>?_,q⟩
 ·have e1:lo+((0:Nat):Int)*1=lo:=by simp
  have e2:(((hi-lo).toNat:Nat):Int)-((0:Nat):Int)=Builtin.Range.rangeSize lo hi 1:=by rw[rangeSize_one];split<;>omega
  show IsRangeIter _ _ (lo+((0:Nat):Int)*1) ((((hi-lo).toNat:Nat):Int)-((0:Nat):Int)) 1
  rw[e1,e2]
  exact Heap.get?_push_size _ rfl
 ·have e:b=(s.heap.push { cls:=.type "range",data:=.fields #[.int lo t,.int hi u,.int 1 v] }).objs.size:=by simpa using hb
  subst e
  exact I1.fpOk (Nat.le_refl _) (I1.hok.fresh (Nat.le_refl _))
def HL(ta:TA):TI:=fun σ H R=>ta σ H fun vs H1=>∃j:Int,vs=[.int j]/\-(2^62)<=j/\j<2^62/\R (HJ 0 j.toNat) H1
def HM(ta:TA):TI:=fun σ H R=>ta σ H fun vs H1=>∃i j:Int,vs=[.int i,.int j]/\(-(2^62)<=i/\i<2^62/\-(2^62)<=j/\j<2^62)/\R (HJ i (j-i).toNat) H1
theorem N4{a:Expr}{ta:TA}{p pos:Pos}(hg:Gl X "range")(hm:X.mg "range" = none)(ha:PA X [a] ta)(hs:starEach [a] X.env=[(false,eval a X.env)]:=by rfl):PI X tg (.Call (.Name "range" p) [a] [] pos) (HL ta):=by
 intro pins s σ H R I h
 refine Call_ (Ww I hg hm boot_range (PyProof.Rows.callWith_type1 (YS (ha pos pins s σ H _ I h) fun us s1 ⟨vs,H1,I1,r1,q1⟩=>?_) hs rfl))
 obtain⟨j,e,q1,q2,q⟩:=q1
 subst e
 cases r1 with
 | cons r rr=>
  cases rr
  obtain⟨t,rfl⟩:=r
  exact call_range_1 (Q9 I1 (by omega) (by omega) q1 q2 (by simpa using q))
theorem N5{a b:Expr}{ta:TA}{p pos:Pos}(hg:Gl X "range")(hm:X.mg "range" = none)(ha:PA X [a,b] ta)(hs:starEach [a,b] X.env=[(false,eval a X.env),(false,eval b X.env)]:=by rfl)(hs2:starEach [b] X.env=[(false,eval b X.env)]:=by rfl) :
  PI X tg (.Call (.Name "range" p) [a,b] [] pos) (HM ta):=by
 intro pins s σ H R I h
 refine Call_ (Ww I hg hm boot_range (PyProof.Rows.callWith_type1 (YS (ha pos pins s σ H _ I h) fun us s1 ⟨vs,H1,I1,r1,q1⟩=>?_) (by rw[hs,hs2]) (by rw[hs2];rfl)))
 obtain⟨i,j,e,⟨q1,q2,q3,q4⟩,q⟩:=q1
 subst e
 cases r1 with
 | cons r rr=>
  cases rr with
  | cons r' rr=>
   cases rr
   obtain⟨t,rfl⟩:=r
   obtain⟨t',rfl⟩:=r'
   exact call_range_2 (Q9 I1 q1 q2 q3 q4 q)
def GW(wi:TI)(g:TG)(tb:TS):TS:=fun D σ H=>wi σ H fun J H1=>∃W:Nat->Nat->St->Hp->Prop,(∃m,W 0 m σ H1)/\∀i m σ H,W i m σ H->
 (J.stop i H/\D.nx σ H)\/(J.go i H/\∃N:St->Hp->Prop,(∀σ' H',N σ' H'->∃m',m'<m/\W (i+1) m' σ' H')/\∀x H',J.yld i H x H'->g x σ H' fun σ2 H2=>tb { D with nx:=N,ct:=N,bk:=D.nx } σ2 H2)
def UQ(fp:List Addr)(h:Heap):List (Addr×Obj):=fp.filterMap fun b=>(h.get? b).map fun o=>(b,o)
theorem Wx{fp:List Addr}{h:Heap}{b:Addr}{o:Obj}(hb:b∈fp)(e:h.get? b=some o):(b,o)∈UQ fp h:=List.mem_filterMap.mpr ⟨b,hb,by rw[e];rfl⟩
theorem N6{fp:List Addr}{h:Heap}{p:Addr×Obj}(hp:p∈UQ fp h):p.1∈fp/\h.get? p.1=some p.2:=by
 obtain⟨b,hb,e⟩:=List.mem_filterMap.mp hp
 cases q:h.get? b with
 | none=>rw[q] at e;cases e
 | some o=>
  rw[q] at e
  have e':(b,o)=p:=Option.some.inj e
  subst e'
  exact⟨hb,q⟩
theorem Inv.pinned{pins:List (Addr×Obj)}{σ:St}{H:Hp}{s:Shared}{fp:List Addr}(I:Inv X pins σ H s)(hf:∀b∈fp,V9 X pins H b)(ho:∀b∈fp,∃o,s.heap.get? b=some o/\∀v,o.data≠.cell v):Inv X (pins++UQ fp s.heap) σ H s:=
 I.pins_of fun p hp=>(List.mem_append.mp hp).elim (fun z=>I.pin p (List.mem_append_right _ z)) fun z=>by
  obtain⟨hb,e⟩:=N6 z
  obtain⟨f0,f1,f2,_⟩:=hf p.1 hb
  obtain⟨o,e',d⟩:=ho p.1 hb
  rw[e] at e';cases e'
  exact⟨e,f0,f1,f2,d⟩
theorem Inv.unpinned{pins pl:List (Addr×Obj)}{σ:St}{H:Hp}{s:Shared}(I:Inv X (pins++pl) σ H s):Inv X pins σ H s:=I.pins_of fun p hp=>I.pin p (List.mem_append_right _ (List.mem_append_left _ hp))
theorem Io{iter:Expr}{body:List Stmt}{wi:TI}{g:TG}{tb:TS}{pos:Pos}(hp:PassesOwn (model X.prog X.w) X.A X.env X.xe)(hc:X.calm=true)(hi:PI X tg iter wi)(hg:PG X tg g)(hb:PSs X body tb)
  (hs:∀x,foldedSetIterable iter X.env x=pure x:=by intro _;rfl):PS X (.For tg iter body [] pos) (GW wi g tb):=by
 intro pins s σ H D I h
 refine wpAny_For (YS (hi pins s σ H _ I h) fun v s1 h1=>YS h1 fun itv s2 h2=>?_) hs
 obtain⟨it,fp,tn,J,H2,e,I2,T,st2,f2,W,⟨m0,w0⟩,turn⟩:=h2
 subst e
 -- what stays true of the iterator's objects through the loop
 have stat:∀{H':Hp},(∀b∈fp,H' b=none)->∀b∈fp,V9 X pins H' b:=fun hn b hb=>⟨hn b hb,(f2 b hb).2⟩
 refine codeAny_forLoop_any (fun n s'=>∃i σ' H',Inv X pins σ' H' s'/\tn i s'.heap/\(∀b∈fp,H' b=none)/\W i n σ' H') ?_ m0 ⟨0,σ,H2,I2,st2,fun b hb=>(f2 b hb).1,w0⟩
 rintro n s3 ⟨i,σ3,H3,I3,st3,fr3,w3⟩
 rcases turn i n σ3 H3 w3 with⟨stop,qn⟩ | ⟨go,N,hN,step⟩
 ·refine wpAny_passesOwn hp (YS (T.done X rfl rfl rfl hc i pins s3 σ3 H3 X.xe I3 (stat fr3) st3 stop) fun r s4 ⟨hr,I4⟩=>?_)
  subst hr
  exact wpAny_execs_nil ⟨σ3,H3,I4,qn⟩
 ·refine wpAny_passesOwn hp (YS (T.item X rfl rfl rfl hc i pins s3 σ3 H3 X.xe I3 (stat fr3) st3 go) fun r s4 ⟨u,hr,h4⟩=>?_)
  subst hr
  refine wpAny_passesOwn hp (YS h4 fun _ s5 ⟨x,H5,I5,r5,y5,st5,fr5⟩=>?_)
  have I5':=I5.pinned (stat fr5) (T.obj _ _ st5)
  refine wpAny_passesOwn hp (YS (hg _ s5 σ3 H5 x u _ I5' r5 (step x H5 y5)) fun _ s6 ⟨σ6,H6,I6,q6⟩=>?_)
  refine wpAny_passesOwn hp (YS (hb _ s6 σ6 H6 _ I6 q6) fun f s7 q7=>?_)
  have again:∀{σ7:St}{H7:Hp},Inv X (pins++UQ fp s5.heap) σ7 H7 s7->N σ7 H7->∃m,m<n/\∃i σ' H',Inv X pins σ' H' s7/\tn i s7.heap/\(∀b∈fp,H' b=none)/\W i m σ' H':=fun{σ7 H7} I7 n7=>by
   obtain⟨m',hm,w7⟩:=hN σ7 H7 n7
   refine⟨m',hm,i+1,σ7,H7,I7.unpinned,T.keep _ _ _ st5 fun b hb o e=>(I7.pin (b,o) (List.mem_append_right _ (List.mem_append_right _ (Wx hb e)))).1,fun b hb=>?_,w7⟩
   obtain⟨o,e,d⟩:=T.obj _ _ st5 b hb
   exact(I7.pin (b,o) (List.mem_append_right _ (List.mem_append_right _ (Wx hb e)))).2.1
  cases f with
  | next=>obtain⟨σ7,H7,I7,n7⟩:=q7;exact again I7 n7
  | cont=>obtain⟨σ7,H7,I7,n7⟩:=q7;exact again I7 n7
  | brk=>obtain⟨σ7,H7,I7,q7⟩:=q7;exact⟨σ7,H7,I7.unpinned,q7⟩
  | ret v=>obtain⟨x7,σ7,H7,I7,r7,q7⟩:=q7;exact⟨x7,σ7,H7,I7.unpinned,r7,q7⟩
end
abbrev R2:=V->V->Hp->VK->Prop
def VV(X:Cx)(f:Value->Value->Sem Value)(r:R2):Prop:=
 ∀(pins:List (Addr×Obj))(s:Shared)(σ:St)(H:Hp)(x y:V)(v u:Value)(Q:VK),Inv X pins σ H s->RelV x v->RelV y u->r x y H Q->
  wpAny (model X.prog X.w) X.A (f v u) (EP X pins σ Q) X.xe s
def GX(X:Cx)(f:Value->Sem Value)(r:V->Hp->VK->Prop):Prop:=
 ∀(pins:List (Addr×Obj))(s:Shared)(σ:St)(H:Hp)(x:V)(v:Value)(Q:VK),Inv X pins σ H s->RelV x v->r x H Q->
  wpAny (model X.prog X.w) X.A (f v) (EP X pins σ Q) X.xe s
def XZ(X:Cx)(f:Value)(r:List V->Hp->VK->Prop):Prop:=
 ∀(pins:List (Addr×Obj))(s:Shared)(σ:St)(H:Hp)(xs:List V)(us:List Value)(Q:VK),Inv X pins σ H s->Vals xs us->r xs H Q->
  wpAny (model X.prog X.w) X.A (call f us) (EP X pins σ Q) X.xe s
def GY(X:Cx)(r:V->Hp->(Bool->Hp->Prop)->Prop):Prop:=
 ∀(pins:List (Addr×Obj))(s:Shared)(σ:St)(H:Hp)(x:V)(v:Value)(Q:Bool->Hp->Prop),Inv X pins σ H s->RelV x v->r x H Q->
  wpAny (model X.prog X.w) X.A (truthy v) (TP X pins σ Q) X.xe s
def Hr(r:R2)(ta tb:TE):TE:=fun σ H Q=>ta σ H fun x H1=>tb σ H1 fun y H2=>r x y H2 Q
def Fp(r:V->Hp->VK->Prop)(ta:TE):TE:=fun σ H Q=>ta σ H fun x H1=>r x H1 Q
def rI(C:Int->Int->Prop)(g:Int->Int->V):R2:=fun x y H Q=>∃i j,x = .int i/\y = .int j/\C i j/\Q (g i j) H
def Ko(g:Int->Int->V):R2:=fun x y H Q=>∃i j,x = .int i/\y = .int j/\Q (g i j) H
def rU(g:Int->V):V->Hp->VK->Prop:=fun x H Q=>∃i,x = .int i/\Q (g i) H
section
variable {X:Cx} {a b c:Expr} {ta tb tc:TE} {pos:Pos}
theorem Ip(ha:PE X a ta)(hb:PE X b tb){pins:List (Addr×Obj)}{s:Shared}{σ:St}{H:Hp}{R:V->V->Hp->Prop}(I:Inv X pins σ H s)
  (h:ta σ H fun x H1=>tb σ H1 fun y H2=>R x y H2) {Q:Value->Shared->Prop} {f:Value->Value->Sem Value}
  (hf:∀v u s2 x y H2,Inv X pins σ H2 s2->RelV x v->RelV y u->R x y H2->wpAny (model X.prog X.w) X.A (f v u) Q X.xe s2) :
  wpAny (model X.prog X.w) X.A (eval a X.env) (fun v s₁=>wpAny (model X.prog X.w) X.A (eval b X.env) (fun u s₂=>wpAny (model X.prog X.w) X.A (f v u) Q X.xe s₂) X.xe s₁) X.xe s:=by
 refine YS (ha pins s σ H _ I h) fun v s1 ⟨x,H1,I1,r1,q1⟩=>?_
 refine YS (hb pins s1 σ H1 _ I1 q1) fun u s2 ⟨y,H2,I2,r2,q2⟩=>?_
 exact hf v u s2 x y H2 I2 r1 r2 q2
theorem JM{op:Operator}{r:R2}(ho:VV X (binaryOp op) r)(ha:PE X a ta)(hb:PE X b tb):PE X (.BinOp a op b pos) (Hr r ta tb):=by
 intro pins s σ H Q I h
 exact wpAny_BinOp (Ip ha hb I h fun v u s2 x y H2 I2 rx ry q=>ho pins s2 σ H2 x y v u Q I2 rx ry q)
theorem HN{op:UnaryOp}{r:V->Hp->VK->Prop}(ho:GX X (unaryOp op) r)(ha:PE X a ta):PE X (.UnaryOp op a pos) (Fp r ta):=by
 intro pins s σ H Q I h
 exact UnaryOp_ (YS (ha pins s σ H _ I h) fun v s1 ⟨x,H1,I1,r1,q1⟩=>ho pins s1 σ H1 x v Q I1 r1 q1)
theorem Hs{f:Value->Value->Sem Value}{C:Int->Int->Prop}{g:Int->Int->Int}
  (rule:∀(i j:Int)(t u:Tok)(s:Shared)(Q:Value->Shared->Prop)(E:Value->Shared->Prop),C i j->Q (.int (g i j) s.toks) { s with toks:=s.toks+1 }->wpAny (model X.prog X.w) X.A (f (.int i t) (.int j u)) Q E s) :
  VV X f (rI C fun i j=>.int (g i j)):=by
 intro pins s σ H x y v u Q I rx ry h
 obtain⟨i,j,rfl,rfl,hc,q⟩:=h
 obtain⟨t,rfl⟩:=rx
 obtain⟨t',rfl⟩:=ry
 exact rule i j t t' s _ _ hc ⟨.int (g i j),H,I.tok _,⟨_,rfl⟩,q⟩
theorem HP{f:Value->Value->Sem Value}{g:Int->Int->Int}
  (rule:∀(i j:Int)(t u:Tok)(s:Shared)(Q:Value->Shared->Prop)(E:Value->Shared->Prop),Q (.int (g i j) s.toks) { s with toks:=s.toks+1 }->wpAny (model X.prog X.w) X.A (f (.int i t) (.int j u)) Q E s) :
  VV X f (Ko fun i j=>.int (g i j)):=by
 intro pins s σ H x y v u Q I rx ry h
 obtain⟨i,j,rfl,rfl,q⟩:=h
 obtain⟨t,rfl⟩:=rx
 obtain⟨t',rfl⟩:=ry
 exact rule i j t t' s _ _ ⟨.int (g i j),H,I.tok _,⟨_,rfl⟩,q⟩
theorem Kz{f:Value->Value->Sem Value}{g:Int->Int->Bool}
  (rule:∀(i j:Int)(t u:Tok)(s:Shared)(Q:Value->Shared->Prop)(E:Value->Shared->Prop),Q (.bool (g i j)) s->wpAny (model X.prog X.w) X.A (f (.int i t) (.int j u)) Q E s) :
  VV X f (Ko fun i j=>.bl (g i j)):=by
 intro pins s σ H x y v u Q I rx ry h
 obtain⟨i,j,rfl,rfl,q⟩:=h
 obtain⟨t,rfl⟩:=rx
 obtain⟨t',rfl⟩:=ry
 exact rule i j t t' s _ _ ⟨.bl (g i j),H,I,rfl,q⟩
def P8(i j:Int):Prop:=0<j/\j<1073741824
def JN(i j:Int):Prop:=j≠0/\j.natAbs<1073741824
def Pa(i j:Int):Prop:=0<=j/\j<=1000000/\i.natAbs<2^64
def CMul(i j:Int):Prop:=(-(2^64)<i/\i<2^64)\/(-(2^64)<j/\j<2^64)
theorem CMul.ok{i j:Int}(h:CMul i j):IntMulOk i j:=by
 rcases h with⟨h1,h2⟩ | ⟨h1,h2⟩
 ·exact .of_left (intBits_le_64 h1 h2)
 ·exact .of_right (intBits_le_64 h1 h2)
theorem Iq:VV X (binaryOp .Add) (Ko fun i j=>.int (i+j)):=HP fun _ _ _ _ _ _ _ q=>add_int q
theorem Ir:VV X (binaryOp .Sub) (Ko fun i j=>.int (i-j)):=HP fun _ _ _ _ _ _ _ q=>sub_int q
theorem Iu:VV X (binaryOp .Mult) (rI CMul fun i j=>.int (i*j)):=Hs fun _ _ _ _ _ _ _ hc q=>mul_int q hc.ok
theorem KA:VV X (binaryOp .FloorDiv) (rI P8 fun i j=>.int (i/j)):=Hs fun i j _ _ _ _ _ hc q=>by
 have h1:(0:Int)<j:=hc.1
 have h2:j<1073741824:=hc.2
 exact floordiv_int (by omega) (by rw[Int.fdiv_eq_ediv_of_nonneg i (by omega)];exact q) (.inl (PyProof.noPylong_small (by omega)))
theorem Iv:VV X (binaryOp .Mod) (rI (fun _ j=>0<j) fun i j=>.int (i%j)):=Hs fun i j _ _ _ _ _ hc q=>by
 have h1:(0:Int)<j:=hc
 exact mod_int' (by omega) (by rw[Int.fmod_eq_emod_of_nonneg i (by omega)];exact q)
theorem Iw:VV X (binaryOp .Pow) (rI Pa fun i j=>.int (i^j.toNat)):=Hs fun _ _ _ _ _ _ _ hc q=>pow_int_small hc.1 hc.2.1 hc.2.2 q
theorem Fq{f:Value->Sem Value}{g:Int->Int}
  (rule:∀(i:Int)(t:Tok)(s:Shared)(Q:Value->Shared->Prop)(E:Value->Shared->Prop),Q (.int (g i) s.toks) { s with toks:=s.toks+1 }->wpAny (model X.prog X.w) X.A (f (.int i t)) Q E s) :
  GX X f (rU fun i=>.int (g i)):=by
 intro pins s σ H x v Q I rx h
 obtain⟨i,rfl,q⟩:=h
 obtain⟨t,rfl⟩:=rx
 exact rule i t s _ _ ⟨.int (g i),H,I.tok _,⟨_,rfl⟩,q⟩
theorem Ix:GX X (unaryOp .USub) (rU fun i=>.int (-i)):=Fq fun _ _ _ _ _ q=>neg_int q
end
section
variable {X:Cx} {a b c:Expr} {ta tb tc:TE} {pos:Pos}
theorem JO:VV X (compareOp .Lt) (Ko fun i j=>.bl (decide (i<j))):=Kz fun _ _ _ _ _ _ _ q=>lt_int q
theorem HQ:VV X (compareOp .LtE) (Ko fun i j=>.bl (decide (i<=j))):=Kz fun _ _ _ _ _ _ _ q=>le_int q
theorem HR:VV X (compareOp .Gt) (Ko fun i j=>.bl (decide (j<i))):=Kz fun _ _ _ _ _ _ _ q=>gt_int q
theorem HS:VV X (compareOp .GtE) (Ko fun i j=>.bl (decide (j<=i))):=Kz fun _ _ _ _ _ _ _ q=>ge_int q
theorem V1(b:Expr){op:CmpOp}(h:op≠.In:=by decide)(h2:op≠.NotIn:=by decide):behindInMarks op b=false:=by
 have e1:(op==CmpOp.In)=false:=by cases op<;>first | rfl | exact absurd rfl h
 have e2:(op==CmpOp.NotIn)=false:=by cases op<;>first | rfl | exact absurd rfl h2
 cases b<;>simp[behindInMarks,e1,e2]
theorem KB{op:CmpOp}{r:R2}(ho:VV X (compareOp op) r)(ha:PE X a ta)(hb:PE X b tb)(hm:behindInMarks op b=false):PE X (.Compare a [op] [b] pos) (Hr r ta tb):=by
 intro pins s σ H Q I h
 exact wpAny_Compare1 (Ip ha hb I h fun v u s2 x y H2 I2 rx ry q=>ho pins s2 σ H2 x y v u Q I2 rx ry q) hm
def Ng(t:TE):TT:=fun σ H Q=>t σ H fun x H'=>∃k,x = .bl k/\Q k H'
theorem KC{op:CmpOp}{r:R2}(ho:VV X (compareOp op) r)(ha:PE X a ta)(hb:PE X b tb)(hm:behindInMarks op b=false):PT X (.Compare a [op] [b] pos) (Ng (Hr r ta tb)):=by
 intro pins s σ H Q I h
 refine wpAny_isTrue_Compare1 (YS (ha pins s σ H _ I h) fun v s1 ⟨x,H1,I1,r1,q1⟩=>YS (hb pins s1 σ H1 _ I1 q1) fun u s2 ⟨y,H2,I2,r2,q2⟩=>
  YS (ho pins s2 σ H2 x y v u _ I2 r1 r2 q2) fun c s3 ⟨z,H3,I3,r3,k,e,q3⟩=>?_) hm
 subst e;cases r3
 exact wpAny_truthy_bool ⟨H3,I3,q3⟩
def MP(r r':R2)(ta tb tc:TE):TE:=fun σ H Q=>ta σ H fun x H1=>tb σ H1 fun y H2=>r x y H2 fun z H3=>∃k,z = .bl k/\
 (if k=true then tc σ H3 fun w' H4=>r' y w' H4 Q else Q (.bl false) H3)
theorem MQ{op op':CmpOp}{r r':R2}(ho:VV X (compareOp op) r)(ho':VV X (compareOp op') r')(ha:PE X a ta)(hb:PE X b tb)(hc:PE X c tc)
  (hm:lastMarks [op,op'] [b,c]=false:=by with_unfolding_all rfl):PE X (.Compare a [op,op'] [b,c] pos) (MP r r' ta tb tc):=by
 intro pins s σ H Q I h
 refine Compare_chain (YS (ha pins s σ H _ I h) fun v s1 ⟨x,H1,I1,r1,q1⟩=>chain_link (YS (hb pins s1 σ H1 _ I1 q1) fun u s2 ⟨y,H2,I2,r2,q2⟩=>
  YS (ho pins s2 σ H2 x y v u _ I2 r1 r2 q2) fun d s3 ⟨z,H3,I3,r3,k,e,q3⟩=>?_)) hm
 subst e;cases r3
 refine wpAny_truthy_bool ?_
 cases k with
 | false=>exact ite_ff ⟨.bl false,H3,I3,rfl,q3⟩
 | true=>exact ite_tt (chain_last (YS (hc pins s3 σ H3 _ I3 q3) fun w' s4 ⟨z',H4,I4,r4,q4⟩=>ho' pins s4 σ H4 y z' u w' Q I4 r2 r4 q4))
def GZ(K:PySem.W.Frag)(x:V)(H:Hp)(k:Bool):Prop:=
 match x with
 | .non=>k=false
 | .bl b=>k=b
 | .int i=>k=(i != 0)
 | .str y=>y.length<=sizeLine/\k=((y.length:Int) != 0)
 | .byt y=>y.size<=sizeLine/\k=((y.size:Int) != 0)
 | .ref p=>(∃xs,SqL K H p xs/\k = !xs.isEmpty)\/(∃xs,SqT K H p xs/\k = !xs.isEmpty)\/∃kvs,H p=some (.dK kvs)/\k = !kvs.isEmpty
 | _=>False
theorem P9{κ:Type}{kvs:List (κ×V)}{vs:List (κ×Value)}(r:KV kvs vs):(!vs.isEmpty) = !kvs.isEmpty:=by
 cases r<;>rfl
theorem Sl{xs:List V}{its:List Value}(r:Vals xs its):(!its.toArray.isEmpty) = !xs.isEmpty:=by
 cases r<;>simp
theorem UR:(sizeLine:Nat)<2^63:=by rw[sizeLine_eq];decide
theorem tru_ok:GY X (fun x H Q=>∃k,GZ X.K x H k/\Q k H):=by
 intro pins s σ H x v Q I rx h
 obtain⟨k,e,q⟩:=h
 have hl:=UR
 have hs:sizeLine=16777216:=sizeLine_eq
 cases x with
 | non=>
  cases rx
  have e':k=false:=e
  subst e'
  exact truthy_none ⟨H,I,q⟩
 | bl b=>
  cases rx
  have e':k=b:=e
  subst e'
  exact wpAny_truthy_bool ⟨H,I,q⟩
 | int i=>
  obtain⟨t,rfl⟩:=rx
  have e':k=(i != 0):=e
  subst e'
  exact PySem.P.truthy_int ⟨H,I,q⟩
 | str y=>
  obtain⟨t,rfl⟩:=rx
  obtain⟨hy,e'⟩:y.length<=sizeLine/\k=((y.length:Int) != 0):=e
  subst e'
  exact PySem.P.truthy_str (by omega) ⟨H,I.tok _,q⟩
 | byt y=>
  obtain⟨t,rfl⟩:=rx
  obtain⟨hy,e'⟩:y.size<=sizeLine/\k=((y.size:Int) != 0):=e
  subst e'
  exact PySem.W.truthy_bytes (by omega) ⟨H,I.tok _,q⟩
 | ref p=>
  cases rx
  have e':(∃xs,SqL X.K H p xs/\k = !xs.isEmpty)\/(∃xs,SqT X.K H p xs/\k = !xs.isEmpty)\/∃kvs,H p=some (.dK kvs)/\k = !kvs.isEmpty:=e
  rcases e' with⟨xs,hx,e'⟩ | ⟨xs,hx,e'⟩ | ⟨kvs,hx,e'⟩
  ·subst e'
   obtain⟨its,r,pl,hz⟩:=I.list hx
   have hlen:=r.length
   exact wpAny_truthy_list pl.isList (by simp only[List.size_toArray];omega) ⟨H,I.tok _,by rw[Sl r];exact q⟩
  ·subst e'
   obtain⟨its,r,pl,hz⟩:=I.tuple hx
   have hlen:=r.length
   exact truthy_tuple pl (by simp only[List.size_toArray];omega) ⟨H,I.tok _,by rw[Sl r];exact q⟩
  ·subst e'
   obtain⟨hz,hS,vs,r,m⟩:kvs.length<=sizeLine/\(p==sysModules)=false/\∃vs,KV kvs vs/\s.heap.DictOf (Qh X.prog X.w) p vs:=I.hok p _ hx
   have hlen:kvs.length=vs.length:=Paired.length r
   exact wpAny_truthy_dict hS m (by omega) ⟨H,I.tok _,by rw[P9 r];exact q⟩
 | _=>exact(show False from e).elim
theorem Sm{x:V}{us:List Value}(r:Vals [x] us):∃u,us=[u]/\RelV x u:=by
 cases r with
 | cons r1 r2=>cases r2;exact⟨_,rfl,r1⟩
theorem JP{x y:V}{us:List Value}(r:Vals [x,y] us):∃u w',us=[u,w']/\RelV x u/\RelV y w':=by
 cases r with
 | cons r1 r2=>
  cases r2 with
  | cons r3 r4=>cases r4;exact⟨_,_,rfl,r1,r3⟩
theorem N7(hc:X.calm=true):XZ X (.builtin "min") (fun xs H Q=>∃i j,xs=[.int i,.int j]/\Q (.int (if j<i then j else i)) H):=by
 intro pins s σ H xs us Q I r h
 obtain⟨i,j,rfl,q⟩:=h
 obtain⟨u,w',rfl,⟨t,rfl⟩,⟨t',rfl⟩⟩:=JP r
 refine min_two_ints (I.ok.hd hc) fun h' tk k=>⟨_,H,I.kept k,?_,q⟩
 by_cases hj:j<i
 ·rw[if_pos hj,if_pos hj];exact⟨_,rfl⟩
 ·rw[if_neg hj,if_neg hj];exact⟨_,rfl⟩
def HU(K:PySem.W.Frag)(x:V)(H:Hp)(n:Nat):Prop:=
 match x with
 | .str y=>y.length<=sizeLine/\n=y.length
 | .byt y=>y.size<=sizeLine/\n=y.size
 | .ref p=>(∃xs,SqL K H p xs/\n=xs.length)\/∃xs,SqT K H p xs/\n=xs.length
 | _=>False
theorem Z2:XZ X (.builtin "len") (fun xs H Q=>∃x n,xs=[x]/\HU X.K x H n/\Q (.int n) H):=by
 intro pins s σ H xs us Q I r h
 obtain⟨x,n,rfl,e,q⟩:=h
 obtain⟨u,rfl,rx⟩:=Sm r
 have hl:=UR
 have hs:sizeLine=16777216:=sizeLine_eq
 cases x with
 | str y=>
  obtain⟨t,rfl⟩:=rx
  obtain⟨hy,e'⟩:y.length<=sizeLine/\n=y.length:=e
  subst e'
  exact len_str (by omega) ⟨.int _,H,I.tok _,⟨_,rfl⟩,q⟩
 | byt y=>
  obtain⟨t,rfl⟩:=rx
  obtain⟨hy,e'⟩:y.size<=sizeLine/\n=y.size:=e
  subst e'
  exact PySem.W.len_bytes (by omega) ⟨.int _,H,I.tok _,⟨_,rfl⟩,q⟩
 | ref p=>
  cases rx
  have e':(∃xs,SqL X.K H p xs/\n=xs.length)\/∃xs,SqT X.K H p xs/\n=xs.length:=e
  rcases e' with⟨xs,hx,e'⟩ | ⟨xs,hx,e'⟩
  ·subst e'
   obtain⟨its,r',pl,hz⟩:=I.list hx
   have hlen:=r'.length
   exact Calls.call_len_list pl.isList (by simp only[List.size_toArray];omega) ⟨.int xs.length,H,I.tok _,⟨_,by simp only[List.size_toArray];rw[hlen]⟩,q⟩
  ·subst e'
   obtain⟨its,r',pl,hz⟩:=I.tuple hx
   have hlen:=r'.length
   exact len_tuple pl (by simp only[List.size_toArray];omega) ⟨.int xs.length,H,I.tok _,⟨_,by simp only[List.size_toArray];rw[hlen]⟩,q⟩
 | _=>exact(show False from e).elim
end
structure ObjM(h:Heap)(x dx C:Addr)(mA:Str->Option Value):Prop where
 obj:h.get? x=some (PySem.W.instObj C dx)
 ns:h.Ns1 dx mA
 ne:dx≠x
theorem N8{h:Heap}{dx:Addr}{mA:Str->Option Value}(n:h.Ns1 dx mA):∃od,h.get? dx=some od/\∀name,PySem.W.lookIn name od=some (mA name):=by
 obtain⟨o,es,ep,ho,hd,hk,_,hm⟩:=n
 refine⟨o,ho,fun name=>?_⟩
 have e:=hm name;unfold nsFind findBy at e;rw[<-Array.find?_toList] at e;unfold PySem.W.lookIn;rw[hd]
 dsimp only
 split
 ·rename_i y q
  rw[q] at e
  exact congrArg some e
 ·rename_i q
  rw[q] at e
  have a:es.toList.any (·.refKey)=false:=by
   rw[List.any_eq_false];intro y hy
   obtain⟨z,t,hkey⟩:=hk y (Array.mem_toList_iff.mp hy)
   simp[DictEntry.refKey,hkey]
  have a':¬es.toList.any (·.refKey)=true:=by rw[a];exact Bool.false_ne_true
  rw[if_neg a']
  exact congrArg some e
theorem ObjM.look{h:Heap}{x dx C:Addr}{mA:Str->Option Value}(I:ObjM h x dx C mA):∃od,PySem.W.InstAt h x (PySem.W.instObj C dx) C (some od)/\∀name,PySem.W.lookIn name od=some (mA name):=
 let⟨od,ho,hl⟩:=N8 I.ns
 ⟨od,⟨I.obj,rfl,rfl,ho⟩,hl⟩
section
variable {P:Program} {w:World} {H H':Hp} {h h':Heap} {a C dx:Addr} {fs fs':List (Str×V)}
theorem KD(hok:HOk P w H h)(e:H a=some (.ins C dx fs)):∃mA,ObjM h a dx C mA/\(∀f,J2 (fs.lookup f) (mA f))/\PySem.Within mA (fs.map (·.1))/\fs.length<=1000/\H dx=some (.own a):=by
 obtain⟨d,z,ne,ob,mA,n,r,q⟩:=(show ObjOk P w H h a (.ins C dx fs) from hok a _ e)
 exact⟨mA,⟨ob,n,ne⟩,r,q,z,d⟩
end
structure Cls(K:PySem.W.Frag)(C:Addr):Prop where
 pg:PySem.W.plainGet K C Str.empty=true
 hd:PySem.W.hasDictIn K C=true
 po:PySem.W.plainOver K C=true
 sa:PySem.W.findIn K (.ref C) "__setattr__" = some (some (.builtin "object.__setattr__"))
theorem Cls.get{K:PySem.W.Frag}{C:Addr}(c:Cls K C)(f:Str):PySem.W.plainGet K C f=true:=c.pg
section
variable {X:Cx} {pins:List (Addr×Obj)} {σ:St} {H:Hp} {s:Shared} {A:Around} {E:Value->Shared->Prop} {Q:Value->Shared->Prop} {c:Value} {b:Bool}
inductive TyOf(K:PySem.W.Frag)(H:Hp):V->Value->Prop where
 | non:TyOf K H .non (.type "NoneType")
 | bl (x:Bool):TyOf K H (.bl x) (.type "bool")
 | int (i:Int):TyOf K H (.int i) (.type "int")
 | str (x:Str):TyOf K H (.str x) (.type "str")
 | flt (x:UInt64):TyOf K H (.flt x) (.type "float")
 | lst {a:Addr} {xs:List V} (e:H a=some (.lst xs)):TyOf K H (.ref a) (.type "list")
 | frz {a:Addr} {o:Obj} {xs:List V} (e:H a=some (.frz o (.lst xs))):TyOf K H (.ref a) (.type "list")
 | tup {a:Addr} {xs:List V} (e:H a=some (.tup xs)):TyOf K H (.ref a) (.type "tuple")
 | dK {a:Addr} {kvs:List (TV×V)} (e:H a=some (.dK kvs)):TyOf K H (.ref a) (.type "dict")
 | dT {a:Addr} {kvs:List (List TV×V)} (e:H a=some (.dT kvs)):TyOf K H (.ref a) (.type "dict")
 | ins {a C dx:Addr} {fs:List (Str×V)} (e:H a=some (.ins C dx fs)) (cl:Cls K C) (ha:PySem.W.findIn K (.ref C) "__class__" = some (some (.builtin "object.__class__")))
   (hn:PySem.W.specialIn K (.builtin "object.__class__") "__get__" = some (some (.builtin "getset_descriptor.__get__"))) (htk:PySem.W.takesIn K (.builtin "object.__class__")=some true)
   (hm:PySem.W.mroIn K C (.type "object")=some true):TyOf K H (.ref a) (.ref C)
theorem N9{x:V}{u t:Value}(I:Inv X pins σ H s)(rx:RelV x u)(ty:TyOf X.K H x t)(e:PySem.W.kitOne X.K t c=some b)(h:∀tk,Q (.bool b) { s with toks:=tk }) :
  wpAny (model X.prog X.w) A (call (.builtin "isinstance") [u,c]) Q E s:=by
 cases ty with
 | non=>cases (show u=Value.none from rx);exact PySem.W.kia_one PySem.W.kitx_none I.kIn True.intro e (fun z=>nomatch z) h
 | bl y=>cases (show u=Value.bool y from rx);exact PySem.W.kia_one PySem.W.kitx_bool I.kIn True.intro e (fun z=>nomatch z) h
 | int i=>obtain⟨t,q⟩:=(show ∃t,u=Value.int i t from rx);cases q;exact PySem.W.kia_one PySem.W.kitx_int I.kIn True.intro e (fun z=>nomatch z) h
 | str y=>obtain⟨t,q⟩:=(show ∃t,u=Value.str y t from rx);cases q;exact PySem.W.kia_one PySem.W.kitx_str I.kIn True.intro e (fun z=>nomatch z) h
 | flt y=>obtain⟨t,q⟩:=(show ∃t,u=Value.float y t from rx);cases q;exact PySem.W.kia_one PySem.W.kitx_float I.kIn True.intro e (fun z=>nomatch z) h
 | @lst a xs ea=>
  cases (show u=Value.ref a from rx)
  obtain⟨_,_,n,_,h1⟩:=(show ObjOk X.prog X.w H s.heap a (.lst xs) from I.hok a _ ea)
  exact PySem.W.kia_one PySem.W.kitx_list I.kIn ⟨_,h1,rfl⟩ e (fun z=>nomatch z) h
 | @frz a ob xs ea=>
  cases (show u=Value.ref a from rx)
  obtain⟨_,_,_,n,_,h1⟩:=(show ObjOk X.prog X.w H s.heap a (.frz ob (.lst xs)) from I.hok a _ ea)
  exact PySem.W.kia_one PySem.W.kitx_list I.kIn ⟨_,h1,rfl⟩ e (fun z=>nomatch z) h
 | @tup a xs ea=>
  cases (show u=Value.ref a from rx)
  obtain⟨_,_,_,p⟩:=(show ObjOk X.prog X.w H s.heap a (.tup xs) from I.hok a _ ea)
  obtain⟨o,h1,h2,_⟩:=p
  exact PySem.W.kia_one PySem.W.kitx_tuple I.kIn ⟨o,h1,h2⟩ e (fun z=>nomatch z) h
 | @dK a kvs ea=>
  cases (show u=Value.ref a from rx)
  obtain⟨_,_,vs,_,p⟩:=(show ObjOk X.prog X.w H s.heap a (.dK kvs) from I.hok a _ ea)
  obtain⟨o,es,ep,h1,h2,_⟩:=p
  exact PySem.W.kia_one PySem.W.kitx_dict I.kIn ⟨o,h1,h2.1⟩ e (fun z=>nomatch z) h
 | @dT a kvs ea=>
  cases (show u=Value.ref a from rx)
  obtain⟨_,_,xs,_,o,es,ep,h1,h2,_⟩:=(show ObjOk X.prog X.w H s.heap a (.dT kvs) from I.hok a _ ea)
  exact PySem.W.kia_one PySem.W.kitx_dict I.kIn ⟨o,h1,h2.1⟩ e (fun z=>nomatch z) h
 | @ins a C dx fs ea cl ha hn htk hm=>
  cases (show u=Value.ref a from rx)
  obtain⟨mA,O,_⟩:=KD I.hok ea
  obtain⟨od,J,_⟩:=O.look
  exact PySem.W.kia_one (PySem.W.kitx_own (cl.get _) cl.hd ha hn htk hm) I.kIn J e (fun z=>nomatch z) h
end
structure Room(k:Nat)(A:Around):Prop where
 hd:A.handled=none
 dp:A.depth+3*k+5<recursionLimit
 un:A.units+16*k+200<cLine
 gd:A.guards=some []
theorem Room.mono{j k:Nat}{A:Around}(r:Room k A)(h:j<=k):Room j A:=⟨r.hd,by have:=r.dp;omega,by have:=r.un;omega,r.gd⟩
theorem Room.deeper{k:Nat}{A:Around}(r:Room (k+1) A)(env:Env):Room k (A.deeper env):=
 ⟨r.hd,by have:=r.dp;show A.depth+1+3*k+5<_;omega,by have:=r.un;show A.units+3+16*k+200<_;omega,r.gd⟩
theorem Room.depth{k:Nat}{A:Around}(r:Room k A):A.depth<recursionLimit:=by have:=r.dp;omega
theorem Room.units{k:Nat}{A:Around}(r:Room k A):A.units+64<cLine:=by have:=r.un;omega
def KF:TA:=fun _ H Q=>Q [] H
def Sn(ta:TE)(tr:TA):TA:=fun σ H Q=>ta σ H fun x H1=>tr σ H1 fun xs H2=>Q (x::xs) H2
section
variable {X:Cx} {e:Expr} {es:List Expr} {te:TE} {t:TA} {pos:Pos}
theorem V2:PA X [] KF:=fun _ _ _ _ H Q I h=>Calls.spliced_nil ⟨[],H,I,.nil,h⟩
theorem Y2(ha:PE X e te)(hr:PA X es t)(hs:starEach (e::es) X.env=(false,eval e X.env)::starEach es X.env:=by rfl):PA X (e::es) (Sn te t):=by
 intro pos pins s σ H Q I h;rw[hs]
 show wpAny _ _ (spliced ((false,eval e X.env)::backTo pos (starEach es X.env))) _ _ s
 refine Calls.spliced_cons (YS (ha pins s σ H _ I h) fun u s1 ⟨x,H1,I1,r1,q1⟩=>?_)
 exact YS (hr pos pins s1 σ H1 _ I1 q1) fun us s2 ⟨xs,H2,I2,r2,q2⟩=>⟨x::xs,H2,I2,.cons r1 r2,q2⟩
def HV(t:TA):TE:=fun σ H Q=>t σ H fun xs H1=>xs.length<=sizeLine/\∀p,H1 p=none->Q (.ref p) (upd H1 p (.tup xs))
def G0(t:TA):TE:=fun σ H Q=>t σ H fun xs H1=>xs.length<=sizeLine/\∀p,H1 p=none->Q (.ref p) (upd H1 p (.lst xs))
theorem Oa{x1}(h:PA X es t):PE X (.Tuple es x1 pos) (HV t):=by
 intro pins s σ H Q I hq
 refine wpAny_Tuple_spliced (YS (h pos pins s σ H _ I hq) fun us s1 ⟨xs,H1,I1,r,z,q⟩=>⟨by rw[<-r.length];exact z,?_⟩)
 have hf:H1 s1.heap.objs.size=none:=I1.hok.fresh (Nat.le_refl _)
 refine⟨.ref s1.heap.objs.size,upd H1 s1.heap.objs.size (.tup xs),I1.laid (t':=s1.toks) (fun b u e=>Heap.get?_push_of_some _ e) (Nat.le_refl _) ?_,rfl,q _ hf⟩
 exact⟨z,us,r,⟨_,Heap.get?_push_size _ rfl,rfl,_,rfl⟩⟩
theorem MR(h:PA X es t):PE X (.List es pos) (G0 t):=by
 intro pins s σ H Q I hq
 refine wpAny_List_spliced (YS (h pos pins s σ H _ I hq) fun us s1 ⟨xs,H1,I1,r,z,q⟩=>⟨by rw[<-r.length];exact z,?_⟩)
 have hf:H1 s1.heap.objs.size=none:=I1.hok.fresh (Nat.le_refl _)
 refine⟨.ref s1.heap.objs.size,upd H1 s1.heap.objs.size (.lst xs),I1.laid (t':=s1.toks) (fun b u e=>Heap.get?_push_of_some _ e) (Nat.le_refl _) ?_,rfl,q _ hf⟩
 exact⟨z,us,0,r,Heap.get?_push_size _ rfl⟩
end
abbrev Sp:=List V->Hp->VK->XK->Prop
abbrev KG:=List Env->Hp->Shared->XK->Value->Shared->Prop
structure KH(P:Program)(w:World)(K:PySem.W.Frag)(mg:Str->Option Value)(base:Heap)(A:Around)(outer:List Env)(s:Shared)(H:Hp):Prop where
 frames:A.frames=some outer
 mod:Mod K mg base
 bs:∀b o,base.get? b=some o->s.heap.get? b=some o/\H b=none
 bsz:base.objs.size<=s.heap.objs.size
 funs:s.heap.FunFrames base outer
 frf:∀b∈PZ outer,H b=none
 hok:HOk P w H s.heap
 bare:AllBare s.gens
def CE(outer:List Env)(P:Program)(w:World)(H:Hp)(s:Shared)(Q:VK)(u:Value)(s':Shared):Prop:=
 ∃v H',s'.os=s.os/\AllBare s'.gens/\Un (PZ outer) [] H H' s.heap s'.heap/\HOk P w H' s'.heap/\RelV v u/\Q v H'
def CR(CX:KG)(outer:List Env)(P:Program)(w:World)(H:Hp)(s:Shared)(Q:VK)(E:XK)(r:Result)(s':Shared):Prop:=
 match r with
 | .ok (.ret u)=>CE outer P w H s Q u s'
 | .ok _=>False
 | .error e=>CX outer H s E e s'
structure TF(P:Program)(w:World)(K:PySem.W.Frag)(mg:Str->Option Value)(base:Heap)(CX:KG)(k:Nat)(f:Addr)(fd:FuncData)(ps:List Str)(sp:Sp):Prop where
 len:∀vs H Q E,sp vs H Q E->vs.length=ps.length
 run:∀(A:Around)(outer:List Env)(s:Shared)(H:Hp)(args:Args)(us:List Value)(vs:List V)(Q:VK)(E:XK),Room k A->KH P w K mg base A outer s H->BindsTo s fd args (ps.zip us)->Vals vs us->sp vs H Q E->
  codeAny (model P w) A (.call (.ref f) args) (CR CX outer P w H s Q E) s
section
variable {X:Cx} {pins:List (Addr×Obj)} {σ:St} {H:Hp} {s s':Shared}
theorem Inv.env0(I:Inv X pins σ H s):KH X.prog X.w X.K X.mg X.base X.A X.stack s H:=
 ⟨I.ok.frames,I.ok.mod,I.bs,Nat.le_trans I.ok.bsz I.sz,I.stack,I.stkFree,I.hok,I.bare⟩
theorem Inv.after{Q:VK}{u:Value}(I:Inv X pins σ H s)(h:CE X.stack X.prog X.w H s Q u s'):EP X pins σ Q u s':=by
 obtain⟨v,H',os,bare,un,hok,r,q⟩:=h
 obtain⟨hh,g,d,t,os'⟩:=s'
 obtain rfl:os'=s.os:=os
 exact⟨v,H',I.call (h':=hh) (g':=g) (d':=d) (t':=t) (ch:=[]) un hok bare (fun b z=>absurd z (by simp)),r,q⟩
end
def MS(sp:Sp)(dvs:List V)(E:XK)(t:TA):TE:=fun σ H Q=>t σ H fun vs H1=>sp (vs++dvs) H1 Q E
def Binds(K:PySem.W.Frag)(fd:FuncData)(ps:List Str)(ds:List Value):Prop:=
 ∀(s:Shared)(us:List Value),K.In s.heap->(us++ds).length=ps.length->BindsTo s fd ⟨us,[]⟩ (ps.zip (us++ds))
theorem Binds.all{K:PySem.W.Frag}{fd:FuncData}{ps:List Str}(h:∀us:List Value,us.length=ps.length->bindArgs fd ⟨us,[]⟩=pure (ps.zip us)):Binds K fd ps []:=fun s us _ hl=>by
 rw[List.append_nil] at hl ⊢
 exact .of_eq (h us hl)
def Ob(CX:KG)(X:Cx)(E:XK):Prop:=∀(pins:List (Addr×Obj))(σ:St)(H:Hp)(s:Shared)(e:Value)(s':Shared),Inv X pins σ H s->CX X.stack H s E e s'->X.xe e s'
section
variable {X:Cx} {CX:KG} {k:Nat} {f C:Addr} {fd:FuncData} {ps:List Str} {sp:Sp} {dvs:List V} {ds:List Value} {E:XK} {x m:Str} {p pos apos:Pos} {e o:Expr} {es:List Expr} {ta:TE} {t:TA}
theorem Iy{pins:List (Addr×Obj)}{σ:St}{H:Hp}{s:Shared}{Q:VK}{us:List Value}{vs:List V}(F:TF X.prog X.w X.K X.mg X.base CX k f fd ps sp)(hr:Room k X.A)(hb:Binds X.K fd ps ds)(hd:Vals dvs ds)(hx:Ob CX X E)
  (I:Inv X pins σ H s) (r:Vals vs us) (h:sp (vs++dvs) H Q E):wpAny (model X.prog X.w) X.A (call (.ref f) us) (EP X pins σ Q) X.xe s:=by
 have r2:Vals (vs++dvs) (us++ds):=r.append hd
 have hl:(us++ds).length=ps.length:=by rw[<-r2.length];exact F.len _ _ _ _ h
 refine wpAny_call (codeAny_mono (F.run X.A X.stack s H ⟨us,[]⟩ (us++ds) (vs++dvs) Q E hr I.env0 (hb s us I.kIn hl) r2 h) fun r s' hq=>?_)
 cases r with
 | error e=>exact hx pins σ H s e s' I hq
 | ok fl=>
  cases fl with
  | ret u=>exact I.after hq
  | next=>exact False.elim hq
  | brk=>exact False.elim hq
  | cont=>exact False.elim hq
theorem KI(F:TF X.prog X.w X.K X.mg X.base CX k f fd ps sp)(hr:Room k X.A)(hg:Gl X x)(hm:X.mg x=some (.ref f))(hk:PySem.W.keepIn X.K (.ref f)=true)(hb:Binds X.K fd ps ds)(hd:Vals dvs ds)(hx:Ob CX X E)
  (ha:PA X (e::es) t) (hdb:(x==("__debug__" : Str))=false:=by decide) (he:starEach (e::es) X.env=(false,eval e X.env)::starEach es X.env:=by rfl) (hpl:(backTo pos (starEach es X.env)).any (·.1)=false:=by rfl) :
  PE X (.Call (.Name x p) (e::es) [] pos) (MS sp dvs E t):=by
 intro pins s σ H Q I h
 refine wpAny_Call_Name_kw (Kt I hg hm ?_ hdb)
 refine PySem.W.callWith_K (h₀:=X.base) I.ok.mod.kin hk (YS (ha pos pins s σ H _ I h) fun us s1 ⟨vs,H1,I1,r,q⟩=>⟨I1.kIn,?_⟩) he hpl
 exact Iy F hr hb hd hx I1 r q
end
structure Zw(N P:List Str)(sc:Scope):Prop where
 kind:sc.kind = .function
 co:sc.isCoroutine=false
 gen:sc.isGenerator=false
 nd:N.Nodup
 pre:N.take P.length=P
 par:∀x∈P,sc.names.lookup x=some .local\/sc.names.lookup x=some .cell
 nofree:∀y∈sc.names,y.2≠.free
theorem RD{kindOf:Str->Option NameKind}{x:Str}:∀{binds:List (Str×Value)}{m:Str->Option Value},(∀v,(x,v)∉binds)->bindL kindOf binds m x=m x
 | [],_,_=>rfl
 | (n,v)::r,m,h=>by
  unfold bindL;rw[RD fun w hw=>h w (List.mem_cons_of_mem _ hw)]
  split
  ·have:x≠n:=by rintro rfl;exact h v List.mem_cons_self
   simp[this]
  ·rfl
theorem RE{kindOf:Str->Option NameKind}{x:Str}:∀{binds:List (Str×Value)}{m:Str->Option Value},(∀v,(x,v)∉binds)->bindC kindOf binds m x=m x
 | [],_,_=>rfl
 | (n,v)::r,m,h=>by
  unfold bindC;rw[RE fun w hw=>h w (List.mem_cons_of_mem _ hw)]
  split
  ·rfl
  ·have:x≠n:=by rintro rfl;exact h v List.mem_cons_self
   simp[this]
theorem RF{kindOf:Str->Option NameKind}{x:Str}{v:Value}:∀{P:List Str}{vs:List Value}{i:Nat}{m:Str->Option Value},P.Nodup->P[i]?=some x->vs[i]?=some v->kindOf x=some .local->
  bindL kindOf (P.zip vs) m x=some v
 | [],_,_,_,_,h,_,_=>by simp at h
 | _::_,[],_,_,_,_,h,_=>by simp at h
 | p::P,w::vs,0,m,nd,h1,h2,hk=>by
  simp at h1 h2;subst h1;subst h2
  show bindL kindOf ((p,w)::P.zip vs) m p=_
  unfold bindL;rw[RD fun v hv=>(List.nodup_cons.mp nd).1 (List.of_mem_zip hv).1,if_pos hk]
  simp
 | p::P,w::vs,i+1,m,nd,h1,h2,hk=>by
  show bindL kindOf ((p,w)::P.zip vs) m x=_
  unfold bindL
  exact RF (i:=i) (List.nodup_cons.mp nd).2 (by simpa using h1) (by simpa using h2) hk
theorem RG{kindOf:Str->Option NameKind}{x:Str}{v:Value}:∀{P:List Str}{vs:List Value}{i:Nat}{m:Str->Option Value},P.Nodup->P[i]?=some x->vs[i]?=some v->kindOf x≠some .local->
  bindC kindOf (P.zip vs) m x=some v
 | [],_,_,_,_,h,_,_=>by simp at h
 | _::_,[],_,_,_,_,h,_=>by simp at h
 | p::P,w::vs,0,m,nd,h1,h2,hk=>by
  simp at h1 h2;subst h1;subst h2
  show bindC kindOf ((p,w)::P.zip vs) m p=_
  unfold bindC;rw[RE fun v hv=>(List.nodup_cons.mp nd).1 (List.of_mem_zip hv).1,if_neg hk]
  simp
 | p::P,w::vs,i+1,m,nd,h1,h2,hk=>by
  show bindC kindOf ((p,w)::P.zip vs) m x=_
  unfold bindC
  exact RG (i:=i) (List.nodup_cons.mp nd).2 (by simpa using h1) (by simpa using h2) hk
def start(N:List Str)(vs:List V):St:=vs.map some++List.replicate (N.length-vs.length) none
def Ru(CX:KG)(P:Program)(w:World)(K:PySem.W.Frag)(mg:Str->Option Value)(base:Heap)(N:List Str)(qual:Str)(scope:Scope)(f:Addr)(cd:Value)(A:Around)(outer:List Env)(s:Shared)(H:Hp)(E:XK):Cx where
 prog:=P
 w:=w
 K:=K
 mg:=mg
 base:=base
 A:=A.deeper (envOfC qual scope s.heap.objs.size f cd)
 N:=N
 s₀:=s
 H₀:=H
 env:=envOfC qual scope s.heap.objs.size f cd
 outer:=outer
 stack:=envOfC qual scope s.heap.objs.size f cd::outer
 ex:=[]
 calm:=true
 fn:=fun _=>true
 pn:=[]
 xe:=fun e s'=>wpAny (model P w) (A.deeper (envOfC qual scope s.heap.objs.size f cd)) (leaving (envOfC qual scope s.heap.objs.size f cd) e) (fun _ s''=>CX outer H s E e s'') (fun e' s''=>CX outer H s E e' s'') s'
theorem Pb{sc:Scope}{n:Nat}{x:Str}(h:sc.names.lookup x=some .cell):∃c,(cellsFrom n sc.names []).lookup x=some c:=by
 have q:=PySem.W.cellsFrom_some sc.names n [] (.inl h)
 exact Option.isSome_iff_exists.mp q
theorem Ma{CX:KG}{P:Program}{w:World}{K:PySem.W.Frag}{mg:Str->Option Value}{base:Heap}{N ps:List Str}{qual:Str}{scope:Scope}{f:Addr}{cd:Value}{A:Around}{outer:List Env}{s s1:Shared}{H:Hp}{E:XK}{us:List Value}{vs:List V}
  (S:Zw N ps scope) (hd:A.handled=none) (e0:KH P w K mg base A outer s H) (hl:vs.length=ps.length) (r:Vals vs us)
  (x:InCallC s s.heap.objs.size (bindL (envOfC qual scope s.heap.objs.size f cd).kindOf (ps.zip us) fun _=>none) (cellsFrom (s.heap.objs.size+1) scope.names []) (bindC (envOfC qual scope s.heap.objs.size f cd).kindOf (ps.zip us) fun _=>none) s1) :
  Inv (Ru CX P w K mg base N qual scope f cd A outer s H E) [] (start N vs) H s1:=by
 have hpl:ps.length<=N.length:=by have:=congrArg List.length S.pre;rw[List.length_take] at this;omega
 obtain⟨h1,tk,rfl,hk⟩:=x.done
 have noA:∀b:Addr,b∉(Ru CX P w K mg base N qual scope f cd A outer s H E).ex:=fun b z=>absurd (show b∈([]:List Addr) from z) (by simp)
 refine⟨⟨e0.mod,S.kind,rfl,rfl,Nat.le_refl _,fun y z c h1 h2=>?_,fun y hy=>?_,fun y c _ h=>?_,fun _=>hd,Around.frames_deeper e0.frames,.inr ⟨rfl,rfl⟩,fun b z=>absurd z (noA b),e0.bs,e0.bsz,fun b _ _=>noA b,fun b z=>absurd z (noA b),e0.funs,e0.frf⟩,
  rfl,e0.bare,Un.kept hk,⟨_,x.toInCall.ns,fun i y v h1 h2 h3=>?_⟩,fun y c h=>⟨_,x.cell y c h⟩,e0.hok.fresh (Nat.le_refl _),fun y c h=>?_,fun p hp=>absurd (show p∈([]:List (Addr×Obj)) from hp) (by simp),e0.hok.kept hk,?_⟩
 ·exact name_of_addr x.apart (PySem.mem_of_lookup h1) (PySem.mem_of_lookup h2)
 ·have hy:scope.names.lookup y=some .cell\/scope.names.lookup y=some .free:=hy
  rcases hy with hy | hy
  ·exact Pb hy
  ·exact absurd rfl (S.nofree _ (PySem.mem_of_lookup hy))
 ·exact Nat.le_of_lt (x.above y c (PySem.mem_of_lookup h))
 ·have hi:i<vs.length:=by
   unfold start at h2
   by_cases hi:i<vs.length
   ·exact hi
   ·rw[List.getElem?_append_right (by simpa using hi)] at h2
    rw[List.getElem?_replicate] at h2
    split at h2<;>cases h2
  have ha:vs[i]?=some v:=by
   unfold start at h2;rw[List.getElem?_append_left (by simpa using hi),List.getElem?_map] at h2
   cases e:vs[i]? with
   | none=>rw[e] at h2;cases h2
   | some a=>rw[e] at h2;cases h2;rfl
  obtain⟨u,hu,rv⟩:=r.get ha
  have hp:ps[i]?=some y:=by
   rw[<-S.pre,List.getElem?_take_of_lt (by omega)];exact h1
  have ndP:ps.Nodup:=by rw[<-S.pre];exact S.nd.sublist (List.take_sublist _ _)
  refine⟨u,rv,?_⟩
  rcases S.par y (List.mem_of_getElem? hp) with k | k
  ·exact .inl ⟨k,RF ndP hp hu k⟩
  ·obtain⟨c,e⟩:=Pb (n:=s.heap.objs.size+1) k
   refine .inr ⟨.inl k,c,e,?_⟩
   have q:=x.cell y c e
   rw[RG ndP hp hu (by show scope.names.lookup y≠_;rw[k];decide)] at q
   exact q
 ·exact e0.hok.fresh (Nat.le_of_lt (x.above y c (PySem.mem_of_lookup h)))
 ·unfold start
  show _=N.length
  rw[List.length_append,List.length_map,List.length_replicate];omega
theorem HW{CX:KG}{P:Program}{w:World}{K:PySem.W.Frag}{mg:Str->Option Value}{base:Heap}{k:Nat}{f:Addr}{name qual:Str}{params:Arguments}{body:List Stmt}{scope:Scope}{dV kV doc pm cdv ct oc:Value}{an od:Option Addr}
  {osl:Array (Option Value)} {N ps:List Str} {sp:Sp} (lk:K.lookup f=some ⟨oc,od,.func (PySem.W.fnOf name qual params body scope dV kV doc pm an cdv ct),osl⟩) (hcd:PySem.W.codeIn K cdv qual=true) (S:Zw N ps scope)
  (len:∀vs H Q E,sp vs H Q E->vs.length=ps.length)
  (hbody:∀(A:Around)(outer:List Env)(s:Shared)(H:Hp)(vs:List V)(Q:VK)(E:XK),Room k (A.deeper (envOfC qual scope s.heap.objs.size f cdv))->sp vs H Q E->
   ∃t,PSs (Ru CX P w K mg base N qual scope f cdv A outer s H E) body t/\t { nx:=fun _ H'=>Q .non H',rt:=Q } (start N vs) H) :
  TF P w K mg base CX (k+1) f (PySem.W.fnOf name qual params body scope dV kV doc pm an cdv ct) ps sp:=by
 refine⟨len,fun A outer s H args us vs Q E hr e0 hb r hsp=>?_⟩
 have hl:=len _ _ _ _ hsp
 have KX:K.In s.heap:=e0.mod.kin.keeps fun b o e=>(e0.bs b o e).1
 have lim:s.heap.NoLimit:=e0.mod.nolimit.keeps fun b o e=>(e0.bs b o e).1
 have hkind:∀y∈ps.zip us,scope.names.lookup y.1=some .local\/(scope.names.lookup y.1=some .cell/\((cellsFrom (s.heap.objs.size+1) scope.names []).lookup y.1).isSome=true):=fun⟨n,v⟩ hy=>by
  rcases S.par n (List.of_mem_zip hy).1 with q | q
  ·exact .inl q
  ·exact .inr ⟨q,PySem.W.cellsFrom_some _ _ _ (.inl q)⟩
 refine codeAny_call_function hr.depth (KX _ _ lk) rfl S.co S.gen rfl (PySem.W.codeRec_of KX hcd) (hb _ _ _ _ ?_)
 refine wpAny_newFunctionEnv_cells S.kind hkind fun env he s1 x=>?_
 subst he
 refine⟨lim.keeps x.toInCall.keep,codeAny_func ?_⟩
 obtain⟨t,ht,hq⟩:=hbody A outer s H vs Q E (hr.deeper _) hsp
 have I:Inv (Ru CX P w K mg base N qual scope f cdv A outer s H E) [] (start N vs) H s1:=Ma S hr.hd e0 hl r x
 refine wpAny_mono (ht [] s1 (start N vs) H _ I hq) (fun fl s' hs=>?_) fun e s' hs=>hs
 have fin:∀{σ':St}{H':Hp}{v:V}{u:Value},Inv (Ru CX P w K mg base N qual scope f cdv A outer s H E) [] σ' H' s'->RelV v u->Q v H'->CE outer P w H s Q u s':=
  fun{σ' H' v u} J rv q=>⟨v,H',J.os,J.bare,J.base,J.hok,rv,q⟩
 cases fl with
 | ret u=>
  obtain⟨v,σ',H',J,rv,q⟩:=hs
  exact fin J rv q
 | next=>
  obtain⟨σ',H',J,q⟩:=hs
  exact fin (v:=V.non) (u:=Value.none) J rfl q
 | brk=>
  obtain⟨_,_,_,q⟩:=hs
  exact False.elim q
 | cont=>
  obtain⟨_,_,_,q⟩:=hs
  exact False.elim q
section
variable {X:Cx} {x:Str} {p pos:Pos} {e:Expr} {es:List Expr} {t:TA} {id T:String} {r:List V->Hp->VK->Prop}
def Gz(r:List V->Hp->VK->Prop)(t:TA):TE:=fun σ H Q=>t σ H fun vs H1=>r vs H1 Q
theorem Pc(hc:XZ X (.builtin id) r)(hg:Gl X x)(hm:X.mg x=none)(hv:bootBuiltins x=some (.builtin id))(ha:PA X (e::es) t)(hn:x≠"__name__":=by decide)(hdb:(x==("__debug__" : Str))=false:=by decide)
  (he:starEach (e::es) X.env=(false,eval e X.env)::starEach es X.env:=by rfl) (hpl:(backTo pos (starEach es X.env)).any (·.1)=false:=by rfl):PE X (.Call (.Name x p) (e::es) [] pos) (Gz r t):=by
 intro pins s σ H Q I h
 refine wpAny_Call_Name_kw (Ww I hg hm hv ?_ hn hdb)
 exact PyProof.Rows.callWith_builtin1 (YS (ha pos pins s σ H _ I h) fun us s1 ⟨vs,H1,I1,r1,q1⟩=>hc pins s1 σ H1 vs us Q I1 r1 q1) he hpl
theorem RH(hc:XZ X (.type T) r)(hg:Gl X x)(hm:X.mg x=none)(hv:bootBuiltins x=some (.type T))(ha:PA X (e::es) t)(hn:x≠"__name__":=by decide)(hdb:(x==("__debug__" : Str))=false:=by decide)
  (he:starEach (e::es) X.env=(false,eval e X.env)::starEach es X.env:=by rfl) (hpl:(backTo pos (starEach es X.env)).any (·.1)=false:=by rfl):PE X (.Call (.Name x p) (e::es) [] pos) (Gz r t):=by
 intro pins s σ H Q I h
 refine wpAny_Call_Name_kw (Ww I hg hm hv ?_ hn hdb)
 exact PyProof.Rows.callWith_type1 (YS (ha pos pins s σ H _ I h) fun us s1 ⟨vs,H1,I1,r1,q1⟩=>hc pins s1 σ H1 vs us Q I1 r1 q1) he hpl
end
end L2
namespace HT
open PySem PyProof.Rows
section
variable {prog:Program} {w:World} {A:Around} {E:Value->Shared->Prop} {s:Shared}
theorem cat_tup{t b:Addr}{vs ws:List Value}{Q:Value->Shared->Prop}(ht:IsTup s.heap t vs.toArray)(hb:IsTup s.heap b ws.toArray)(hv:vs≠[])
  (h1:ws=[]->Q (.ref t) s) (h2:ws≠[]->Q (.ref s.heap.objs.size) { s with heap:=s.heap.push { cls:=.type "tuple",data:=.seq (vs++ws).toArray } })
  (hsz:vs.length+ws.length<=sizeLine):wpAny (model prog w) A (binaryOp .Add (.ref t) (.ref b)) Q E s:=by
 obtain⟨⟨cls,dd,data,sl⟩,ho,hc,n,hd⟩:=id ht
 obtain⟨⟨cls2,dd2,data2,sl2⟩,ho2,hc2,n2,hd2⟩:=id hb
 simp only at hc hd hc2 hd2
 subst hc hd hc2 hd2
 have e:vs.toArray++ws.toArray=(vs++ws).toArray:=by simp
 by_cases hw:ws=[]
 ·exact concat_meets ⟨_,ho,rfl⟩ ⟨_,ho2,rfl⟩ noFill_tuple_add seq_tuple_add PySem.F.slot_tuple_add PySem.F.entry_tuple_add (PySem.F.args_tuple_add_2 _ _)
   (tuple_addW1 t b vs.toArray ws.toArray n n2 dd dd2 sl sl2 (by simpa using hv) (by simp[hw])) ⟨ho,ho2,h1 hw⟩
 ·refine concat_meets ⟨_,ho,rfl⟩ ⟨_,ho2,rfl⟩ noFill_tuple_add seq_tuple_add PySem.F.slot_tuple_add PySem.F.entry_tuple_add (PySem.F.args_tuple_add_2 _ _)
   (tuple_addW2 t b vs.toArray ws.toArray n n2 dd dd2 sl sl2 (by simpa using hv) (by simpa using hw) (by rw[List.size_toArray,List.size_toArray];exact hsz)) ⟨ho,ho2,?_⟩
  rw[e]
  exact h2 hw
def sIx(n d:Nat):Option Int->Nat
 | none=>d
 | some v=>if v<0 then(v+(n:Int)).toNat else min v.toNat n
theorem sIx_none(n d:Nat):sIx n d none=d:=rfl
theorem sIx_nat(n d k:Nat):sIx n d (some (k:Int))=min k n:=by
 show(if(k:Int)<0 then((k:Int)+(n:Int)).toNat else min (k:Int).toNat n)=min k n
 rw[if_neg (by omega),Int.toNat_natCast]
theorem Iz(n d:Nat)(hd:d<=n)(o:Option Int):sIx n d o<=n:=by
 cases o with
 | none=>exact hd
 | some v=>
  show(if v<0 then(v+(n:Int)).toNat else min v.toNat n)<=n
  by_cases hv:v<0
  ·rw[if_pos hv];omega
  ·rw[if_neg hv];exact Nat.min_le_right _ _
theorem Nh(v:Int)(n d:Nat):(if v<0 then max (v+(n:Int)) 0 else min v (n:Int))=((sIx n d (some v):Nat):Int):=by
 show(if v<0 then max (v+(n:Int)) 0 else min v (n:Int))=(((if v<0 then(v+(n:Int)).toNat else min v.toNat n):Nat):Int)
 by_cases hv:v<0
 ·simp only[if_pos hv];omega
 ·simp only[if_neg hv];omega
theorem Oc(lo hi:Option Int)(n:Nat):Builtin.Slice.sliceAdjust lo hi 1 (n:Int)=(((sIx n 0 lo:Nat):Int),((sIx n n hi:Nat):Int)):=by
 have h1:¬((1:Int)<0):=by omega
 unfold Builtin.Slice.sliceAdjust;simp only[h1,if_false]
 refine Prod.ext ?_ ?_
 ·cases lo with
  | none=>rfl
  | some v=>exact Nh v n 0
 ·cases hi with
  | none=>rfl
  | some v=>exact Nh v n n
theorem Od(i j:Nat):Builtin.Slice.slicePlaces (i:Int) (j:Int) 1=j-i:=by
 unfold Builtin.Slice.slicePlaces
 have h1:(1:Int)>0:=by omega
 simp only[h1,if_true,Int.ediv_one]
 split<;>omega
theorem So{v:Value}{o:Option Int}{Q:Option Int->Shared->Prop}(p:IsPart v o)(h:Q o s):wpAny (model prog w) A (Builtin.Slice.slicePartIndex v) Q E s:=by
 cases p with
 | none=>exact slicePart_none h
 | int i t=>exact slicePart_int h
theorem US{sl:Addr}{vl vu:Value}{lo hi:Option Int}{n:Nat}{Q:Int×Int×Nat->Shared->Prop}(hs:s.heap.IsSliceOf sl vl vu .none)(pl:IsPart vl lo)(pu:IsPart vu hi)
  (h:Q (((sIx n 0 lo:Nat):Int),1,sIx n n hi-sIx n 0 lo) s):wpAny (model prog w) A (Builtin.Slice.sliceApplied (.ref sl) (pure (n:Int))) Q E s:=by
 obtain⟨os,hos,hcs,hds⟩:=id hs
 unfold Builtin.Slice.sliceApplied Builtin.Slice.sliceFields
 refine wpAny_bind (wpAny_bind (wpAny_field hos hds (x:=vl) rfl (wpAny_bind (wpAny_field hos hds (x:=vu) rfl (wpAny_bind (wpAny_field hos hds (x:=.none) rfl (wpAny_pure ?_)))))))
 refine wpAny_bind (slicePart_none ?_)
 show wpAny _ _ (if((1:Int)==0)=true then _ else _) _ _ s
 rw[if_neg (by decide)]
 refine wpAny_bind (So pl (wpAny_bind (So pu (wpAny_bind (wpAny_pure ?_)))))
 show wpAny _ _ (match Builtin.Slice.sliceAdjust lo hi 1 (n:Int) with | (lo,hi)=>pure (lo,(1:Int),Builtin.Slice.slicePlaces lo hi 1)) _ _ s
 rw[Oc lo hi n]
 show wpAny _ _ (pure (((sIx n 0 lo:Nat):Int),(1:Int),Builtin.Slice.slicePlaces ((sIx n 0 lo:Nat):Int) ((sIx n n hi:Nat):Int) 1)) _ _ s
 rw[Od]
 exact wpAny_pure h
theorem MT(xs:Array Value)(i k:Nat):((List.range k).filterMap fun(m:Nat)=>xs[((i:Int)+(m:Int)*1).toNat]?).toArray=((xs.toList.drop i).take k).toArray:=by
 have e:(fun(m:Nat)=>xs[((i:Int)+(m:Int)*1).toNat]?)=fun m=>xs[i+m]?:=by
  funext m
  have:((i:Int)+(m:Int)*1).toNat=i+m:=by omega
  rw[this]
 rw[e]
 have:=pick_run xs i k
 rw[List.filterMap_map] at this
 have e2:((fun x=>xs[x]?) ∘ fun x=>i+x)=fun m=>xs[i+m]?:=rfl
 rw[e2] at this;rw[this]
theorem getItem_tuple_cut{t sl:Addr}{items:Array Value}{vl vu:Value}{lo hi:Option Int}{Q:Value->Shared->Prop}(ht:IsTup s.heap t items)(hs:s.heap.IsSliceOf sl vl vu .none)(pl:IsPart vl lo)(pu:IsPart vu hi)
  (hw:¬(sIx items.size 0 lo=0/\sIx items.size items.size hi=items.size))
  (h:Q (.ref s.heap.objs.size) { s with heap:=s.heap.push { cls:=.type "tuple",data:=.seq ((items.toList.drop (sIx items.size 0 lo)).take (sIx items.size items.size hi-sIx items.size 0 lo)).toArray } })
  (hsz:items.size<=sizeLine):wpAny (model prog w) A (getItem (.ref t) (.ref sl)) Q E s:=by
 have htake:sizeOk (.seq ((items.toList.drop (sIx items.size 0 lo)).take (sIx items.size items.size hi-sIx items.size 0 lo)).toArray):=by
  show((items.toList.drop (sIx items.size 0 lo)).take (sIx items.size items.size hi-sIx items.size 0 lo)).toArray.size<=sizeLine
  rw[List.size_toArray,List.length_take,List.length_drop,Array.length_toList];omega
 have hj:sIx items.size items.size hi<=items.size:=Iz _ _ (Nat.le_refl _) hi
 obtain⟨os,hos,hcs,hds⟩:=id hs
 have hTs:s.TypeIs (.ref sl) "slice":=⟨os,hos,hcs⟩
 unfold getItem
 try with_reducible refine wpAny_holding ?_
 first | refine wpAny_bind (wpAny_pure ?_) | skip
 refine wpAny_bind (wpAny_sequenceKey ht.typeIs (by decide) ?_)
 refine wpAny_bind (wpAny_callSpecial?_slot (name:=Str.ofString "__getitem__") ht.typeIs PyProof.Rows.slot_tuple_getitem
  (wpAny_call_entry PyProof.Rows.slot_tuple_getitem ht.typeIs entry_tuple_getitem ?_ (args_tuple_getitem _ _)))
 show wpAny _ _ (Builtin.Tuple.tupleItemsOf (.ref t) >>= _) _ _ s
 refine wpAny_bind (tupleItemsOf_ ht ?_)
 refine wpAny_bind (wpAny_typeOf hTs ?_)
 rw[if_pos (by decide)]
 refine wpAny_bind (US hs pl pu ?_)
 have hno:¬((((sIx items.size 0 lo:Nat):Int)==0&&(1:Int)==1&&(sIx items.size items.size hi-sIx items.size 0 lo)==items.size)=true):=by
  intro q;rw[Bool.and_eq_true,Bool.and_eq_true] at q
  have q1:((sIx items.size 0 lo:Nat):Int)=0:=eq_of_beq q.1.1
  have q2:sIx items.size items.size hi-sIx items.size 0 lo=items.size:=eq_of_beq q.2
  exact hw ⟨by omega,by omega⟩
 show wpAny _ _ (if(((sIx items.size 0 lo:Nat):Int)==0&&(1:Int)==1&&(sIx items.size items.size hi-sIx items.size 0 lo)==items.size)=true then _ else _) _ _ s
 rw[if_neg hno,MT]
 first
  | exact wpAny_bind (m:=Builtin.Tuple.tupleExact _) (wpAny_newObj_type (wpAny_pure ⟨_,rfl,wpAny_pure h⟩) htake)
  | exact wpAny_bind (m:=Builtin.Tuple.tupleExact _) (wpAny_newObj_type (wpAny_bind (wpAny_pure (wpAny_pure ⟨_,rfl,wpAny_pure h⟩))) htake)
  | exact wpAny_bind (wpAny_bind (m:=Builtin.Tuple.tupleExact _) (wpAny_newObj_type (wpAny_pure (wpAny_pure ⟨_,rfl,wpAny_pure h⟩)) htake))
  | exact wpAny_bind (wpAny_bind (m:=Builtin.Tuple.tupleExact _) (wpAny_newObj_type (wpAny_pure ⟨_,rfl,wpAny_pure h⟩) htake))
end
end HT
namespace L2
open PySem PySem.Spec PyProof.Rows
abbrev TO:=St->Hp->(Option Int->Hp->Prop)->Prop
def PO(X:Cx)(e:Option Expr)(t:TO):Prop:=
 ∀(pins:List (Addr×Obj))(s:Shared)(σ:St)(H:Hp)(Q:Option Int->Hp->Prop),Inv X pins σ H s->t σ H Q->
  wpAny (model X.prog X.w) X.A (evalPart e X.env) (fun u s'=>∃o H',Inv X pins σ H' s'/\IsPart u o/\Q o H') X.xe s
def KJ:TO:=fun _ H Q=>Q none H
def HX(t:TE):TO:=fun σ H Q=>t σ H fun x H1=>∃i,x = .int i/\Q (some i) H1
theorem Oe{ns:List Int}:∀{us:List Value},Vals (ns.map V.int) us->IntsAre us ns:=by
 induction ns with
 | nil=>intro us r;rw[List.map_nil] at r;cases r;exact .nil
 | cons n ns ih=>
  intro us r;rw[List.map_cons] at r
  cases r with
  | cons r1 r2=>
   obtain⟨t,e⟩:=r1
   subst e
   exact .cons n t (ih r2)
section
variable {X:Cx} {e:Expr} {te:TE} {lo hi:Option Expr} {tl th:TO} {pos p2:Pos}
theorem KM:PO X none KJ:=by
 intro pins s σ H Q I h;rw[evalPart_none]
 exact wpAny_pure ⟨none,H,I,.none,h⟩
theorem KN(h:PE X e te):PO X (some e) (HX te):=by
 intro pins s σ H Q I hw;rw[evalPart_some]
 refine YS (h pins s σ H _ I hw) fun u s1 ⟨x,H1,I1,r1,q1⟩=>?_
 obtain⟨i,rfl,q⟩:=q1
 obtain⟨t,rfl⟩:=r1
 exact⟨some i,H1,I1,.int i t,q⟩
def G1(X:Cx)(r:V->Option Int->Option Int->Hp->VK->Prop):Prop:=
 ∀(pins:List (Addr×Obj))(s:Shared)(σ:St)(H:Hp)(x:V)(v vl vu:Value)(lo hi:Option Int)(sl:Addr)(Q:VK),Inv X pins σ H s->RelV x v->s.heap.IsSliceOf sl vl vu .none->IsPart vl lo->IsPart vu hi->r x lo hi H Q->
  ∃T id,typeLookup (.type T) "__getitem__" = pure (some (.builtin id))/\s.TypeIs v T/\wpAny (model X.prog X.w) X.A (getItem v (.ref sl)) (EP X pins σ Q) X.xe s
def Fs(r:V->Option Int->Option Int->Hp->VK->Prop)(te:TE)(tl th:TO):TE:=fun σ H Q=>te σ H fun x H1=>tl σ H1 fun l H2=>th σ H2 fun u H3=>r x l u H3 Q
theorem Pd{r:V->Option Int->Option Int->Hp->VK->Prop}(hr:G1 X r)(he:PE X e te)(hl:PO X lo tl)(hu:PO X hi th):PE X (.Subscript e (.Slice lo hi none p2) pos) (Fs r te tl th):=by
 intro pins s σ H Q I h
 refine Subscript_ (YS (he pins s σ H _ I h) fun v s1 ⟨x,H1,I1,r1,q1⟩=>?_)
 refine wpAny_Slice (YS (hl pins s1 σ H1 _ I1 q1) fun vl s2 ⟨l,H2,I2,pl,q2⟩=>YS (hu pins s2 σ H2 _ I2 q2) fun vu s3 ⟨u,H3,I3,pu,q3⟩=>?_)
 rw[evalPart_none]
 refine wpAny_pure ?_
 have I4:Inv X pins σ H3 { s3 with heap:=s3.heap.push { cls:=.type "slice",data:=.fields #[vl,vu,.none] } }:=I3.kept (t':=s3.toks) fun b ob q=>Heap.get?_push_of_some _ q
 obtain⟨T,id,hT,ht,hg⟩:=hr pins { s3 with heap:=s3.heap.push { cls:=.type "slice",data:=.fields #[vl,vu,.none] } } σ H3 x v vl vu l u s3.heap.objs.size Q I4 r1 (Heap.IsSliceOf.new ..) pl pu q3
 show wpAny (model X.prog X.w) X.A (subscriptTail e (.Slice lo hi none p2) v (.ref s3.heap.objs.size)) (EP X pins σ Q) X.xe { s3 with heap:=s3.heap.push { cls:=.type "slice",data:=.fields #[vl,vu,.none] } }
 exact tail_any (ops:=[.ref s3.heap.objs.size,v]) ht hT hg (by with_unfolding_all rfl)
def Pe(xs:List V)(lo hi:Option Int):List V:=(xs.drop (HT.sIx xs.length 0 lo)).take (HT.sIx xs.length xs.length hi-HT.sIx xs.length 0 lo)
theorem TB(xs:List V)(lo hi:Option Int):(Pe xs lo hi).length<=xs.length:=by
 unfold Pe;rw[List.length_take,List.length_drop];omega
def G3(K:PySem.W.Frag):V->Option Int->Option Int->Hp->VK->Prop:=fun x lo hi H Q=>∃a xs,x = .ref a/\SqT K H a xs/\
 ¬(HT.sIx xs.length 0 lo=0/\HT.sIx xs.length xs.length hi=xs.length)/\∀p,H p=none->Q (.ref p) (upd H p (.tup (Pe xs lo hi)))
theorem IA:G1 X (G3 X.K):=by
 intro pins s σ H x v vl vu lo hi sl Q I rx hs pl pu h
 obtain⟨a,xs,rfl,hx,hw,q⟩:=h
 cases rx
 obtain⟨its,r,ht,hz⟩:=I.tuple hx
 have hlen:its.toArray.size=xs.length:=by rw[List.size_toArray];exact r.length.symm
 refine⟨"tuple",_,PyProof.Rows.slot_tuple_getitem.lookup,ht.typeIs,?_⟩
 refine HT.getItem_tuple_cut ht hs pl pu (by rw[hlen];exact hw) ?_ (by rw[hlen];exact hz)
 rw[hlen]
 refine⟨.ref s.heap.objs.size,_,I.laid (t':=s.toks) (o:=.tup (Pe xs lo hi)) (fun b ob q=>Heap.get?_push_of_some _ q) (Nat.le_refl _) ?_,rfl,q _ (I.hok.fresh (Nat.le_refl _))⟩
 exact⟨Nat.le_trans (TB xs lo hi) hz,_,(r.drop (HT.sIx xs.length 0 lo)).take (HT.sIx xs.length xs.length hi-HT.sIx xs.length 0 lo),IsTup.new _ _⟩
def HY(K:PySem.W.Frag):R2:=fun x y H Q=>∃a b xs ys,x = .ref a/\y = .ref b/\SqT K H a xs/\SqT K H b ys/\xs≠[]/\xs.length+ys.length<=sizeLine/\
 (ys=[]->Q (.ref a) H)/\(ys≠[]->∀p,H p=none->Q (.ref p) (upd H p (.tup (xs++ys))))
theorem Vals.nil_iff{xs:List V}{us:List Value}(r:Vals xs us):us=[]↔xs=[]:=by
 cases r with
 | nil=>simp
 | cons _ _=>simp
theorem KO:VV X (binaryOp .Add) (HY X.K):=by
 intro pins s σ H x y v u Q I rx ry h
 obtain⟨a,b,xs,ys,rfl,rfl,ha,hb,hx,hz,q1,q2⟩:=h
 cases rx;cases ry
 obtain⟨its,r1,p1,_⟩:=I.tuple ha
 obtain⟨its2,r2,p2,_⟩:=I.tuple hb
 refine HT.cat_tup p1 p2 (fun z=>hx (r1.nil_iff.mp z)) (fun z=>⟨.ref a,H,I,rfl,q1 (r2.nil_iff.mp z)⟩) (fun z=>?_) (by rw[<-r1.length,<-r2.length];exact hz)
 refine⟨.ref s.heap.objs.size,_,I.laid (t':=s.toks) (o:=.tup (xs++ys)) (fun b ob q=>Heap.get?_push_of_some _ q) (Nat.le_refl _) ?_,rfl,q2 (fun w=>z (r2.nil_iff.mpr w)) _ (I.hok.fresh (Nat.le_refl _))⟩
 exact⟨by rw[List.length_append];exact hz,_,r1.append r2,IsTup.new _ _⟩
end
def Q3(n:Nat)(i:Int):Option Nat:=if 0<=i then(if i<n then some i.toNat else none) else if -(n:Int)<=i then some (i+n).toNat else none
def UN{α:Type}(xs:List α)(i:Int):Option α:=(Q3 xs.length i).bind fun j=>xs[j]?
theorem Ni{n:Nat}{i:Int}{j:Nat}(h:Q3 n i=some j):seqIndex? i n=some j/\j<n/\-(n:Int)<=i/\i<n:=by
 unfold Q3 at h
 by_cases h0:0<=i
 ·rw[if_pos h0] at h
  by_cases h1:i<n
  ·rw[if_pos h1] at h
   have e:i.toNat=j:=Option.some.inj h
   exact⟨by rw[seqIndex_of h0 h1,e],by omega,by omega,h1⟩
  ·rw[if_neg h1] at h;cases h
 ·rw[if_neg h0] at h
  by_cases h1 : -(n:Int)<=i
  ·rw[if_pos h1] at h
   have e:(i+n).toNat=j:=Option.some.inj h
   exact⟨by rw[seqIndex_neg (by omega) h1,e],by omega,h1,by omega⟩
  ·rw[if_neg h1] at h;cases h
theorem Qj{α:Type}{xs:List α}{i:Int}{v:α}(h:UN xs i=some v):∃j,seqIndex? i xs.length=some j/\xs[j]?=some v/\j<xs.length/\-(xs.length:Int)<=i/\i<xs.length:=by
 unfold UN at h
 cases e:Q3 xs.length i with
 | none=>rw[e] at h;cases h
 | some j=>
  rw[e] at h
  obtain⟨h1,h2,h3,h4⟩:=Ni e
  exact⟨j,h1,h,h2,h3,h4⟩
theorem Ua{α:Type}{xs:List α}{j:Nat}{v:α}(h:xs[j]?=some v):UN xs (j:Int)=some v:=by
 have hj:j<xs.length:=(List.getElem?_eq_some_iff.mp h).1
 have e:Q3 xs.length (j:Int)=some j:=by
  unfold Q3
  rw[if_pos (by omega),if_pos (by omega)];simp
 unfold UN;rw[e];exact h
def Qk(b:Expr):Prop:=∀o i,subscripted b false o i=operate [o,i] (getItem o i)
def IxR(X:Cx)(r:R2):Prop:=
 ∀(value slice:Expr)(pins:List (Addr×Obj))(s:Shared)(σ:St)(H:Hp)(x y:V)(v u:Value)(Q:VK),Inv X pins σ H s->RelV x v->RelV y u->r x y H Q->
  subscripted slice false v u=operate [v,u] (getItem v u)->wpAny (model X.prog X.w) X.A (subscriptTail value slice v u) (EP X pins σ Q) X.xe s
def Ft(X:Cx)(id:String)(r:V->List V->Hp->VK->Prop):Prop:=
 ∀(pins:List (Addr×Obj))(s:Shared)(σ:St)(H:Hp)(x:V)(xs:List V)(v:Value)(us:List Value)(Q:VK),Inv X pins σ H s->RelV x v->Vals xs us->r x xs H Q->
  wpAny (model X.prog X.w) X.A (call (.builtin id) (v::us)) (EP X pins σ Q) X.xe s
section
variable {X:Cx} {a b:Expr} {ta tb:TE} {pos:Pos}
theorem IxR.or{r r':R2}(h:IxR X r)(h':IxR X r'):IxR X (fun x y H Q=>r x y H Q\/r' x y H Q):=by
 intro value slice pins s σ H x y v u Q I rx ry q hs
 rcases q with q | q
 ·exact h value slice pins s σ H x y v u Q I rx ry q hs
 ·exact h' value slice pins s σ H x y v u Q I rx ry q hs
theorem MU{r:R2}(hr:IxR X r)(ha:PE X a ta)(hb:PE X b tb)(hs:Qk b):PE X (.Subscript a b pos) (Hr r ta tb):=by
 intro pins s σ H Q I h
 exact Subscript_ (Ip ha hb I h fun v u s2 x y H2 I2 rx ry q=>hr a b pins s2 σ H2 x y v u Q I2 rx ry q (hs _ _))
def IB(K:PySem.W.Frag):R2:=fun x y H Q=>∃p xs i v,x = .ref p/\y = .int i/\SqL K H p xs/\UN xs i=some v/\Q v H
def HZ(K:PySem.W.Frag):R2:=fun x y H Q=>∃p xs i v,x = .ref p/\y = .int i/\SqT K H p xs/\UN xs i=some v/\Q v H
def H9:R2:=fun x y H Q=>∃z i c,x = .str z/\y = .int i/\z.length<=sizeLine/\UN z.cps.toList i=some c/\Q (.str ⟨#[c]⟩) H
theorem ix_list:IxR X (IB X.K):=by
 intro value slice pins s σ H x y v u Q I rx ry h hs
 obtain⟨p,xs,i,z,rfl,rfl,hq,he,q⟩:=h
 cases rx
 obtain⟨t,rfl⟩:=ry
 obtain⟨its,r,pl,hz⟩:=I.list hq
 obtain⟨j,h1,h2,h3,h4,h5⟩:=Qj he
 obtain⟨w,ew,Z7⟩:=r.get h2
 have hl:=r.length;have hn:=UR
 have fin:EP X pins σ Q w s:=⟨z,H,I,Z7,q⟩
 by_cases h0:0<=i
 ·have hj:i.toNat=j:=by
   rw[seqIndex_of h0 h5] at h1
   exact Option.some.inj h1
  exact item_listR pl.isList h0 (by omega) (by rw[hj];simpa using ew) fin hs
 ·have hj:(i+(its.toArray.size:Int)).toNat=j:=by
   rw[seqIndex_neg (by omega) h4] at h1;rw[List.size_toArray,<-hl]
   exact Option.some.inj h1
  exact subscriptTail_builtinR (x:=w) pl.isList.typeIs slot_list_getitem.lookup
   (wpAny_getItem_list_neg (Q:=fun r s'=>r=w/\EP X pins σ Q r s') pl.isList (by omega) (by rw[List.size_toArray]<;>omega) (by omega) (by rw[hj];simpa using ew) ⟨rfl,fin⟩) hs
theorem ix_tup:IxR X (HZ X.K):=by
 intro value slice pins s σ H x y v u Q I rx ry h hs
 obtain⟨p,xs,i,z,rfl,rfl,hq,he,q⟩:=h
 cases rx
 obtain⟨t,rfl⟩:=ry
 obtain⟨its,r,pl,hz⟩:=I.tuple hq
 obtain⟨j,h1,h2,h3,h4,h5⟩:=Qj he
 obtain⟨w,ew,Z7⟩:=r.get h2
 have hl:=r.length;have hn:=UR
 have fin:EP X pins σ Q w s:=⟨z,H,I,Z7,q⟩
 exact subscriptTail_builtinR (x:=w) pl.typeIs slot_tuple_getitem.lookup
  (getItem_tuple (j:=j) (Q:=fun r s'=>r=w/\EP X pins σ Q r s') pl (by omega) (by omega) (by rw[List.size_toArray,<-hl];exact h1) (by simpa using ew) ⟨rfl,fin⟩) hs
theorem IC:IxR X H9:=by
 intro value slice pins s σ H x y v u Q I rx ry h hs
 obtain⟨z,i,c,rfl,rfl,hz,he,q⟩:=h
 obtain⟨t,rfl⟩:=rx
 obtain⟨t',rfl⟩:=ry
 obtain⟨j,h1,h2,h3,h4,h5⟩:=Qj he
 have hl:z.cps.toList.length=z.length:=by simp[Str.length]
 rw[hl] at h1 h4 h5
 have hn:=UR
 exact tail_any (typeIs_str s z t) slot_str_getitem.lookup (getItem_str (c:=c) (by
  have e1:decide (i < -(2^63:Int))=false:=decide_eq_false (by omega)
  have e2:decide (i ≥ 2^63)=false:=decide_eq_false (by omega)
  rw[e1,e2,Bool.or_false]) (by rw[h1];simpa using h2) ⟨.str ⟨#[c]⟩,H,I.tok _,⟨_,rfl⟩,q⟩) hs
def Fi(K:PySem.W.Frag):R2:=fun x y H Q=>IB K x y H Q\/HZ K x y H Q\/H9 x y H Q
theorem ID:IxR X (Fi X.K):=ix_list.or (ix_tup.or IC)
theorem Of(its:List Value)(n j:Nat)(u:Value):Obj.mapSeq (·.setIfInBounds j u) { cls:=.type "list",data:=.seq its.toArray n }={ cls:=.type "list",data:=.seq (its.set j u).toArray n }:=by
 simp[Obj.mapSeq]
theorem Inv.lst{pins:List (Addr×Obj)}{σ:St}{H:Hp}{s:Shared}{p:Addr}{xs:List V}(I:Inv X pins σ H s)(h:H p=some (.lst xs)) :
  ∃(its:List Value) (n:Nat),Vals xs its/\s.heap.get? p=some { cls:=.type "list",data:=.seq its.toArray n }/\xs.length<=sizeLine:=by
 obtain⟨z,its,n,r,e⟩:=I.hok p _ h
 exact⟨its,n,r,e,z⟩
theorem Inv.lstUpd{pins:List (Addr×Obj)}{σ:St}{H:Hp}{s:Shared}{p:Addr}{xs ys:List V}{its its':List Value}{n n':Nat}{f:Obj->Obj}(I:Inv X pins σ H s)(h:H p=some (.lst xs))
  (ho:s.heap.get? p=some { cls:=.type "list",data:=.seq its.toArray n }) (hf:f { cls:=.type "list",data:=.seq its.toArray n }={ cls:=.type "list",data:=.seq its'.toArray n' }) (r:Vals ys its') (hz:ys.length<=sizeLine) (t:Nat) :
  Inv X pins σ (upd H p (.lst ys)) { s with heap:=s.heap.update p f,toks:=t }:=by
 have e:(s.heap.update p f).get? p=some { cls:=.type "list",data:=.seq its'.toArray n' }:=by
  rw[Heap.get?_update_self f ho (by rw[hf]<;>rfl),hf]
 refine I.write (x:=p) (e:=p) (by rw[h];trivial) (.inl rfl) (fun b u hb q=>(Heap.get?_update_other _ _ (Ne.symm hb)).trans q) ⟨_,e⟩ ?_
 exact⟨hz,its',n',r,e⟩
def MV:V->V->V->Hp->(Hp->Prop)->Prop:=fun o i v H Q=>∃p xs k j,o = .ref p/\i = .int k/\H p=some (.lst xs)/\Q3 xs.length k=some j/\Q (upd H p (.lst (xs.set j v)))
theorem W8:HG X MV:=by
 intro pins s σ H o i v ov iv u Q I ro ri rv h
 obtain⟨p,xs,k,j,rfl,rfl,hp,hj,q⟩:=h
 cases ro
 obtain⟨t,rfl⟩:=ri
 obtain⟨its,n,r,ho,hz⟩:=I.lst hp
 obtain⟨h1,h2,h3,h4⟩:=Ni hj
 have hl:=r.length;have hn:=UR
 have I':Inv X pins σ (upd H p (.lst (xs.set j v))) { s with heap:=s.heap.update p (Obj.mapSeq (·.setIfInBounds j u)) }:=
  I.lstUpd hp ho (Of its n j u) (r.set rv j) (by rw[List.length_set];exact hz) s.toks
 by_cases h0:0<=k
 ·have hk:k.toNat=j:=by
   rw[seqIndex_of h0 h4] at h1
   exact Option.some.inj h1
  exact PySem.W.ki_setAt ho h0 (by omega) (by rw[List.size_toArray,<-hl];exact h4) (by rw[hk];exact⟨_,I',q⟩)
 ·have hk:(k+(its.toArray.size:Int)).toNat=j:=by
   rw[seqIndex_neg (by omega) h3] at h1;rw[List.size_toArray,<-hl]
   exact Option.some.inj h1
  exact PySem.W.ki_setBack ho (by omega) (by rw[List.size_toArray,<-hl];exact h3) (by omega) (by rw[hk];exact⟨_,I',q⟩)
theorem Ql(lo hi:Option Int)(n:Nat):(sliceBounds lo hi none n).1=((HT.sIx n 0 lo:Nat):Int)/\(sliceBounds lo hi none n).2.1=((HT.sIx n n hi:Nat):Int)/\(sliceBounds lo hi none n).2.2=1:=by
 refine⟨?_,?_,rfl⟩
 ·cases lo with
  | none=>simp[sliceBounds,HT.sIx]
  | some i=>
   simp only[sliceBounds,HT.sIx,Option.getD_none,show(1:Int)>0 by decide,if_true]
   by_cases h:i<0
   ·simp only[h,if_true]<;>omega
   ·simp only[h,if_false]<;>omega
 ·cases hi with
  | none=>simp[sliceBounds,HT.sIx]
  | some i=>
   simp only[sliceBounds,HT.sIx,Option.getD_none,show(1:Int)>0 by decide,if_true]
   by_cases h:i<0
   ·simp only[h,if_true]<;>omega
   ·simp only[h,if_false]<;>omega
theorem Rv(its:List Value)(lo hi:Option Int):slicePick its.toArray lo hi none=((its.drop (HT.sIx its.length 0 lo)).take (HT.sIx its.length its.length hi-HT.sIx its.length 0 lo)).toArray:=by
 obtain⟨h1,h2,h3⟩:=Ql lo hi its.toArray.size
 unfold slicePick;rw[h1,h2,h3]
 simp only[sliceRange_one,pick_run,List.size_toArray]<;>rfl
def G4(K:PySem.W.Frag):V->Option Int->Option Int->Hp->VK->Prop:=fun x lo hi H Q=>∃a xs,x = .ref a/\SqL K H a xs/\∀p,H p=none->Q (.ref p) (upd H p (.lst (Pe xs lo hi)))
theorem KP:G1 X (G4 X.K):=by
 intro pins s σ H x v vl vu lo hi sl Q I rx hs pl pu h
 obtain⟨a,xs,rfl,hx,q⟩:=h
 cases rx
 obtain⟨its,r,ht,hz⟩:=I.list hx
 have hlen:=r.length
 refine⟨"list",_,slot_list_getitem.lookup,ht.isList.typeIs,?_⟩
 refine wpAny_getItem_list_slice ht.isList hs pl pu .none (by simp) ?_ (by rw[List.size_toArray]<;>omega)
 rw[Rv,<-hlen]
 refine⟨.ref s.heap.objs.size,_,I.laid (t':=s.toks) (o:=.lst (Pe xs lo hi)) (fun b ob q=>Heap.get?_push_of_some _ q) (Nat.le_refl _) ?_,rfl,q _ (I.hok.fresh (Nat.le_refl _))⟩
 exact⟨Nat.le_trans (TB xs lo hi) hz,_,0,(r.drop (HT.sIx xs.length 0 lo)).take (HT.sIx xs.length xs.length hi-HT.sIx xs.length 0 lo),Heap.get?_push_size _ rfl⟩
theorem Wy:XZ X (.type "list") (fun xs H Q=>∃p ys,xs=[.ref p]/\(SqL X.K H p ys\/SqT X.K H p ys)/\∀l,H l=none->Q (.ref l) (upd H l (.lst ys))):=by
 intro pins s σ H xs us Q I r h
 obtain⟨p,ys,rfl,hq,q⟩:=h
 obtain⟨u,rfl,rx⟩:=Sm r
 cases rx
 have fin:∀(its:List Value),Vals ys its->ys.length<=sizeLine->∀(h':Heap)(c':Nat),(∀b o',s.heap.get? b=some o'->h'.get? b=some o')->
   h'.get? s.heap.objs.size=some { cls:=.type "list",dict:=none,data:=.seq its.toArray c',slots:=#[] }->EP X pins σ Q (.ref s.heap.objs.size) { s with heap:=h' }:=fun its r' hz h' c' kp e=>
  ⟨.ref s.heap.objs.size,_,I.laid (t':=s.toks) kp (Nat.le_refl _) (show ObjOk X.prog X.w _ h' _ (.lst ys) from⟨hz,its,c',r',e⟩),rfl,q _ (I.hok.fresh (Nat.le_refl _))⟩
 rcases hq with hq | hq
 ·obtain⟨its,r',pl,hz⟩:=I.list hq
  have hlen:=r'.length
  obtain⟨o,ho,hc,n,hd⟩:=pl.isList
  exact call_list_seq p (.inl rfl) ho hc hd (fun h' c' kp e=>fin its r' hz h' c' kp e) (by simp only[List.size_toArray]<;>omega)
 ·obtain⟨its,r',pl,hz⟩:=I.tuple hq
  have hlen:=r'.length
  obtain⟨o,ho,hc,n,hd⟩:=pl
  exact call_list_seq p (.inr rfl) ho hc hd (fun h' c' kp e=>fin its r' hz h' c' kp e) (by simp only[List.size_toArray]<;>omega)
theorem ZE:XZ X (.type "tuple") (fun xs H Q=>∃p ys,xs=[.ref p]/\((SqL X.K H p ys/\∀l,H l=none->Q (.ref l) (upd H l (.tup ys)))\/(SqT X.K H p ys/\Q (.ref p) H))):=by
 intro pins s σ H xs us Q I r h
 obtain⟨p,ys,rfl,h⟩:=h
 obtain⟨u,rfl,rx⟩:=Sm r
 cases rx
 rcases h with⟨hq,q⟩ | ⟨hq,q⟩
 ·obtain⟨its,r',pl,hz⟩:=I.list hq
  have hlen:=r'.length
  refine call_tuple_list pl.isList (fun h' kp=>?_) (by simp only[List.size_toArray]<;>omega)
  have I1:Inv X pins σ H { s with heap:=h' }:=I.kept (t':=s.toks) kp
  have I2:Inv X pins σ (upd H h'.objs.size (.tup ys)) { s with heap:=h'.push { cls:=.type "tuple",data:=.seq its.toArray } }:=
   I1.laid (t':=s.toks) (fun b o e=>Heap.get?_push_of_some _ e) (Nat.le_refl _) (show ObjOk X.prog X.w _ _ _ (.tup ys) from⟨hz,its,r',IsTup.new _ _⟩)
  exact⟨.ref h'.objs.size,_,I2,rfl,q _ (I1.hok.fresh (Nat.le_refl _))⟩
 ·obtain⟨its,r',pl,hz⟩:=I.tuple hq
  exact call_tuple_same pl ⟨.ref p,H,I,rfl,q⟩
def G5(K:PySem.W.Frag)(T:String)(x:V)(H:Hp):Prop:=match x with
 | .str _=>T = "str"
 | .int _=>T = "int"
 | .ref p=>(T = "list"/\∃xs,SqL K H p xs)\/(T = "tuple"/\∃o,K.lookup p=some o/\o.cls = .type "tuple"/\o.dict=none)\/
   (T = "dict"/\((∃kvs,H p=some (.dK kvs))\/∃kvs,H p=some (.dT kvs)))\/(T = "set"/\∃S n,H p=some (.set S n))
 | _=>False
theorem IE{pins:List (Addr×Obj)}{σ:St}{H:Hp}{s:Shared}{T:String}{x:V}{v:Value}(I:Inv X pins σ H s)(r:RelV x v)(ty:G5 X.K T x H) :
  s.TypeIs v T/\∀a,v = .ref a->∃ob,s.heap.get? a=some ob/\ob.dict=none:=by
 cases x with
 | str z=>
  obtain⟨t,rfl⟩:=r
  cases (show T = "str" from ty)
  exact⟨typeIs_str s z t,fun _ e=>nomatch e⟩
 | int i=>
  obtain⟨t,rfl⟩:=r
  cases (show T = "int" from ty)
  exact⟨typeIs_int s i t,fun _ e=>nomatch e⟩
 | ref p=>
  cases r
  rcases ty with⟨rfl,xs,hq⟩ | ⟨rfl,o,hk,hc,hd⟩ | ⟨rfl,hk⟩ | ⟨rfl,S,n,hk⟩
  ·obtain⟨its,_,pl,_⟩:=I.list hq
   refine⟨pl.isList.typeIs,fun a e=>?_⟩
   cases e
   obtain⟨o,n,e,c,hd,_⟩:=pl
   exact⟨o,e,hd⟩
  ·refine⟨⟨o,I.kIn p o hk,hc⟩,fun a e=>?_⟩
   cases e
   exact⟨o,I.kIn _ o hk,hd⟩
  ·have z:∃o,s.heap.get? p=some o/\o.ExactDict:=by
    rcases hk with⟨kvs,hk⟩ | ⟨kvs,hk⟩
    ·obtain⟨_,_,_,_,o,_,_,e,ex,_⟩:=I.hok p _ hk
     exact⟨o,e,ex⟩
    ·obtain⟨_,_,_,_,o,_,_,e,ex,_⟩:=I.hok p _ hk
     exact⟨o,e,ex⟩
   obtain⟨o,e,ex⟩:=z
   refine⟨⟨o,e,ex.1⟩,fun a e2=>?_⟩
   cases e2
   exact⟨o,e,ex.2.1⟩
  ·obtain⟨o,_,_,_,e,ex,_⟩:=I.hok p _ hk
   refine⟨⟨o,e,ex.1⟩,fun a e2=>?_⟩
   cases e2
   exact⟨o,e,ex.2.1⟩
 | _=>exact False.elim ty
def G6(K:PySem.W.Frag)(T:String)(r:V->List V->Hp->VK->Prop)(to:TE)(t:TA):TE:=fun σ H Q=>to σ H fun x H1=>G5 K T x H1/\t σ H1 fun xs H2=>r x xs H2 Q
variable {o e:Expr} {es:List Expr} {to:TE} {t:TA} {name:Str} {apos cpos:Pos} {T id:String} {r:V->List V->Hp->VK->Prop}
theorem Nj(pa:PlainAttrs T)(slot:Slot T name id)(hty:typeOf (.builtin id)=pure (.type "method_descriptor"))(hm:Ft X id r)(ho:PE X o to)(ha:PA X (e::es) t)
  (hbase:attributeBase o name X.env (eval o X.env)=eval o X.env:=by rfl)
  (hfew:((backTo cpos (starEach (e::es) X.env)).all (fun x=>!x.1)&&(backToKw cpos (keywordEach [] X.env)).all (fun x=>x.1.isSome)
   &&decide ((e::es).length+([]:List Keyword).length+(if([]:List Keyword).isEmpty then 0 else 1)<30))=true:=by rfl)
  (hline:(apos.endLine==cpos.line)=true:=by rfl) (hs:starEach (e::es) X.env=(false,eval e X.env)::starEach es X.env:=by rfl) (hplain:(backTo cpos (starEach es X.env)).any (·.1)=false:=by rfl) :
  PE X (.Call (.Attribute o name apos) (e::es) [] cpos) (G6 X.K T r to t):=by
 intro pins s σ H Q I h
 refine wpAny_Call_method_late hbase hfew hline rfl (YS (ho pins s σ H _ I h) fun v s1 ⟨x,H1,I1,r1,ty,q1⟩=>?_)
 obtain⟨h1,h2⟩:=IE I1 r1 ty
 refine⟨T,id,pa,slot,hty,h1,h2,?_⟩
 have hA:=ha cpos pins s1 σ H1 _ I1 q1
 rw[hs] at hA ⊢
 refine Calls.callWith_builtin (by show(false || (backTo cpos (starEach es X.env)).any (·.1))=false;rw[hplain]<;>rfl) (Calls.evalArgs_plain ?_)
 exact YS hA fun us s2 ⟨vs,H2,I2,r2,q2⟩=>hm pins s2 σ H2 x vs v us Q I2 r1 r2 q2
end
def Fj(X:Cx)(id:String)(r:V->List V->Hp->VK->Prop):Prop:=
 ∀(pins:List (Addr×Obj))(s:Shared)(σ:St)(H:Hp)(x:V)(xs:List V)(v:Value)(us:List Value)(Q:VK),Inv X pins σ H s->RelV x v->Vals xs us->r x xs H Q->
  wpAny (model X.prog X.w) X.A (call (.builtin id) (v::us)) (EP X pins σ Q) X.xe s
theorem Vals.one:∀{x:V}{us:List Value},Vals [x] us->∃u,us=[u]/\RelV x u
 | _,_,.cons r .nil=>⟨_,rfl,r⟩
theorem Vals.two:∀{x y:V}{us:List Value},Vals [x,y] us->∃u v,us=[u,v]/\RelV x u/\RelV y v
 | _,_,_,.cons r (.cons q .nil)=>⟨_,_,rfl,r,q⟩
theorem Vals.dropLast{xs:List V}{us:List Value}(h:Vals xs us):Vals xs.dropLast us.dropLast:=by
 induction h with
 | nil=>exact .nil
 | cons r t ih=>
  cases t with
  | nil=>exact .nil
  | cons q t'=>exact .cons r ih
theorem Vals.rep{xs:List V}{us:List Value}(h:Vals xs us):∀k:Nat,Vals (List.replicate k xs).flatten (List.replicate k us).flatten
 | 0=>.nil
 | k+1=>by
  rw[List.replicate_succ,List.replicate_succ,List.flatten_cons,List.flatten_cons]
  exact Vals.append h (Vals.rep h k)
theorem RI(its:List Value):∀(k:Nat)(acc:List Value),
  List.foldl (fun x1 x2=>x1++x2) acc.toArray (List.replicate k its.toArray)=(acc++(List.replicate k its).flatten).toArray
 | 0,acc=>by simp
 | k+1,acc=>by
  have e:acc.toArray++its.toArray=(acc++its).toArray:=by simp
  have e2:(acc++its)++(List.replicate k its).flatten=acc++(List.replicate (k+1) its).flatten:=by
   rw[List.replicate_succ,List.flatten_cons,List.append_assoc]
  rw[<-e2,<-RI its k (acc++its),<-e,List.replicate_succ,List.foldl_cons]
section
variable {X:Cx} {pins:List (Addr×Obj)} {σ:St} {H:Hp} {s:Shared} {l b:Addr} {xs ys zs:List V}
theorem Inv.lset{its its':List Value}{n:Nat}{f:Array Value->Array Value}{t':Nat}(I:Inv X pins σ H s)(hH:H l=some (.lst xs))
  (e:s.heap.get? l=some { cls:=.type "list",data:=.seq its.toArray n }) (hf:f its.toArray=its'.toArray) (hv:Vals ys its') (hz:ys.length<=sizeLine) :
  Inv X pins σ (upd H l (.lst ys)) { s with heap:=s.heap.update l (Obj.mapSeq f),toks:=t' }:=by
 have q:=PySem.IsL.update e f;rw[hf] at q
 refine I.write (x:=l) (e:=l) (by rw[hH];exact trivial) (.inl rfl) (fun b' u hb hu=>(Heap.get?_update_other s.heap (Obj.mapSeq f) (Ne.symm hb)).trans hu) ⟨_,q⟩ ?_
 exact⟨hz,its',_,hv,q⟩
theorem Inv.lnew{its:List Value}{t':Nat}(I:Inv X pins σ H s)(hv:Vals ys its)(hz:ys.length<=sizeLine) :
  Inv X pins σ (upd H s.heap.objs.size (.lst ys)) { s with heap:=s.heap.push { cls:=.type "list",data:=.seq its.toArray },toks:=t' }:=
 I.laid (fun _ _ q=>Heap.get?_push_of_some _ q) (Nat.le_refl _) ⟨hz,its,0,hv,Heap.get?_push_size _ rfl⟩
theorem Inv.fresh(I:Inv X pins σ H s):H s.heap.objs.size=none:=I.hok.fresh (Nat.le_refl _)
theorem Inv.lstM(I:Inv X pins σ H s)(hH:H l=some (.lst xs)):xs.length<=sizeLine/\∃(its:List Value) (n:Nat),Vals xs its/\xs.length=its.length/\s.heap.get? l=some { cls:=.type "list",data:=.seq its.toArray n }:=by
 obtain⟨z,its,n,r,e⟩:=I.hok l _ hH
 exact⟨z,its,n,r,r.length,e⟩
theorem MW{n:Nat}(h:n<=sizeLine):Builtin.List.listTooLong n=false:=by
 unfold Builtin.List.listTooLong
 exact decide_eq_false (by omega)
end
section
variable {X:Cx}
def Nk:V->List V->Hp->VK->Prop:=fun x vs H Q=>∃l xs y,x = .ref l/\vs=[y]/\H l=some (.lst xs)/\xs.length<sizeLine/\Q .non (upd H l (.lst (xs++[y])))
theorem RJ:Fj X "list.append" Nk:=by
 intro pins s σ H x vs v us Q I rx rv h
 obtain⟨l,xs,y,rfl,rfl,hH,hz,q⟩:=h
 cases rx
 obtain⟨u,rfl,ru⟩:=rv.one
 obtain⟨z,its,n,r,hl,e⟩:=I.lstM hH
 refine call_meets F.slot_list_append ⟨_,e,rfl⟩ F.entry_list_append (F.args_list_append_2 _ _) (PySem.list_append l its.toArray n u (by rw[List.size_toArray];omega)) ⟨e,?_⟩
 refine⟨.non,_,I.lset (its':=its++[u]) hH e (by simp) (r.append (.cons ru .nil)) ?_,rfl,q⟩
 rw[List.length_append,List.length_singleton];omega
def G7:R2:=fun x y H Q=>∃l k xs,x = .ref l/\y = .int k/\H l=some (.lst xs)/\-(2^63)<=k/\k<2^63/\xs.length*k.toNat<=sizeLine/\
 ∀p,H p=none->Q (.ref p) (upd H p (.lst (List.replicate k.toNat xs).flatten))
theorem KQ{α:Type}(xs:List α)(k:Nat):(List.replicate k xs).flatten.length=k*xs.length:=by
 induction k with
 | zero=>simp
 | succ k ih=>rw[List.replicate_succ,List.flatten_cons,List.length_append,ih,Nat.succ_mul,Nat.add_comm]
theorem IF:VV X (binaryOp .Mult) G7:=by
 intro pins s σ H x y v u Q I rx ry h
 obtain⟨l,k,xs,rfl,rfl,hH,h1,h2,hz,q⟩:=h
 cases rx
 obtain⟨t,rfl⟩:=ry
 obtain⟨z,its,n,r,hl,e⟩:=I.lstM hH
 have hlen:its.toArray.size*k.toNat<=sizeLine:=by rw[List.size_toArray,<-hl];exact hz
 have hcap:¬its.toArray.size*k.toNat>(2^63-1)/8:=by
  have:(sizeLine:Nat)<=(2^63-1)/8:=by decide
  omega
 have hfit:¬(!Builtin.List.listFitsIndex k)=true:=by
  rw[fitsIndex_both h1 h2];exact Bool.false_ne_true
 have hlong:¬Builtin.List.listTooLong (its.toArray.size*k.toNat)=true:=by
  rw[MW hlen];exact Bool.false_ne_true
 have hnew:List.foldl (fun x1 x2=>x1++x2) #[] (List.replicate (if its.toArray.isEmpty=true then 0 else k.toNat) its.toArray)=(List.replicate k.toNat its).flatten.toArray:=by
  have f0:∀m:Nat,List.foldl (fun x1 x2=>x1++x2) #[] (List.replicate m its.toArray)=(List.replicate m its).flatten.toArray:=fun m=>by
   have:=RI its m []
   rw[List.nil_append] at this;exact this
  rw[f0]
  cases its with
  | nil=>simp
  | cons a r'=>rw[if_neg (by simp)]
 refine wpAny_binaryOp_repeat_ref (T:="list") (U:="int") (by decide) ⟨_,e,rfl⟩ (fun s'=>typeIs_int s' k t) noFill_list_mul F.fills_int_mul F.slot_int_rmul repeat_list F.slot_int_index.lookup
  (call_meets F.slot_int_rmul (typeIs_int s k t) F.entry_int_rmul (F.args_int_rmul_2 _ _) (int___rmul___int_list k t l its.toArray n)
   ⟨e,rfl,⟨_,e,rfl⟩,call_meets F.slot_list_mul ⟨_,e,rfl⟩ F.entry_list_mul (F.args_list_mul_2 _ _) (AutoListH.list___mul___list_int_3 l its.toArray n k t hfit hcap hlong) ⟨e,?_⟩⟩)
 rw[hnew]
 exact⟨.ref _,_,I.lnew (t':=s.toks) (r.rep k.toNat) (by rw[KQ,Nat.mul_comm];exact hz),rfl,q _ I.fresh⟩
end
end L2
namespace Att
open PySem PySem.W PySem.Calls PyProof.Rows
theorem TH{P:Params}{h:Heap}:∀(ns:List Int)(vs:List Value),WellAll P h vs (ns.map WData.int)->IntsAre vs ns:=by
 intro ns
 induction ns with
 | nil=>
  intro vs w;rw[List.map_nil] at w;cases w;exact .nil
 | cons n ns ih=>
  intro vs w;rw[List.map_cons] at w
  cases w with
  | cons a b=>
   cases a
   exact .cons _ _ (ih _ b)
theorem script_of{l:OpenLaw}{n:Nat}(hn:l.most=some n){P:Params}{h:Heap}{args:List WData}{vals:List Value}
  (hpre:l.row.toRowW.claim.pre args=true) (hwl:WellAll P h vals args) :
  ∃a vs ns,vals=[Value.ref a]/\args=[WData.list (ns.map WData.int)]/\h.get? a=some { cls:=.type "list",data:=.seq vs.toArray }/\IntsAre vs ns/\ns.length<=n:=by
 have hsh:WShape.hasAll [] args [.list .int]=true:=(pre_splitW hpre).1
 have hc:l.pre.holds [] { args:=args }=true:=(pre_splitW hpre).2
 obtain⟨d,r,rfl,h1,h2⟩:=hasAllW_cons hsh
 obtain rfl:=hasAllW_nil h2
 obtain⟨xs,rfl,h3⟩:=hasW_list h1
 obtain⟨ns,rfl⟩:=items_int h3
 have hlen:ns.length<=n:=by
  unfold OpenLaw.pre at hc
  have h4:(WTm.not (.lt (.lit (.int (n:Int))) (.len (.arg 0)))).holds [] { args:=[.list (ns.map .int)] }=true:=by
   have h4:=(holds_andW hc).1
   rw[hn] at h4;exact h4
  have h5:=condW_of h4 (w_not (w_lt w_lit (w_len_list (w_arg rfl))))
  rw[List.length_map] at h5
  refine Nat.le_of_not_lt fun q=>?_
  have q':(n:Int)<((ns.length:Nat):Int):=by omega
  first
   | (rw[decide_eq_true q'] at h5;exact absurd h5 (by decide))
   | (simp at h5;omega)
 cases hwl with
 | cons w1 w2=>
  cases w2
  cases w1 with
  | list ho hall=>exact⟨_,_,ns,rfl,rfl,ho,TH ns _ hall,hlen⟩
theorem post_true(l:OpenLaw)(args:List WData):l.row.toRowW.claim.post args (.bool true) args=true:=
 postW_of (r:=l.row.toRowW) (X:=(true==true))
  (show WShape.has [] (.bool true) .bool=true by first | rfl | decide | simp[WShape.has,WShape.arms,WShape.armsAll])
  (show(WTm.eq .res (.lit (.bool true))).value [] { args:=args,res:=some (.bool true),after:=args }=some (.bool (true==true)) from w_eq_bool (w_res rfl) w_lit) rfl
end Att
namespace L2
open PySem PySem.Spec PyProof.Rows
structure M2(X:Cx)(o:Expr)(m:Str)(apos:Pos)(e f:Expr)(cpos:Pos):Prop where
 base:attributeBase o m X.env (eval o X.env)=eval o X.env
 few:((backTo cpos (starEach [e,f] X.env)).all (fun x=>!x.1)&&(backToKw cpos (keywordEach [] X.env)).all (fun x=>x.1.isSome)
  &&decide (([e,f]:List Expr).length+([]:List Keyword).length+(if([]:List Keyword).isEmpty then 0 else 1)<30))=true
 line:(apos.endLine==cpos.line)=true
 trees:backTo cpos (starEach [e,f] X.env)=[(false,eval e X.env),(false,eval f X.env)]
theorem RK:∀{vs:List Value}{ns:List Int},IntsAre vs ns->Vals (ns.map V.int) vs
 | _,_,.nil=>.nil
 | _,_,.cons n t h=>.cons ⟨t,rfl⟩ (RK h)
def IG(H:Hp):Prop:=∀b,H b=none\/∃o xs,H b=some (.frz o (.lst xs))
theorem law_call{P:Program}{w:World}{K:PySem.W.Frag}{mg mb:Str->Option Value}{CX:KG}{k:Nat}{fa a:Addr}{fd:FuncData}{x:Str}{sp:Sp}{s₁:Shared}{vs:List Value}{ns:List Int}
  (KX:K.In s₁.heap) (hns:s₁.heap.Ns mainGlobals mg) (hb:s₁.heap.Ns builtinsNs mb) (hbb:∀x:Str,x≠"__name__"->mb x=bootBuiltins x) (hlim:s₁.heap.NoLimit) (hg:s₁.gens = #[])
  (ha:s₁.heap.get? a=some { cls:=.type "list",data:=.seq vs.toArray }) (hi:IntsAre vs ns) (hl:ns.length<=sizeLine) (hr:Room k callerA)
  (F:∀base:Heap,K.In base->base.Ns mainGlobals mg->TF P w K mg base CX k fa fd [x] sp) (hbind:∀(s:Shared)(u:Value),BindsTo s fd ⟨[u],[]⟩ [(x,u)])
  (hsp:∀H:Hp,IG H->SqL K H a (ns.map V.int)->sp [.ref a] H (fun v _=>v = .bl true) fun _ _ _=>False)
  (hCX:∀H e s',CX [] H s₁ (fun _ _ _=>False) e s'->False) :
  codeAny (model P w) callerA (.call (.ref fa) ⟨[.ref a],[]⟩) (fun r s'=>r = .ok (.ret (.bool true))/\OldK s₁.heap s'.heap/\s'.os=s₁.os/\AllBare s'.gens) s₁:=by
 have rv:=RK hi;have lenV:=hi.length
 -- from an abstract heap in which nothing but the script may be tracked
 have core:∀H:Hp,IG H->SqL K H a (ns.map V.int)->HOk P w H s₁.heap->(∀b,H b≠none->b=a)->(H a≠none->K.lookup a=none)->
   codeAny (model P w) callerA (.call (.ref fa) ⟨[.ref a],[]⟩) (fun r s'=>r = .ok (.ret (.bool true))/\OldK s₁.heap s'.heap/\s'.os=s₁.os/\AllBare s'.gens) s₁:=by
  intro H hO hS hok hA hK
  have base_of:∀{b:Addr}{o:Obj},s₁.heap.get? b=some o->H b=none->(Qi s₁.heap H).get? b=some o:=fun e n=>ML e n
  have noA:∀{b:Addr}{o:Obj}{es:Array DictEntry}{ep:Nat},s₁.heap.get? b=some o->o.data = .dict es ep->H b=none:=fun{b o es ep} e d=>by
   cases q:H b with
   | none=>rfl
   | some u=>
    have e':b=a:=hA b (by rw[q];simp)
    subst e'
    rw[ha] at e;cases e
    have d':Data.seq vs.toArray _=Data.dict es ep:=d
    cases d'
  have nsK:∀{b:Addr}{m:Str->Option Value},s₁.heap.Ns b m->(Qi s₁.heap H).Ns b m:=fun{b m} ⟨o,es,ep,e,d,r⟩=>⟨o,es,ep,base_of e (noA e d),d,r⟩
  have hKb:K.In (Qi s₁.heap H):=fun b o e=>base_of (KX b o e) (by
   cases q:H b with
   | none=>rfl
   | some u=>
    have e':b=a:=hA b (by rw[q];simp)
    subst e'
    rw[hK (by rw[q];simp)] at e;cases e)
  have hM:Mod K mg (Qi s₁.heap H):=⟨hKb,nsK hns,⟨mb,nsK hb,hbb⟩,let⟨mc,h1,h2⟩:=hlim;⟨mc,nsK h1,h2⟩⟩
  have e0:KH P w K mg (Qi s₁.heap H) callerA [] s₁ H:=⟨rfl,hM,fun b o e=>Kr e,Nat.le_of_eq (NZ _ _),trivial,fun b hb=>absurd (show b∈([]:List Addr) from hb) (by simp),hok,.of_eq hg⟩
  refine codeAny_mono ((F _ hKb (nsK hns)).run callerA [] s₁ H ⟨[.ref a],[]⟩ [.ref a] [.ref a] _ _ hr e0 (hbind s₁ (.ref a)) (.cons rfl .nil) (hsp H hO hS)) fun r s' h=>?_
  cases r with
  | error e=>exact(hCX H e s' h).elim
  | ok fl=>
   cases fl with
   | next=>exact False.elim h
   | brk=>exact False.elim h
   | cont=>exact False.elim h
   | ret u=>
    obtain⟨v,H',os,bare,un,hok',r',q⟩:=h
    have q':v = .bl true:=q
    subst q'
    obtain rfl:u=Value.bool true:=r'
    refine⟨rfl,OldK.of_keep fun b o e=>?_,os,bare⟩
    cases q:H b with
    | none=>exact un.keep b o e q (by intro z;exact absurd (show b∈([]:List Addr) from z) (by simp)) (by simp)
    | some u=>
     rcases hO b with z | ⟨ob,xs,z⟩
     ·rw[q] at z;cases z
     ·have z2:=un.frzs b ob _ z
      obtain⟨e1,_⟩:=hok b _ z
      obtain⟨e2,_⟩:=hok' b _ z2
      rw[e] at e1;cases e1;exact e2
 cases hk:K.lookup a with
 | some o=>
  -- the script is one of the module's own objects
  have e:=KX a o hk;rw[ha] at e;cases e
  refine core (fun _=>none) (fun _=>.inl rfl) (.inr ⟨_,vs.toArray,_,hk,rfl,rfl,rfl,by rw[List.size_toArray,lenV];exact hl,by simpa using rv⟩) (fun b u z=>by have z':(none:Option HO)=some u:=z;cases z') (fun b z=>absurd rfl z) fun z=>absurd rfl z
 | none=>
  refine core (fun b=>if b=a then some (.frz { cls:=.type "list",data:=.seq vs.toArray } (.lst (ns.map V.int))) else none) (fun b=>?_) (.inl (.inr ⟨{ cls:=.type "list",data:=.seq vs.toArray },if_pos rfl⟩)) (fun b u z=>?_) (fun b z=>?_) fun _=>hk
  ·by_cases hb:b=a
   ·exact .inr ⟨_,_,if_pos hb⟩
   ·exact .inl (if_neg hb)
  ·by_cases hb:b=a
   ·have z':=(if_pos hb).symm.trans z
    cases z'
    subst hb
    exact⟨ha,by rw[List.length_map];exact hl,vs,_,rv,ha⟩
   ·have z':=(if_neg hb).symm.trans z
    cases z'
  ·by_cases hb:b=a
   ·exact hb
   ·exact absurd (if_neg hb) z
def XM(s:Stmt):Arguments:=match s with
 | .FunctionDef _ a _ _ _ _ _ _ _ _=>a
 | _=>{ posonlyargs:=[],args:=[],vararg:=none,kwonlyargs:=[],kw_defaults:=[],kwarg:=none,defaults:=[] }
def YN(s:Stmt):List Stmt:=match s with
 | .FunctionDef _ _ b _ _ _ _ _ _ _=>b
 | _=>[]
def Zk(s:Stmt):Scope:=match s with
 | .FunctionDef _ _ _ _ _ _ sc _ _ _=>sc
 | _=>{ kind:=.function,names:=[],isGenerator:=false,isCoroutine:=false }
abbrev Nl:KG:=fun _ _ _ _ _ _=>False
abbrev E0:XK:=fun _ _ _=>False
theorem Ga{X:Cx}:Ob Nl X E0:=fun _ _ _ _ _ _ _ h=>h.elim
structure Fun(K:PySem.W.Frag)(x qual:Str)(st:Stmt)(f:Addr)(fd:FuncData):Prop where
 ex:∃(oc:Value) (od:Option Addr) (kV doc pm:Value) (an:Option Addr) (cdv ct:Value) (osl:Array (Option Value)),
  fd=PySem.W.fnOf x qual (XM st) (YN st) (Zk st) .none kV doc pm an cdv ct/\K.lookup f=some ⟨oc,od,.func fd,osl⟩/\PySem.W.codeIn K cdv qual=true
 kp:PySem.W.keepIn K (.ref f)=true
section
variable {P:Program} {w:World} {K:PySem.W.Frag} {mg:Str->Option Value} {base:Heap}
theorem Fun.ok{x qual:Str}{st:Stmt}{f:Addr}{fd:FuncData}{N ps:List Str}{k:Nat}{sp:Sp}(F:Fun K x qual st f fd)(S:Zw N ps (Zk st))(len:∀vs H Q E,sp vs H Q E->vs.length=ps.length)
  (hbody:∀(cdv:Value)(A:Around)(outer:List Env)(s:Shared)(H:Hp)(vs:List V)(Q:VK)(E:XK),Room k (A.deeper (envOfC qual (Zk st) s.heap.objs.size f cdv))->sp vs H Q E->
   ∃t,PSs (Ru Nl P w K mg base N qual (Zk st) f cdv A outer s H E).nox (YN st) t/\t { nx:=fun _ H'=>Q .non H',rt:=Q } (start N vs) H):TF P w K mg base Nl (k+1) f fd ps sp:=by
 obtain⟨oc,od,kV,doc,pm,an,cdv,ct,osl,rfl,lk,hcd⟩:=F.ex
 refine HW lk hcd S len fun A outer s H vs Q E hr hsp=>?_
 obtain⟨t,h,q⟩:=hbody cdv A outer s H vs Q E hr hsp
 exact⟨t,h.nox,q⟩
theorem Fun.binds{x qual:Str}{st:Stmt}{f:Addr}{fd:FuncData}{ps:List Str}(F:Fun K x qual st f fd)
  (h:∀(kV doc pm:Value)(an:Option Addr)(cdv ct:Value)(us:List Value),us.length=ps.length->bindArgs (PySem.W.fnOf x qual (XM st) (YN st) (Zk st) .none kV doc pm an cdv ct) ⟨us,[]⟩=pure (ps.zip us)):Binds K fd ps []:=by
 obtain⟨oc,od,kV,doc,pm,an,cdv,ct,osl,rfl,lk,hcd⟩:=F.ex
 exact .all (h kV doc pm an cdv ct)
theorem IH{x qual:Str}{st:Stmt}{f:Addr}{oc:Value}{od an:Option Addr}{osl:Array (Option Value)}{kV doc pm cdv ct:Value}(l:K.lookup f=some ⟨oc,od,.func (PySem.W.fnOf x qual (XM st) (YN st) (Zk st) .none kV doc pm an cdv ct),osl⟩)
  (c:PySem.W.codeIn K cdv qual=true) (k:PySem.W.keepIn K (.ref f)=true):Fun K x qual st f (PySem.W.fnOf x qual (XM st) (YN st) (Zk st) .none kV doc pm an cdv ct):=⟨⟨oc,od,kV,doc,pm,an,cdv,ct,osl,rfl,l,c⟩,k⟩
end
section
variable {X:Cx}
theorem pv(i:Nat){x:Str}{pos:Pos}(hN:X.N[i]?=some x:=by rfl)(hv:GN X.env.scope x:=by first | exact Or.inl rfl | exact Or.inr (Or.inl rfl) | exact Or.inr (Or.inr rfl))(hd:(x==("__debug__" : Str))=false:=by decide)
  (hcd:(x==("__classdict__" : Str))=false:=by decide):PE X (.Name x pos) (Rt i):=J3 hN hv hd hcd
end
theorem Gb{A B:Prop}(h:B):if false=true then A else B:=by
 rw[if_neg Bool.false_ne_true];exact h
theorem Gc{A B:Prop}(h:A):if true=true then A else B:=by
 rw[if_pos rfl];exact h
def Same(H H':Hp):Prop:=∀b o,H b=some o->H' b=some o
theorem Same.refl(H:Hp):Same H H:=fun _ _ h=>h
theorem Same.trans{H H1 H2:Hp}(a:Same H H1)(b:Same H1 H2):Same H H2:=fun c o h=>b c o (a c o h)
theorem Same.free{H H':Hp}(e:Same H H'){l:Addr}(h:H' l=Option.none):H l=Option.none:=by
 cases q:H l with
 | none=>rfl
 | some o=>
  rw[e l o q] at h;cases h
end L2
set_option maxHeartbeats 4000000
namespace L2
open PySem PySem.Spec PyProof.Rows
def Y0(cells:List (Str×Addr)):List (Str×NameKind)->List (Str×Addr)->List (Str×Addr)
 | [],acc=>acc
 | (n,k)::r,acc=>Y0 cells r (if(k==NameKind.free)=true then(n,(cells.lookup n).getD 0)::acc else acc)
theorem VX{env:Env}:∀(names:List (Str×NameKind))(acc:List (Str×Addr)),(∀y∈names,y.2 = .free->(env.cells.lookup y.1).isSome=true)->
  (forIn (m:=Sem) names acc fun(x:Str×NameKind) (cs:List (Str×Addr))=>
   match x with
   | (name,kind)=>if(kind==NameKind.free)=true then do
     let c <-cellOf env name
     pure (ForInStep.yield ((name,c)::cs))
    else pure (ForInStep.yield cs))=pure (Y0 env.cells names acc)
 | [],acc,_=>rfl
 | (n,k)::r,acc,h=>by
  rw[List.forIn_cons]
  have ih:=fun acc'=>VX r acc' fun y hy=>h y (List.mem_cons_of_mem _ hy)
  cases hk:(k==NameKind.free) with
  | true=>
   have hs:=h (n,k) List.mem_cons_self (by simpa using hk)
   obtain⟨c,hc⟩:=Option.isSome_iff_exists.mp hs
   have hc:env.cells.lookup n=some c:=hc
   have e1:cellOf env n=pure c:=by unfold cellOf;rw[hc]
   dsimp only
   rw[hk,if_pos rfl,e1]
   refine Eq.trans (ih ((n,c)::acc)) ?_
   show _=pure (Y0 env.cells r (if(k==NameKind.free)=true then(n,(env.cells.lookup n).getD 0)::acc else acc))
   rw[if_pos hk,hc];rfl
  | false=>
   dsimp only
   rw[hk,if_neg Bool.false_ne_true]
   refine Eq.trans (ih acc) ?_
   show _=pure (Y0 env.cells r (if(k==NameKind.free)=true then(n,(env.cells.lookup n).getD 0)::acc else acc))
   rw[if_neg (by rw[hk];exact Bool.false_ne_true)]
theorem VY{scope:Scope}{env:Env}(h:∀y∈scope.names,y.2 = .free->(env.cells.lookup y.1).isSome=true):closureFor scope env=pure (Y0 env.cells scope.names []):=by
 have e:=VX (env:=env) scope.names [] h
 unfold closureFor
 dsimp only
 rw[e];rfl
theorem UT{cells:List (Str×Addr)}{x:Str}{c:Addr}:∀(names:List (Str×NameKind))(acc:List (Str×Addr)),(∀y∈names,y.2 = .free->(cells.lookup y.1).isSome=true)->(acc.lookup x=some c->cells.lookup x=some c)->
  (Y0 cells names acc).lookup x=some c->cells.lookup x=some c
 | [],_,_,h,e=>h e
 | (n,k)::r,acc,hf,h,e=>by
  refine UT r _ (fun y hy=>hf y (List.mem_cons_of_mem _ hy)) ?_ e
  intro q
  by_cases hk:(k==NameKind.free)=true
  ·rw[if_pos hk,List.lookup_cons] at q
   cases hx:x==n with
   | true=>
    rw[hx] at q
    have exn:x=n:=by simpa using hx
    obtain⟨d,hd⟩:=Option.isSome_iff_exists.mp (hf (n,k) List.mem_cons_self (by simpa using hk))
    have hd:cells.lookup n=some d:=hd
    rw[hd] at q
    rw[exn,hd];exact q
   | false=>rw[hx] at q;exact h q
  ·rw[if_neg hk] at q;exact h q
theorem Sq{cells:List (Str×Addr)}{x:Str}:∀(names:List (Str×NameKind))(acc:List (Str×Addr)),(acc.lookup x).isSome=true->((Y0 cells names acc).lookup x).isSome=true
 | [],_,h=>h
 | (n,k)::r,acc,h=>by
  refine Sq r _ ?_
  split
  ·rw[List.lookup_cons];split<;>simp_all
  ·exact h
theorem UU{cells:List (Str×Addr)}{x:Str}:∀(names:List (Str×NameKind))(acc:List (Str×Addr)),(x,NameKind.free)∈names->((Y0 cells names acc).lookup x).isSome=true
 | (n,k)::r,acc,h=>by
  rcases List.mem_cons.mp h with e | h
  ·cases e
   refine Sq r _ ?_
   rw[if_pos (by decide),List.lookup_cons]
   simp
  ·exact UU r _ h
structure CompScope(N:List Str)(around scope:Scope)(own fr:List Str)(ix:List Nat):Prop where
 kind:scope.kind = .function
 nocell:∀y∈scope.names,y.2≠.cell
 names:∀y∈scope.names,y.2 = .local->scope.names.lookup y.1=some .local
 frees:∀y∈scope.names,y.2 = .free->(around.names.lookup y.1=some .cell\/around.names.lookup y.1=some .free)
 slots:fr.map some=ix.map (fun i=>N[i]?)
 outs:∀x∈fr,(x,NameKind.free)∈scope.names
 apart:∀x∈fr,scope.names.lookup x≠some .local
def ZP(X:Cx)(N':List Str)(scope:Scope)(cl:List (Str×Addr))(C:Addr)(s:Shared)(H:Hp)(ex:List Addr):Cx:=
 { X with N:=N',s₀:=s,H₀:=H,env:=compEnvC scope cl C X.env,outer:=X.stack,ex:=ex,fn:=fun _=>false,pn:=[],xe:=fun _ _=>False }
def Ym(n:Nat)(ix:List Nat)(σ:St):St:=List.replicate n none++ix.map (fun i=>(σ[i]?).join)
theorem XN{env:Env}{x:Str}:∀{names:List (Str×NameKind)}{k:NameKind},names.lookup x=some k->
  (names.map fun(n,k)=>if(k==NameKind.free&&env.scope.kind==.function&&env.kindOf n==some .cell) then(n,NameKind.cell) else(n,k)).lookup x =
   some (if(k==NameKind.free&&env.scope.kind==.function&&env.kindOf x==some .cell)=true then NameKind.cell else k)
 | [],_,h=>by simp at h
 | (n,k')::r,k,h=>by
  show List.lookup x ((if(k'==NameKind.free&&env.scope.kind==.function&&env.kindOf n==some .cell)=true then(n,NameKind.cell) else(n,k'))::_)=_
  cases hx:x==n with
  | true=>
   simp only[List.lookup_cons,hx] at h;cases h
   have e:x=n:=by simpa using hx
   subst e
   split
   ·simp[List.lookup_cons]
   ·simp[List.lookup_cons]
  | false=>
   simp only[List.lookup_cons,hx] at h
   split
   ·simp only[List.lookup_cons,hx];exact XN h
   ·simp only[List.lookup_cons,hx];exact XN h
theorem Wz{env:Env}{x:Str}:∀{names:List (Str×NameKind)}{k':NameKind},
  (names.map fun(n,k)=>if(k==NameKind.free&&env.scope.kind==.function&&env.kindOf n==some .cell) then(n,NameKind.cell) else(n,k)).lookup x=some k'->∃k,names.lookup x=some k
 | [],_,h=>by simp at h
 | (n,k0)::r,k',h=>by
  have h:List.lookup x ((if(k0==NameKind.free&&env.scope.kind==.function&&env.kindOf n==some .cell)=true then(n,NameKind.cell) else(n,k0))::_)=some k':=h
  cases hx:x==n with
  | true=>exact⟨k0,by simp[List.lookup_cons,hx]⟩
  | false=>
   have:∃k,r.lookup x=some k:=by
    apply Wz (env:=env) (k':=k')
    split at h<;>simpa [List.lookup_cons,hx] using h
   obtain⟨k,e⟩:=this
   exact⟨k,by simp[List.lookup_cons,hx,e]⟩
section
variable {X:Cx} {pins:List (Addr×Obj)} {σ:St} {H:Hp} {s:Shared} {own fr:List Str} {ix:List Nat} {scope:Scope}
theorem CompScope.clos(S:CompScope X.N X.env.scope scope own fr ix)(I:Inv X pins σ H s):∀y∈scope.names,y.2 = .free->(X.env.cells.lookup y.1).isSome=true:=fun y hy hf=>by
 obtain⟨c,e⟩:=I.ok.has y.1 (S.frees y hy hf)
 rw[e];rfl
end
theorem Qm{prog:Program}{w:World}{A:Around}{R:Result->Shared->Prop}{s:Shared}{elt target iter:Expr}{ifs:List Expr}{scope:Scope}{pos:Pos}{it acc:Value}{env:Env}(I:Nat->Shared->Prop)
  (turn:∀n s,I n s->wpAny (model prog w) A (pyNext it) (fun r s₁=>match r with
   | none=>R (.ok .next) s₁
   | some v=>wpAny (model prog w) A (letOwnedTupleGo target it v) (fun _ s₁'=>wpAny (model prog w) A (assign target env v) (fun _ s₂=>
     wpAny (model prog w) A (forIn ifs true fun c r=>if r=true then do let ok <-isTrue c env (eval c env);pure (ForInStep.yield ok) else pure (ForInStep.yield r)) (fun ok s₃=>
      if ok=true then wpAny (model prog w) A (eval elt env) (fun x s₄=>
       wpAny (model prog w) A (call (.builtin "list.append") [acc,x]) (fun _ s₅=>∃m,m<n/\I m s₅) (notedBy (model prog w) A env fun e s'=>R (.error e) s') s₄) (notedBy (model prog w) A env fun e s'=>R (.error e) s') s₃
      else ∃m,m<n/\I m s₃) (notedBy (model prog w) A env fun e s'=>R (.error e) s') s₂) (notedBy (model prog w) A env fun e s'=>R (.error e) s') s₁') (notedBy (model prog w) A env fun e s'=>R (.error e) s') s₁) (notedBy (model prog w) A env fun e s'=>R (.error e) s') s)
  (n:Nat) (h:I n s) :
  codeAny (model prog w) A (.compLoop (.ListComp elt [⟨target,iter,ifs,0⟩] scope pos) 0 it acc env) R s:=by
 refine codeAny_loop rfl I (fun n s hI=>?_) n h
 show wpAny _ A ((compTurn (.ListComp elt [⟨target,iter,ifs,0⟩] scope pos) 0 it acc env).onRaise (fun x=>do noteFrame x env;theTreesLotGoes x)) _ _ s
 refine wpAny_noted ?_
 rw[compTurn_list]
 refine wpAny_bind (wpAny_standAt (wpAny_bind (wpAny_mono (turn n s hI) (fun r s₁ h₁=>?_) fun _ _ h'=>h')))
 cases r with
 | none=>exact wpAny_pure h₁
 | some v=>
  refine wpAny_bind (wpAny_mono h₁ (fun _ s₁' h₁'=>?_) fun _ _ h'=>h')
  refine wpAny_bind (wpAny_mono h₁' (fun _ s₂ h₂=>wpAny_bind (wpAny_mono h₂ (fun ok s₃ h₃=>?_) fun _ _ h'=>h')) fun _ _ h'=>h')
  cases ok with
  | false=>exact wpAny_pure ⟨rfl,h₃⟩
  | true=>
   exact wpAny_bind (wpAny_bind (wpAny_mono h₃ (fun x s₄ h₄=>wpAny_bind (wpAny_mono h₄ (fun _ s₅ h₅=>wpAny_pure (wpAny_pure ⟨rfl,h₅⟩)) fun _ _ h'=>h')) fun _ _ h'=>h'))
def MX(X:Cx)(ifs:List Expr)(t:TT):Prop:=
 ∀(pins:List (Addr×Obj))(s:Shared)(σ:St)(H:Hp)(Q:Bool->Hp->Prop),Inv X pins σ H s->t σ H Q->
  wpAny (model X.prog X.w) X.A (forIn ifs true fun c r=>if r=true then do let ok <-isTrue c X.env (eval c X.env);pure (ForInStep.yield ok) else pure (ForInStep.yield r)) (TP X pins σ Q) X.xe s
def Gd:TT:=fun _ H Q=>Q true H
theorem KR{X:Cx}:MX X [] Gd:=fun _ _ _ H _ I h=>wpAny_tests_nil ⟨H,I,h⟩
theorem KS{X:Cx}{c:Expr}{t:TT}(h:PT X c t):MX X [c] t:=fun pins s σ H Q I hq=>wpAny_tests_one (h pins s σ H Q I hq)
def Ge(n:Nat)(ix:List Nat)(g:TG)(tt:TT)(te:TE)(σ:St)(Q:VK)(J:It)(H1:Hp):Prop:=
 ∃W:Nat->Nat->List V->Hp->Prop,(∃m,W 0 m [] H1)/\∀i m ys H,W i m ys H->ys.length<=sizeLine/\
  ((J.stop i H/\∀p,H p=none->Q (.ref p) (upd H p (.lst ys)))\/
   (J.go i H/\∃N:List V->Hp->Prop,(∀ys' H',N ys' H'->∃m',m'<m/\W (i+1) m' ys' H')/\
    ∀x H',J.yld i H x H'->g x (Ym n ix σ) H' fun σ2 H2=>σ2.drop n=(Ym n ix σ).drop n/\tt σ2 H2 fun b H3=>if b=true then te σ2 H3 fun y H4=>N (ys++[y]) H4 else N ys H3))
def RL(n:Nat)(ix:List Nat)(wi:TI)(g:TG)(tt:TT)(te:TE):TE:=fun σ H Q=>wi σ H fun J H1=>Ge n ix g tt te σ Q J H1
theorem Mc{n:Nat}{ix:List Nat}{σ σ2:St}(hd:σ2.drop n=(Ym n ix σ).drop n):∀(i:Nat) v,(Ym n ix σ)[i]?=some (some v)->σ2[i]?=some (some v):=fun i v e=>by
 by_cases hi:i<n
 ·unfold Ym at e
  rw[List.getElem?_append_left (by simpa using hi),List.getElem?_replicate] at e
  rw[if_pos hi] at e;cases e
 ·have q:=congrArg (fun l=>l[i-n]?) hd
  simp only[List.getElem?_drop] at q;rw[show n+(i-n)=i by omega] at q
  rw[q];exact e
section
variable {X:Cx} {tg elt iter:Expr} {ifs:List Expr} {scope:Scope} {pos:Pos} {own fr:List Str} {ix:List Nat} {wi:TI} {g:TG} {tt:TT} {te:TE}
theorem MY{pins:List (Addr×Obj)}{σ:St}{H2:Hp}{s2:Shared}{fp:List Addr}{h₁:Heap}{tk:Nat}{C:Addr}(S:CompScope X.N X.env.scope scope own fr ix)(I2:Inv X pins σ H2 s2)(f2:∀b∈fp,V9 X pins H2 b)(hfp:∀b∈fp,b<s2.heap.objs.size)
  (hC:s2.heap.objs.size<=C) (hns:h₁.Ns C fun _=>none) (old:∀b o,s2.heap.get? b=some o->h₁.get? b=some o) :
  Inv (ZP X (own++fr) scope (Y0 X.env.cells scope.names []) C s2 H2 fp) [] (Ym own.length ix σ) H2 { s2 with heap:=h₁,toks:=tk }:=by
 have cs:=S.clos I2
 have sub:∀x c,(Y0 X.env.cells scope.names []).lookup x=some c->X.env.cells.lookup x=some c:=fun x c e=>UT scope.names [] cs (fun h=>by simp at h) e
 have stk:=I2.stkSub
 have okk:(ZP X (own++fr) scope (Y0 X.env.cells scope.names []) C s2 H2 fp).Ok:=by
  refine⟨I2.ok.mod,S.kind,I2.ok.glob,I2.ok.blt,hC,fun x y c h1 h2=>I2.ok.inj x y c (sub x c h1) (sub y c h2),fun x hx=>?_,fun x c h _=>?_,I2.ok.hd,I2.ok.frames,.inl rfl,fun b hb=>⟨?_,fun x c e=>?_⟩,I2.bs,?_,fun b o e hb=>?_,fun b hb z=>?_,I2.stack,I2.stkFree⟩
  ·-- the cells of the block's free names
   have hx:(relabel scope X.env).names.lookup x=some .cell\/(relabel scope X.env).names.lookup x=some .free:=hx
   have key:(x,NameKind.free)∈scope.names:=by
    have:∃k',(relabel scope X.env).names.lookup x=some k'/\(k' = .cell\/k' = .free):=by
     rcases hx with h | h
     ·exact⟨_,h,.inl rfl⟩
     ·exact⟨_,h,.inr rfl⟩
    obtain⟨k',e,hk'⟩:=this
    obtain⟨k,e0⟩:=Wz e
    have e1:=XN (env:=X.env) e0
    have e:(scope.names.map fun(n,k)=>if(k==NameKind.free&&X.env.scope.kind==.function&&X.env.kindOf n==some .cell) then(n,NameKind.cell) else(n,k)).lookup x=some k':=e
    rw[e1] at e;have m:=PySem.mem_of_lookup e0
    cases k with
    | free=>exact m
    | cell=>exact absurd rfl (S.nocell _ m)
    | _=>simp at e;subst e;rcases hk' with z | z<;>cases z
   exact Option.isSome_iff_exists.mp (UU _ _ key)
  ·cases h
  ·-- fp differs from the frame
   exact Nat.ne_of_lt (Nat.lt_of_lt_of_le (hfp b hb) hC)
  ·exact(f2 b hb).2.2.2.2.1 x c (sub x c e)
  ·exact Nat.le_trans I2.ok.bsz I2.sz
  ·rcases(f2 b hb).2.2.2.1 with z | z
   ·exact I2.ok.noex b o e z
   ·exact absurd (Nat.lt_of_lt_of_le (Heap.lt_size (I2.ok.bs b o e).1) z) (Nat.lt_irrefl _)
  ·rcases List.mem_cons.mp (stk b z) with e | e
   ·exact(f2 b hb).2.1 e
   ·exact(f2 b hb).2.2.1 e
 have sl:fr.length=ix.length:=by simpa using congrArg List.length S.slots
 refine⟨okk,rfl,I2.bare,Un.kept old,⟨_,hns,fun i x v h1 h2 h3=>?_⟩,fun x c e=>?_,I2.hok.fresh hC,fun x c e=>I2.freeC x c (sub x c e),fun p hp=>absurd (show p∈([]:List (Addr×Obj)) from hp) (by simp),I2.hok.kept old,?_⟩
 ·-- a name of the def around
  have h1:(own++fr)[i]?=some x:=h1
  have hi:¬i<own.length:=fun hi=>by
   unfold Ym at h2;rw[List.getElem?_append_left (by simpa using hi),List.getElem?_replicate,if_pos hi] at h2;cases h2
  rw[List.getElem?_append_right (by omega)] at h1;unfold Ym at h2;rw[List.getElem?_append_right (by simpa using hi),List.length_replicate,List.getElem?_map] at h2
  cases ej:ix[i-own.length]? with
  | none=>rw[ej] at h2;cases h2
  | some j=>
   rw[ej] at h2
   have h2:(σ[j]?).join=some v:=by simpa using h2
   have h2:σ[j]?=some (some v):=by
    cases q:σ[j]? with
    | none=>rw[q] at h2;cases h2
    | some z=>rw[q] at h2;exact congrArg some h2
   have hN:X.N[j]?=some x:=by
    have q:=congrArg (fun l=>l[i-own.length]?) S.slots
    simp only[List.getElem?_map,h1,ej,Option.map_some] at q
    exact(Option.some.inj q).symm
   have hm:=S.outs x (List.mem_of_getElem? h1)
   have hk:=S.frees _ hm rfl
   have hk:X.env.scope.names.lookup x=some .cell\/X.env.scope.names.lookup x=some .free:=hk
   obtain⟨m,hn,hl⟩:=I2.loc
   obtain⟨u,r,l⟩:=hl j x v hN h2 (by rcases hk with k | k;exact .inr (.inl k);exact .inr (.inr k))
   refine⟨u,r,?_⟩
   rcases l with⟨k,_⟩ | ⟨_,c,hc,hcell⟩
   ·have k:X.env.scope.names.lookup x=some .local:=k
    rcases hk with q | q<;>rw[k] at q<;>cases q
   ·obtain⟨c',hc'⟩:=Option.isSome_iff_exists.mp (UU (cells:=X.env.cells) _ [] hm)
    have ec:=sub x c' hc'
    rw[hc] at ec;cases ec
    refine .inr ⟨?_,c,hc',?_⟩
    ·have h3:(relabel scope X.env).names.lookup x=some .local\/(relabel scope X.env).names.lookup x=some .cell\/(relabel scope X.env).names.lookup x=some .free:=h3
     rcases h3 with h3 | h3
     ·obtain⟨k0,e0⟩:=Wz h3
      have e1:=XN (env:=X.env) e0
      have h3:(scope.names.map fun(n,k)=>if(k==NameKind.free&&X.env.scope.kind==.function&&X.env.kindOf n==some .cell) then(n,NameKind.cell) else(n,k)).lookup x=some .local:=h3
      rw[e1] at h3
      have k0l:k0 = .local:=by
       cases k0<;>simp at h3 ⊢
       split at h3<;>cases h3
      subst k0l
      exact absurd e0 (S.apart x (List.mem_of_getElem? h1))
     ·exact h3
    ·obtain⟨o,ho,hd⟩:=hcell
     exact⟨o,old _ _ ho,hd⟩
 ·obtain⟨v,o,ho,hd⟩:=I2.cell x c (sub x c e)
  exact⟨v,o,old _ _ ho,hd⟩
 ·show(Ym own.length ix σ).length=(own++fr).length
  unfold Ym;rw[List.length_append,List.length_replicate,List.length_map,List.length_append,sl]
theorem Sr{pins:List (Addr×Obj)}{σ:St}{H2:Hp}{s2:Shared}{fp:List Addr}{it:Addr}{tn:Nat->Heap->Prop}{J:It}{Fin:List V->Hp->Prop}{RR:Value->Addr->Result->Shared->Prop}{E:Value->Shared->Prop}
  (hcalm:X.calm=true) (S:CompScope X.N X.env.scope scope own fr ix)
  (hg:∀cl C s H ex,PG (ZP X (own++fr) scope cl C s H ex) tg g) (ht:∀cl C s H ex,MX (ZP X (own++fr) scope cl C s H ex) ifs tt) (he:∀cl C s H ex,PE (ZP X (own++fr) scope cl C s H ex) elt te)
  (I2:Inv X pins σ H2 s2) (T:P5 X.prog X.w X.K tg J fp it tn) (st2:tn 0 s2.heap) (f2:∀b∈fp,V9 X pins H2 b)
  {W:Nat->Nat->List V->Hp->Prop} {m0:Nat} (w0:W 0 m0 [] H2)
  (turn:∀i m ys H,W i m ys H->ys.length<=sizeLine/\
   ((J.stop i H/\Fin ys H)\/
    (J.go i H/\∃N:List V->Hp->Prop,(∀ys' H',N ys' H'->∃m',m'<m/\W (i+1) m' ys' H')/\
     ∀x H',J.yld i H x H'->g x (Ym own.length ix σ) H' fun σ2 H2=>σ2.drop own.length=(Ym own.length ix σ).drop own.length/\tt σ2 H2 fun b H3=>if b=true then te σ2 H3 fun y H4=>N (ys++[y]) H4 else N ys H3)))
  (hRR:∀(D C:Addr)(oC:Obj)(m:Str->Option Value)(s':Shared)(H':Hp)(ys:List V),Inv X (pins++[(C,oC)]) σ (upd H' D (.lst ys)) s'->s'.heap.get? C=some oC->s'.heap.Ns C m->V9 X pins (upd H' D (.lst ys)) C->H' D=none->Fin ys H'->RR (.ref D) C (.ok .next) s') :
  wpAny (model X.prog X.w) X.A (newList []) (fun acc s₃=>wpAny (model X.prog X.w) X.A (newFunctionEnv scope X.env.globals (Y0 X.env.cells scope.names []) [] X.env.qual none .none (some X.env)) (fun cenv s₄=>
   codeAny (model X.prog X.w) X.A (.compStart (.ListComp elt [⟨tg,iter,ifs,0⟩] scope pos) 0 (.ref it) acc { cenv with scope:=relabel scope X.env }) (RR acc cenv.locals) s₄) E s₃) E s2:=by
 have hfp:∀b∈fp,b<s2.heap.objs.size:=fun b hb=>by
  obtain⟨o,e,_⟩:=T.obj 0 s2.heap st2 b hb
  exact Heap.lt_size e
 refine wpAny_newObj_type (wpAny_newFunctionEnv S.nocell (by intro y hy;simp at hy) (fun h₁ hns₁ hsb₁=>?_) S.kind)
 dsimp only at hns₁ hsb₁ ⊢
 generalize hH2:s2.heap.push { cls:=.type "list",dict:=none,data:=.seq ([]:List Value).toArray }=G2 at hns₁ hsb₁ ⊢
 have hC:G2.objs.size=s2.heap.objs.size+1:=by rw[<-hH2,Heap.size_push]
 generalize hCC:G2.objs.size=C at hns₁ hsb₁ hC ⊢
 generalize hDD:s2.heap.objs.size=D at hC ⊢
 have hDC:D≠C:=by omega
 have below:∀b,b<s2.heap.objs.size->b≠C/\b≠D:=fun b hb=>by
  rw[hDD] at hb
  exact⟨Nat.ne_of_lt (by omega),Nat.ne_of_lt hb⟩
 have old:∀b o,s2.heap.get? b=some o->h₁.get? b=some o:=fun b o e=>hsb₁.extBut b o (below b (Heap.lt_size e)).1 (Heap.get?_push_of_some _ (hH2▸Heap.get?_push_of_some _ e))
 have hacc:h₁.get? D=some { cls:=.type "list",data:=.seq ([]:List Value).toArray 0 }:=by
  have e0:G2.get? D=some { cls:=.type "list",data:=.seq ([]:List Value).toArray 0 }:=by
   rw[<-hH2,<-hDD]
   exact Heap.get?_push_size _ rfl
  exact hsb₁.extBut _ _ hDC (Heap.get?_push_of_some _ e0)
 have hns₁':h₁.Ns C fun _=>none:=by simpa using hns₁
 have I0:=fun tk=>MY (tk:=tk) S I2 f2 hfp (C:=C) (by omega) hns₁' old
 -- what stays true of the iterator's objects in the block
 have loop:∀s₃:Shared,s₃={ s2 with heap:=h₁,toks:=s2.toks+([]:List (Str×Value)).length }->
   codeAny (model X.prog X.w) X.A (.compLoop (.ListComp elt [⟨tg,iter,ifs,0⟩] scope pos) 0 (.ref it) (.ref D) (compEnvC scope (Y0 X.env.cells scope.names []) C X.env)) (RR (.ref D) C) s₃:=by
  rintro s₃ rfl
  generalize hY:ZP X (own++fr) scope (Y0 X.env.cells scope.names []) C s2 H2 fp=Y at I0
  have stat:∀{H':Hp}{pn:List (Addr×Obj)},(∀b∈fp,H' b=none)->(∀p∈pn,∀b∈fp,p.1≠b)->∀b∈fp,V9 Y pn H' b:=fun{H' pn} hn hp b hb=>by
   subst hY
   refine⟨hn b hb,(below b (hfp b hb)).1,fun z=>?_,.inl hb,fun x c e=>?_,fun p hp'=>hp p hp' b hb⟩
   ·exact(I0 0).ok.exfs b hb z
   ·exact((I0 0).ok.exf b hb).2 x c e
  have dfp:∀b∈fp,D≠b:=fun b hb=>Ne.symm (below b (hfp b hb)).2
  have hcellD:∀x c,Y.env.cells.lookup x=some c->c≠D:=fun x c e z=>by
   subst hY
   have e:(Y0 X.env.cells scope.names []).lookup x=some c:=e
   have e':=UT scope.names [] (S.clos I2) (fun h=>by simp at h) e
   obtain⟨v,q⟩:=I2.cell x c e'
   exact(below c q.lt).2 z
  have hfsD:D∉Y.fs:=fun z=>by
   subst hY
   obtain⟨_,o,ho,_⟩:=(I0 0).ok.funs.mem z
   have:=Heap.lt_size ho
   have:D<s2.heap.objs.size:=this
   omega
  have eL:Y.env.locals=C:=by subst hY;rfl
  have eS:Y.s₀=s2:=by subst hY;rfl
  have eP:Y.pn=[]:=by subst hY;rfl
  refine Qm (fun n s'=>∃i ys its nn H',Inv Y [] (Ym own.length ix σ) H' s'/\tn i s'.heap/\(∀b∈fp,H' b=none)/\s'.heap.get? D=some { cls:=.type "list",data:=.seq its nn }/\Vals ys its.toList/\H' D=none/\W i n ys H') ?_ m0
   ⟨0,[],#[],0,H2,I0 _,T.keep _ _ _ st2 fun b _ o e=>old b o e,fun b hb=>(f2 b hb).1,hacc,.nil,I2.hok.fresh (by omega),w0⟩
  rintro n s3 ⟨i,ys,its,nn,H3,I3,st3,fr3,oD,vD,nD,w3⟩
  obtain⟨hlen,cases3⟩:=turn i n ys H3 w3
  have hsize:its.size<=sizeLine:=by
   have:=vD.length
   simp only[Array.length_toList] at this;omega
  have pD:Inv Y [(D,{ cls:=.type "list",data:=.seq its nn })] (Ym own.length ix σ) H3 s3:=I3.pins_of fun p hp=>by
   rw[List.mem_singleton.mp hp]
   exact⟨oD,nD,by rw[eL];exact hDC,hfsD,fun v z=>by cases z⟩
  have YP:Y.prog=X.prog:=by subst hY;rfl
  have Yw:Y.w=X.w:=by subst hY;rfl
  have YK:Y.K=X.K:=by subst hY;rfl
  have YA:Y.A=X.A:=by subst hY;rfl
  have Yx:Y.xe=fun _ _=>False:=by subst hY;rfl
  have Ye:Y.env=compEnvC scope (Y0 X.env.cells scope.names []) C X.env:=by subst hY;rfl
  have ne1:∀p∈[((D,{ cls:=.type "list",data:=.seq its nn }):Addr×Obj)],∀b∈fp,p.1≠b:=fun p hp b hb=>by rw[List.mem_singleton.mp hp];exact dfp b hb
  rcases cases3 with⟨stop,qn⟩ | ⟨go,N,hN,step⟩
  ·have d:=T.done Y YP Yw YK (by subst hY;exact hcalm) i _ s3 _ H3 (notedBy (model X.prog X.w) X.A (compEnvC scope (Y0 X.env.cells scope.names []) C X.env) fun e s'=>RR (.ref D) C (.error e) s') pD (stat fr3 ne1) st3 stop
   rw[YA] at d
   refine YS d fun r s4 ⟨hr,I4⟩=>?_
   subst hr
   show RR (.ref D) C (.ok .next) s4
   obtain⟨oD4,nD4,_⟩:=I4.pin (D,_) (by rw[eP];exact List.mem_cons_self)
   obtain⟨m,hn,_⟩:=I4.loc
   rw[eL] at hn
   obtain⟨oC,es,ep,hoC,hdC,hrest⟩:=id hn
   have hfreeC:H3 C=none:=by have:=I4.free;rw[eL] at this;exact this
   have un:Un (PZ X.stack) fp H2 H3 s2.heap s4.heap:=by
    have:=I4.base
    subst hY;exact this
   have lt2:∀b o,s2.heap.get? b=some o->b≠D:=fun b o e=>(below b (Heap.lt_size e)).2
   have un':Un (PZ X.stack) fp H2 (upd H3 D (.lst ys)) s2.heap s4.heap:=by
    refine⟨un.keep,un.slot,fun b o e n hx=>?_,un.there,fun b xs e=>?_,fun b o u e=>?_,fun b ps e=>?_⟩
    ·rw[upd_ne (lt2 b o e)];exact un.free b o e n hx
    ·have q:=un.tups b xs e
     rw[upd_ne (ZG q nD4)];exact q
    ·have q:=un.frzs b o u e
     rw[upd_ne (ZG q nD4)];exact q
    ·obtain⟨more,q⟩:=un.tbls b ps e
     exact⟨more,by rw[upd_ne (ZG q nD4)];exact q⟩
   have hok4:HOk X.prog X.w H3 s4.heap:=by
    have:=I4.hok
    rw[YP,Yw] at this;exact this
   have hok':HOk X.prog X.w (upd H3 D (.lst ys)) s4.heap:=fun b u q=>by
    by_cases hb:b=D
    ·subst hb
     rw[Zx] at q;cases q
     exact⟨hlen,its.toList,nn,vD,by simpa using oD4⟩
    ·rw[upd_ne hb] at q
     exact(hok4 b u q).stay (fun c v _ z=>z) (fun c z=>by rw[upd_ne (ZG z nD4)];exact z) fun c xs z=>by rw[upd_ne (ZG z nD4)];exact z
   have os4:s4.os=s2.os:=by rw[I4.os,eS]
   have I5:Inv X pins σ (upd H3 D (.lst ys)) s4:=I2.call' os4 un' hok' I4.bare fun b hb=>⟨(f2 b hb).2.2.2.1,(f2 b hb).2.1,(f2 b hb).2.2.2.2.1,(f2 b hb).2.2.2.2.2⟩
   have CL:C≠X.env.locals:=fun z=>by
    exact(below _ I2.lt).1 z.symm
   have fpC:V9 X pins (upd H3 D (.lst ys)) C:=I2.fpOk (by omega) (by rw[upd_ne (Ne.symm hDC)];exact hfreeC)
   refine hRR D C oC m s4 H3 ys (I5.pins_of fun p hp=>?_) hoC hn fpC nD4 qn
   rcases List.mem_append.mp hp with z | z
   ·exact I5.pin p (List.mem_append_right _ z)
   ·rw[List.mem_singleton.mp z]
    exact⟨hoC,fpC.1,fpC.2.1,fpC.2.2.1,fun v z=>by rw[hdC] at z;cases z⟩
  ·have d:=T.item Y YP Yw YK (by subst hY;exact hcalm) i _ s3 _ H3 (fun _ _=>False) pD (stat fr3 ne1) st3 go
   rw[YA] at d
   refine wpAny_mono d (fun r s4 ⟨u,hr,h4⟩=>?_) fun _ _ z=>z.elim
   subst hr
   refine wpAny_mono h4 (fun _ s5 ⟨x,H5,I5,r5,y5,st5,fr5⟩=>?_) fun _ _ z=>z.elim
   have I5':=I5.pinned (stat fr5 ne1) (T.obj _ _ st5)
   have hg':=hg (Y0 X.env.cells scope.names []) C s2 H2 fp
   have ht':=ht (Y0 X.env.cells scope.names []) C s2 H2 fp
   have he':=he (Y0 X.env.cells scope.names []) C s2 H2 fp
   rw[hY] at hg' ht' he'
   have a6:=hg' _ s5 _ H5 x u _ I5' r5 (step x H5 y5)
   rw[YP,Yw,YA,Ye,Yx] at a6
   refine wpAny_mono a6 (fun _ s6 ⟨σ6,H6,I6,dr,q6⟩=>?_) fun _ _ z=>z.elim
   have a7:=ht' _ s6 σ6 H6 _ I6 q6;rw[YP,Yw,YA,Ye,Yx] at a7
   refine wpAny_mono a7 (fun ok s7 ⟨H7,I7,q7⟩=>?_) fun _ _ z=>z.elim
   have back:∀{H8:Hp}{s8:Shared},Inv Y ([((D,{ cls:=.type "list",data:=.seq its nn }):Addr×Obj)]++UQ fp s5.heap) σ6 H8 s8->
     s8.heap.get? D=some { cls:=.type "list",data:=.seq its nn }/\H8 D=none/\tn (i+1) s8.heap/\(∀b∈fp,H8 b=none):=fun{H8 s8} I8=>by
    obtain⟨e1,e2,_⟩:=I8.pin (D,{ cls:=.type "list",data:=.seq its nn }) (by rw[eP];exact List.mem_cons_self)
    refine⟨e1,e2,T.keep _ _ _ st5 fun b hb o e=>(I8.pin (b,o) (by rw[eP];exact List.mem_cons_of_mem _ (Wx hb e))).1,fun b hb=>?_⟩
    obtain⟨o,e,_⟩:=T.obj _ _ st5 b hb
    exact(I8.pin (b,o) (by rw[eP];exact List.mem_cons_of_mem _ (Wx hb e))).2.1
   have unp:∀{H8:Hp}{s8:Shared},Inv Y ([((D,{ cls:=.type "list",data:=.seq its nn }):Addr×Obj)]++UQ fp s5.heap) σ6 H8 s8->Inv Y [] (Ym own.length ix σ) H8 s8:=fun{H8 s8} I8=>
    (I8.pins_of (pins':=[]) fun p hp=>absurd hp (by simp)).weak (by
     have e1:=(I0 0).len
     have e2:=I8.len
     rw[e1,e2]) (Mc dr)
   cases ok with
   | false=>
    rw[if_neg Bool.false_ne_true] at q7
    show ∃m,m<n/\_
    obtain⟨e1,e2,e3,e4⟩:=back I7
    obtain⟨m',hm,w7⟩:=hN _ _ q7
    exact⟨m',hm,i+1,ys,its,nn,H7,unp I7,e3,e4,e1,vD,e2,w7⟩
   | true=>
    rw[if_pos rfl] at q7
    show wpAny _ _ _ _ _ _
    have a8:=he' _ s7 σ6 H7 _ I7 q7;rw[YP,Yw,YA,Ye,Yx] at a8
    refine wpAny_mono a8 (fun yv s8 ⟨y,H8,I8,ry,q8⟩=>?_) fun _ _ z=>z.elim
    obtain⟨e1,e2,e3,e4⟩:=back I8
    obtain⟨m',hm,w8⟩:=hN _ _ q8
    refine append_at e1 (fun h9 hs9 hD9=>?_) hsize
    have I9:Inv Y [] (Ym own.length ix σ) H8 { s8 with heap:=h9 }:=(unp I8).turned (t':=s8.toks) (it:=D) (fun b o hb e=>hs9.extBut b o hb e) e2 (by rw[eL];exact hDC) (.inr (by rw[eS];omega)) hcellD (fun p hp=>absurd (show p∈([]:List (Addr×Obj)) by rw[eP] at hp;exact hp) (by simp))
    refine⟨m',hm,i+1,ys++[y],its.push yv,nn+1,H8,I9,T.keep _ _ _ e3 fun b hb o e=>hs9.extBut b o (Ne.symm (dfp b hb)) e,e4,hD9,?_,e2,w8⟩
    rw[Array.toList_push]
    exact vD.append (.cons ry .nil)
 exact codeAny_compStart_list (loop _ rfl) (T.self X.A 0 _ _ _ (T.keep _ _ _ st2 fun b _ o e=>old b o e) (loop _ rfl))
theorem KT(hcalm:X.calm=true)(hi:PI X tg iter wi)(S:CompScope X.N X.env.scope scope own fr ix)
  (hg:∀cl C s H ex,PG (ZP X (own++fr) scope cl C s H ex) tg g) (ht:∀cl C s H ex,MX (ZP X (own++fr) scope cl C s H ex) ifs tt) (he:∀cl C s H ex,PE (ZP X (own++fr) scope cl C s H ex) elt te)
  (hs:∀x,foldedSetIterable iter X.env x=pure x:=by intro _;rfl):PE X (.ListComp elt [⟨tg,iter,ifs,0⟩] scope pos) (RL own.length ix wi g tt te):=by
 intro pins s σ H Q I h;rw[eval_ListComp]
 refine wpAny_comprehension_free (use:=none) (cl:=Y0 X.env.cells scope.names []) rfl hs (VY (S.clos I)) S.kind S.names (YS (hi pins s σ H _ I h) fun v s1 h1=>YS h1 fun itv s2 h2=>?_)
 obtain⟨it,fp,tn,J,H2,e,I2,T,st2,f2,W,⟨m0,w0⟩,turn⟩:=h2
 subst e
 refine Sr (Fin:=fun ys H=>∀p,H p=none->Q (.ref p) (upd H p (.lst ys))) (RR:=fun acc C=>compPost (model X.prog X.w) X.A X.xe none (EP X pins σ Q) acc C) hcalm S hg ht he I2 T st2 f2 w0 turn ?_
 intro D C oC m s' H' ys I5 hoC hn fpC nD fin
 refine⟨m,hn,fun h' hs'=>⟨.ref D,upd H' D (.lst ys),?_,rfl,fin D nD⟩⟩
 exact(I5.unpinned (pl:=[(C,oC)])).turned (t':=s'.toks) (it:=C) (fun b o hb e=>hs'.extBut b o hb e) fpC.1 fpC.2.1 fpC.2.2.2.1 fpC.2.2.2.2.1 fpC.2.2.2.2.2
theorem KU{i:Nat}{y:Str}{py spos:Pos}(hN:X.N.Nodup)(hy:X.N[i]?=some y)(hloc:X.env.scope.names.lookup y=some .local)(hcalm:X.calm=true)(hi:PI X tg iter wi)(S:CompScope X.N X.env.scope scope own fr ix)
  (hg:∀cl C s H ex,PG (ZP X (own++fr) scope cl C s H ex) tg g) (ht:∀cl C s H ex,MX (ZP X (own++fr) scope cl C s H ex) ifs tt) (he:∀cl C s H ex,PE (ZP X (own++fr) scope cl C s H ex) elt te)
  (hsw:swapsWith (.ListComp elt [⟨tg,iter,ifs,0⟩] scope pos) (some (.Name y py)) spos.line X.env=pure true:=by rfl)
  (hs:∀x,foldedSetIterable iter X.env x=pure x:=by intro _;rfl):PS X (.Assign [.Name y py] (.ListComp elt [⟨tg,iter,ifs,0⟩] scope pos) spos) (Q8 (RL own.length ix wi g tt te) (Tz i)):=by
 intro pins s σ H D0 I h;rw[exec_Assign_Name_used _ _ _ _ hsw]
 refine wpAny_bind (wpAny_standAt (wpAny_bind ?_))
 show wpAny _ X.A (do let _ <-comprehension (.ListComp elt [⟨tg,iter,ifs,0⟩] scope pos) scope X.env _ (newList []) false (eval iter X.env) (some (assign (.Name y py) X.env))) _ _ s
 refine wpAny_bind (wpAny_mono (wpAny_comprehension_free (cl:=Y0 X.env.cells scope.names []) (use:=some (assign (.Name y py) X.env)) (Q:=fun _ s'=>SP X pins D0 .next s') (E:=X.xe) rfl hs (VY (S.clos I)) S.kind S.names
  (YS (hi pins s σ H _ I h) fun v s1 h1=>YS h1 fun itv s2 h2=>?_)) (fun _ s' hq=>wpAny_pure (wpAny_pure hq)) fun _ _ e=>e)
 obtain⟨it,fp,tn,J,H2,e,I2,T,st2,f2,W,⟨m0,w0⟩,turn⟩:=h2
 subst e
 refine Sr (Fin:=fun ys H=>∀p,H p=none->Tz i (.ref p) σ (upd H p (.lst ys)) D0.nx) (RR:=fun acc C=>compPost (model X.prog X.w) X.A X.xe (some (assign (.Name y py) X.env)) (fun _ s'=>SP X pins D0 .next s') acc C) hcalm S hg ht he I2 T st2 f2 w0 turn ?_
 intro D C oC m s' H' ys I5 hoC hn fpC nD fin
 show wpAny _ X.A (assign (.Name y py) X.env (.ref D)) _ _ _
 refine wpAny_assign_Name (Si I5 hN hy (.inl hloc) (v:=.ref D) rfl (fun s6 I6=>?_) (.inr hloc))
 obtain⟨e6,_⟩:=I6.pin (C,oC) (List.mem_append_right _ (List.mem_append_right _ List.mem_cons_self))
 obtain⟨o',es,ep,ho',r'⟩:=hn
 rw[hoC] at ho';cases ho'
 refine⟨m,⟨oC,es,ep,e6,r'⟩,fun h' hs'=>⟨_,upd H' D (.lst ys),?_,fin D nD⟩⟩
 exact(I6.unpinned (pl:=[(C,oC)])).turned (t':=s6.toks) (it:=C) (fun b o hb e=>hs'.extBut b o hb e) fpC.1 fpC.2.1 fpC.2.2.2.1 fpC.2.2.2.2.1 fpC.2.2.2.2.2
end
open AutoSeq1 (wpAny_loadPart')
section
variable {prog:Program} {w:World} {A:Around} {E:Value->Shared->Prop} {s:Shared}
theorem Ub{it l:Addr}{i:Nat}{items}{x:Value}{Q:Value->Shared->Prop}(hit:s.heap.IsTupleIter it l i)
  (hl:s.heap.IsTuple l items) (hx:items[i]?=some x)
  (hQ:∀h',h'.IsTupleIter it l (i+1)->Heap.SameBut it s.heap h'->Q x { s with heap:=h' }) :
  wpAny (model prog w) A (Builtin.SmallTypes.nextOf (.ref it)) Q E s:=by
 obtain⟨o,ho,hc,hd⟩:=id hit
 obtain⟨ol,hol,_,nl,hdl⟩:=hl
 unfold Builtin.SmallTypes.nextOf
 refine wpAny_bind (wpAny_callSpecial?_slot (name:=Str.ofString "__next__") hit.typeIs F.slot_tuple_iterator_next
  (wpAny_call_entry F.slot_tuple_iterator_next hit.typeIs F.entry_tuple_iterator_next ?_ (F.args_tuple_iterator_next_1 _)))
 show wpAny _ _ (field (.ref it) 0 >>= _) _ _ s
 refine wpAny_bind (wpAny_field ho hd (x:=.ref l) rfl ?_)
 show wpAny _ _ (if(Value.ref l==Value.none)=true then _ else _) _ _ s
 rw[if_neg (show ¬((Value.ref l==Value.none)=true) from Bool.false_ne_true)]
 show wpAny _ _ (field (.ref it) 1 >>= _) _ _ s
 refine wpAny_bind (wpAny_field ho hd (x:=.int i 0) rfl ?_)
 show wpAny _ _ (seqItems? (.ref l) >>= _) _ _ s
 refine wpAny_bind (wpAny_seqItems hol hdl ?_)
 simp only[Int.toNat_natCast,hx]
 refine wpAny_bind (wpAny_setField ho hd (by simp) (wpAny_pure ⟨x,rfl,wpAny_pure (hQ _ ?_ (Heap.SameBut.update ..))⟩))
 exact⟨_,Heap.get?_update_self _ ho (Obj.isFreed_of_fields (Obj.data_mapFields hd _)),(Obj.cls_mapFields ..).trans hc,by
  rw[Obj.data_mapFields hd];simp[rawInt]⟩
theorem UV{it l:Addr}{i:Nat}{items}{Q:Value->Shared->Prop}(hh:A.handled=none)
  (hit:s.heap.IsTupleIter it l i) (hl:s.heap.IsTuple l items) (hx:items[i]?=none)
  (hE:∀h' e,Heap.ExtBut it s.heap h'->(∃o,h'.get? e=some o/\o.cls = .type "StopIteration")->E (.ref e) { s with heap:=h' }) :
  wpAny (model prog w) A (Builtin.SmallTypes.nextOf (.ref it)) Q E s:=by
 obtain⟨o,ho,hc,hd⟩:=id hit
 obtain⟨ol,hol,_,nl,hdl⟩:=hl
 unfold Builtin.SmallTypes.nextOf
 refine wpAny_bind (wpAny_callSpecial?_slot (name:=Str.ofString "__next__") hit.typeIs F.slot_tuple_iterator_next
  (wpAny_call_entry F.slot_tuple_iterator_next hit.typeIs F.entry_tuple_iterator_next ?_ (F.args_tuple_iterator_next_1 _)))
 show wpAny _ _ (field (.ref it) 0 >>= _) _ _ s
 refine wpAny_bind (wpAny_field ho hd (x:=.ref l) rfl ?_)
 show wpAny _ _ (if(Value.ref l==Value.none)=true then _ else _) _ _ s
 rw[if_neg (show ¬((Value.ref l==Value.none)=true) from Bool.false_ne_true)]
 show wpAny _ _ (field (.ref it) 1 >>= _) _ _ s
 refine wpAny_bind (wpAny_field ho hd (x:=.int i 0) rfl ?_)
 show wpAny _ _ (seqItems? (.ref l) >>= _) _ _ s
 refine wpAny_bind (wpAny_seqItems hol hdl ?_)
 simp only[Int.toNat_natCast,hx]
 refine wpAny_bind (wpAny_rule (wpAny_bind (wpAny_setField ho hd (by simp) ?_)))
 show wpAny _ _ (newExc (.type "StopIteration") [] >>= _) _ _ _
 refine wpAny_bind ?_
 simp only[newExc,newTuple]
 refine wpAny_bind (wpAny_newObj_type ?_ (by size_fits))
 refine wpAny_bind (m:=firstArgMember _ _) (wpAny_of_eq (a:=Value.none) (by first | rfl | (simp only[firstArgMember];rfl)) ?_)
 refine wpAny_newObj_type ?_ (by size_fits)
 simp only[raiseNew]
 refine wpAny_bind (wpAny_handled ?_)
 first | rw[show A.in1.handled=none from hh] | rw[hh]
 refine wpAny_bind (wpAny_pure (wpAny_throw ?_))
 exact hE _ _ (((Heap.SameBut.update ..).extBut.push _).push _) ⟨_,Heap.get?_push_size _ rfl,rfl⟩
end
def SeqB(b:Bool)(h:Heap)(a:Addr)(its:Array Value):Prop:=if b=true then h.IsList a its else h.IsTuple a its
def IterB(b:Bool)(h:Heap)(it a:Addr)(i:Nat):Prop:=if b=true then h.IsListIter it a i else h.IsTupleIter it a i
def Rr(b:Bool)(K:PySem.W.Frag)(H:Hp)(a:Addr)(xs:List V):Prop:=if b=true then SqL K H a xs else SqT K H a xs
def WU(b:Bool)(a:Addr):Obj:={ cls:=.type (if b=true then "list_iterator" else "tuple_iterator"),data:=.fields #[.ref a,.int 0 0] }
theorem SeqB.at{b:Bool}{h h':Heap}{a:Addr}{its:Array Value}(x:SeqB b h a its)(k:∀o,h.get? a=some o->h'.get? a=some o):SeqB b h' a its:=by
 cases b with
 | true=>obtain⟨o,e,r⟩:=(show h.IsList a its from x);exact⟨o,k o e,r⟩
 | false=>obtain⟨o,e,r⟩:=(show h.IsTuple a its from x);exact⟨o,k o e,r⟩
theorem SeqB.has{b:Bool}{h:Heap}{a:Addr}{its:Array Value}(x:SeqB b h a its):∃o,h.get? a=some o:=by
 cases b with
 | true=>obtain⟨o,e,r⟩:=(show h.IsList a its from x);exact⟨o,e⟩
 | false=>obtain⟨o,e,r⟩:=(show h.IsTuple a its from x);exact⟨o,e⟩
theorem IterB.at{b:Bool}{h h':Heap}{it a:Addr}{i:Nat}(x:IterB b h it a i)(k:∀o,h.get? it=some o->h'.get? it=some o):IterB b h' it a i:=by
 cases b with
 | true=>obtain⟨o,e,r⟩:=(show h.IsListIter it a i from x);exact⟨o,k o e,r⟩
 | false=>obtain⟨o,e,r⟩:=(show h.IsTupleIter it a i from x);exact⟨o,k o e,r⟩
theorem IterB.has{b:Bool}{h:Heap}{it a:Addr}{i:Nat}(x:IterB b h it a i):∃o,h.get? it=some o/\∀v,o.data≠.cell v:=by
 cases b with
 | true=>obtain⟨o,e,_,d⟩:=(show h.IsListIter it a i from x);exact⟨o,e,fun v z=>by rw[d] at z;cases z⟩
 | false=>obtain⟨o,e,_,d⟩:=(show h.IsTupleIter it a i from x);exact⟨o,e,fun v z=>by rw[d] at z;cases z⟩
theorem IterB.new{b:Bool}{h:Heap}{it a:Addr}(e:h.get? it=some (WU b a)):IterB b h it a 0:=by
 cases b with
 | true=>exact⟨_,e,rfl,rfl⟩
 | false=>exact⟨_,e,rfl,rfl⟩
section
variable {X:Cx} {pins:List (Addr×Obj)} {σ:St} {H:Hp} {s:Shared} {a:Addr} {xs ys:List V} {b:Bool}
theorem Inv.seqB(I:Inv X pins σ H s)(h:Rr b X.K H a xs):∃its:List Value,Vals xs its/\SeqB b s.heap a its.toArray/\xs.length<=sizeLine:=by
 cases b with
 | true=>
  obtain⟨its,r,p,z⟩:=I.list (show SqL X.K H a xs from h)
  exact⟨its,r,p.isList,z⟩
 | false=>
  obtain⟨its,r,p,z⟩:=I.tuple (show SqT X.K H a xs from h)
  exact⟨its,r,p,z⟩
theorem Inv.seqB_inj(I:Inv X pins σ H s)(h:Rr b X.K H a xs)(h':Rr b X.K H a ys):xs=ys:=by
 cases b with
 | true=>exact I.list_inj (show SqL X.K H a xs from h) (show SqL X.K H a ys from h')
 | false=>exact I.tuple_inj (show SqT X.K H a xs from h) (show SqT X.K H a ys from h')
end
theorem Draws.seq{prog:Program}{w:World}{A:Around}(b:Bool)(hh:A.handled=none)(it l:Addr)(hne:l≠it)(items:Array Value) :
  Draws prog w A it [it,l] items.size (fun i v=>items[i]?=some v) (fun i h=>IterB b h it l i/\SeqB b h l items) where
 live:=fun _ _ st=>let⟨o,ho,_⟩:=st.1.has;⟨o,ho⟩
 frame:=fun _ _ _ st hk=>⟨st.1.at fun o e=>hk it (by simp) o e,st.2.at fun o e=>hk l (by simp) o e⟩
 item:=fun i s Q E hi st hQ=>by
  cases b with
  | true=>
   refine wpAny_nextOf_list_item (show s.heap.IsListIter it l i from st.1) (show s.heap.IsList l items from st.2) (x:=items[i]) (by simp[hi]) fun h' hit' hs'=>?_
   exact hQ _ h' s.toks (by simp[hi]) ⟨hit',st.2.at fun o e=>hs'.extBut l o hne e⟩ hs'
  | false=>
   refine Ub (show s.heap.IsTupleIter it l i from st.1) (show s.heap.IsTuple l items from st.2) (x:=items[i]) (by simp[hi]) fun h' hit' hs'=>?_
   exact hQ _ h' s.toks (by simp[hi]) ⟨hit',st.2.at fun o e=>hs'.extBut l o hne e⟩ hs'
 done:=fun s Q E st hE=>by
  cases b with
  | true=>exact wpAny_nextOf_list_end hh (show s.heap.IsListIter it l _ from st.1) (show s.heap.IsList l items from st.2) (by simp) hE
  | false=>exact UV hh (show s.heap.IsTupleIter it l _ from st.1) (show s.heap.IsTuple l items from st.2) (by simp) hE
theorem YF{prog:Program}{w:World}{A:Around}{E:Value->Shared->Prop}{s:Shared}{b:Bool}{a:Addr}{its:Array Value}{Q:Value->Shared->Prop}(h:SeqB b s.heap a its)
  (hQ:Q (.ref s.heap.objs.size) { s with heap:=s.heap.push (WU b a) }):wpAny (model prog w) A (pyIter (.ref a)) Q E s:=by
 cases b with
 | true=>exact wpAny_pyIter_list (show s.heap.IsList a its from h) hQ
 | false=>exact wpAny_pyIter_tuple (show s.heap.IsTuple a its from h) hQ
set_option maxHeartbeats 4000000 in
theorem Ss(b:Bool)(l:Addr)(items:Array Value) :
  Meets (Builtin.«enumerate.__new__» ⟨[.type "enumerate",.ref l],[]⟩) (fun _ R s=>SeqB b s.heap l items/\
   R (.ok (.ret (.ref (s.heap.push (WU b l)).objs.size)))
    { s with heap:=(s.heap.push (WU b l)).push { cls:=.type "enumerate",data:=.fields #[.none,.bool false,.ref s.heap.objs.size,rawInt 0,.none,.none] } }):=
 .of_wp fun prog w A R s h=>by
  obtain⟨hp,g,d,tk,os⟩:=s;obtain⟨hl,h⟩:=h
  have hsub:=sub_enumerate
  obtain⟨o,ho⟩:=hl.has
  have hL:SeqB b (Shared.heap ⟨hp,g,d,tk,os⟩) l items:=hl
  wp_walk using wpAny_loadPart' ho
  refine wpAny_stack_any fun st=>wpAny_pure ?_
  split
  ·rename_i c _ _ _ _ _
   cases (c==Value.type "enumerate")
   ·wp_walk using wpAny_loadPart' ho,YF hL
    exact⟨_,rfl,h⟩
   ·wp_walk using wpAny_loadPart' ho,YF hL
    exact⟨_,rfl,h⟩
  ·wp_walk using wpAny_loadPart' ho,YF hL
   exact⟨_,rfl,h⟩
section
variable {prog:Program} {w:World} {A:Around} {E:Value->Shared->Prop} {s:Shared}
theorem Rw{b:Bool}{l:Addr}{items:Array Value}{Q:Value->Shared->Prop}(hL:SeqB b s.heap l items)
  (h:∀h',IsEnum h' (s.heap.objs.size+1) s.heap.objs.size 0 .none->IterB b h' s.heap.objs.size l 0->h'.objs.size=s.heap.objs.size+2->
   (∀b o,s.heap.get? b=some o->h'.get? b=some o)->Q (.ref (s.heap.objs.size+1)) { s with heap:=h' }) :
  wpAny (model prog w) A (call (.type "enumerate") [.ref l]) Q E s:=by
 refine callType_new F.called_enumerate (by decide) (F.typeCall_enumerate_1 _) (F.newCall_enumerate_1 _) (fun obj=>F.args_object_init_2 obj _) F.entry_enumerate_new
  (Ss b l items) ⟨hL,?_⟩
 have hz:(s.heap.push (WU b l)).objs.size=s.heap.objs.size+1:=Heap.size_push ..
 show _/\_
 rw[hz]
 have he:IsEnum ((s.heap.push (WU b l)).push
   { cls:=.type "enumerate",data:=.fields #[.none,.bool false,.ref s.heap.objs.size,rawInt 0,.none,.none] }) (s.heap.objs.size+1) s.heap.objs.size 0 .none:=by
  have:=Heap.get?_push_size (s.heap.push (WU b l))
   (o:={ cls:=.type "enumerate",data:=.fields #[.none,.bool false,.ref s.heap.objs.size,rawInt 0,.none,.none] }) rfl
  rw[hz] at this;exact this
 refine⟨⟨_,he,rfl⟩,h _ he (IterB.new (Heap.get?_push_of_some _ (Heap.get?_push_size _ rfl))) (by rw[Heap.size_push,hz]) fun b o x=>Heap.get?_push_of_some _ (Heap.get?_push_of_some _ x)⟩
end
def Fk(b:Bool)(K:PySem.W.Frag)(a:Addr):It:=
  ⟨fun i H=>∃xs x,Rr b K H a xs/\xs[i]?=some x,
   fun i H v H'=>∃p x,H p=none/\v = .ref p/\H'=upd H p (.tup [.int i,x])/\∀xs,Rr b K H a xs->xs[i]?=some x,
   fun i H=>∃xs,Rr b K H a xs/\xs.length=i⟩
theorem Md{P:Program}{w:World}{K:PySem.W.Frag}{elts:List Expr}{k:Nat}{pos:Pos}(b:Bool)(a e it:Addr)(hei:e≠it) :
  P5 P w K (.Tuple elts k pos) (Fk b K a) [e,it] e (fun i h=>(∃old,IsEnum h e it i old)/\IterB b h it a i) where
 mem:=by simp
 obj:=fun i h st c hc=>by
  rcases List.mem_cons.mp hc with rfl | hc
  ·obtain⟨⟨old,q⟩,_⟩:=st
   exact⟨_,q,fun v z=>by cases z⟩
  ·rw[List.mem_singleton.mp hc]
   exact st.2.has
 keep:=fun i h h' st kk=>⟨let⟨old,q⟩:=st.1;⟨old,kk e (by simp) _ q⟩,st.2.at fun o q=>kk it (by simp) o q⟩
 item:=by
  intro X hP hw hK hc i pins s σ H E I hf st hg
  subst hP hw hK
  obtain⟨xs,x,hq,hx⟩:=hg
  obtain⟨its,rv,p,hz⟩:=I.seqB hq
  obtain⟨u,hu,ru⟩:=rv.get hx
  obtain⟨⟨old,he⟩,hit⟩:=st
  have fe:=hf e (by simp)
  have fi:=hf it (by simp)
  obtain⟨oa,hoa⟩:=p.has
  have tra:H a=none->a<X.s₀.heap.objs.size\/True:=fun _=>.inr trivial
  -- the sequence is neither record
  have ne_of_fp:∀c,V9 X pins H c->(∃oc,s.heap.get? c=some oc/\∃n vs,oc.cls = .type n/\oc.data = .fields vs)->a≠c:=fun c _ ⟨oc,hoc,n,vs,hn,hv⟩ z=>by
   subst z
   rw[hoa] at hoc;cases hoc
   cases b with
   | true=>obtain⟨o,e1,_,m,d⟩:=(show s.heap.IsList a its.toArray from p);rw[hoa] at e1;cases e1;rw[hv] at d;cases d
   | false=>obtain⟨o,e1,_,m,d⟩:=(show s.heap.IsTuple a its.toArray from p);rw[hoa] at e1;cases e1;rw[hv] at d;cases d
  have ae:a≠e:=ne_of_fp e fe ⟨_,he,_,_,rfl,rfl⟩
  have ai:a≠it:=ne_of_fp it fi (by
   cases b with
   | true=>obtain⟨o,e1,c1,d1⟩:=(show s.heap.IsListIter it a i from hit);exact⟨o,e1,_,_,c1,d1⟩
   | false=>obtain⟨o,e1,c1,d1⟩:=(show s.heap.IsTupleIter it a i from hit);exact⟨o,e1,_,_,c1,d1⟩)
  have D:=Draws.seq (prog:=X.prog) (w:=X.w) (A:=X.A.in1) b (I.ok.hd hc) it a ai its.toArray
  have hlt:i<its.toArray.size:=by
   have:=(List.getElem?_eq_some_iff.mp hu).1
   simpa using this
  refine wpAny_pyNext_enum_itemD D he ⟨hit,p⟩ hlt hei (by simp[hei,Ne.symm ae]) fun y h' tk hPy ho hs' hT hsz hk=>?_
  have ey:y=u:=by
   have q1:its.toArray[i]?=some y:=hPy
   have q2:its.toArray[i]?=some u:=by simpa using hu
   rw[q1] at q2;exact Option.some.inj q2
  subst ey
  refine⟨_,rfl,wpAny_letOwnedTupleGo_enum ho fun h2 he2 hs2=>?_⟩
  have hs2:Heap.SameBut e h' h2:=hs2
  have Tne:s.heap.objs.size≠e:=Nat.ne_of_gt (Heap.lt_size he)
  have hTn:H s.heap.objs.size=none:=I.hok.fresh (Nat.le_refl _)
  have kk:∀c o,c∉[e,it]->s.heap.get? c=some o->h2.get? c=some o:=fun c o hc' q=>hs2.extBut c o (fun z=>hc' (by simp[z])) (hk c o (fun z=>hc' (by simp[z])) (fun z=>hc' (by simp[z])) q)
  have hT2:h2.get? s.heap.objs.size=some { cls:=.type "tuple",data:=.seq #[.int i tk,y] }:=hs2.extBut _ _ Tne hT
  have hcs:∀c∈[e,it],(c∈X.ex\/X.s₀.heap.objs.size<=c)/\c≠X.env.locals/\(∀x d,X.env.cells.lookup x=some d->d≠c)/\∀p∈X.pn++pins,p.1≠c:=fun c hc'=>by
   have f:=hf c hc'
   exact⟨f.2.2.2.1,f.2.1,f.2.2.2.2.1,f.2.2.2.2.2⟩
  have nfp:∀c u',H c=some u'->c∉[e,it]:=fun c u' q hc'=>by rw[(hf c hc').1] at q;cases q
  have hok0:HOk X.prog X.w H h2:=fun c u' q=>(I.hok c u' q).stay (fun d v hd q'=>kk d v (by
    rcases hd with z | z
    ·rw[z];exact nfp c u' q
    ·exact nfp d _ z) q') (fun _ z=>z) fun _ _ z=>z
  have new:ObjOk X.prog X.w (upd H s.heap.objs.size (.tup [.int i,x])) h2 s.heap.objs.size (.tup [.int i,x]):=
   ⟨by show 2<=sizeLine;decide,[.int i tk,y],.cons ⟨tk,rfl⟩ (.cons ru .nil),⟨_,hT2,rfl,_,rfl⟩⟩
  have hok1:HOk X.prog X.w (upd H s.heap.objs.size (.tup [.int i,x])) h2:=fun c u' q=>by
   by_cases hb:c=s.heap.objs.size
   ·subst hb;rw[Zx] at q;cases q;exact new
   ·rw[upd_ne hb] at q
    exact(hok0 c u' q).stay (fun d v _ q'=>q') (fun d z=>by rw[upd_ne (ZG z hTn)];exact z) fun d zs z=>by rw[upd_ne (ZG z hTn)];exact z
  have un:Un (PZ X.stack) [e,it] H (upd H s.heap.objs.size (.tup [.int i,x])) s.heap h2:=by
   refine⟨fun c o q _ _ hx'=>kk c o hx' q,fun c o q _ _ hx'=>⟨o.slots,kk c o hx' q⟩,fun c o q n _=>?_,fun c o q hx'=>⟨o,kk c o hx' q⟩,fun c zs q=>?_,fun c o zs q=>?_,fun c ps q=>⟨#[],?_⟩⟩
   ·rw[upd_ne (Nat.ne_of_lt (Heap.lt_size q))];exact n
   ·rw[upd_ne (ZG q hTn)];exact q
   ·rw[upd_ne (ZG q hTn)];exact q
   ·rw[upd_ne (ZG q hTn),q];simp
  have I2:Inv X pins σ (upd H s.heap.objs.size (.tup [.int i,x])) { s with heap:=h2,toks:=tk+1 }:=I.call (g':=s.gens) (d':=s.drawn) un hok1 I.bare hcs
  refine⟨.ref s.heap.objs.size,upd H s.heap.objs.size (.tup [.int i,x]),I2,rfl,⟨_,x,hTn,rfl,rfl,fun zs hzs=>by rw[I.seqB_inj hzs hq];exact hx⟩,⟨⟨y,by simpa using he2⟩,?_⟩,fun c hc'=>?_⟩
  ·exact hs'.1.at fun o q=>hs2.extBut it o (Ne.symm hei) q
  ·rw[upd_ne (Nat.ne_of_lt (by
    rcases List.mem_cons.mp hc' with rfl | hc'
    ·exact Heap.lt_size he
    ·rw[List.mem_singleton.mp hc'];obtain⟨o,q,_⟩:=hit.has;exact Heap.lt_size q))]
   exact(hf c hc').1
 done:=by
  intro X hP hw hK hc i pins s σ H E I hf st hg
  subst hP hw hK
  obtain⟨xs,hq,hx⟩:=hg
  obtain⟨its,rv,p,hz⟩:=I.seqB hq
  obtain⟨⟨old,he⟩,hit⟩:=st
  have fi:=hf it (by simp)
  obtain⟨oa,hoa⟩:=p.has
  have ai:a≠it:=fun z=>by
   subst z
   cases b with
   | true=>
    obtain⟨o,e1,_,m,d⟩:=(show s.heap.IsList a its.toArray from p)
    obtain⟨o',e2,_,d2⟩:=(show s.heap.IsListIter a a i from hit)
    rw[e1] at e2;cases e2;rw[d] at d2;cases d2
   | false=>
    obtain⟨o,e1,_,m,d⟩:=(show s.heap.IsTuple a its.toArray from p)
    obtain⟨o',e2,_,d2⟩:=(show s.heap.IsTupleIter a a i from hit)
    rw[e1] at e2;cases e2;rw[d] at d2;cases d2
  have D:=Draws.seq (prog:=X.prog) (w:=X.w) (A:=X.A.in1) b (I.ok.hd hc) it a ai its.toArray
  have hl:=rv.length
  have hi:i=its.toArray.size:=by simp;omega
  refine wpAny_pyNext_enum_endD D he (by rw[<-hi];exact⟨hit,p⟩) fun h' hx'=>⟨rfl,?_⟩
  obtain⟨f0,f1,f2,f3,f4,f5⟩:=fi
  exact I.turned (t':=s.toks) (fun c o hb q=>hx' c o hb q) f0 f1 f3 f4 f5
 self:=fun A i s Q E st hQ=>by
  obtain⟨⟨old,he⟩,_⟩:=st
  exact wpAny_pyIter_enum he hQ
end L2
namespace L2
open PySem PySem.Spec PyProof.Rows
section
variable {X:Cx}
def Gf(b:Bool)(K:PySem.W.Frag)(ta:TA):TI:=fun σ H R=>ta σ H fun vs H1=>∃a,vs=[.ref a]/\(∃xs,Rr b K H1 a xs)/\R (Fk b K a) H1
theorem KW{elts:List Expr}{k:Nat}{tpos:Pos}(b:Bool){a:Expr}{ta:TA}{p pos:Pos}(hg:Gl X "enumerate")(hm:X.mg "enumerate" = none)(ha:PA X [a] ta)(hs:starEach [a] X.env=[(false,eval a X.env)]:=by rfl) :
  PI X (.Tuple elts k tpos) (.Call (.Name "enumerate" p) [a] [] pos) (Gf b X.K ta):=by
 intro pins s σ H R I h
 refine Call_ (Ww I hg hm (by decide +kernel:bootBuiltins "enumerate" = some (.type "enumerate")) (PyProof.Rows.callWith_type1 (YS (ha pos pins s σ H _ I h) fun us s1 ⟨vs,H1,I1,r1,q1⟩=>?_) hs rfl))
 obtain⟨a,e,⟨xs,hq⟩,q⟩:=q1
 subst e
 cases r1 with
 | cons r rr=>
  cases rr;cases r
  obtain⟨its,rv,hseq,hz⟩:=I1.seqB hq
  refine Rw hseq fun h' he hit hsz hk=>?_
  refine wpAny_pyIter_enum he ?_
  have I2:Inv X pins σ H1 { s1 with heap:=h' }:=I1.kept (t':=s1.toks) hk
  have ne:s1.heap.objs.size+1≠s1.heap.objs.size:=Nat.ne_of_gt (Nat.lt_succ_self _)
  refine⟨s1.heap.objs.size+1,[s1.heap.objs.size+1,s1.heap.objs.size],_,_,H1,rfl,I2,Md b a (s1.heap.objs.size+1) s1.heap.objs.size ne,⟨⟨.none,he⟩,hit⟩,fun c hc=>?_,q⟩
  rcases List.mem_cons.mp hc with rfl | hc
  ·exact I1.fpOk (Nat.le_succ _) (I1.hok.fresh (Nat.le_succ _))
  ·rw[List.mem_singleton.mp hc]
   exact I1.fpOk (Nat.le_refl _) (I1.hok.fresh (Nat.le_refl _))
end
section
variable {prog:Program} {w:World} {A:Around} {E:Value->Shared->Prop} {s:Shared}
structure RM(z TI TO i1 i2:Addr)(fp1 fp2:List Addr):Prop where
 TIz:TI≠z
 TOz:TO≠z
 i1z:i1≠z
 i2z:i2≠z
 TITO:TI≠TO
 TIi1:TI≠i1
 TIi2:TI≠i2
 TOi1:TO≠i1
 TOi2:TO≠i2
 i12:i1≠i2
 z1:z∉fp1
 TO1:TO∉fp1
 i21:i2∉fp1
 z2:z∉fp2
 TO2:TO∉fp2
 i12':i1∉fp2
theorem MZ{z TI TO i1 i2:Addr}{fp1 fp2:List Addr}{n1 n2 k:Nat}{P1 P2:Nat->Value->Prop}{St1 St2:Nat->Heap->Prop}{a b:Value}{Q:Value->Shared->Prop}(D:RM z TI TO i1 i2 fp1 fp2)
  (D1:Draws prog w A i1 fp1 n1 P1 St1) (D2:Draws prog w A i2 fp2 n2 P2 St2)
  (hz:IsZip s.heap z TI TO .none) (hTI:IsPair s.heap TI (.ref i1) (.ref i2)) (hTO:IsPair s.heap TO a b)
  (h1:St1 k s.heap) (h2:St2 k s.heap) (hx:k<n1) (hy:k<n2)
  (hQ:∀x y h' tk,P1 k x->P2 k y->IsZip h' z TI TO (rawInt s.heap.objs.size)->IsPair h' TO x y->St1 (k+1) h'->St2 (k+1) h'->IsPair h' s.heap.objs.size x y->h'.objs.size=s.heap.objs.size+1->
   (∀c o,c≠z->c≠TO->c≠i1->c≠i2->s.heap.get? c=some o->h'.get? c=some o)->Q (.ref s.heap.objs.size) { s with heap:=h',toks:=tk }) :
  wpAny (model prog w) A (Builtin.«zip.__next__» ⟨[.ref z],[]⟩) (fun fin s'=>∃v,fin = .done (.ret v)/\Q v s') E s:=by
 show wpAny _ _ (field (.ref z) 2 >>= _) _ _ _
 refine wpAny_bind (wpAny_field hz rfl (x:=.bool false) rfl ?_)
 show wpAny _ _ (field (.ref z) 3 >>= _) _ _ _
 refine wpAny_bind (wpAny_field hz rfl (x:=.ref TI) rfl ?_)
 refine wpAny_bind (wpAny_seqItems hTI rfl ?_)
 show wpAny _ _ (Builtin.SmallTypes.ownedTupleIsFree (.ref z) >>= _) _ _ _
 refine wpAny_bind ?_
 unfold Builtin.SmallTypes.ownedTupleIsFree
 refine wpAny_bind (wpAny_field hz rfl (x:=.none) rfl (wpAny_pure ?_))
 simp only[if_true]
 refine wpAny_bind (wpAny_rule ?_)
 refine wpAny_bind (wpAny_field hz rfl (x:=.ref TO) rfl ?_)
 refine wpAny_bind (wpAny_setField_rec hz (by simp) fun h₁ hz₁ hs₁=>?_)
 replace hz₁:IsZip h₁ z TI TO .ellipsis:=hz₁
 refine wpAny_bind ?_
 simp only[List.zipIdx_cons,List.zipIdx_nil,List.forIn_cons,List.forIn_nil]
 refine wpAny_bind (wpAny_bind (wpAny_onRaise ?_))
 show wpAny _ _ (Builtin.SmallTypes.nextOf (.ref i1) >>= _) _ _ _
 have st1:St1 k h₁:=D1.frame _ _ _ h1 fun c hc o e=>hs₁.extBut c o (fun q=>D.z1 (q▸hc)) e
 refine wpAny_bind (D1.item k _ _ _ hx st1 fun x h₂ tk₂ hPx h1₂ hs₂=>wpAny_pure ?_)
 replace hs₂:Heap.SameBut i1 h₁ h₂:=hs₂
 have hTO₂:IsPair h₂ TO a b:=hs₂.extBut _ _ D.TOi1 (hs₁.extBut _ _ D.TOz hTO)
 refine wpAny_bind (wpAny_seqItems hTO₂ rfl ?_)
 refine wpAny_bind (wpAny_updateSeq_pair hTO₂ fun h₃ hTO₃ hs₃=>?_)
 replace hTO₃:IsPair h₃ TO x b:=hTO₃
 replace hs₃:Heap.SameBut TO h₂ h₃:=hs₃
 refine wpAny_bind (wpAny_letGo (wpAny_pure ?_))
 refine wpAny_bind (wpAny_bind (wpAny_onRaise ?_))
 show wpAny _ _ (Builtin.SmallTypes.nextOf (.ref i2) >>= _) _ _ _
 have st2:St2 k h₃:=D2.frame _ _ _ h2 fun c hc o e=>hs₃.extBut c o (fun q=>D.TO2 (q▸hc)) (hs₂.extBut c o (fun q=>D.i12' (q▸hc)) (hs₁.extBut c o (fun q=>D.z2 (q▸hc)) e))
 refine wpAny_bind (D2.item k _ _ _ hy st2 fun y h₄ tk₄ hPy h2₄ hs₄=>wpAny_pure ?_)
 replace hs₄:Heap.SameBut i2 h₃ h₄:=hs₄
 have hTO₄:IsPair h₄ TO x b:=hs₄.extBut _ _ D.TOi2 hTO₃
 refine wpAny_bind (wpAny_seqItems hTO₄ rfl ?_)
 refine wpAny_bind (wpAny_updateSeq_pair hTO₄ fun h₅ hTO₅ hs₅=>?_)
 replace hTO₅:IsPair h₅ TO x y:=hTO₅
 replace hs₅:Heap.SameBut TO h₄ h₅:=hs₅
 refine wpAny_bind (wpAny_letGo (wpAny_pure (wpAny_pure ?_)))
 refine wpAny_bind (wpAny_seqItems hTO₅ rfl ?_)
 refine wpAny_bind (wpAny_newTuple ?_)
 have hsz:h₅.objs.size=s.heap.objs.size:=by rw[hs₅.1,hs₄.1,hs₃.1,hs₂.1,hs₁.1]
 have hz₅:IsZip h₅ z TI TO .ellipsis:=hs₅.extBut _ _ D.TOz.symm (hs₄.extBut _ _ D.i2z.symm (hs₃.extBut _ _ D.TOz.symm (hs₂.extBut _ _ D.i1z.symm hz₁)))
 have hk₅:∀c o,c≠z->c≠TO->c≠i1->c≠i2->s.heap.get? c=some o->h₅.get? c=some o:=fun c o c1 c2 c3 c4 e=>
  hs₅.extBut _ _ c2 (hs₄.extBut _ _ c4 (hs₃.extBut _ _ c2 (hs₂.extBut _ _ c3 (hs₁.extBut _ _ c1 e))))
 have h1₅:St1 (k+1) h₅:=D1.frame _ _ _ h1₂ fun c hc o e=>hs₅.extBut c o (fun q=>D.TO1 (q▸hc)) (hs₄.extBut c o (fun q=>D.i21 (q▸hc)) (hs₃.extBut c o (fun q=>D.TO1 (q▸hc)) e))
 have h2₅:St2 (k+1) h₅:=D2.frame _ _ _ h2₄ fun c hc o e=>hs₅.extBut c o (fun q=>D.TO2 (q▸hc)) e
 have hzlt:z<h₅.objs.size:=Heap.lt_size hz₅
 have hTOlt:TO<h₅.objs.size:=Heap.lt_size hTO₅
 show wpAny _ _ (Builtin.SmallTypes.ownedTupleHandOut (.ref z) (.ref h₅.objs.size) >>= _) _ _ _
 refine wpAny_bind ?_
 unfold Builtin.SmallTypes.ownedTupleHandOut
 have hz₆:IsZip (h₅.push { cls:=.type "tuple",data:=.seq #[x,y] }) z TI TO .ellipsis:=Heap.get?_push_of_some _ hz₅
 refine wpAny_bind (wpAny_setField_rec hz₆ (by simp) fun h₇ hz₇ hs₇=>?_)
 replace hz₇:IsZip h₇ z TI TO (rawInt h₅.objs.size):=hz₇
 refine wpAny_setField_rec hz₇ (by simp) fun h₈ hz₈ hs₈=>?_
 replace hz₈:IsZip h₈ z TI TO (rawInt h₅.objs.size):=hz₈
 have up:∀c o,c≠z->h₅.get? c=some o->h₈.get? c=some o:=fun c o c1 e=>hs₈.extBut _ _ c1 (hs₇.extBut _ _ c1 (Heap.get?_push_of_some _ e))
 have hT₈:IsPair h₈ h₅.objs.size x y:=hs₈.extBut _ _ (Nat.ne_of_gt hzlt) (hs₇.extBut _ _ (Nat.ne_of_gt hzlt) (Heap.get?_push_size _ rfl))
 have hz8:h₈.objs.size=h₅.objs.size+1:=by rw[hs₈.1,hs₇.1,Heap.size_push]
 rw[hsz] at hz₈ hT₈ hz8
 refine wpAny_pure ⟨_,rfl,?_⟩
 show Q (.ref h₅.objs.size) _
 rw[hsz]
 exact hQ x y h₈ tk₄ hPx hPy hz₈ (up _ _ D.TOz hTO₅) (D1.frame _ _ _ h1₅ fun c hc o e=>up c o (fun q=>D.z1 (q▸hc)) e) (D2.frame _ _ _ h2₅ fun c hc o e=>up c o (fun q=>D.z2 (q▸hc)) e) hT₈ hz8 fun c o c1 c2 c3 c4 e=>up c o c1 (hk₅ c o c1 c2 c3 c4 e)
theorem KY{z TI TO i1 i2:Addr}{fp1 fp2:List Addr}{n1 n2 k:Nat}{P1 P2:Nat->Value->Prop}{St1 St2:Nat->Heap->Prop}{a b:Value}{Q:PySem.Fin->Shared->Prop}(D:RM z TI TO i1 i2 fp1 fp2)
  (D1:Draws prog w A i1 fp1 n1 P1 St1) (D2:Draws prog w A i2 fp2 n2 P2 St2)
  (hz:IsZip s.heap z TI TO .none) (hTI:IsPair s.heap TI (.ref i1) (.ref i2)) (hTO:IsPair s.heap TO a b)
  (h1:St1 k s.heap) (h2:St2 k s.heap) (hend:k=n1\/(k<n1/\k=n2))
  (hE:∀h' tk e,(∀c o,c≠z->c≠TO->c≠i1->c≠i2->s.heap.get? c=some o->h'.get? c=some o)->(∃o,h'.get? e=some o/\o.cls = .type "StopIteration")->E (.ref e) { s with heap:=h',toks:=tk }) :
  wpAny (model prog w) A (Builtin.«zip.__next__» ⟨[.ref z],[]⟩) Q E s:=by
 show wpAny _ _ (field (.ref z) 2 >>= _) _ _ _
 refine wpAny_bind (wpAny_field hz rfl (x:=.bool false) rfl ?_)
 show wpAny _ _ (field (.ref z) 3 >>= _) _ _ _
 refine wpAny_bind (wpAny_field hz rfl (x:=.ref TI) rfl ?_)
 refine wpAny_bind (wpAny_seqItems hTI rfl ?_)
 show wpAny _ _ (Builtin.SmallTypes.ownedTupleIsFree (.ref z) >>= _) _ _ _
 refine wpAny_bind ?_
 unfold Builtin.SmallTypes.ownedTupleIsFree
 refine wpAny_bind (wpAny_field hz rfl (x:=.none) rfl (wpAny_pure ?_))
 simp only[if_true]
 refine wpAny_bind (wpAny_rule ?_)
 refine wpAny_bind (wpAny_field hz rfl (x:=.ref TO) rfl ?_)
 refine wpAny_bind (wpAny_setField_rec hz (by simp) fun h₁ hz₁ hs₁=>?_)
 replace hz₁:IsZip h₁ z TI TO .ellipsis:=hz₁
 replace hs₁:Heap.SameBut z s.heap h₁:=hs₁
 refine wpAny_bind ?_
 simp only[List.zipIdx_cons,List.zipIdx_nil,List.forIn_cons,List.forIn_nil]
 refine wpAny_bind (wpAny_bind (wpAny_onRaise ?_))
 show wpAny _ _ (Builtin.SmallTypes.nextOf (.ref i1) >>= _) _ _ _
 have st1:St1 k h₁:=D1.frame _ _ _ h1 fun c hc o e=>hs₁.extBut c o (fun q=>D.z1 (q▸hc)) e
 rcases hend with hk | ⟨hx,hk⟩
 ·rw[hk] at st1
  refine wpAny_bind (D1.done _ _ _ st1 fun h₂ e hs₂ he=>?_)
  replace hs₂:Heap.ExtBut i1 h₁ h₂:=hs₂
  obtain⟨oe,hoe,hce⟩:=he
  have hz₂:IsZip h₂ z TI TO .ellipsis:=hs₂ _ _ D.i1z.symm hz₁
  have hez:e≠z:=fun x=>by subst x;rw[hz₂] at hoe;cases hoe;simp at hce
  refine wpAny_setField_rec hz₂ (by simp) fun h₃ _ hs₃=>?_
  replace hs₃:Heap.SameBut z h₂ h₃:=hs₃
  exact hE h₃ _ e (fun c o c1 _ c3 _ x=>hs₃.extBut _ _ c1 (hs₂ _ _ c3 (hs₁.extBut _ _ c1 x))) ⟨oe,hs₃.extBut _ _ hez hoe,hce⟩
 ·refine wpAny_bind (D1.item k _ _ _ hx st1 fun x h₂ tk₂ hPx h1₂ hs₂=>wpAny_pure ?_)
  replace hs₂:Heap.SameBut i1 h₁ h₂:=hs₂
  have hTO₂:IsPair h₂ TO a b:=hs₂.extBut _ _ D.TOi1 (hs₁.extBut _ _ D.TOz hTO)
  refine wpAny_bind (wpAny_seqItems hTO₂ rfl ?_)
  refine wpAny_bind (wpAny_updateSeq_pair hTO₂ fun h₃ hTO₃ hs₃=>?_)
  replace hs₃:Heap.SameBut TO h₂ h₃:=hs₃
  refine wpAny_bind (wpAny_letGo (wpAny_pure ?_))
  refine wpAny_bind (wpAny_bind (wpAny_onRaise ?_))
  show wpAny _ _ (Builtin.SmallTypes.nextOf (.ref i2) >>= _) _ _ _
  have st2:St2 k h₃:=D2.frame _ _ _ h2 fun c hc o e=>hs₃.extBut c o (fun q=>D.TO2 (q▸hc)) (hs₂.extBut c o (fun q=>D.i12' (q▸hc)) (hs₁.extBut c o (fun q=>D.z2 (q▸hc)) e))
  rw[hk] at st2
  refine wpAny_bind (D2.done _ _ _ st2 fun h₄ e hs₄ he=>?_)
  replace hs₄:Heap.ExtBut i2 h₃ h₄:=hs₄
  obtain⟨oe,hoe,hce⟩:=he
  have hz₄:IsZip h₄ z TI TO .ellipsis:=hs₄ _ _ D.i2z.symm (hs₃.extBut _ _ D.TOz.symm (hs₂.extBut _ _ D.i1z.symm hz₁))
  have hez:e≠z:=fun x=>by subst x;rw[hz₄] at hoe;cases hoe;simp at hce
  refine wpAny_setField_rec hz₄ (by simp) fun h₅ _ hs₅=>?_
  replace hs₅:Heap.SameBut z h₄ h₅:=hs₅
  exact hE h₅ _ e (fun c o c1 c2 c3 c4 x=>hs₅.extBut _ _ c1 (hs₄ _ _ c4 (hs₃.extBut _ _ c2 (hs₂.extBut _ _ c3 (hs₁.extBut _ _ c1 x))))) ⟨oe,hs₅.extBut _ _ hez hoe,hce⟩
theorem TJ{z TI TO i1 i2:Addr}{fp1 fp2:List Addr}{n1 n2 k:Nat}{P1 P2:Nat->Value->Prop}{St1 St2:Nat->Heap->Prop}{a b:Value}{Q:Option Value->Shared->Prop}(D:RM z TI TO i1 i2 fp1 fp2)
  (D1:Draws prog w A.in1 i1 fp1 n1 P1 St1) (D2:Draws prog w A.in1 i2 fp2 n2 P2 St2)
  (hz:IsZip s.heap z TI TO .none) (hTI:IsPair s.heap TI (.ref i1) (.ref i2)) (hTO:IsPair s.heap TO a b)
  (h1:St1 k s.heap) (h2:St2 k s.heap) (hx:k<n1) (hy:k<n2)
  (hQ:∀x y h' tk,P1 k x->P2 k y->IsZip h' z TI TO (rawInt s.heap.objs.size)->IsPair h' TO x y->St1 (k+1) h'->St2 (k+1) h'->IsPair h' s.heap.objs.size x y->h'.objs.size=s.heap.objs.size+1->
   (∀c o,c≠z->c≠TO->c≠i1->c≠i2->s.heap.get? c=some o->h'.get? c=some o)->Q (some (.ref s.heap.objs.size)) { s with heap:=h',toks:=tk }) :
  wpAny (model prog w) A (pyNext (.ref z)) Q E s:=by
 have hT:s.TypeIs (.ref z) "zip":=⟨_,hz,rfl⟩
 unfold pyNext
 exact wpAny_bind (wpAny_attempt (wpAny_callSpecial?_slot (name:=Str.ofString "__next__") hT F.slot_zip_next
  (wpAny_call_entry F.slot_zip_next hT F.entry_zip_next
   (MZ D D1 D2 hz hTI hTO h1 h2 hx hy fun x y h' tk p1 p2 a1 a2 a3 a4 a5 a6 a7=>wpAny_pure (hQ x y h' tk p1 p2 a1 a2 a3 a4 a5 a6 a7)) (F.args_zip_next_1 _))))
theorem Su{z TI TO i1 i2:Addr}{fp1 fp2:List Addr}{n1 n2 k:Nat}{P1 P2:Nat->Value->Prop}{St1 St2:Nat->Heap->Prop}{a b:Value}{Q:Option Value->Shared->Prop}(D:RM z TI TO i1 i2 fp1 fp2)
  (D1:Draws prog w A.in1 i1 fp1 n1 P1 St1) (D2:Draws prog w A.in1 i2 fp2 n2 P2 St2)
  (hz:IsZip s.heap z TI TO .none) (hTI:IsPair s.heap TI (.ref i1) (.ref i2)) (hTO:IsPair s.heap TO a b)
  (h1:St1 k s.heap) (h2:St2 k s.heap) (hend:k=n1\/(k<n1/\k=n2))
  (hQ:∀h' tk,(∀c o,c≠z->c≠TO->c≠i1->c≠i2->s.heap.get? c=some o->h'.get? c=some o)->Q none { s with heap:=h',toks:=tk }):wpAny (model prog w) A (pyNext (.ref z)) Q E s:=by
 have hT:s.TypeIs (.ref z) "zip":=⟨_,hz,rfl⟩
 unfold pyNext
 refine wpAny_bind (wpAny_attempt (wpAny_callSpecial?_slot (name:=Str.ofString "__next__") hT F.slot_zip_next
  (wpAny_call_entry F.slot_zip_next hT F.entry_zip_next (KY D D1 D2 hz hTI hTO h1 h2 hend fun h' tk e hk he=>?_) (F.args_zip_next_1 _))))
 obtain⟨o,ho,hc⟩:=he
 refine wpAny_bind (wpAny_isInstance (T:="StopIteration") (b:=true) ⟨o,ho,hc⟩ isSubtype_stop ?_)
 exact wpAny_pure (hQ _ tk hk)
end
abbrev GA(h:Heap)(b1:Bool)(l1:Addr):Heap:=h.push (WU b1 l1)
abbrev GB(h:Heap)(b1 b2:Bool)(l1 l2:Addr):Heap:=(GA h b1 l1).push (WU b2 l2)
abbrev GC(h:Heap)(b1 b2:Bool)(l1 l2:Addr):Heap:=(GB h b1 b2 l1 l2).push { cls:=.type "tuple",data:=.seq #[.ref h.objs.size,.ref (GA h b1 l1).objs.size] }
abbrev GD(h:Heap)(b1 b2:Bool)(l1 l2:Addr):Heap:=(GC h b1 b2 l1 l2).push { cls:=.type "tuple",data:=.seq #[.none,.none] }
abbrev II(h:Heap)(b1 b2:Bool)(l1 l2:Addr):Heap:=(GD h b1 b2 l1 l2).push { cls:=.type "zip",data:=.fields #[.none,.bool false,.bool false,.ref (GB h b1 b2 l1 l2).objs.size,.ref (GC h b1 b2 l1 l2).objs.size] }
theorem Rx(b1 b2:Bool)(l1 l2:Addr)(xs ys:Array Value) :
  Meets (Builtin.«zip.__new__» ⟨[.type "zip",.ref l1,.ref l2],[]⟩) (fun _ R s=>SeqB b1 s.heap l1 xs/\SeqB b2 s.heap l2 ys/\
   R (.ok (.ret (.ref (GD s.heap b1 b2 l1 l2).objs.size))) { s with heap:=II s.heap b1 b2 l1 l2 }):=
 .of_wp fun prog w A R s h=>by
  obtain⟨hp,g,d,tk,os⟩:=s;obtain⟨hl1,hl2,h⟩:=h
  have hsub:=sub_zip
  have hL1:SeqB b1 (Shared.heap ⟨hp,g,d,tk,os⟩) l1 xs:=hl1
  have hL2:SeqB b2 (Shared.heap ⟨hp.push (WU b1 l1),g,d,tk,os⟩) l2 ys:=hl2.at fun o e=>Heap.get?_push_of_some _ e
  wp_walk using YF hL1,YF hL2
  exact⟨_,rfl,h⟩
section
variable {prog:Program} {w:World} {A:Around} {E:Value->Shared->Prop} {s:Shared}
theorem Qn{b1 b2:Bool}{l1 l2:Addr}{xs ys:Array Value}{Q:Value->Shared->Prop}(hl1:SeqB b1 s.heap l1 xs)(hl2:SeqB b2 s.heap l2 ys)
  (h:∀h',IsZip h' (s.heap.objs.size+4) (s.heap.objs.size+2) (s.heap.objs.size+3) .none->IsPair h' (s.heap.objs.size+2) (.ref s.heap.objs.size) (.ref (s.heap.objs.size+1))->
   IsPair h' (s.heap.objs.size+3) .none .none->IterB b1 h' s.heap.objs.size l1 0->IterB b2 h' (s.heap.objs.size+1) l2 0->h'.objs.size=s.heap.objs.size+5->
   (∀c o,s.heap.get? c=some o->h'.get? c=some o)->Q (.ref (s.heap.objs.size+4)) { s with heap:=h' }) :
  wpAny (model prog w) A (call (.type "zip") [.ref l1,.ref l2]) Q E s:=by
 refine callType_new F.called_zip (by decide) (F.typeCall_zip_2 _ _) (F.newCall_zip_2 _ _) (fun obj=>F.args_object_init_3 obj _ _) F.entry_zip_new
  (Rx b1 b2 l1 l2 xs ys) ⟨hl1,hl2,?_⟩
 have z1:(GA s.heap b1 l1).objs.size=s.heap.objs.size+1:=Heap.size_push ..
 have z2:(GB s.heap b1 b2 l1 l2).objs.size=s.heap.objs.size+2:=by rw[Heap.size_push,z1]
 have z3:(GC s.heap b1 b2 l1 l2).objs.size=s.heap.objs.size+3:=by rw[Heap.size_push,z2]
 have z4:(GD s.heap b1 b2 l1 l2).objs.size=s.heap.objs.size+4:=by rw[Heap.size_push,z3]
 have z5:(II s.heap b1 b2 l1 l2).objs.size=s.heap.objs.size+5:=by rw[Heap.size_push,z4]
 have g5:(II s.heap b1 b2 l1 l2).get? (GD s.heap b1 b2 l1 l2).objs.size=some _:=Heap.get?_push_size _ rfl
 have g4:(II s.heap b1 b2 l1 l2).get? (GC s.heap b1 b2 l1 l2).objs.size=some _:=Heap.get?_push_of_some _ (Heap.get?_push_size _ rfl)
 have g3:(II s.heap b1 b2 l1 l2).get? (GB s.heap b1 b2 l1 l2).objs.size=some _:=Heap.get?_push_of_some _ (Heap.get?_push_of_some _ (Heap.get?_push_size _ rfl))
 have g2:(II s.heap b1 b2 l1 l2).get? (GA s.heap b1 l1).objs.size=some (WU b2 l2):=Heap.get?_push_of_some _ (Heap.get?_push_of_some _ (Heap.get?_push_of_some _ (Heap.get?_push_size _ rfl)))
 have g1:(II s.heap b1 b2 l1 l2).get? s.heap.objs.size=some (WU b1 l1):=Heap.get?_push_of_some _ (Heap.get?_push_of_some _ (Heap.get?_push_of_some _ (Heap.get?_push_of_some _ (Heap.get?_push_size _ rfl))))
 show _/\_
 rw[z2,z3,z4] at g5;rw[z1,z2] at g3;rw[z3] at g4;rw[z1] at g2;rw[z4]
 exact⟨⟨_,g5,rfl⟩,h _ g5 g3 g4 (IterB.new g1) (IterB.new g2) z5 fun c o x=>
  Heap.get?_push_of_some _ (Heap.get?_push_of_some _ (Heap.get?_push_of_some _ (Heap.get?_push_of_some _ (Heap.get?_push_of_some _ x))))⟩
end
theorem Inv.newTup{X:Cx}{pins:List (Addr×Obj)}{σ:St}{H:Hp}{s:Shared}{fp:List Addr}{h2:Heap}{tk n:Nat}{us:List Value}{xs:List V}(I:Inv X pins σ H s)(hf:∀b∈fp,V9 X pins H b)
  (kk:∀c o,c∉fp->s.heap.get? c=some o->h2.get? c=some o) (hT:h2.get? s.heap.objs.size=some { cls:=.type "tuple",data:=.seq us.toArray n }) (rv:Vals xs us) (hz:xs.length<=sizeLine) :
  Inv X pins σ (upd H s.heap.objs.size (.tup xs)) { s with heap:=h2,toks:=tk }:=by
 have hTn:H s.heap.objs.size=none:=I.hok.fresh (Nat.le_refl _)
 have hcs:∀c∈fp,(c∈X.ex\/X.s₀.heap.objs.size<=c)/\c≠X.env.locals/\(∀x d,X.env.cells.lookup x=some d->d≠c)/\∀p∈X.pn++pins,p.1≠c:=fun c hc'=>by
  have f:=hf c hc'
  exact⟨f.2.2.2.1,f.2.1,f.2.2.2.2.1,f.2.2.2.2.2⟩
 have nfp:∀c u',H c=some u'->c∉fp:=fun c u' q hc'=>by rw[(hf c hc').1] at q;cases q
 have hok0:HOk X.prog X.w H h2:=fun c u' q=>(I.hok c u' q).stay (fun d v hd q'=>kk d v (by
   rcases hd with z | z
   ·rw[z];exact nfp c u' q
   ·exact nfp d _ z) q') (fun _ z=>z) fun _ _ z=>z
 have new:ObjOk X.prog X.w (upd H s.heap.objs.size (.tup xs)) h2 s.heap.objs.size (.tup xs):=
  ⟨hz,us,rv,⟨_,hT,rfl,_,rfl⟩⟩
 have hok1:HOk X.prog X.w (upd H s.heap.objs.size (.tup xs)) h2:=fun c u' q=>by
  by_cases hb:c=s.heap.objs.size
  ·subst hb;rw[Zx] at q;cases q;exact new
  ·rw[upd_ne hb] at q
   exact(hok0 c u' q).stay (fun d v _ q'=>q') (fun d z=>by rw[upd_ne (ZG z hTn)];exact z) fun d zs z=>by rw[upd_ne (ZG z hTn)];exact z
 have un:Un (PZ X.stack) fp H (upd H s.heap.objs.size (.tup xs)) s.heap h2:=by
  refine⟨fun c o q _ _ hx'=>kk c o hx' q,fun c o q _ _ hx'=>⟨o.slots,kk c o hx' q⟩,fun c o q n _=>?_,fun c o q hx'=>⟨o,kk c o hx' q⟩,fun c zs q=>?_,fun c o zs q=>?_,fun c ps q=>⟨#[],?_⟩⟩
  ·rw[upd_ne (Nat.ne_of_lt (Heap.lt_size q))];exact n
  ·rw[upd_ne (ZG q hTn)];exact q
  ·rw[upd_ne (ZG q hTn)];exact q
  ·rw[upd_ne (ZG q hTn),q];simp
 exact I.call (g':=s.gens) (d':=s.drawn) un hok1 I.bare hcs
theorem Inv.turnedL{X:Cx}{pins:List (Addr×Obj)}{σ:St}{H:Hp}{s:Shared}{fp:List Addr}{h2:Heap}{tk:Nat}(I:Inv X pins σ H s)(hf:∀b∈fp,V9 X pins H b)
  (kk:∀c o,c∉fp->s.heap.get? c=some o->h2.get? c=some o):Inv X pins σ H { s with heap:=h2,toks:=tk }:=by
 have hcs:∀c∈fp,(c∈X.ex\/X.s₀.heap.objs.size<=c)/\c≠X.env.locals/\(∀x d,X.env.cells.lookup x=some d->d≠c)/\∀p∈X.pn++pins,p.1≠c:=fun c hc'=>by
  have f:=hf c hc'
  exact⟨f.2.2.2.1,f.2.1,f.2.2.2.2.1,f.2.2.2.2.2⟩
 have nfp:∀c u',H c=some u'->c∉fp:=fun c u' q hc'=>by rw[(hf c hc').1] at q;cases q
 have hok0:HOk X.prog X.w H h2:=fun c u' q=>(I.hok c u' q).stay (fun d v hd q'=>kk d v (by
   rcases hd with z | z
   ·rw[z];exact nfp c u' q
   ·exact nfp d _ z) q') (fun _ z=>z) fun _ _ z=>z
 have un:Un (PZ X.stack) fp H H s.heap h2:=
  ⟨fun c o q _ _ hx'=>kk c o hx' q,fun c o q _ _ hx'=>⟨o.slots,kk c o hx' q⟩,fun c o q n _=>n,fun c o q hx'=>⟨o,kk c o hx' q⟩,fun c zs q=>q,fun c o zs q=>q,fun c ps q=>⟨#[],by rw[q];simp⟩⟩
 exact I.call (g':=s.gens) (d':=s.drawn) un hok0 I.bare hcs
theorem SeqB.ne_rec{b:Bool}{h:Heap}{a c:Addr}{its:Array Value}{o:Obj}{vs:Array Value}(p:SeqB b h a its)(e:h.get? c=some o)(d:o.data = .fields vs):a≠c:=fun z=>by
 subst z
 cases b with
 | true=>obtain⟨o',e1,_,m,d'⟩:=(show h.IsList a its from p);rw[e] at e1;cases e1;rw[d] at d';cases d'
 | false=>obtain⟨o',e1,_,m,d'⟩:=(show h.IsTuple a its from p);rw[e] at e1;cases e1;rw[d] at d';cases d'
theorem IterB.rec{b:Bool}{h:Heap}{it a:Addr}{i:Nat}(x:IterB b h it a i):∃o,h.get? it=some o/\∃vs,o.data = .fields vs:=by
 cases b with
 | true=>obtain⟨o,e,_,d⟩:=(show h.IsListIter it a i from x);exact⟨o,e,_,d⟩
 | false=>obtain⟨o,e,_,d⟩:=(show h.IsTupleIter it a i from x);exact⟨o,e,_,d⟩
structure IJ(a1 a2 TO TI:Addr):Prop where
 a:a1≠TO
 b:a2≠TO
 c:a1≠TI
 d:a2≠TI
def Fl(b1 b2:Bool)(K:PySem.W.Frag)(a1 a2:Addr):It:=
  ⟨fun i H=>∃xs ys x y,Rr b1 K H a1 xs/\Rr b2 K H a2 ys/\xs[i]?=some x/\ys[i]?=some y,
   fun i H v H'=>∃p x y,H p=none/\v = .ref p/\H'=upd H p (.tup [x,y])/\(∀xs,Rr b1 K H a1 xs->xs[i]?=some x)/\∀ys,Rr b2 K H a2 ys->ys[i]?=some y,
   fun i H=>∃xs ys,Rr b1 K H a1 xs/\Rr b2 K H a2 ys/\(i=xs.length\/(i<xs.length/\i=ys.length))⟩
theorem M0{P:Program}{w:World}{K:PySem.W.Frag}{elts:List Expr}{k:Nat}{pos:Pos}(b1 b2:Bool)(a1 a2 z TI TO i1 i2:Addr)(d:[z,TI,TO,i1,i2].Nodup) :
  P5 P w K (.Tuple elts k pos) (Fl b1 b2 K a1 a2) [z,TI,TO,i1,i2] z
   (fun i h=>IsZip h z TI TO .none/\IsPair h TI (.ref i1) (.ref i2)/\(∃u v,IsPair h TO u v/\IJ a1 a2 TO TI)/\IterB b1 h i1 a1 i/\IterB b2 h i2 a2 i) where
 mem:=by simp
 obj:=fun i h st c hc=>by
  obtain⟨hz,hTI,⟨u,v,hTO,_⟩,h1,h2⟩:=st
  simp only[List.mem_cons,List.not_mem_nil,or_false] at hc
  rcases hc with rfl | rfl | rfl | rfl | rfl
  ·exact⟨_,hz,fun v q=>by cases q⟩
  ·exact⟨_,hTI,fun v q=>by cases q⟩
  ·exact⟨_,hTO,fun v q=>by cases q⟩
  ·exact h1.has
  ·exact h2.has
 keep:=fun i h h' st kk=>by
  obtain⟨hz,hTI,⟨u,v,hTO,f⟩,h1,h2⟩:=st
  exact⟨kk z (by simp) _ hz,kk TI (by simp) _ hTI,⟨u,v,kk TO (by simp) _ hTO,f⟩,h1.at fun o q=>kk i1 (by simp) o q,h2.at fun o q=>kk i2 (by simp) o q⟩
 item:=by
  intro X hP hw hK hc i pins s σ H E I hf st hg
  subst hP hw hK
  obtain⟨xs,ys,x,y,hq1,hq2,hx,hy⟩:=hg
  obtain⟨its1,rv1,p1,hz1⟩:=I.seqB hq1
  obtain⟨its2,rv2,p2,hz2⟩:=I.seqB hq2
  obtain⟨u,hu,ru⟩:=rv1.get hx
  obtain⟨v,hv,rv⟩:=rv2.get hy
  obtain⟨hz,hTI,⟨q1,q2,hTO,f⟩,h1,h2⟩:=st
  obtain⟨o1,e1,vs1,d1⟩:=h1.rec
  obtain⟨o2,e2,vs2,d2⟩:=h2.rec
  have A1z:a1≠z:=p1.ne_rec hz rfl
  have A2z:a2≠z:=p2.ne_rec hz rfl
  have A11:a1≠i1:=p1.ne_rec e1 d1
  have A12:a1≠i2:=p1.ne_rec e2 d2
  have A21:a2≠i1:=p2.ne_rec e1 d1
  have A22:a2≠i2:=p2.ne_rec e2 d2
  simp only[List.nodup_cons,List.mem_cons,List.not_mem_nil,or_false,not_or,List.nodup_nil,and_true,not_false_eq_true] at d
  obtain⟨⟨dzTI,dzTO,dz1,dz2⟩,⟨dIO,dI1,dI2⟩,⟨dO1,dO2⟩,d12⟩:=d
  obtain⟨f1,f2,f3,f4⟩:=f
  have D:RM z TI TO i1 i2 [i1,a1] [i2,a2]:=⟨Ne.symm dzTI,Ne.symm dzTO,Ne.symm dz1,Ne.symm dz2,dIO,dI1,dI2,dO1,dO2,d12,by simp[dz1,Ne.symm A1z],by simp[dO1,Ne.symm f1],by simp[Ne.symm d12,Ne.symm A12],by simp[dz2,Ne.symm A2z],by simp[dO2,Ne.symm f2],by simp[d12,Ne.symm A21]⟩
  have D1:=Draws.seq (prog:=X.prog) (w:=X.w) (A:=X.A.in1) b1 (I.ok.hd hc) i1 a1 A11 its1.toArray
  have D2:=Draws.seq (prog:=X.prog) (w:=X.w) (A:=X.A.in1) b2 (I.ok.hd hc) i2 a2 A22 its2.toArray
  have l1:i<its1.toArray.size:=by simpa using(List.getElem?_eq_some_iff.mp hu).1
  have l2:i<its2.toArray.size:=by simpa using(List.getElem?_eq_some_iff.mp hv).1
  refine TJ D D1 D2 hz hTI hTO ⟨h1,p1⟩ ⟨h2,p2⟩ l1 l2 fun x' y' h' tk hPx hPy c1 c2 c3 c4 c5 c6 hk=>?_
  have ex':x'=u:=by
   have w1:its1.toArray[i]?=some x':=hPx
   have w2:its1.toArray[i]?=some u:=by simpa using hu
   rw[w1] at w2;exact Option.some.inj w2
  have ey':y'=v:=by
   have w1:its2.toArray[i]?=some y':=hPy
   have w2:its2.toArray[i]?=some v:=by simpa using hv
   rw[w1] at w2;exact Option.some.inj w2
  subst ex' ey'
  refine⟨_,rfl,wpAny_letOwnedTupleGo_zip c1 fun h3 hz3 hs3=>?_⟩
  replace hs3:Heap.SameBut z h' h3:=hs3
  have kk:∀c o,c∉[z,TI,TO,i1,i2]->s.heap.get? c=some o->h3.get? c=some o:=fun c o hc' q=>
   hs3.extBut c o (fun e=>hc' (by simp[e])) (hk c o (fun e=>hc' (by simp[e])) (fun e=>hc' (by simp[e])) (fun e=>hc' (by simp[e])) (fun e=>hc' (by simp[e])) q)
  have hTn:H s.heap.objs.size=none:=I.hok.fresh (Nat.le_refl _)
  have hT3:h3.get? s.heap.objs.size=some { cls:=.type "tuple",data:=.seq [x',y'].toArray }:=hs3.extBut _ _ (Nat.ne_of_gt (Heap.lt_size hz)) c5
  have I2:=I.newTup (tk:=tk) hf kk hT3 (.cons ru (.cons rv .nil)) (by show 2<=sizeLine;decide)
  refine⟨.ref s.heap.objs.size,_,I2,rfl,⟨_,x,y,hTn,rfl,rfl,fun zs hzs=>by rw[I.seqB_inj hzs hq1];exact hx,fun zs hzs=>by rw[I.seqB_inj hzs hq2];exact hy⟩,⟨hz3,hs3.extBut _ _ (Ne.symm dzTI) (hk _ _ (Ne.symm dzTI) dIO dI1 dI2 hTI),⟨_,_,hs3.extBut _ _ (Ne.symm dzTO) c2,f1,f2,f3,f4⟩,c3.1.at fun o q=>hs3.extBut _ o (Ne.symm dz1) q,c4.1.at fun o q=>hs3.extBut _ o (Ne.symm dz2) q⟩,fun c hc'=>?_⟩
  rw[upd_ne (Nat.ne_of_lt ?_)]
  ·exact(hf c hc').1
  ·simp only[List.mem_cons,List.not_mem_nil,or_false] at hc'
   rcases hc' with rfl | rfl | rfl | rfl | rfl
   ·exact Heap.lt_size hz
   ·exact Heap.lt_size hTI
   ·exact Heap.lt_size hTO
   ·exact Heap.lt_size e1
   ·exact Heap.lt_size e2
 done:=by
  intro X hP hw hK hc i pins s σ H E I hf st hg
  subst hP hw hK
  obtain⟨xs,ys,hq1,hq2,hx⟩:=hg
  obtain⟨its1,rv1,p1,hz1⟩:=I.seqB hq1
  obtain⟨its2,rv2,p2,hz2⟩:=I.seqB hq2
  obtain⟨hz,hTI,⟨q1,q2,hTO,f⟩,h1,h2⟩:=st
  obtain⟨o1,e1,vs1,d1⟩:=h1.rec
  obtain⟨o2,e2,vs2,d2⟩:=h2.rec
  have A1z:a1≠z:=p1.ne_rec hz rfl
  have A2z:a2≠z:=p2.ne_rec hz rfl
  have A11:a1≠i1:=p1.ne_rec e1 d1
  have A12:a1≠i2:=p1.ne_rec e2 d2
  have A21:a2≠i1:=p2.ne_rec e1 d1
  have A22:a2≠i2:=p2.ne_rec e2 d2
  simp only[List.nodup_cons,List.mem_cons,List.not_mem_nil,or_false,not_or,List.nodup_nil,and_true,not_false_eq_true] at d
  obtain⟨⟨dzTI,dzTO,dz1,dz2⟩,⟨dIO,dI1,dI2⟩,⟨dO1,dO2⟩,d12⟩:=d
  obtain⟨f1,f2,f3,f4⟩:=f
  have D:RM z TI TO i1 i2 [i1,a1] [i2,a2]:=⟨Ne.symm dzTI,Ne.symm dzTO,Ne.symm dz1,Ne.symm dz2,dIO,dI1,dI2,dO1,dO2,d12,by simp[dz1,Ne.symm A1z],by simp[dO1,Ne.symm f1],by simp[Ne.symm d12,Ne.symm A12],by simp[dz2,Ne.symm A2z],by simp[dO2,Ne.symm f2],by simp[d12,Ne.symm A21]⟩
  have D1:=Draws.seq (prog:=X.prog) (w:=X.w) (A:=X.A.in1) b1 (I.ok.hd hc) i1 a1 A11 its1.toArray
  have D2:=Draws.seq (prog:=X.prog) (w:=X.w) (A:=X.A.in1) b2 (I.ok.hd hc) i2 a2 A22 its2.toArray
  have n1:=rv1.length;have n2:=rv2.length
  refine Su D D1 D2 hz hTI hTO ⟨h1,p1⟩ ⟨h2,p2⟩ (by simp only[List.size_toArray];omega) fun h' tk hk=>⟨rfl,?_⟩
  exact I.turnedL hf fun c o hc' q=>hk c o (fun e=>hc' (by simp[e])) (fun e=>hc' (by simp[e])) (fun e=>hc' (by simp[e])) (fun e=>hc' (by simp[e])) q
 self:=fun A i s Q E st hQ=>wpAny_pyIter_zip st.1 hQ
section
variable {X:Cx}
def G8(b1 b2:Bool)(K:PySem.W.Frag)(ta:TA):TI:=fun σ H R=>ta σ H fun vs H1=>∃a1 a2,vs=[.ref a1,.ref a2]/\(∃xs,Rr b1 K H1 a1 xs)/\(∃ys,Rr b2 K H1 a2 ys)/\R (Fl b1 b2 K a1 a2) H1
theorem IK{elts:List Expr}{k:Nat}{tpos:Pos}(b1 b2:Bool){a b:Expr}{ta:TA}{p pos:Pos}(hg:Gl X "zip")(hm:X.mg "zip" = none)(ha:PA X [a,b] ta)
  (hs:starEach [a,b] X.env=[(false,eval a X.env),(false,eval b X.env)]:=by rfl) (hs2:starEach [b] X.env=[(false,eval b X.env)]:=by rfl) :
  PI X (.Tuple elts k tpos) (.Call (.Name "zip" p) [a,b] [] pos) (G8 b1 b2 X.K ta):=by
 intro pins s σ H R I h
 refine Call_ (Ww I hg hm boot_zip (PyProof.Rows.callWith_type1 (YS (ha pos pins s σ H _ I h) fun us s1 ⟨vs,H1,I1,r1,q1⟩=>?_) (by rw[hs,hs2]) (by rw[hs2];rfl)))
 obtain⟨a1,a2,e,⟨xs,hq1⟩,⟨ys,hq2⟩,q⟩:=q1
 subst e
 cases r1 with
 | cons r rr=>
  cases rr with
  | cons r' rr=>
   cases rr;cases r
   cases r'
   obtain⟨its1,rv1,p1,_⟩:=I1.seqB hq1
   obtain⟨its2,rv2,p2,_⟩:=I1.seqB hq2
   refine Qn p1 p2 fun h' c1 c2 c3 c4 c5 c6 hk=>?_
   refine wpAny_pyIter_zip c1 ?_
   have I2:Inv X pins σ H1 { s1 with heap:=h' }:=I1.kept (t':=s1.toks) hk
   have L1:a1<s1.heap.objs.size:=let⟨_,e⟩:=p1.has;Heap.lt_size e
   have L2:a2<s1.heap.objs.size:=let⟨_,e⟩:=p2.has;Heap.lt_size e
   generalize hn:s1.heap.objs.size=n at *
   have ne:∀(a:Addr)(j:Nat),a<n->a≠n+j:=fun a j h=>Nat.ne_of_lt (Nat.lt_of_lt_of_le h (Nat.le_add_right _ _))
   have nd:([n+4,n+2,n+3,n,n+1]:List Addr).Nodup:=by
    have hh:∀(i j:Nat),i≠j->(n+i:Nat)≠n+j:=fun i j h e=>h (Nat.add_left_cancel e)
    have h0:∀(i:Nat),i≠0->(n+i:Nat)≠n:=fun i h e=>h (Nat.add_left_cancel (e.trans (Nat.add_zero n).symm))
    simp only[List.nodup_cons,List.mem_cons,List.not_mem_nil,or_false,not_or,List.nodup_nil,and_true,not_false_eq_true]
    exact⟨⟨hh 4 2 (by decide),hh 4 3 (by decide),h0 4 (by decide),hh 4 1 (by decide)⟩,⟨hh 2 3 (by decide),h0 2 (by decide),hh 2 1 (by decide)⟩,⟨h0 3 (by decide),hh 3 1 (by decide)⟩,(h0 1 (by decide)).symm⟩
   refine⟨n+4,[n+4,n+2,n+3,n,n+1],_,_,H1,rfl,I2,M0 b1 b2 a1 a2 (n+4) (n+2) (n+3) n (n+1) nd,⟨c1,c2,⟨_,_,c3,ne a1 3 L1,ne a2 3 L2,ne a1 2 L1,ne a2 2 L2⟩,c4,c5⟩,fun c hc=>?_,q⟩
   have hle:s1.heap.objs.size<=c:=by
    rw[hn];simp only[List.mem_cons,List.not_mem_nil,or_false] at hc
    rcases hc with rfl | rfl | rfl | rfl | rfl
    ·exact Nat.le_add_right _ _
    ·exact Nat.le_add_right _ _
    ·exact Nat.le_add_right _ _
    ·exact Nat.le_refl _
    ·exact Nat.le_add_right _ _
   exact I1.fpOk hle (I1.hok.fresh hle)
end
theorem Walks.seqB{prog:Program}{w:World}{A:Around}(b:Bool)(hh:A.handled=none)(I ax:Addr)(hne:ax≠I)(items:Array Value) :
  Walks prog w A I [I,ax] [I] items.size (fun i v=>items[i]?=some v) (fun i h=>IterB b h I ax i/\SeqB b h ax items):=by
 cases b with
 | true=>exact Walks.list hh I ax hne items
 | false=>exact Walks.tuple hh I ax hne items
section
variable {X:Cx}
theorem Xn(hc:X.calm=true):XZ X (.builtin "sum") (fun xs H Q=>∃(b:Bool) (p:Addr) (ns:List Int),xs=[.ref p]/\Rr b X.K H p (ns.map V.int)/\Q (.int ns.sum) H):=by
 intro pins s σ H xs us Q I r h
 obtain⟨b,p,ns,rfl,hq,q⟩:=h
 obtain⟨u,rfl,rx⟩:=Sm r
 cases rx
 obtain⟨its,rv,hseq,hz⟩:=I.seqB hq
 have hp:p<s.heap.objs.size:=let⟨_,e⟩:=hseq.has;Heap.lt_size e
 refine call_sum_walkG (YF hseq ?_)
 refine⟨_,_,_,_,_,_,fun i=>ns.getD i 0,rfl,Walks.seqB (A:=X.A.in1) b (I.ok.hd hc) s.heap.objs.size p (Nat.ne_of_lt hp) its.toArray,⟨IterB.new (Heap.get?_push_size _ rfl),hseq.at fun o e=>Heap.get?_push_of_some _ e⟩,fun c hcm=>?_,fun i v hv=>?_,fun h' tk t' hk=>?_⟩
 ·show c<(s.heap.push _).objs.size
  rw[Heap.size_push]
  rcases List.mem_cons.mp hcm with rfl | hcm
  ·exact Nat.lt_succ_self _
  ·rw[List.mem_singleton.mp hcm];exact Nat.lt_succ_of_lt hp
 ·have hv:its.toArray[i]?=some v:=hv
  have hv:its[i]?=some v:=by simpa using hv
  have hl:=rv.length;rw[List.length_map] at hl
  have hi:i<ns.length:=by rw[hl];exact(List.getElem?_eq_some_iff.mp hv).1
  obtain⟨u,hu,ru⟩:=rv.get (i:=i) (x:=.int ns[i]) (by rw[List.getElem?_map,List.getElem?_eq_getElem hi];rfl)
  rw[hv] at hu;cases hu
  obtain⟨t,rfl⟩:=ru
  refine⟨t,?_⟩
  show Value.int ns[i] t=Value.int (ns.getD i 0) t
  rw[List.getD_eq_getElem?_getD,List.getElem?_eq_getElem hi];rfl
 ·have e:preSum (fun i=>ns.getD i 0) its.toArray.size=ns.sum:=by
   have hl:=rv.length;rw[List.length_map] at hl;rw[List.size_toArray,<-hl]
   have gen:∀k,k<=ns.length->preSum (fun i=>ns.getD i 0) k=(ns.take k).sum:=by
    intro k
    induction k with
    | zero=>intro _;simp[preSum]
    | succ k ih=>
     intro hk;rw[preSum,ih (by omega),List.take_add_one,List.getD_eq_getElem?_getD,List.getElem?_eq_getElem (by omega),List.sum_append]
     simp
   rw[gen _ (Nat.le_refl _),List.take_length]
  rw[e]
  refine⟨.int ns.sum,H,I.kept (fun c o hco=>hk c o ?_ (Heap.get?_push_of_some _ hco)),⟨_,rfl⟩,q⟩
  intro hm;rw[List.mem_singleton.mp hm] at hco
  exact absurd (Heap.lt_size hco) (Nat.lt_irrefl _)
theorem UW(hc:X.calm=true):XZ X (.builtin "all") (fun xs H Q=>∃(b:Bool) (p:Addr) (bs:List Bool),xs=[.ref p]/\Rr b X.K H p (bs.map V.bl)/\Q (.bl (bs.all id)) H):=by
 intro pins s σ H xs us Q I r h
 obtain⟨b,p,bs,rfl,hq,q⟩:=h
 obtain⟨u,rfl,rx⟩:=Sm r
 cases rx
 obtain⟨its,rv,hseq,hz⟩:=I.seqB hq
 have hp:p<s.heap.objs.size:=let⟨_,e⟩:=hseq.has;Heap.lt_size e
 have hl:=rv.length;rw[List.length_map] at hl
 refine call_all_walk (YF hseq ?_)
 refine⟨_,_,_,_,_,_,fun i=>bs.getD i true,rfl,Walks.seqB (A:=X.A.in1) b (I.ok.hd hc) s.heap.objs.size p (Nat.ne_of_lt hp) its.toArray,⟨IterB.new (Heap.get?_push_size _ rfl),hseq.at fun o e=>Heap.get?_push_of_some _ e⟩,fun i v s' Q' E' hv hQ=>?_,fun h' tk hk=>?_⟩
 ·have hv:its.toArray[i]?=some v:=hv
  have hv:its[i]?=some v:=by simpa using hv
  have hi:i<bs.length:=by rw[hl];exact(List.getElem?_eq_some_iff.mp hv).1
  obtain⟨u,hu,ru⟩:=rv.get (i:=i) (x:=.bl bs[i]) (by rw[List.getElem?_map,List.getElem?_eq_getElem hi];rfl)
  rw[hv] at hu;cases hu;cases ru
  refine wpAny_truthy_bool ?_
  have e:bs.getD i true=bs[i]:=by rw[List.getD_eq_getElem?_getD,List.getElem?_eq_getElem hi];rfl
  rw[<-e];exact hQ
 ·have e:(List.range its.toArray.size).all (fun i=>bs.getD i true)=bs.all id:=by
   rw[List.size_toArray,<-hl,Bool.eq_iff_iff,List.all_eq_true,List.all_eq_true];constructor
   ·intro h x hx
    obtain⟨i,hi,rfl⟩:=List.mem_iff_getElem.mp hx
    have:=h i (List.mem_range.mpr hi)
    rw[List.getD_eq_getElem?_getD,List.getElem?_eq_getElem hi] at this;exact this
   ·intro h i hi
    have hi:=List.mem_range.mp hi;rw[List.getD_eq_getElem?_getD,List.getElem?_eq_getElem hi]
    exact h _ (List.getElem_mem hi)
  rw[e]
  refine⟨.bl (bs.all id),H,I.kept (fun c o hco=>hk c o ?_ (Heap.get?_push_of_some _ hco)),rfl,q⟩
  intro hm;rw[List.mem_singleton.mp hm] at hco
  exact absurd (Heap.lt_size hco) (Nat.lt_irrefl _)
theorem Xy:XZ X (.builtin "isinstance") (fun xs H Q=>∃x T t b,xs=[x,.ty T]/\TyOf X.K H x t/\PySem.W.kitOne X.K t (.type T)=some b/\Q (.bl b) H):=by
 intro pins s σ H xs us Q I r h
 obtain⟨x,T,t,b,rfl,ht,hk,q⟩:=h
 obtain⟨u,v,rfl,ru,rv⟩:=JP r
 cases rv
 exact N9 I ru ht hk fun tk=>⟨.bl b,H,I.tok tk,rfl,q⟩
theorem Pf{K:PySem.W.Frag}:PySem.W.kitOne K (.type "int") (.type "int")=some true:=rfl
theorem Qo{K:PySem.W.Frag}:PySem.W.kitOne K (.type "int") (.type "bool")=some false:=by first | rfl | decide | (unfold PySem.W.kitOne;rw[if_neg (by decide)];first | rfl | decide | kernel_rfl)
theorem Pg{K:PySem.W.Frag}:PySem.W.kitOne K (.type "tuple") (.type "tuple")=some true:=rfl
theorem Ry{K:PySem.W.Frag}:PySem.W.kitOne K (.type "list") (.type "list")=some true:=rfl
theorem Ph{K:PySem.W.Frag}:PySem.W.kitOne K (.type "str") (.type "str")=some true:=rfl
def Nm:V->List V->Hp->VK->Prop:=fun x vs H Q=>∃l xs k y,x = .ref l/\vs=[.int k,y]/\H l=some (.lst xs)/\0<=k/\k<2^63/\xs.length<sizeLine/\Q .non (upd H l (.lst (xs.take k.toNat++y::xs.drop k.toNat)))
theorem RN:Fj X "list.insert" Nm:=by
 intro pins s σ H x vs v us Q I rx rv h
 obtain⟨l,xs,k,y,rfl,rfl,hH,h0,h1,hz,q⟩:=h
 cases rx
 obtain⟨u1,u2,rfl,r1,r2⟩:=rv.two
 obtain⟨t,rfl⟩:=r1
 obtain⟨z,its,n,r,hl,e⟩:=I.lstM hH
 have hfit:¬(!Builtin.List.listFitsIndex k)=true:=by
  rw[fitsIndex_both (by omega) h1];exact Bool.false_ne_true
 refine call_meets F.slot_list_insert ⟨_,e,rfl⟩ F.entry_list_insert (F.args_list_insert_3 _ _ _) (AutoListH.list_insert_list_int_val_1 l its.toArray n k t u2 hfit (by rw[List.size_toArray];omega)) ⟨e,?_⟩
 refine⟨.non,_,I.lset (its':=its.take k.toNat++u2::its.drop k.toNat) hH e ?_ ((r.take k.toNat).append (.cons r2 (r.drop k.toNat))) ?_,rfl,q⟩
 ·show(have j:=if k<0 then(k+((its.toArray.size:Nat):Int)).toNat else min k.toNat its.toArray.size;(its.toArray.extract 0 j).push u2++its.toArray.extract j)=_
  rw[if_neg (by omega)]
  dsimp only
  by_cases hle:k.toNat<=its.length
  ·rw[Nat.min_eq_left (by rw[List.size_toArray];exact hle)]
   simp
   rw[List.take_of_length_le (by rw[List.length_drop];exact Nat.le_refl _)]
  ·rw[Nat.min_eq_right (by rw[List.size_toArray];omega)]
   rw[List.take_of_length_le (by omega),List.drop_eq_nil_of_le (by omega)]
   simp
 ·rw[List.length_append,List.length_cons,List.length_take,List.length_drop]
  omega
end
def TK(H H':Hp):Prop:=∀b xs,H b=some (.tup xs)->H' b=some (.tup xs)
theorem Same.tk{H H':Hp}(s:Same H H'):TK H H':=fun b xs h=>s b _ h
theorem Same.new{H:Hp}{p:Addr}(h:H p=none)(o:HO):Same H (upd H p o):=fun b u q=>by rw[upd_ne (ZG q h)];exact q
class Rep(α:Type) where
 is:Hp->V->α->Prop
 keep:∀{H H':Hp}{v:V}{a:α},TK H H'->is H v a->is H' v a
 inj:∀{H:Hp}{v:V}{a a':α},is H v a->is H v a'->a=a'
 dep:Nat
 eqA:∀{X:Cx}{pins:List (Addr×Obj)}{σ:St}{H:Hp}{s:Shared}{v v':V}{a a':α}{u u':Value}{A:Around},Inv X pins σ H s->A.units+dep<cLine->is H v a->is H v' a'->RelV v u->RelV v' u'->
  ∃b,SeqAt.EqAt A s u u' b/\(b=true↔a=a')
instance:Rep Int where
 is:=fun _ v i=>v = .int i
 keep:=fun _ h=>h
 inj:=fun{H v a a'} h h'=>by subst h;exact V.int.inj h'
 dep:=0
 eqA:=fun{X pins σ H s v v' a a' u u' A} _ _ h h' r r'=>by
  subst h;subst h'
  obtain⟨t,rfl⟩:=r
  obtain⟨t',rfl⟩:=r'
  exact⟨_,SeqAt.EqAt.int_int a t a' t',by simp⟩
instance:Rep Bool where
 is:=fun _ v i=>v = .bl i
 keep:=fun _ h=>h
 inj:=fun{H v a a'} h h'=>by subst h;exact V.bl.inj h'
 dep:=0
 eqA:=fun{X pins σ H s v v' a a' u u' A} _ _ h h' r r'=>by
  subst h;subst h'
  cases r
  cases r'
  exact⟨_,SeqAt.EqAt.bool_bool a a',by simp⟩
instance:Rep Str where
 is:=fun _ v i=>v = .str i
 keep:=fun _ h=>h
 inj:=fun{H v a a'} h h'=>by subst h;exact V.str.inj h'
 dep:=0
 eqA:=fun{X pins σ H s v v' a a' u u' A} _ _ h h' r r'=>by
  subst h;subst h'
  obtain⟨t,rfl⟩:=r
  obtain⟨t',rfl⟩:=r'
  exact⟨_,SeqAt.EqAt.str_str a t a' t',by simp⟩
abbrev Items{α:Type}[Rep α](H:Hp):List V->List α->Prop:=Paired (Rep.is H)
section
variable {α:Type} [Rep α]
theorem Items.keep{H H':Hp}(k:TK H H'){xs:List V}{l:List α}(h:Items H xs l):Items H' xs l:=Paired.mapP h fun _ _ z=>Rep.keep k z
theorem Items.len{H:Hp}{xs:List V}{l:List α}(h:Items H xs l):xs.length=l.length:=Paired.length h
end
theorem Items.inj{α:Type}[Rep α]{H:Hp}:∀{xs:List V}{l m:List α},Items H xs l->Items H xs m->l=m
 | _,_,_,.nil,.nil=>rfl
 | _,_,_,.cons r t,.cons r' t'=>by rw[Rep.inj r r',Items.inj t t']
theorem Items.eqs{α:Type}[Rep α]{X:Cx}{pins:List (Addr×Obj)}{σ:St}{H:Hp}{s:Shared}{A:Around}(I:Inv X pins σ H s)(hu:A.units+Rep.dep α<cLine) :
  ∀{xs ys:List V}{l m:List α}{us ws:List Value},Items H xs l->Items H ys m->Vals xs us->Vals ys ws->
  ∃e:Nat->Bool,(∀j (h1:j<us.length) (h2:j<ws.length),SeqAt.EqAt A s us[j] ws[j] (e j))/\((List.range (min us.length ws.length)).all e=true↔l.take (min us.length ws.length)=m.take (min us.length ws.length))
 | _,_,_,_,_,_,.nil,_,.nil,_=>⟨fun _=>true,fun j h1=>by simp at h1,by simp⟩
 | _,_,_,_,_,_,.cons _ _,.nil,.cons _ _,.nil=>⟨fun _=>true,fun j h1 h2=>by simp at h2,by simp⟩
 | _,_,_,_,_,_,.cons r t,.cons r' t',.cons q v,.cons q' v'=>by
  obtain⟨b,hb,hb'⟩:=Rep.eqA I hu r r' q q'
  obtain⟨e,he,he'⟩:=Items.eqs I hu t t' v v'
  refine⟨fun j=>match j with | 0=>b | k+1=>e k,fun j h1 h2=>?_,?_⟩
  ·cases j with
   | zero=>exact hb
   | succ k=>exact he k (by simpa using h1) (by simpa using h2)
  ·simp only[List.length_cons,Nat.succ_min_succ,List.range_succ_eq_map,List.all_cons,List.all_map,Bool.and_eq_true,List.take_succ_cons,List.cons.injEq]
   exact and_congr hb' he'
theorem Items.same{α:Type}[Rep α]{H:Hp}{xs ys:List V}{l m:List α}{us ws:List Value}(h:Items H xs l)(h':Items H ys m)(r:Vals xs us)(r':Vals ys ws) :
  (l.take (min us.length ws.length)=m.take (min us.length ws.length)/\us.length=ws.length)↔l=m:=by
 have e1:=h.len;have e2:=h'.len;have e3:=r.length;have e4:=r'.length;constructor
 ·rintro⟨a,b⟩
  rw[List.take_of_length_le (by omega),List.take_of_length_le (by omega)] at a;exact a
 ·intro a
  subst a
  exact⟨rfl,by omega⟩
abbrev Fu(α:Type):Type:=List α
def Gg{α:Type}[Rep α](H:Hp)(v:V)(l:List α):Prop:=∃p xs,v = .ref p/\H p=some (.tup xs)/\Items H xs l
instance {α:Type} [Rep α]:Rep (Fu α) where
 is:=fun H v l=>Gg (α:=α) H v l
 keep:=fun{H H' v a} k h=>by
  obtain⟨p,xs,e,hp,it⟩:=h
  exact⟨p,xs,e,k p xs hp,it.keep k⟩
 inj:=fun{H v a a'} h h'=>by
  obtain⟨p,xs,e,hp,it⟩:=h
  obtain⟨p',xs',e',hp',it'⟩:=h'
  rw[e] at e';cases e'
  rw[hp] at hp';cases hp'
  exact Items.inj it it'
 dep:=Rep.dep α+2
 eqA:=fun{X pins σ H s v v' a a' u u' A} I hu h h' r r'=>by
  obtain⟨p,xs,rfl,hp,it⟩:=h
  obtain⟨p',xs',rfl,hp',it'⟩:=h'
  cases r
  cases r'
  obtain⟨us,rv,q,_⟩:=I.tuple (SqT.of hp)
  obtain⟨us',rv',q',_⟩:=I.tuple (SqT.of hp')
  by_cases e:p=p'
  ·subst e
   refine⟨true,SeqAt.EqAt.same _,?_⟩
   rw[hp] at hp';cases hp'
   have:a=a':=Items.inj it it'
   simp[this]
  ·obtain⟨f,hf,hf'⟩:=Items.eqs (A:=A.in1) I (by show A.units+1+Rep.dep α<cLine;omega) it it' rv rv'
   refine⟨_,SeqAt.EqAt.of_refs e (SeqAt.RcAt.tuples (e:=f) (show s.heap.IsTuple p us.toArray from q) (show s.heap.IsTuple p' us'.toArray from q') (by omega) (fun j h1 h2=>hf j (by simpa using h1) (by simpa using h2))),?_⟩
   simp only[List.size_toArray,Bool.and_eq_true,beq_iff_eq];rw[hf']
   exact Items.same it it' rv rv'
structure Def(K:PySem.W.Frag)(mg:Str->Option Value)(x:Str)(st:Stmt):Prop where
 ex:∃f fd,mg x=some (.ref f)/\Fun K x x st f fd
theorem def_mk{K:PySem.W.Frag}{h:Heap}{mg:Str->Option Value}{x:Str}{st:Stmt}{f:Addr}{oc:Value}{od an:Option Addr}{osl:Array (Option Value)}{kV doc pm cdv ct:Value}(X:K.In h)(G:h.Ns mainGlobals mg)
  (a:PySem.W.nsIn K mainGlobals x=some (some (.ref f))) (l:K.lookup f=some ⟨oc,od,.func (PySem.W.fnOf x x (XM st) (YN st) (Zk st) .none kV doc pm an cdv ct),osl⟩)
  (c:PySem.W.codeIn K cdv x=true) (k:PySem.W.keepIn K (.ref f)=true):Def K mg x st:=⟨f,_,PySem.W.mg_of X G a,IH (st:=st) l c k⟩
structure Yv(P:Program)(w:World)(K:PySem.W.Frag)(mg:Str->Option Value)(base:Heap)(x:Str)(ps:List Str)(sp:Sp)(k:Nat):Prop where
 ex:∃f fd,mg x=some (.ref f)/\PySem.W.keepIn K (.ref f)=true/\Binds K fd ps []/\TF P w K mg base Nl k f fd ps sp
section
variable {P:Program} {w:World} {K:PySem.W.Frag} {mg:Str->Option Value} {base:Heap}
theorem Def.cal{x:Str}{st:Stmt}{N ps:List Str}{k:Nat}{sp:Sp}(D:Def K mg x st)(S:Zw N ps (Zk st))
  (hb:∀(kV doc pm:Value)(an:Option Addr)(cdv ct:Value)(us:List Value),us.length=ps.length->bindArgs (PySem.W.fnOf x x (XM st) (YN st) (Zk st) .none kV doc pm an cdv ct) ⟨us,[]⟩=pure (ps.zip us))
  (len:∀vs H Q E,sp vs H Q E->vs.length=ps.length)
  (hbody:∀(f:Addr)(cdv:Value)(A:Around)(outer:List Env)(s:Shared)(H:Hp)(vs:List V)(Q:VK)(E:XK),Room k (A.deeper (envOfC x (Zk st) s.heap.objs.size f cdv))->sp vs H Q E->
   ∃t,PSs (Ru Nl P w K mg base N x (Zk st) f cdv A outer s H E).nox (YN st) t/\t { nx:=fun _ H'=>Q .non H',rt:=Q } (start N vs) H):Yv P w K mg base x ps sp (k+1):=by
 obtain⟨f,fd,hm,F⟩:=D.ex
 exact⟨f,fd,hm,F.kp,F.binds hb,F.ok S len fun cdv A outer s H vs Q E hr h=>hbody f cdv A outer s H vs Q E hr h⟩
end
section
variable {X:Cx} {x:Str} {ps:List Str} {sp:Sp} {k:Nat} {e:Expr} {es:List Expr} {t:TA} {p pos:Pos}
theorem Og(C:Yv X.prog X.w X.K X.mg X.base x ps sp k)(hr:Room k X.A)(hg:Gl X x)(ha:PA X (e::es) t)
  (hdb:(x==("__debug__" : Str))=false:=by decide) (he:starEach (e::es) X.env=(false,eval e X.env)::starEach es X.env:=by rfl) (hpl:(backTo pos (starEach es X.env)).any (·.1)=false:=by rfl) :
  PE X (.Call (.Name x p) (e::es) [] pos) (MS sp [] E0 t):=by
 obtain⟨f,fd,a,b,c,d⟩:=C.ex
 exact KI d hr hg a b c .nil Ga ha hdb he hpl
end
def V3(N:List Str)(around scope:Scope)(own fr:List Str)(ix:List Nat):Bool:=
 (match scope.kind with | .function=>true | _=>false)&&scope.names.all (fun y=>y.2 != .cell)&&scope.names.all (fun y=>y.2 != .local || scope.names.lookup y.1==some .local)&&
 scope.names.all (fun y=>y.2 != .free || (around.names.lookup y.1==some .cell || around.names.lookup y.1==some .free))&&(fr.map some==ix.map (fun i=>N[i]?))&&
 fr.all (fun x=>scope.names.contains (x,NameKind.free))&&fr.all (fun x=>scope.names.lookup x != some .local)
theorem RO{N:List Str}{around scope:Scope}{own fr:List Str}{ix:List Nat}(h:V3 N around scope own fr ix=true):CompScope N around scope own fr ix:=by
 unfold V3 at h;simp only[Bool.and_eq_true] at h
 obtain⟨⟨⟨⟨⟨⟨h1,h2⟩,h3⟩,h4⟩,h5⟩,h6⟩,h7⟩:=h
 refine⟨?_,fun y hy=>?_,fun y hy e=>?_,fun y hy e=>?_,by simpa using h5,fun x hx=>?_,fun x hx=>?_⟩
 ·split at h1
  ·assumption
  ·cases h1
 ·simpa using List.all_eq_true.mp h2 y hy
 ·have:=List.all_eq_true.mp h3 y hy
  rw[e] at this
  simpa using this
 ·have:=List.all_eq_true.mp h4 y hy
  rw[e] at this
  simpa using this
 ·simpa using List.all_eq_true.mp h6 x hx
 ·simpa using List.all_eq_true.mp h7 x hx
section
variable {X:Cx} {tg elt iter:Expr} {ifs:List Expr} {scope:Scope} {pos:Pos} {wi:TI} {g:TG} {tt:TT} {te:TE}
theorem Pi(own fr:List Str)(ix:List Nat)(hcalm:X.calm=true)(hi:PI X tg iter wi)(S:V3 X.N X.env.scope scope own fr ix=true)
  (hg:∀cl C s H ex,PG (ZP X (own++fr) scope cl C s H ex) tg g) (ht:∀cl C s H ex,MX (ZP X (own++fr) scope cl C s H ex) ifs tt) (he:∀cl C s H ex,PE (ZP X (own++fr) scope cl C s H ex) elt te)
  (hs:∀x,foldedSetIterable iter X.env x=pure x:=by intro _;rfl):PE X (.ListComp elt [⟨tg,iter,ifs,0⟩] scope pos) (RL own.length ix wi g tt te):=
 KT hcalm hi (RO S) hg ht he hs
theorem M1(own fr:List Str)(ix:List Nat){i:Nat}{y:Str}{py spos:Pos}(hN:X.N.Nodup)(hy:X.N[i]?=some y)(hloc:X.env.scope.names.lookup y=some .local)(hcalm:X.calm=true)(hi:PI X tg iter wi)(S:V3 X.N X.env.scope scope own fr ix=true)
  (hg:∀cl C s H ex,PG (ZP X (own++fr) scope cl C s H ex) tg g) (ht:∀cl C s H ex,MX (ZP X (own++fr) scope cl C s H ex) ifs tt) (he:∀cl C s H ex,PE (ZP X (own++fr) scope cl C s H ex) elt te)
  (hsw:swapsWith (.ListComp elt [⟨tg,iter,ifs,0⟩] scope pos) (some (.Name y py)) spos.line X.env=pure true:=by rfl)
  (hs:∀x,foldedSetIterable iter X.env x=pure x:=by intro _;rfl):PS X (.Assign [.Name y py] (.ListComp elt [⟨tg,iter,ifs,0⟩] scope pos) spos) (Q8 (RL own.length ix wi g tt te) (Tz i)):=
 KU hN hy hloc hcalm hi (RO S) hg ht he hsw hs
end
structure W7(mg:Str->Option Value):Prop where
 «len» : mg "len" = none
 «sum» : mg "sum" = none
 «range» : mg "range" = none
 «enumerate» : mg "enumerate" = none
 «zip» : mg "zip" = none
 «tuple» : mg "tuple" = none
 «list» : mg "list" = none
 «all» : mg "all" = none
 «any» : mg "any" = none
 «isinstance» : mg "isinstance" = none
 «int» : mg "int" = none
 «bool» : mg "bool" = none
 «str» : mg "str" = none
 «min» : mg "min" = none
 «max» : mg "max" = none
 «sorted» : mg "sorted" = none
 «abs» : mg "abs" = none
 «ValueError» : mg "ValueError" = none
 «reversed» : mg "reversed" = none
abbrev G9(g:TG)(tb:TS)(D:Sj)(σ:St)(J:It)(H:Hp):Prop:=
 ∃W:Nat->Nat->St->Hp->Prop,(∃m,W 0 m σ H)/\∀i m σ H,W i m σ H->
   (J.stop i H/\D.nx σ H)\/(J.go i H/\∃N:St->Hp->Prop,(∀σ' H',N σ' H'->∃m',m'<m/\W (i+1) m' σ' H')/\∀x H',J.yld i H x H'->g x σ H' fun σ2 H2=>tb { D with nx:=N,ct:=N,bk:=D.nx } σ2 H2)
def Zq(l:List Int)(i:Nat):Int:=l.getD i 0
theorem UX(l:List Int):(List.range l.length).map (Zq l)=l:=by
 apply List.ext_getElem?
 intro i;rw[List.getElem?_map]
 by_cases h:i<l.length
 ·rw[List.getElem?_eq_getElem (by simpa using h),List.getElem?_eq_getElem h]
  simp[Zq,List.getD_eq_getElem?_getD,List.getElem?_eq_getElem h]
 ·rw[List.getElem?_eq_none (by simpa using h),List.getElem?_eq_none (by omega)];rfl
theorem ZN{f:Nat->Int}{n i:Nat}(h:i<n):Zq ((List.range n).map f) i=f i:=by
 unfold Zq
 rw[List.getD_eq_getElem?_getD,List.getElem?_map,List.getElem?_range h];rfl
def ZO(w:List (List Int))(i:Nat):List Int:=w.getD i []
theorem Pj{w:List (List Int)}{i:Nat}(h:i<w.length):w[i]?=some (ZO w i):=by
 unfold ZO
 rw[List.getD_eq_getElem?_getD,List.getElem?_eq_getElem h];rfl
def Yl(w:List (List Int))(i j:Nat):Int:=Zq (ZO w i) j
structure Yk(w:List (List Int)):Prop where
 pos:1<=w.length
 few:w.length<=7
 sq:∀i,i<w.length->(ZO w i).length=w.length
 lo:∀i j,i<w.length->j<w.length->0<=Yl w i j
 hi:∀i j,i<w.length->j<w.length->Yl w i j<=9
 sym:∀i j,i<w.length->j<w.length->Yl w i j=Yl w j i
 dia:∀i,i<w.length->Yl w i i=0
def IL(K:PySem.W.Frag):List V->Hp->VK->Prop:=fun xs H Q=>∃p ys,xs=[.ref p]/\((SqL K H p ys/\∀l,H l=none->Q (.ref l) (upd H l (.tup ys)))\/(SqT K H p ys/\Q (.ref p) H))
def KZ(K:PySem.W.Frag):List V->Hp->VK->Prop:=fun xs H Q=>∃p ys,xs=[.ref p]/\(SqL K H p ys\/SqT K H p ys)/\∀l,H l=none->Q (.ref l) (upd H l (.lst ys))
theorem Same.off{H Hc:Hp}{p:Addr}(s:Same H Hc)(n:Hc p=none):H p=none:=s.free n
abbrev Fv:=Nat×Nat×Int
def UY(M:List (List Int))(a b:Nat)(t:Int):List (List Int):=M.set a ((ZO M a).set b t)
structure MatOk(n:Nat)(M:List (List Int)):Prop where
 len:M.length=n
 row:∀i,i<n->(ZO M i).length=n
 lo:∀i j,i<n->j<n->0<=Yl M i j
 hi:∀i j,i<n->j<n->Yl M i j<=9
 sym:∀i j,i<n->j<n->Yl M i j=Yl M j i
 dia:∀i,i<n->Yl M i i=0
theorem RP{M:List (List Int)}{a i:Nat}{r:List Int}(ha:a<M.length):ZO (M.set a r) i=if a=i then r else ZO M i:=by
 unfold ZO;rw[List.getD_eq_getElem?_getD,List.getD_eq_getElem?_getD,List.getElem?_set]
 by_cases h:a=i
 ·subst h;simp[ha]
 ·simp[h]
theorem nth_set{l:List Int}{b j:Nat}{t:Int}(hb:b<l.length):Zq (l.set b t) j=if b=j then t else Zq l j:=by
 unfold Zq;rw[List.getD_eq_getElem?_getD,List.getD_eq_getElem?_getD,List.getElem?_set]
 by_cases h:b=j
 ·subst h;simp[hb]
 ·simp[h]
theorem Pk{n:Nat}{M:List (List Int)}{a b i j:Nat}{t:Int}(hl:M.length=n)(hr:∀i,i<n->(ZO M i).length=n)(ha:a<n)(hb:b<n):Yl (UY M a b t) i j=if a=i/\b=j then t else Yl M i j:=by
 show Zq (ZO (M.set a ((ZO M a).set b t)) i) j=_
 rw[RP (by omega)]
 by_cases h:a=i
 ·subst h
  rw[if_pos rfl,nth_set (by rw[hr a ha];exact hb)]
  by_cases q:b=j
  ·rw[if_pos q,if_pos ⟨rfl,q⟩]
  ·rw[if_neg q,if_neg (fun z=>q z.2)];rfl
 ·rw[if_neg h,if_neg (fun z=>h z.1)];rfl
theorem WA{n:Nat}{M:List (List Int)}{a b:Nat}{t:Int}(hl:M.length=n)(hr:∀i,i<n->(ZO M i).length=n)(ha:a<n):(UY M a b t).length=n/\∀i,i<n->(ZO (UY M a b t) i).length=n:=by
 refine⟨by unfold UY;rw[List.length_set];exact hl,fun i hi=>?_⟩
 show(ZO (M.set a ((ZO M a).set b t)) i).length=n
 rw[RP (by omega)]
 split
 ·rw[List.length_set];exact hr a ha
 ·exact hr i hi
theorem MatOk.zero(n:Nat):MatOk n (List.replicate n (List.replicate n 0)):=by
 have r:∀i,i<n->ZO (List.replicate n (List.replicate n (0:Int))) i=List.replicate n 0:=fun i hi=>by
  unfold ZO
  rw[List.getD_eq_getElem?_getD,List.getElem?_replicate,if_pos hi];rfl
 have z:∀i j,i<n->j<n->Yl (List.replicate n (List.replicate n (0:Int))) i j=0:=fun i j hi hj=>by
  show Zq (ZO _ i) j=0
  rw[r i hi];unfold Zq
  rw[List.getD_eq_getElem?_getD,List.getElem?_replicate,if_pos hj];rfl
 exact⟨by simp,fun i hi=>by rw[r i hi];simp,fun i j hi hj=>by rw[z i j hi hj];omega,fun i j hi hj=>by rw[z i j hi hj];omega,fun i j hi hj=>by rw[z i j hi hj,z j i hj hi],fun i hi=>z i i hi hi⟩
theorem MatOk.web{n:Nat}{M:List (List Int)}(h:MatOk n M)(h1:1<=n)(h7:n<=7):Yk M:=by
 have e:=h.len;subst e
 exact⟨h1,h7,h.row,h.lo,h.hi,h.sym,h.dia⟩
theorem Uc(f:Nat->Int)(n:Nat):((List.range (n+1)).map f).sum=((List.range n).map f).sum+f n:=by
 rw[List.range_succ,List.map_append,List.sum_append];simp
theorem Vv{f g:Nat->Int}{n:Nat}(h:∀i,i<n->f i=g i):((List.range n).map f).sum=((List.range n).map g).sum:=by
 congr 1
 apply List.map_congr_left
 intro i hi
 exact h i (List.mem_range.mp hi)
theorem RQ(c:Int)(n:Nat):((List.range n).map fun _=>c).sum=n*c:=by
 induction n with
 | zero=>simp
 | succ n ih=>rw[Uc,ih];rw[show((n+1:Nat):Int)=(n:Int)+1 by omega,Int.add_mul];omega
theorem Pl{f:Nat->Int}{n:Nat}(h:∀i,i<n->f i=0):((List.range n).map f).sum=0:=by
 rw[Vv h,RQ];simp
theorem Nn(l:List Int):((List.range l.length).map (Zq l)).sum=l.sum:=by rw[UX]
theorem M3{α:Type}(n:Nat)(x:α):(List.replicate n [x]).flatten=List.replicate n x:=by
 induction n with
 | zero=>rfl
 | succ n ih=>rw[List.replicate_succ,List.flatten_cons,ih];rfl
structure NamesOk(i:Nat)(l:List Int):Prop where
 len:l.length=i
 nd:l.Nodup
 lo:∀x∈l,0<=x
 hi:∀x∈l,x<i
theorem NamesOk.nil:NamesOk 0 []:=⟨rfl,List.nodup_nil,fun _ h=>by simp at h,fun _ h=>by simp at h⟩
theorem NamesOk.ins{i:Nat}{l:List Int}(h:NamesOk i l)(k:Nat):NamesOk (i+1) (l.take k++(i:Int)::l.drop k):=by
 have hp:(l.take k++(i:Int)::l.drop k).Perm ((i:Int)::l):=by
  have:=List.perm_middle (a:=(i:Int)) (l₁:=l.take k) (l₂:=l.drop k)
  rw[List.take_append_drop] at this;exact this
 refine⟨by rw[hp.length_eq,List.length_cons,h.len],?_,fun x hx=>?_,fun x hx=>?_⟩
 ·rw[hp.nodup_iff,List.nodup_cons]
  exact⟨fun hm=>by have:=h.hi _ hm;omega,h.nd⟩
 ·rcases List.mem_cons.mp (hp.mem_iff.mp hx) with e | e
  ·omega
  ·exact h.lo x e
 ·rcases List.mem_cons.mp (hp.mem_iff.mp hx) with e | e
  ·omega
  ·have:=h.hi x e;omega
theorem NamesOk.at{i:Nat}{l:List Int}(h:NamesOk i l){x:Nat}(hx:x<i):0<=Zq l x/\Zq l x<i:=by
 have e:Zq l x=l[x]'(by rw[h.len];exact hx):=by
  unfold Zq
  rw[List.getD_eq_getElem?_getD,List.getElem?_eq_getElem (by rw[h.len];exact hx)];rfl
 rw[e]
 exact⟨h.lo _ (List.getElem_mem _),h.hi _ (List.getElem_mem _)⟩
theorem NamesOk.ne{i:Nat}{l:List Int}(h:NamesOk i l){x y:Nat}(hx:x<i)(hy:y<i)(n:x≠y):Zq l x≠Zq l y:=by
 have ex:Zq l x=l[x]'(by rw[h.len];exact hx):=by
  unfold Zq
  rw[List.getD_eq_getElem?_getD,List.getElem?_eq_getElem (by rw[h.len];exact hx)];rfl
 have ey:Zq l y=l[y]'(by rw[h.len];exact hy):=by
  unfold Zq
  rw[List.getD_eq_getElem?_getD,List.getElem?_eq_getElem (by rw[h.len];exact hy)];rfl
 rw[ex,ey];intro e
 exact n ((List.getElem_inj h.nd).mp e)
theorem lt_size{n:Nat}(h:n<=10000):n<sizeLine:=Nat.lt_of_le_of_lt h (by decide)
end L2
namespace VL
open PySem PySem.Spec PyProof.Rows L2
variable {K:PySem.W.Frag}
inductive PV where
 | non | bl (b:Bool) | int (i:Int) | str (x:Str) | ty (n:String) | exc (n:Str)
 | tup (l:List PV) | lst (l:List PV) | cst (l:List PV)
 | dK (ks:List TV) (vs:List PV) | dT (ks:List (List TV)) (vs:List PV)
instance:Inhabited PV:=⟨.non⟩
mutual
/-- nothing in it can be changed -/
def Z6:PV->Bool
 | .tup l=>ZX l
 | .cst l=>ZX l
 | .lst _=>false
 | .dK _ _=>false
 | .dT _ _=>false
 | .non=>true
 | .bl _=>true
 | .int _=>true
 | .str _=>true
 | .ty _=>true
 | .exc _=>true
def ZX:List PV->Bool
 | []=>true
 | x::r=>Z6 x&&ZX r
end
theorem Wp:∀l:List PV,ZX l=l.all Z6
 | []=>rfl
 | x::r=>by rw[List.all_cons,<-Wp r];rfl
def KL(K:PySem.W.Frag)(a:Addr)(xs:List V):Prop:=
 ∃(o:Obj) (its:Array Value) (n:Nat),K.lookup a=some o/\o.cls = .type "list"/\o.dict=none/\o.data = .seq its n/\its.size<=sizeLine/\Vals xs its.toList
def CsK(K:PySem.W.Frag)(H:Hp)(p:Addr)(xs:List V):Prop:=(∃o,H p=some (.frz o (.lst xs)))\/KL K p xs
theorem CsK.sq{K:PySem.W.Frag}{H:Hp}{p:Addr}{xs:List V}(h:CsK K H p xs):SqL K H p xs:=by
 rcases h with h | h
 ·exact .inl (.inr h)
 ·exact .inr h
mutual
/-- v is the tree l in the heap H;fp: the addresses of its lists and dicts -/
def Is(K:PySem.W.Frag)(H:Hp):PV->V->List Addr->Prop
 | .non,v,fp=>v = .non/\fp=[]
 | .bl b,v,fp=>v = .bl b/\fp=[]
 | .int i,v,fp=>v = .int i/\fp=[]
 | .str x,v,fp=>v = .str x/\fp=[]
 | .ty n,v,fp=>v = .ty n/\fp=[]
 | .exc n,v,fp=>(∃e o x C,v = .ref e/\H e=some (.frz o (.own x))/\o.cls = .ref C/\PySem.W.nsIn K mainGlobals n=some (some (.ref C))/\o.dict=none/\∃vs,o.data = .fields vs)/\fp=[]
 | .tup l,v,fp=>∃p xs,v = .ref p/\H p=some (.tup xs)/\Iss K H l xs fp
 | .lst l,v,fp=>∃p xs fq,v = .ref p/\H p=some (.lst xs)/\Iss K H l xs fq/\fp=p::fq
 | .cst l,v,fp=>∃p xs,v = .ref p/\CsK K H p xs/\Iss K H l xs fp
 | .dK ks l,v,fp=>∃p kvs fq,v = .ref p/\Rd H p (.dK kvs)/\kvs.map (·.1)=ks/\Iss K H l (kvs.map (·.2)) fq/\fp=p::fq
 | .dT ks l,v,fp=>∃p kvs fq,v = .ref p/\Rd H p (.dT kvs)/\kvs.map (·.1)=ks/\Iss K H l (kvs.map (·.2)) fq/\fp=p::fq
def Iss(K:PySem.W.Frag)(H:Hp):List PV->List V->List Addr->Prop
 | [],xs,fp=>xs=[]/\fp=[]
 | l::ls,xs,fp=>∃x r f1 f2,xs=x::r/\Is K H l x f1/\Iss K H ls r f2/\fp=f1++f2
end
def RdK(H H':Hp)(p:Addr):Prop:=(∀xs,H p=some (.lst xs)->H' p=some (.lst xs))/\(∀kvs,Rd H p (.dK kvs)->Rd H' p (.dK kvs))/\∀kvs,Rd H p (.dT kvs)->Rd H' p (.dT kvs)
theorem RdK.of{H H':Hp}{p:Addr}(h:∀o,H p=some o->H' p=some o):RdK H H' p:=by
 have r:∀u,Rd H p u->Rd H' p u:=fun u q=>by
  rcases q with q | ⟨o,q⟩
  ·exact .inl (h _ q)
  ·exact .inr ⟨o,h _ q⟩
 exact⟨fun _=>h _,fun _=>r _,fun _=>r _⟩
structure JQ(H H':Hp):Prop where
 tup:TK H H'
 frz:∀b o xs,H b=some (.frz o (.lst xs))->H' b=some (.frz o (.lst xs))
 exc:∀b o x,H b=some (.frz o (.own x))->H' b=some (.frz o (.own x))
theorem Same.tk2{H H':Hp}(s:Same H H'):JQ H H':=⟨s.tk,fun b o xs h=>s b _ h,fun b o x h=>s b _ h⟩
theorem CsK.tr{K:PySem.W.Frag}{H H':Hp}(t:JQ H H'){p:Addr}{xs:List V}(h:CsK K H p xs):CsK K H' p xs:=by
 rcases h with⟨o,h⟩ | h
 ·exact .inl ⟨o,t.frz p o xs h⟩
 ·exact .inr h
mutual
theorem Is.tr{H H':Hp}(ht:JQ H H'):∀(l:PV)(v:V)(fp:List Addr),(∀p∈fp,RdK H H' p)->Is K H l v fp->Is K H' l v fp
 | .non,_,_,_,h=>by simpa only[Is] using h
 | .bl _,_,_,_,h=>by simpa only[Is] using h
 | .int _,_,_,_,h=>by simpa only[Is] using h
 | .str _,_,_,_,h=>by simpa only[Is] using h
 | .ty _,_,_,_,h=>by simpa only[Is] using h
 | .exc _,_,_,_,h=>by
  simp only[Is] at h ⊢
  obtain⟨⟨e,o,x,C,a,b,c⟩,d⟩:=h
  exact⟨⟨e,o,x,C,a,ht.exc e o x b,c⟩,d⟩
 | .tup l,v,fp,hm,h=>by
  simp only[Is] at h ⊢
  obtain⟨p,xs,e,hp,hi⟩:=h
  exact⟨p,xs,e,ht.tup p xs hp,Iss.tr ht l xs fp hm hi⟩
 | .lst l,v,fp,hm,h=>by
  simp only[Is] at h ⊢
  obtain⟨p,xs,fq,e,hr,hi,rfl⟩:=h
  exact⟨p,xs,fq,e,(hm p List.mem_cons_self).1 _ hr,Iss.tr ht l xs fq (fun q hq=>hm q (List.mem_cons_of_mem _ hq)) hi,rfl⟩
 | .cst l,v,fp,hm,h=>by
  simp only[Is] at h ⊢
  obtain⟨p,xs,e,hr,hi⟩:=h
  exact⟨p,xs,e,hr.tr ht,Iss.tr ht l xs fp hm hi⟩
 | .dK ks l,v,fp,hm,h=>by
  simp only[Is] at h ⊢
  obtain⟨p,kvs,fq,e,hr,hk,hi,rfl⟩:=h
  exact⟨p,kvs,fq,e,(hm p List.mem_cons_self).2.1 _ hr,hk,Iss.tr ht l _ fq (fun q hq=>hm q (List.mem_cons_of_mem _ hq)) hi,rfl⟩
 | .dT ks l,v,fp,hm,h=>by
  simp only[Is] at h ⊢
  obtain⟨p,kvs,fq,e,hr,hk,hi,rfl⟩:=h
  exact⟨p,kvs,fq,e,(hm p List.mem_cons_self).2.2 _ hr,hk,Iss.tr ht l _ fq (fun q hq=>hm q (List.mem_cons_of_mem _ hq)) hi,rfl⟩
theorem Iss.tr{H H':Hp}(ht:JQ H H'):∀(l:List PV)(xs:List V)(fp:List Addr),(∀p∈fp,RdK H H' p)->Iss K H l xs fp->Iss K H' l xs fp
 | [],_,_,_,h=>by simpa only[Iss] using h
 | l::ls,xs,fp,hm,h=>by
  simp only[Iss] at h ⊢
  obtain⟨x,r,f1,f2,e,h1,h2,rfl⟩:=h
  exact⟨x,r,f1,f2,e,Is.tr ht l x f1 (fun q hq=>hm q (List.mem_append_left _ hq)) h1,Iss.tr ht ls r f2 (fun q hq=>hm q (List.mem_append_right _ hq)) h2,rfl⟩
end
theorem Is.mono{H H':Hp}(s:Same H H'){l:PV}{v:V}{fp:List Addr}(h:Is K H l v fp):Is K H' l v fp:=Is.tr (Same.tk2 s) l v fp (fun p _=>RdK.of fun o q=>s p o q) h
theorem Iss.mono{H H':Hp}(s:Same H H'){l:List PV}{v:List V}{fp:List Addr}(h:Iss K H l v fp):Iss K H' l v fp:=Iss.tr (Same.tk2 s) l v fp (fun p _=>RdK.of fun o q=>s p o q) h
mutual
theorem Is.pure{H:Hp}:∀(l:PV)(v:V)(fp:List Addr),Z6 l=true->Is K H l v fp->fp=[]
 | .non,_,_,_,h=>by simp only[Is] at h;exact h.2
 | .bl _,_,_,_,h=>by simp only[Is] at h;exact h.2
 | .int _,_,_,_,h=>by simp only[Is] at h;exact h.2
 | .str _,_,_,_,h=>by simp only[Is] at h;exact h.2
 | .ty _,_,_,_,h=>by simp only[Is] at h;exact h.2
 | .exc _,_,_,_,h=>by simp only[Is] at h;exact h.2
 | .tup l,v,fp,hp,h=>by
  simp only[Is] at h
  obtain⟨p,xs,e,_,hi⟩:=h
  exact Iss.pure l xs fp (by simpa only[Z6] using hp) hi
 | .lst l,v,fp,hp,h=>by simp[Z6] at hp
 | .cst l,v,fp,hp,h=>by
  simp only[Is] at h
  obtain⟨p,xs,e,_,hi⟩:=h
  exact Iss.pure l xs fp (by simpa only[Z6] using hp) hi
 | .dK ks l,v,fp,hp,h=>by simp[Z6] at hp
 | .dT ks l,v,fp,hp,h=>by simp[Z6] at hp
theorem Iss.pure{H:Hp}:∀(l:List PV)(xs:List V)(fp:List Addr),ZX l=true->Iss K H l xs fp->fp=[]
 | [],_,_,_,h=>by simp only[Iss] at h;exact h.2
 | l::ls,xs,fp,hp,h=>by
  simp only[Iss] at h;simp only[ZX,Bool.and_eq_true] at hp
  obtain⟨x,r,f1,f2,e,h1,h2,rfl⟩:=h
  rw[Is.pure l x f1 hp.1 h1,Iss.pure ls r f2 hp.2 h2];rfl
end
section
variable {H H':Hp}
theorem Iss.len:∀{l:List PV}{xs:List V}{fp:List Addr},Iss K H l xs fp->xs.length=l.length
 | [],xs,fp,h=>by simp only[Iss] at h;rw[h.1];rfl
 | l::ls,xs,fp,h=>by
  simp only[Iss] at h
  obtain⟨x,r,f1,f2,rfl,_,h2,_⟩:=h
  rw[List.length_cons,List.length_cons,h2.len]
theorem Iss.get:∀{l:List PV}{xs:List V}{fp:List Addr}{i:Nat}{a:PV},Iss K H l xs fp->l[i]?=some a->∃x f1,xs[i]?=some x/\Is K H a x f1/\∀p∈f1,p∈fp
 | [],xs,fp,i,a,h,e=>by simp at e
 | l::ls,xs,fp,0,a,h,e=>by
  simp only[Iss] at h
  obtain⟨x,r,f1,f2,rfl,h1,_,rfl⟩:=h
  simp at e;subst e
  exact⟨x,f1,rfl,h1,fun p hp=>List.mem_append_left _ hp⟩
 | l::ls,xs,fp,i+1,a,h,e=>by
  simp only[Iss] at h
  obtain⟨x,r,f1,f2,rfl,_,h2,rfl⟩:=h
  obtain⟨y,g,h3,h4,h5⟩:=h2.get (i:=i) (a:=a) (by simpa using e)
  exact⟨y,g,by simpa using h3,h4,fun p hp=>List.mem_append_right _ (h5 p hp)⟩
theorem Iss.get'{l:List PV}{xs:List V}{fp:List Addr}{i:Nat}{x:V}(h:Iss K H l xs fp)(e:xs[i]?=some x):∃a f1,l[i]?=some a/\Is K H a x f1/\∀p∈f1,p∈fp:=by
 have hi:i<l.length:=by rw[<-h.len];exact(List.getElem?_eq_some_iff.mp e).1
 obtain⟨y,f1,h1,h2,h3⟩:=h.get (List.getElem?_eq_getElem hi)
 rw[e] at h1;cases h1
 exact⟨_,f1,List.getElem?_eq_getElem hi,h2,h3⟩
theorem Iss.nil:Iss K H [] [] []:=by simp[Iss]
theorem Iss.cons{l:PV}{ls:List PV}{x:V}{xs:List V}{f1 f2:List Addr}(h1:Is K H l x f1)(h2:Iss K H ls xs f2):Iss K H (l::ls) (x::xs) (f1++f2):=by
 simp only[Iss];exact⟨x,xs,f1,f2,rfl,h1,h2,rfl⟩
theorem Iss.inv{l:PV}{ls:List PV}{xs:List V}{fp:List Addr}(h:Iss K H (l::ls) xs fp):∃x r f1 f2,xs=x::r/\Is K H l x f1/\Iss K H ls r f2/\fp=f1++f2:=by
 simpa only[Iss] using h
theorem Iss.append:∀{l m:List PV}{xs ys:List V}{f1 f2:List Addr},Iss K H l xs f1->Iss K H m ys f2->Iss K H (l++m) (xs++ys) (f1++f2)
 | [],m,xs,ys,f1,f2,h,h'=>by
  simp only[Iss] at h
  rw[h.1,h.2];exact h'
 | l::ls,m,xs,ys,f1,f2,h,h'=>by
  obtain⟨x,r,g1,g2,rfl,a,b,rfl⟩:=h.inv
  rw[List.append_assoc]
  exact Iss.cons a (b.append h')
theorem Iss.one{l:PV}{x:V}{f:List Addr}(h:Is K H l x f):Iss K H [l] [x] f:=by
 have:=Iss.cons h (Iss.nil (H:=H))
 rwa [List.append_nil] at this
theorem Iss.take:∀{l:List PV}{xs:List V}{fp:List Addr}(n:Nat),Iss K H l xs fp->∃f1,Iss K H (l.take n) (xs.take n) f1/\∀p∈f1,p∈fp
 | l,xs,fp,0,h=>⟨[],by rw[List.take_zero,List.take_zero];exact Iss.nil,fun p hp=>by simp at hp⟩
 | [],xs,fp,n+1,h=>by
  simp only[Iss] at h;rw[h.1]
  exact⟨[],by rw[List.take_nil,List.take_nil];exact Iss.nil,fun p hp=>by simp at hp⟩
 | l::ls,xs,fp,n+1,h=>by
  obtain⟨x,r,f1,f2,rfl,h1,h2,rfl⟩:=h.inv
  obtain⟨f3,a,b⟩:=h2.take n
  refine⟨f1++f3,Iss.cons h1 a,fun p hp=>?_⟩
  rcases List.mem_append.mp hp with h | h
  ·exact List.mem_append_left _ h
  ·exact List.mem_append_right _ (b p h)
theorem Iss.drop:∀{l:List PV}{xs:List V}{fp:List Addr}(n:Nat),Iss K H l xs fp->∃f1,Iss K H (l.drop n) (xs.drop n) f1/\∀p∈f1,p∈fp
 | l,xs,fp,0,h=>⟨fp,h,fun p hp=>hp⟩
 | [],xs,fp,n+1,h=>by
  simp only[Iss] at h;rw[h.1]
  exact⟨[],by rw[List.drop_nil,List.drop_nil];exact Iss.nil,fun p hp=>by simp at hp⟩
 | l::ls,xs,fp,n+1,h=>by
  obtain⟨x,r,f1,f2,rfl,h1,h2,rfl⟩:=h.inv
  obtain⟨f3,a,b⟩:=h2.drop n
  exact⟨f3,a,fun p hp=>List.mem_append_right _ (b p hp)⟩
theorem Iss.setP:∀{l:List PV}{xs:List V}{a:PV}{x:V}(i:Nat),ZX l=true->Z6 a=true->Iss K H l xs []->Is K H a x []->Iss K H (l.set i a) (xs.set i x) []
 | [],xs,a,x,i,_,_,h,_=>by
  simp only[Iss] at h
  rw[h.1];simp only[List.set_nil];exact Iss.nil
 | l::ls,xs,a,x,0,hp,_,h,ha=>by
  simp only[ZX,Bool.and_eq_true] at hp
  obtain⟨y,r,f1,f2,rfl,_,h2,e⟩:=h.inv
  have e2:=Iss.pure _ _ _ hp.2 h2;subst e2
  exact Iss.cons (f1:=[]) ha h2
 | l::ls,xs,a,x,i+1,hp,hq,h,ha=>by
  simp only[ZX,Bool.and_eq_true] at hp
  obtain⟨y,r,f1,f2,rfl,h1,h2,e⟩:=h.inv
  have e1:=Is.pure _ _ _ hp.1 h1;have e2:=Iss.pure _ _ _ hp.2 h2
  subst e1 e2
  exact Iss.cons (f1:=[]) h1 (Iss.setP i hp.2 hq h2 ha)
theorem Is.int_inv{i:Int}{v:V}{fp:List Addr}(h:Is K H (.int i) v fp):v = .int i/\fp=[]:=by simpa only[Is] using h
theorem Is.int(i:Int):Is K H (.int i) (.int i) []:=by simp[Is]
theorem Is.bl(i:Bool):Is K H (.bl i) (.bl i) []:=by simp[Is]
theorem Is.non:Is K H .non .non []:=by simp[Is]
theorem Is.str(x:Str):Is K H (.str x) (.str x) []:=by simp[Is]
theorem Is.ty(n:String):Is K H (.ty n) (.ty n) []:=by simp[Is]
theorem Is.bl_inv{i:Bool}{v:V}{fp:List Addr}(h:Is K H (.bl i) v fp):v = .bl i/\fp=[]:=by simpa only[Is] using h
theorem Is.str_inv{i:Str}{v:V}{fp:List Addr}(h:Is K H (.str i) v fp):v = .str i/\fp=[]:=by simpa only[Is] using h
theorem Is.non_inv{v:V}{fp:List Addr}(h:Is K H .non v fp):v = .non/\fp=[]:=by simpa only[Is] using h
theorem Is.ty_inv{n:String}{v:V}{fp:List Addr}(h:Is K H (.ty n) v fp):v = .ty n/\fp=[]:=by simpa only[Is] using h
theorem Is.tup_inv{l:List PV}{v:V}{fp:List Addr}(h:Is K H (.tup l) v fp):∃p xs,v = .ref p/\H p=some (.tup xs)/\Iss K H l xs fp:=by simpa only[Is] using h
theorem Is.tup{l:List PV}{p:Addr}{xs:List V}{fp:List Addr}(h:H p=some (.tup xs))(hi:Iss K H l xs fp):Is K H (.tup l) (.ref p) fp:=by simp only[Is];exact⟨p,xs,rfl,h,hi⟩
theorem Is.lst_inv{l:List PV}{v:V}{fp:List Addr}(h:Is K H (.lst l) v fp):∃p xs fq,v = .ref p/\H p=some (.lst xs)/\Iss K H l xs fq/\fp=p::fq:=by simpa only[Is] using h
theorem Is.lst{l:List PV}{p:Addr}{xs:List V}{fp:List Addr}(h:H p=some (.lst xs))(hi:Iss K H l xs fp):Is K H (.lst l) (.ref p) (p::fp):=by
 simp only[Is];exact⟨p,xs,fp,rfl,h,hi,rfl⟩
theorem Is.cst_inv{l:List PV}{v:V}{fp:List Addr}(h:Is K H (.cst l) v fp):∃p xs,v = .ref p/\CsK K H p xs/\Iss K H l xs fp:=by simpa only[Is] using h
theorem Is.cst{l:List PV}{p:Addr}{xs:List V}{fp:List Addr}(h:CsK K H p xs)(hi:Iss K H l xs fp):Is K H (.cst l) (.ref p) fp:=by
 simp only[Is];exact⟨p,xs,rfl,h,hi⟩
theorem Is.dT_inv{ks:List (List TV)}{l:List PV}{v:V}{fp:List Addr}(h:Is K H (.dT ks l) v fp):∃p kvs fq,v = .ref p/\Rd H p (.dT kvs)/\kvs.map (·.1)=ks/\Iss K H l (kvs.map (·.2)) fq/\fp=p::fq:=by simpa only[Is] using h
theorem Is.dK_inv{ks:List TV}{l:List PV}{v:V}{fp:List Addr}(h:Is K H (.dK ks l) v fp):∃p kvs fq,v = .ref p/\Rd H p (.dK kvs)/\kvs.map (·.1)=ks/\Iss K H l (kvs.map (·.2)) fq/\fp=p::fq:=by simpa only[Is] using h
end
abbrev iL(l:List Int):List PV:=l.map PV.int
theorem Y7(l:List Int):ZX (iL l)=true:=by
 rw[Wp,List.all_eq_true];intro x hx
 obtain⟨i,_,rfl⟩:=List.mem_map.mp hx
 rfl
theorem Iss.iL{H:Hp}:∀{l:List Int}{xs:List V}{fp:List Addr},Iss K H (VL.iL l) xs fp->xs=l.map V.int/\fp=[]
 | [],xs,fp,h=>by simpa only[VL.iL,List.map_nil,Iss] using h
 | i::l,xs,fp,h=>by
  obtain⟨x,r,f1,f2,rfl,h1,h2,rfl⟩:=Iss.inv (show Iss K H (PV.int i::VL.iL l) xs fp from h)
  obtain⟨rfl,rfl⟩:=h1.int_inv
  obtain⟨rfl,rfl⟩:=h2.iL
  exact⟨rfl,rfl⟩
theorem Iss.ofInts{H:Hp}:∀(l:List Int),Iss K H (VL.iL l) (l.map V.int) []
 | []=>Iss.nil
 | i::l=>Iss.cons (f1:=[]) (Is.int i) (Iss.ofInts l)
end VL
namespace VL
open PySem PySem.Spec PyProof.Rows L2
variable {K:PySem.W.Frag}
abbrev TL:=L2.St
abbrev ZU:=List (Option PV)
abbrev XE:=ZU->Option PV
structure EnvIs(K:PySem.W.Frag)(Rm:Addr->Prop)(H:Hp)(s:ZU)(σ:TL):Prop where
 is:∀(i:Nat) l,s[i]?=some (some l)->∃v fp,σ[i]?=some (some v)/\Is K H l v fp/\∀p∈fp,¬Rm p
theorem EnvIs.mono{Rm:Addr->Prop}{H H':Hp}{s:ZU}{σ:TL}(h:EnvIs K Rm H s σ)(e:Same H H'):EnvIs K Rm H' s σ:=⟨fun i l q=>by
 obtain⟨v,fp,a,b,c⟩:=h.is i l q
 exact⟨v,fp,a,b.mono e,c⟩⟩
theorem EnvIs.free{Rm:Addr->Prop}{H:Hp}{s:ZU}{σ:TL}(h:EnvIs K Rm H s σ):EnvIs K (fun _=>False) H s σ:=⟨fun i l q=>by
 obtain⟨v,fp,a,b,c⟩:=h.is i l q
 exact⟨v,fp,a,b,fun _ _ z=>z⟩⟩
theorem Same.mut{H H':Hp}(e:Same H H'){p:Addr}(h:Wv (H p)):Wv (H' p):=by
 cases q:H p with
 | none=>rw[q] at h;exact h.elim
 | some o=>rw[e p o q,<-q];exact h
theorem Y3{H:Hp}{p:Addr}(h:Wv (H p)):H p≠none:=fun z=>by rw[z] at h;exact h
def tF(K:PySem.W.Frag)(f:XE):TE:=fun σ H Q=>∃(Rm:Addr->Prop) (s:ZU) (l:PV),(∀p,Rm p->Wv (H p))/\EnvIs K Rm H s σ/\f s=some l/\∀v H' fp,Same H H'->Is K H' l v fp->(∀p∈fp,¬Rm p)->Q v H'
def tM(K:PySem.W.Frag)(f:XE):TE:=fun σ H Q=>∃(s:ZU) (l:PV),EnvIs K (fun _=>False) H s σ/\f s=some l/\∀v H' fp,Same H H'->Is K H' l v fp->fp.Nodup->(∀p∈fp,H p=none/\Wv (H' p))->Q v H'
def VE(X:Cx)(e:Expr)(f:XE):Prop:=PE X e (tF X.K f)
def VM(X:Cx)(e:Expr)(f:XE):Prop:=PE X e (tM X.K f)
section
variable {X:Cx} {e:Expr} {f g:XE} {t t':TE}
theorem PE.imp(h:PE X e t)(i:∀σ H Q,t' σ H Q->t σ H Q):PE X e t':=fun pins s σ H Q I q=>h pins s σ H Q I (i σ H Q q)
theorem VM.ve(h:VM X e f):VE X e f:=PE.imp h fun σ H Q ⟨Rm,s,l,hd,env,e,k⟩=>
 ⟨s,l,env.free,e,fun v H' fp sm i _ n=>k v H' fp sm i fun p hp z=>Y3 (hd p z) (n p hp).1⟩
def eP(f:XE):XE:=fun s=>(f s).bind fun l=>if Z6 l=true then some l else none
theorem K1{s:ZU}{l:PV}(h:eP f s=some l):f s=some l/\Z6 l=true:=by
 unfold eP at h
 cases q:f s with
 | none=>rw[q] at h;cases h
 | some a=>
  rw[q] at h;simp only[Option.bind_some] at h
  split at h
  ·cases h;exact⟨rfl,by assumption⟩
  ·cases h
theorem VE.pure(h:VE X e f):VM X e (eP f):=PE.imp h fun σ H Q ⟨s,l,env,e,k⟩=>by
 obtain⟨e1,e2⟩:=K1 e
 refine⟨fun _=>False,s,l,fun _ z=>z.elim,env,e1,fun v H' fp sm i n=>?_⟩
 have:=Is.pure l v fp e2 i
 subst this
 exact k v H' [] sm i List.nodup_nil fun p hp=>by simp at hp
end
def Za(i:Nat):XE:=fun s=>(s[i]?).join
def eC(l:PV):XE:=fun _=>some l
theorem RS{i:Nat}{s:ZU}{l:PV}(h:Za i s=some l):s[i]?=some (some l):=by
 unfold Za at h
 cases q:s[i]? with
 | none=>rw[q] at h;cases h
 | some o=>rw[q] at h;cases o with
  | none=>cases h
  | some a=>cases h;rfl
section
variable {X:Cx} {pos:Pos}
theorem Zd{e:Expr}{i:Nat}(h:PE X e (Rt i)):VE X e (Za i):=PE.imp h fun σ H Q ⟨Rm,s,l,hd,env,e,k⟩=>by
 obtain⟨v,fp,a,b,c⟩:=env.is i l (RS e)
 exact⟨v,a,k v H fp (Same.refl H) b c⟩
theorem K2{e:Expr}{v:V}{l:PV}(h:PE X e (tC v))(hv:∀H,Is X.K H l v []):VE X e (eC l):=PE.imp h fun σ H Q ⟨Rm,s,l',hd,env,e,k⟩=>by
 cases e
 exact k v H [] (Same.refl H) (hv H) fun p hp=>by simp at hp
theorem Zj{i j}:VE X (.Constant (.int i) j pos) (eC (.int i)):=K2 J4 fun _=>Is.int i
theorem Ud{i j}:VE X (.Constant (.bool i) j pos) (eC (.bl i)):=K2 Hz fun _=>Is.bl i
theorem Oh{j}:VE X (.Constant .none j pos) (eC .non):=K2 J5 fun _=>Is.non
end
def RB(K:PySem.W.Frag)(r:R2)(g:PV->PV->Option PV):Prop:=∀(H:Hp)(x y:V)(a b l:PV)(fa fb:List Addr),Is K H a x fa->Is K H b y fb->g a b=some l->∀Q:VK,
 (∀v H' fp,Same H H'->Is K H' l v fp->(∀p∈fp,p∈fa\/p∈fb\/H p=none)->Q v H')->r x y H Q
def Zi(g:PV->PV->Option PV)(a b:XE):XE:=fun s=>(a s).bind fun x=>(b s).bind fun y=>g x y
theorem Pm{g:PV->PV->Option PV}{a b:XE}{s:ZU}{l:PV}(h:Zi g a b s=some l):∃x y,a s=some x/\b s=some y/\g x y=some l:=by
 unfold Zi at h
 cases q:a s with
 | none=>rw[q] at h;cases h
 | some x=>cases q2:b s with
  | none=>rw[q,q2] at h;cases h
  | some y=>rw[q,q2] at h;exact⟨x,y,rfl,rfl,h⟩
section
variable {X:Cx} {a b:Expr} {fa fb:XE} {pos:Pos}
theorem No{r:R2}{g:PV->PV->Option PV}(hr:RB K r g):∀σ H Q,tF K (Zi g fa fb) σ H Q->Hr r (tF K fa) (tF K fb) σ H Q:=fun σ H Q ⟨Rm,s,l,hd,env,e,k⟩=>by
 obtain⟨x',y',ex,ey,e⟩:=Pm e
 refine⟨Rm,s,x',hd,env,ex,fun x H1 f1 s1 i1 n1=>⟨Rm,s,y',fun p hp=>Same.mut s1 (hd p hp),env.mono s1,ey,fun y H2 f2 s2 i2 n2=>?_⟩⟩
 refine hr H2 x y x' y' l f1 f2 (i1.mono s2) i2 e Q fun v H3 fp s3 i3 n3=>k v H3 fp (s1.trans (s2.trans s3)) i3 fun p hp z=>?_
 rcases n3 p hp with h | h | h
 ·exact n1 p h z
 ·exact n2 p h z
 ·exact Y3 (Same.mut (s1.trans s2) (hd p z)) h
theorem VZ{op:Operator}{r:R2}{g:PV->PV->Option PV}(ho:VV X (binaryOp op) r)(hr:RB X.K r g)(ha:VE X a fa)(hb:VE X b fb):VE X (.BinOp a op b pos) (Zi g fa fb):=
 PE.imp (JM ho ha hb) (No hr)
theorem Oi{op:CmpOp}{r:R2}{g:PV->PV->Option PV}(ho:VV X (compareOp op) r)(hr:RB X.K r g)(ha:VE X a fa)(hb:VE X b fb)(hm:behindInMarks op b=false):VE X (.Compare a [op] [b] pos) (Zi g fa fb):=
 PE.imp (KB ho ha hb hm) (No hr)
theorem Gh{r:R2}{g:PV->PV->Option PV}(ho:IxR X r)(hr:RB X.K r g)(ha:VE X a fa)(hb:VE X b fb)(hs:Qk b):VE X (.Subscript a b pos) (Zi g fa fb):=
 PE.imp (MU ho ha hb hs) (No hr)
end
def gI(g:Int->Int->Int):PV->PV->Option PV
 | .int i,.int j=>some (.int (g i j))
 | _,_=>none
def gB(g:Int->Int->Bool):PV->PV->Option PV
 | .int i,.int j=>some (.bl (g i j))
 | _,_=>none
def M4(C:Int->Int->Prop)[∀i j,Decidable (C i j)](g:Int->Int->Int):PV->PV->Option PV
 | .int i,.int j=>if C i j then some (.int (g i j)) else none
 | _,_=>none
theorem K3{g:Int->Int->Int}{a b l:PV}(h:gI g a b=some l):∃i j,a = .int i/\b = .int j/\l = .int (g i j):=by
 unfold gI at h;split at h
 ·cases h;exact⟨_,_,rfl,rfl,rfl⟩
 ·cases h
theorem K4{g:Int->Int->Bool}{a b l:PV}(h:gB g a b=some l):∃i j,a = .int i/\b = .int j/\l = .bl (g i j):=by
 unfold gB at h;split at h
 ·cases h;exact⟨_,_,rfl,rfl,rfl⟩
 ·cases h
theorem M5{C:Int->Int->Prop}[∀i j,Decidable (C i j)]{g:Int->Int->Int}{a b l:PV}(h:M4 C g a b=some l):∃i j,a = .int i/\b = .int j/\C i j/\l = .int (g i j):=by
 unfold M4 at h;split at h
 ·split at h
  ·cases h;exact⟨_,_,rfl,rfl,by assumption,rfl⟩
  ·cases h
 ·cases h
theorem Gi(g:Int->Int->Int):RB K (Ko fun i j=>.int (g i j)) (gI g):=fun H x y a b l fa fb ha hb e Q k=>by
 obtain⟨i,j,rfl,rfl,rfl⟩:=K3 e
 exact⟨i,j,ha.int_inv.1,hb.int_inv.1,k _ H [] (Same.refl H) (Is.int _) fun p hp=>by simp at hp⟩
theorem M6(g:Int->Int->Bool):RB K (Ko fun i j=>.bl (g i j)) (gB g):=fun H x y a b l fa fb ha hb e Q k=>by
 obtain⟨i,j,rfl,rfl,rfl⟩:=K4 e
 exact⟨i,j,ha.int_inv.1,hb.int_inv.1,k _ H [] (Same.refl H) (Is.bl _) fun p hp=>by simp at hp⟩
theorem RT(C:Int->Int->Prop)[∀i j,Decidable (C i j)](g:Int->Int->Int):RB K (rI C fun i j=>.int (g i j)) (M4 C g):=fun H x y a b l fa fb ha hb e Q k=>by
 obtain⟨i,j,rfl,rfl,c,rfl⟩:=M5 e
 exact⟨i,j,ha.int_inv.1,hb.int_inv.1,c,k _ H [] (Same.refl H) (Is.int _) fun p hp=>by simp at hp⟩
instance (i j:Int):Decidable (CMul i j):=by unfold CMul;infer_instance
instance (i j:Int):Decidable (P8 i j):=by unfold P8;infer_instance
instance (i j:Int):Decidable (JN i j):=by unfold JN;infer_instance
instance (i j:Int):Decidable (Pa i j):=by unfold Pa;infer_instance
abbrev Yu:=gI (· + ·)
abbrev YT:=gI (· - ·)
abbrev VP:=M4 CMul (· * ·)
abbrev Oj:=M4 P8 (· / ·)
abbrev Xz:=M4 (fun _ j=>0<j) (· % ·)
abbrev TM:=M4 Pa (fun i j=>i^j.toNat)
abbrev MJ:=gB (fun i j=>decide (i<j))
abbrev Fa:=gB (fun i j=>decide (i<=j))
abbrev Np:=gB (fun i j=>decide (j<i))
abbrev GE:=gB (fun i j=>decide (j<=i))
section
variable {X:Cx} {a b:Expr} {fa fb:XE} {pos:Pos}
theorem Yz(ha:VE X a fa)(hb:VE X b fb):VE X (.BinOp a .Add b pos) (Zi Yu fa fb):=VZ Iq (Gi _) ha hb
theorem Xe(ha:VE X a fa)(hb:VE X b fb):VE X (.BinOp a .Sub b pos) (Zi YT fa fb):=VZ Ir (Gi _) ha hb
theorem Wj(ha:VE X a fa)(hb:VE X b fb):VE X (.BinOp a .Mult b pos) (Zi VP fa fb):=VZ Iu (RT _ _) ha hb
theorem Qp(ha:VE X a fa)(hb:VE X b fb):VE X (.BinOp a .FloorDiv b pos) (Zi Oj fa fb):=VZ KA (RT _ _) ha hb
theorem Xf(ha:VE X a fa)(hb:VE X b fb):VE X (.BinOp a .Mod b pos) (Zi Xz fa fb):=VZ Iv (RT _ _) ha hb
theorem Qq(ha:VE X a fa)(hb:VE X b fb):VE X (.BinOp a .Pow b pos) (Zi TM fa fb):=VZ Iw (RT _ _) ha hb
theorem Gj(ha:VE X a fa)(hb:VE X b fb):VE X (.Compare a [.GtE] [b] pos) (Zi GE fa fb):=Oi HS (M6 _) ha hb (V1 _)
end
def ZQ:PV->PV->Option PV
 | .lst l,.int i=>UN l i
 | .cst l,.int i=>UN l i
 | .tup l,.int i=>UN l i
 | .str z,.int i=>if z.length<=sizeLine then(UN z.cps.toList i).map fun c=>.str ⟨#[c]⟩ else none
 | _,_=>none
theorem Ol{l:List PV}{xs:List V}{H:Hp}{fp:List Addr}{i:Int}{a:PV}(h:Iss K H l xs fp)(e:UN l i=some a):∃x f1,UN xs i=some x/\Is K H a x f1/\∀p∈f1,p∈fp:=by
 unfold UN at e ⊢
 rw[h.len]
 cases q:Q3 l.length i with
 | none=>rw[q] at e;cases e
 | some j=>rw[q] at e;exact h.get e
theorem Gk:RB K (Fi K) ZQ:=fun H x y a b l fa fb ha hb e Q k=>by
 unfold ZQ at e;split at e
 ·obtain⟨p,xs,fq,rfl,hp,hi,rfl⟩:=ha.lst_inv
  obtain⟨z,f1,h1,h2,h3⟩:=Ol hi e
  exact .inl ⟨p,xs,_,z,rfl,hb.int_inv.1,SqL.of hp,h1,k z H f1 (Same.refl H) h2 fun q hq=>.inl (List.mem_cons_of_mem _ (h3 q hq))⟩
 ·obtain⟨p,xs,rfl,hp,hi⟩:=ha.cst_inv
  obtain⟨z,f1,h1,h2,h3⟩:=Ol hi e
  exact .inl ⟨p,xs,_,z,rfl,hb.int_inv.1,hp.sq,h1,k z H f1 (Same.refl H) h2 fun q hq=>.inl (h3 q hq)⟩
 ·obtain⟨p,xs,rfl,hp,hi⟩:=ha.tup_inv
  obtain⟨z,f1,h1,h2,h3⟩:=Ol hi e
  exact .inr (.inl ⟨p,xs,_,z,rfl,hb.int_inv.1,SqT.of hp,h1,k z H f1 (Same.refl H) h2 fun q hq=>.inl (h3 q hq)⟩)
 ·split at e
  ·cases q:UN _ _ with
   | none=>rw[q] at e;cases e
   | some c=>
    rw[q] at e;cases e
    exact .inr (.inr ⟨_,_,c,ha.str_inv.1,hb.int_inv.1,by assumption,q,k _ H [] (Same.refl H) (Is.str _) fun p hp=>by simp at hp⟩)
  ·cases e
 ·cases e
section
variable {X:Cx} {a b:Expr} {fa fb:XE} {pos:Pos}
theorem ZA(ha:VE X a fa)(hb:VE X b fb)(hs:Qk b:=by exact fun _ _=>rfl):VE X (.Subscript a b pos) (Zi ZQ fa fb):=Gh ID Gk ha hb hs
end
abbrev XT:=ZU->Option Bool
def P0(K:PySem.W.Frag)(f:XT):TT:=fun σ H Q=>∃(Rm:Addr->Prop) (s:ZU) (c:Bool),(∀p,Rm p->Wv (H p))/\EnvIs K Rm H s σ/\f s=some c/\∀H',Same H H'->Q c H'
def VT(X:Cx)(e:Expr)(f:XT):Prop:=PT X e (P0 X.K f)
def VW(X:Cx)(e:Expr)(f:XT):Prop:=PW X e (P0 X.K f)
section
variable {X:Cx} {e:Expr} {f:XT}
theorem PT.imp{t t':TT}(h:PT X e t)(i:∀σ H Q,t' σ H Q->t σ H Q):PT X e t':=fun pins s σ H Q I q=>h pins s σ H Q I (i σ H Q q)
theorem PW.imp{t t':TT}(h:PW X e t)(i:∀σ H Q,t' σ H Q->t σ H Q):PW X e t':=fun whole pins s σ H Q I q=>h whole pins s σ H Q I (i σ H Q q)
theorem VW.vt(h:VW X e f):VT X e f:=PW.pt h
end
def xB(f:XE):XT:=fun s=>match f s with | some (.bl c)=>some c | _=>none
theorem Ue{f:XE}{s:ZU}{c:Bool}(h:xB f s=some c):f s=some (.bl c):=by
 unfold xB at h;split at h
 ·cases h;assumption
 ·cases h
section
variable {X:Cx} {a b c:Expr} {YJ:List Expr} {fa fb:XE} {ga gb:XT} {pos:Pos}
theorem WB(h:VE X a fa)(he:∀whole,isTrue a X.env whole=(do let v <-whole;standAt a.pos;holding [v] (truthy v)):=by intro _;rfl):VT X a (xB fa):=
 PT.imp (J9 h he) fun σ H Q ⟨Rm,s,c,hd,env,e,k⟩=>⟨Rm,s,.bl c,hd,env,Ue e,fun v H' fp sm i n=>⟨c,i.bl_inv.1,k H' sm⟩⟩
theorem M7:∀σ H Q,P0 K (xB fa) σ H Q->Ng (tF K fa) σ H Q:=fun σ H Q ⟨Rm,s,c,hd,env,e,k⟩=>⟨Rm,s,.bl c,hd,env,Ue e,fun v H' fp sm i n=>⟨c,i.bl_inv.1,k H' sm⟩⟩
theorem Om{t t':TE}(i:∀σ H Q,t' σ H Q->t σ H Q):∀σ H Q,Ng t' σ H Q->Ng t σ H Q:=fun σ H Q h=>i σ H _ h
theorem UZ{op:CmpOp}{r:R2}{g:PV->PV->Option PV}(ho:VV X (compareOp op) r)(hr:RB X.K r g)(ha:VE X a fa)(hb:VE X b fb)(hm:behindInMarks op b=false):VT X (.Compare a [op] [b] pos) (xB (Zi g fa fb)):=
 PT.imp (KC ho ha hb hm) fun σ H Q h=>Om (No hr) σ H Q (M7 σ H Q h)
theorem Nq(ha:VE X a fa)(hb:VE X b fb):VT X (.Compare a [.Lt] [b] pos) (xB (Zi MJ fa fb)):=UZ JO (M6 _) ha hb (V1 _)
theorem Nr(ha:VE X a fa)(hb:VE X b fb):VT X (.Compare a [.Gt] [b] pos) (xB (Zi Np fa fb)):=UZ HR (M6 _) ha hb (V1 _)
def U0(a b:XT):XT:=fun s=>(a s).bind fun c=>if c=true then b s else some false
def TW(a b:XT):XT:=fun s=>(a s).bind fun c=>if c=true then some true else b s
def X9(a:XT):XT:=fun s=>(a s).map not
theorem K5:∀σ H Q,P0 K (U0 ga gb) σ H Q->HB (P0 K ga) (P0 K gb) σ H Q:=fun σ H Q ⟨Rm,s,c,hd,env,e,k⟩=>by
 unfold U0 at e
 cases q:ga s with
 | none=>rw[q] at e;cases e
 | some d=>
  rw[q] at e
  refine⟨Rm,s,d,hd,env,q,fun H1 s1=>?_⟩
  cases d with
  | true=>
   simp only[Option.bind_some,if_true] at e;rw[if_pos rfl]
   exact⟨Rm,s,c,fun p hp=>Same.mut s1 (hd p hp),env.mono s1,e,fun H2 s2=>k H2 (s1.trans s2)⟩
  | false=>
   simp only[Option.bind_some,Bool.false_eq_true,if_false] at e;cases e;rw[if_neg Bool.false_ne_true]
   exact k H1 s1
theorem IM:∀σ H Q,P0 K (TW ga gb) σ H Q->Ff (P0 K ga) (P0 K gb) σ H Q:=fun σ H Q ⟨Rm,s,c,hd,env,e,k⟩=>by
 unfold TW at e
 cases q:ga s with
 | none=>rw[q] at e;cases e
 | some d=>
  rw[q] at e
  refine⟨Rm,s,d,hd,env,q,fun H1 s1=>?_⟩
  cases d with
  | true=>
   simp only[Option.bind_some,if_true] at e;cases e;rw[if_pos rfl]
   exact k H1 s1
  | false=>
   simp only[Option.bind_some,Bool.false_eq_true,if_false] at e;rw[if_neg Bool.false_ne_true]
   exact⟨Rm,s,c,fun p hp=>Same.mut s1 (hd p hp),env.mono s1,e,fun H2 s2=>k H2 (s1.trans s2)⟩
theorem TX(ha:VT X a ga):VW X (.BoolOp .And [a] pos) ga:=Kw ha
theorem U1(ha:VT X a ga):VW X (.BoolOp .Or [a] pos) ga:=Ia ha
theorem Qr(ha:VT X a ga)(hb:VW X (.BoolOp .And (b::YJ) pos) gb):VW X (.BoolOp .And (a::b::YJ) pos) (U0 ga gb):=PW.imp (Ib ha hb) K5
theorem Uf(ha:VT X a ga)(hb:VW X (.BoolOp .Or (b::YJ) pos) gb):VW X (.BoolOp .Or (a::b::YJ) pos) (TW ga gb):=PW.imp (HC ha hb) IM
theorem WC(ha:VT X a ga):VT X (.UnaryOp .Not a pos) (X9 ga):=PT.imp (Ic ha) fun σ H Q ⟨Rm,s,c,hd,env,e,k⟩=>by
 unfold X9 at e
 cases q:ga s with
 | none=>rw[q] at e;cases e
 | some d=>rw[q] at e;cases e;exact⟨Rm,s,d,hd,env,q,k⟩
end
section
variable {X:Cx} {a b c:Expr} {YJ:List Expr} {fa fb:XE} {gc:XT} {pos:Pos}
def U2(a b:XE):XE:=fun s=>(xB a s).bind fun c=>if c=true then b s else some (.bl false)
def Fw(a b:XE):XE:=fun s=>(xB a s).bind fun c=>if c=true then some (.bl true) else b s
def K6(a:XE):XE:=fun s=>(xB a s).map fun c=>.bl !c
def Me(c:XT)(a b:XE):XE:=fun s=>(c s).bind fun k=>if k=true then a s else b s
theorem Qs{op}(h:VE X a fa):VE X (.BoolOp op [a] pos) fa:=Ie h
theorem Sv(ha:VE X a fa)(hb:VE X (.BoolOp .And (b::YJ) pos) fb):VE X (.BoolOp .And (a::b::YJ) pos) (U2 fa fb):=PE.imp (Ig ha hb) fun σ H Q ⟨Rm,s,l,hd,env,e,k⟩=>by
 unfold U2 at e
 cases q:xB fa s with
 | none=>rw[q] at e;cases e
 | some d=>
  rw[q] at e
  refine⟨Rm,s,.bl d,hd,env,Ue q,fun v H1 fp s1 i1 _=>⟨d,i1.bl_inv.1,?_⟩⟩
  cases d with
  | true=>
   simp only[Option.bind_some,if_true] at e;rw[if_pos rfl]
   exact⟨Rm,s,l,fun p hp=>Same.mut s1 (hd p hp),env.mono s1,e,fun v2 H2 fp2 s2 i2 n2=>k v2 H2 fp2 (s1.trans s2) i2 n2⟩
  | false=>
   simp only[Option.bind_some,Bool.false_eq_true,if_false] at e;cases e;rw[if_neg Bool.false_ne_true]
   exact k _ H1 [] s1 (Is.bl false) fun p hp=>by simp at hp
theorem IN(ha:VE X a fa):VE X (.UnaryOp .Not a pos) (K6 fa):=PE.imp (Ih ha) fun σ H Q ⟨Rm,s,l,hd,env,e,k⟩=>by
 unfold K6 at e
 cases q:xB fa s with
 | none=>rw[q] at e;cases e
 | some d=>
  rw[q] at e;cases e
  exact⟨Rm,s,.bl d,hd,env,Ue q,fun v H1 fp s1 i1 _=>⟨d,i1.bl_inv.1,k _ H1 [] s1 (Is.bl _) fun p hp=>by simp at hp⟩⟩
theorem M8(hc:VT X c gc)(ha:VE X a fa)(hb:VE X b fb):VE X (.IfExp c a b pos) (Me gc fa fb):=PE.imp (MM hc ha hb) fun σ H Q ⟨Rm,s,l,hd,env,e,k⟩=>by
 unfold Me at e
 cases q:gc s with
 | none=>rw[q] at e;cases e
 | some d=>
  rw[q] at e
  refine⟨Rm,s,d,hd,env,q,fun H1 s1=>?_⟩
  cases d with
  | true=>
   simp only[Option.bind_some,if_true] at e;rw[if_pos rfl]
   exact⟨Rm,s,l,fun p hp=>Same.mut s1 (hd p hp),env.mono s1,e,fun v2 H2 fp2 s2 i2 n2=>k v2 H2 fp2 (s1.trans s2) i2 n2⟩
  | false=>
   simp only[Option.bind_some,Bool.false_eq_true,if_false] at e;rw[if_neg Bool.false_ne_true]
   exact⟨Rm,s,l,fun p hp=>Same.mut s1 (hd p hp),env.mono s1,e,fun v2 H2 fp2 s2 i2 n2=>k v2 H2 fp2 (s1.trans s2) i2 n2⟩
end
section
variable {X:Cx} {a b c:Expr} {fa fb fc:XE} {pos:Pos}
def Mf(neg:Bool):PV->Option PV
 | .non=>some (.bl !neg)
 | _=>some (.bl neg)
def On:PV->Bool
 | .non=>true
 | _=>false
theorem Sw{H:Hp}{l:PV}{v:V}{fp:List Addr}(i:Is K H l v fp):decide (v=V.non)=On l:=by
 cases l with
 | non=>rw[i.non_inv.1];rfl
 | bl b=>rw[i.bl_inv.1];rfl
 | int j=>rw[i.int_inv.1];rfl
 | str y=>rw[i.str_inv.1];rfl
 | ty n=>rw[i.ty_inv.1];rfl
 | exc C=>simp only[Is] at i;obtain⟨⟨e,o,x,C,rfl,_⟩,_⟩:=i;rfl
 | lst l=>obtain⟨p,xs,fq,rfl,_⟩:=i.lst_inv;rfl
 | cst l=>obtain⟨p,xs,rfl,_⟩:=i.cst_inv;rfl
 | tup l=>obtain⟨p,xs,rfl,_⟩:=i.tup_inv;rfl
 | dK ks l=>obtain⟨p,xs,fq,rfl,_⟩:=i.dK_inv;rfl
 | dT ks l=>obtain⟨p,xs,fq,rfl,_⟩:=i.dT_inv;rfl
def WY(neg:Bool)(a:XE):XE:=fun s=>(a s).bind (Mf neg)
theorem K7:∀σ H Q,tF K (WY false fa) σ H Q->HA (tF K fa) σ H Q:=fun σ H Q ⟨Rm,s,l,hd,env,e,k⟩=>by
 unfold WY at e
 cases q:fa s with
 | none=>rw[q] at e;cases e
 | some m=>
  rw[q] at e;simp only[Option.bind_some] at e
  refine⟨Rm,s,m,hd,env,q,fun v H1 fp s1 i1 _=>?_⟩
  show Q _ H1
  rw[Sw i1]
  have:l = .bl (On m):=by cases m<;>cases e<;>rfl
  subst this
  exact k _ H1 [] s1 (Is.bl _) fun p hp=>by simp at hp
theorem M9:∀σ H Q,tF K (WY true fa) σ H Q->JI (tF K fa) σ H Q:=fun σ H Q ⟨Rm,s,l,hd,env,e,k⟩=>by
 unfold WY at e
 cases q:fa s with
 | none=>rw[q] at e;cases e
 | some m=>
  rw[q] at e;simp only[Option.bind_some] at e
  refine⟨Rm,s,m,hd,env,q,fun v H1 fp s1 i1 _=>?_⟩
  show Q _ H1
  rw[Sw i1]
  have:l = .bl (!On m):=by cases m<;>cases e<;>rfl
  subst this
  exact k _ H1 [] s1 (Is.bl _) fun p hp=>by simp at hp
theorem La{j pos'}(ha:VE X a fa):VE X (.Compare a [.Is] [.Constant .none j pos'] pos) (WY false fa):=PE.imp (J7 (J6 ha)) K7
theorem Gm:∀σ H Q,P0 K (xB fa) σ H Q->tB (tF K fa) σ H Q:=fun σ H Q ⟨Rm,s,c,hd,env,e,k⟩=>⟨Rm,s,.bl c,hd,env,Ue e,fun v H' fp sm i n=>⟨c,i.bl_inv.1,k H' sm⟩⟩
theorem K8{t t':TE}(i:∀σ H Q,t' σ H Q->t σ H Q):∀σ H Q,tB t' σ H Q->tB t σ H Q:=fun σ H Q h=>i σ H _ h
theorem Nt{j pos'}(ha:VE X a fa):VT X (.Compare a [.IsNot] [.Constant .none j pos'] pos) (xB (WY true fa)):=PT.imp (J8 (Kv ha)) fun σ H Q h=>K8 M9 σ H Q (Gm σ H Q h)
def Rz:PV->Option PV
 | .int i=>some (.int (-i))
 | _=>none
def Oo(g:PV->Option PV)(a:XE):XE:=fun s=>(a s).bind g
theorem Op(ha:VE X a fa):VE X (.UnaryOp .USub a pos) (Oo Rz fa):=PE.imp (HN Ix ha) fun σ H Q ⟨Rm,s,l,hd,env,e,k⟩=>by
 unfold Oo at e
 cases q:fa s with
 | none=>rw[q] at e;cases e
 | some m=>
  rw[q] at e;simp only[Option.bind_some] at e;unfold Rz at e
  split at e
  ·cases e
   exact⟨Rm,s,_,hd,env,q,fun v H1 fp s1 i1 _=>⟨_,i1.int_inv.1,k _ H1 [] s1 (Is.int _) fun p hp=>by simp at hp⟩⟩
  ·cases e
end
end VL
namespace VL
open PySem PySem.Spec PyProof.Rows L2
variable {K:PySem.W.Frag}
def TY:List XE->ZU->Option (List PV)
 | [],_=>some []
 | f::fs,s=>(f s).bind fun x=>(TY fs s).map (x::·)
theorem Sx{f:XE}{fs:List XE}{s:ZU}{ls:List PV}(h:TY (f::fs) s=some ls):∃x r,f s=some x/\TY fs s=some r/\ls=x::r:=by
 unfold TY at h
 cases q:f s with
 | none=>rw[q] at h;cases h
 | some x=>cases q2:TY fs s with
  | none=>rw[q,q2] at h;cases h
  | some r=>rw[q,q2] at h;cases h;exact⟨x,r,rfl,rfl,rfl⟩
theorem WD:∀{fs:List XE}{s:ZU}{ls:List PV},TY fs s=some ls->ls.length=fs.length
 | [],_,_,h=>by cases h;rfl
 | f::fs,s,ls,h=>by
  obtain⟨x,r,_,h2,rfl⟩:=Sx h
  rw[List.length_cons,List.length_cons,WD h2]
def GF(K:PySem.W.Frag)(fs:List XE):TA:=fun σ H Q=>∃(Rm:Addr->Prop) (s:ZU) (ls:List PV),(∀p,Rm p->Wv (H p))/\EnvIs K Rm H s σ/\TY fs s=some ls/\∀vs H' fp,Same H H'->Iss K H' ls vs fp->(∀p∈fp,¬Rm p)->Q vs H'
def Fx(K:PySem.W.Frag)(fs:List XE):TA:=fun σ H Q=>∃(s:ZU) (ls:List PV),EnvIs K (fun _=>False) H s σ/\TY fs s=some ls/\∀vs H' fp,Same H H'->Iss K H' ls vs fp->fp.Nodup->(∀p∈fp,H p=none/\Wv (H' p))->Q vs H'
def VA(X:Cx)(es:List Expr)(fs:List XE):Prop:=PA X es (GF X.K fs)
def Gn(X:Cx)(es:List Expr)(fs:List XE):Prop:=PA X es (Fx X.K fs)
section
variable {X:Cx} {e:Expr} {es:List Expr} {f:XE} {fs:List XE} {pos:Pos} {k:Nat}
theorem PA.imp{t t':TA}(h:PA X es t)(i:∀σ H Q,t' σ H Q->t σ H Q):PA X es t':=fun pos pins s σ H Q I q=>h pos pins s σ H Q I (i σ H Q q)
theorem Zf:VA X [] []:=PA.imp V2 fun σ H Q ⟨Rm,s,ls,hd,env,e,k⟩=>by
 cases e
 exact k [] H [] (Same.refl H) Iss.nil fun p hp=>by simp at hp
theorem Zc(ha:VE X e f)(hr:VA X es fs)(hs:starEach (e::es) X.env=(false,eval e X.env)::starEach es X.env:=by rfl):VA X (e::es) (f::fs):=PA.imp (Y2 ha hr hs) fun σ H Q ⟨Rm,s,ls,hd,env,e,k⟩=>by
 obtain⟨x',r',h1,h2,rfl⟩:=Sx e
 refine⟨Rm,s,x',hd,env,h1,fun x H1 f1 s1 i1 n1=>⟨Rm,s,r',fun p hp=>Same.mut s1 (hd p hp),env.mono s1,h2,fun xs H2 f2 s2 i2 n2=>?_⟩⟩
 refine k _ H2 (f1++f2) (s1.trans s2) (Iss.cons (i1.mono s2) i2) fun p hp=>?_
 rcases List.mem_append.mp hp with h | h
 ·exact n1 p h
 ·exact n2 p h
theorem TZ:Gn X [] []:=PA.imp V2 fun σ H Q ⟨s,ls,env,e,k⟩=>by
 cases e
 exact k [] H [] (Same.refl H) Iss.nil List.nodup_nil fun p hp=>by simp at hp
theorem Ug(ha:VM X e f)(hr:Gn X es fs)(hs:starEach (e::es) X.env=(false,eval e X.env)::starEach es X.env:=by rfl):Gn X (e::es) (f::fs):=PA.imp (Y2 ha hr hs) fun σ H Q ⟨s,ls,env,e,k⟩=>by
 obtain⟨x',r',h1,h2,rfl⟩:=Sx e
 refine⟨s,x',env,h1,fun x H1 f1 s1 i1 d1 n1=>⟨s,r',env.mono s1,h2,fun xs H2 f2 s2 i2 d2 n2=>?_⟩⟩
 refine k _ H2 (f1++f2) (s1.trans s2) (Iss.cons (i1.mono s2) i2) ?_ fun p hp=>?_
 ·refine List.nodup_append.mpr ⟨d1,d2,fun a ha b hb z=>?_⟩
  subst z
  exact Y3 (n1 a ha).2 (n2 a hb).1
 ·rcases List.mem_append.mp hp with h | h
  ·exact⟨(n1 p h).1,Same.mut s2 (n1 p h).2⟩
  ·exact⟨Same.off s1 (n2 p h).1,(n2 p h).2⟩
def Qt(fs:List XE):XE:=fun s=>(TY fs s).map .tup
def VQ(fs:List XE):XE:=fun s=>(TY fs s).map .lst
theorem map_some{α β:Type}{o:Option α}{g:α->β}{b:β}(h:o.map g=some b):∃a,o=some a/\b=g a:=by
 cases o with
 | none=>cases h
 | some a=>cases h;exact⟨a,rfl,rfl⟩
theorem IP(h:VA X es fs)(hl:fs.length<=1000:=by decide):VE X (.Tuple es k pos) (Qt fs):=PE.imp (Oa h) fun σ H Q ⟨Rm,s,l,hd,env,e,q⟩=>by
 obtain⟨ls,e1,rfl⟩:=map_some e
 refine⟨Rm,s,ls,hd,env,e1,fun vs H1 fp s1 i1 n1=>⟨?_,fun p hp=>?_⟩⟩
 ·rw[i1.len,WD e1];exact Nat.le_of_lt (lt_size (by omega))
 ·exact q _ _ fp (s1.trans (Same.new hp _)) (Is.tup Zx (i1.mono (Same.new hp _))) n1
theorem IQ(h:Gn X es fs)(hl:fs.length<=1000:=by decide):VM X (.Tuple es k pos) (Qt fs):=PE.imp (Oa h) fun σ H Q ⟨s,l,env,e,q⟩=>by
 obtain⟨ls,e1,rfl⟩:=map_some e
 refine⟨s,ls,env,e1,fun vs H1 fp s1 i1 d1 n1=>⟨?_,fun p hp=>?_⟩⟩
 ·rw[i1.len,WD e1];exact Nat.le_of_lt (lt_size (by omega))
 ·exact q _ _ fp (s1.trans (Same.new hp _)) (Is.tup Zx (i1.mono (Same.new hp _))) d1 fun a ha=>⟨(n1 a ha).1,Same.mut (Same.new hp _) (n1 a ha).2⟩
theorem Lb(h:VA X es fs)(hl:fs.length<=1000:=by decide):VE X (.List es pos) (VQ fs):=PE.imp (MR h) fun σ H Q ⟨Rm,s,l,hd,env,e,q⟩=>by
 obtain⟨ls,e1,rfl⟩:=map_some e
 refine⟨Rm,s,ls,hd,env,e1,fun vs H1 fp s1 i1 n1=>⟨?_,fun p hp=>?_⟩⟩
 ·rw[i1.len,WD e1];exact Nat.le_of_lt (lt_size (by omega))
 ·refine q _ _ (p::fp) (s1.trans (Same.new hp _)) (Is.lst Zx (i1.mono (Same.new hp _))) fun a ha z=>?_
  rcases List.mem_cons.mp ha with rfl | ha
  ·exact Y3 (Same.mut s1 (hd a z)) hp
  ·exact n1 a ha z
theorem Oq(h:Gn X es fs)(hl:fs.length<=1000:=by decide):VM X (.List es pos) (VQ fs):=PE.imp (MR h) fun σ H Q ⟨s,l,env,e,q⟩=>by
 obtain⟨ls,e1,rfl⟩:=map_some e
 refine⟨s,ls,env,e1,fun vs H1 fp s1 i1 d1 n1=>⟨?_,fun p hp=>?_⟩⟩
 ·rw[i1.len,WD e1];exact Nat.le_of_lt (lt_size (by omega))
 ·refine q _ _ (p::fp) (s1.trans (Same.new hp _)) (Is.lst Zx (i1.mono (Same.new hp _))) (List.nodup_cons.mpr ⟨fun z=>Y3 (n1 p z).2 hp,d1⟩) fun a ha=>?_
  rcases List.mem_cons.mp ha with rfl | ha
  ·exact⟨Same.off s1 hp,by rw[Zx];exact True.intro⟩
  ·exact⟨(n1 a ha).1,Same.mut (Same.new hp _) (n1 a ha).2⟩
end
def Yt(K:PySem.W.Frag)(D:List PV->Option PV)(n:Nat):Sp:=fun vs H Q _=>vs.length=n/\∃ls fp l,Iss K H ls vs fp/\D ls=some l/\∀v H' fq,Same H H'->Is K H' l v fq->fq.Nodup->(∀p∈fq,H p=none/\Wv (H' p))->Q v H'
def Ze(D:List PV->Option PV)(fs:List XE):XE:=fun s=>(TY fs s).bind D
theorem Zg{α β:Type}{o:Option α}{g:α->Option β}{b:β}(h:o.bind g=some b):∃a,o=some a/\g a=some b:=by
 cases o with
 | none=>cases h
 | some a=>exact⟨a,rfl,h⟩
section
variable {X:Cx} {x:Str} {ps:List Str} {k:Nat} {e:Expr} {es:List Expr} {fs:List XE} {p pos:Pos}
theorem Zl{D:List PV->Option PV}{n:Nat}(C:Yv X.prog X.w X.K X.mg X.base x ps (Yt X.K D n) k)(hr:Room k X.A)(hg:Gl X x)(ha:VA X (e::es) fs)(hn:fs.length=n:=by rfl)
  (hdb:(x==("__debug__" : Str))=false:=by decide) (he:starEach (e::es) X.env=(false,eval e X.env)::starEach es X.env:=by rfl) (hpl:(backTo pos (starEach es X.env)).any (·.1)=false:=by rfl) :
  VM X (.Call (.Name x p) (e::es) [] pos) (Ze D fs):=PE.imp (Og C hr hg ha hdb he hpl) fun σ H Q ⟨s,l,env,e,q⟩=>by
 obtain⟨ls,e1,e2⟩:=Zg e
 refine⟨fun _=>False,s,ls,fun _ z=>z.elim,env,e1,fun vs H1 fp s1 i1 n1=>?_⟩
 show Yt X.K D n (vs++[]) H1 Q E0
 rw[List.append_nil]
 exact⟨by rw[i1.len,WD e1,hn],ls,fp,l,i1,e2,fun v H2 fq s2 i2 d2 n2=>q v H2 fq (s1.trans s2) i2 d2 fun a ha=>⟨Same.off s1 (n2 a ha).1,(n2 a ha).2⟩⟩
end
def RC(K:PySem.W.Frag)(r:List V->Hp->VK->Prop)(g:List PV->Option PV):Prop:=∀(H:Hp)(vs:List V)(ls:List PV)(l:PV)(fp:List Addr),Iss K H ls vs fp->g ls=some l->∀Q:VK,
 (∀v H' fq,Same H H'->Is K H' l v fq->(∀p∈fq,p∈fp\/H p=none)->Q v H')->r vs H Q
def Go(K:PySem.W.Frag)(r:List V->Hp->VK->Prop)(g:List PV->Option PV):Prop:=∀(H:Hp)(vs:List V)(ls:List PV)(l:PV)(fp:List Addr),Iss K H ls vs fp->g ls=some l->∀Q:VK,
 (∀v H' fq,Same H H'->Is K H' l v fq->fq.Nodup->(∀p∈fq,H p=none/\Wv (H' p))->Q v H')->r vs H Q
theorem JR{r:List V->Hp->VK->Prop}{g:List PV->Option PV}{fs:List XE}(hr:RC K r g):∀σ H Q,tF K (Ze g fs) σ H Q->Gz r (GF K fs) σ H Q:=fun σ H Q ⟨Rm,s,l,hd,env,e,k⟩=>by
 obtain⟨ls,e1,e2⟩:=Zg e
 refine⟨Rm,s,ls,hd,env,e1,fun vs H1 fp s1 i1 n1=>hr H1 vs ls l fp i1 e2 Q fun v H2 fq s2 i2 n2=>k v H2 fq (s1.trans s2) i2 fun p hp z=>?_⟩
 rcases n2 p hp with h | h
 ·exact n1 p h z
 ·exact Y3 (Same.mut s1 (hd p z)) h
theorem JS{r:List V->Hp->VK->Prop}{g:List PV->Option PV}{fs:List XE}(hr:Go K r g):∀σ H Q,tM K (Ze g fs) σ H Q->Gz r (GF K fs) σ H Q:=fun σ H Q ⟨s,l,env,e,k⟩=>by
 obtain⟨ls,e1,e2⟩:=Zg e
 exact⟨fun _=>False,s,ls,fun _ z=>z.elim,env,e1,fun vs H1 fp s1 i1 n1=>hr H1 vs ls l fp i1 e2 Q fun v H2 fq s2 i2 d2 n2=>k v H2 fq (s1.trans s2) i2 d2 fun p hp=>⟨Same.off s1 (n2 p hp).1,(n2 p hp).2⟩⟩
section
variable {X:Cx} {x:Str} {k:Nat} {e:Expr} {es:List Expr} {fs:List XE} {p pos:Pos} {id T:String} {r:List V->Hp->VK->Prop} {g:List PV->Option PV}
theorem Zu(hc:XZ X (.builtin id) r)(hr:RC X.K r g)(hg:Gl X x)(hm:X.mg x=none)(hv:bootBuiltins x=some (.builtin id))(ha:VA X (e::es) fs)(hn:x≠"__name__":=by decide)(hdb:(x==("__debug__" : Str))=false:=by decide)
  (he:starEach (e::es) X.env=(false,eval e X.env)::starEach es X.env:=by rfl) (hpl:(backTo pos (starEach es X.env)).any (·.1)=false:=by rfl):VE X (.Call (.Name x p) (e::es) [] pos) (Ze g fs):=
 PE.imp (Pc hc hg hm hv ha hn hdb he hpl) (JR hr)
theorem Lc(hc:XZ X (.builtin id) r)(hr:Go X.K r g)(hg:Gl X x)(hm:X.mg x=none)(hv:bootBuiltins x=some (.builtin id))(ha:VA X (e::es) fs)(hn:x≠"__name__":=by decide)(hdb:(x==("__debug__" : Str))=false:=by decide)
  (he:starEach (e::es) X.env=(false,eval e X.env)::starEach es X.env:=by rfl) (hpl:(backTo pos (starEach es X.env)).any (·.1)=false:=by rfl):VM X (.Call (.Name x p) (e::es) [] pos) (Ze g fs):=
 PE.imp (Pc hc hg hm hv ha hn hdb he hpl) (JS hr)
theorem Z5(hc:XZ X (.type T) r)(hr:RC X.K r g)(hg:Gl X x)(hm:X.mg x=none)(hv:bootBuiltins x=some (.type T))(ha:VA X (e::es) fs)(hn:x≠"__name__":=by decide)(hdb:(x==("__debug__" : Str))=false:=by decide)
  (he:starEach (e::es) X.env=(false,eval e X.env)::starEach es X.env:=by rfl) (hpl:(backTo pos (starEach es X.env)).any (·.1)=false:=by rfl):VE X (.Call (.Name x p) (e::es) [] pos) (Ze g fs):=
 PE.imp (RH hc hg hm hv ha hn hdb he hpl) (JR hr)
theorem U3(hc:XZ X (.type T) r)(hr:Go X.K r g)(hg:Gl X x)(hm:X.mg x=none)(hv:bootBuiltins x=some (.type T))(ha:VA X (e::es) fs)(hn:x≠"__name__":=by decide)(hdb:(x==("__debug__" : Str))=false:=by decide)
  (he:starEach (e::es) X.env=(false,eval e X.env)::starEach es X.env:=by rfl) (hpl:(backTo pos (starEach es X.env)).any (·.1)=false:=by rfl):VM X (.Call (.Name x p) (e::es) [] pos) (Ze g fs):=
 PE.imp (RH hc hg hm hv ha hn hdb he hpl) (JS hr)
end
theorem Iss.one_inv{H:Hp}{l:PV}{vs:List V}{fp:List Addr}(h:Iss K H [l] vs fp):∃v,vs=[v]/\Is K H l v fp:=by
 obtain⟨x,r,f1,f2,rfl,a,b,rfl⟩:=h.inv
 simp only[Iss] at b
 rw[b.1,b.2,List.append_nil];exact⟨x,rfl,a⟩
theorem Iss.two_inv{H:Hp}{l m:PV}{vs:List V}{fp:List Addr}(h:Iss K H [l,m] vs fp):∃v w f1 f2,vs=[v,w]/\Is K H l v f1/\Is K H m w f2/\fp=f1++f2:=by
 obtain⟨x,r,f1,f2,rfl,a,b,rfl⟩:=h.inv
 obtain⟨y,rfl,c⟩:=b.one_inv
 exact⟨x,y,f1,f2,rfl,a,c,rfl⟩
def TN:PV->Option (List PV)
 | .lst l=>some l
 | .cst l=>some l
 | .tup l=>some l
 | _=>none
theorem WE{H:Hp}{l:PV}{v:V}{fp:List Addr}{m:List PV}(h:Is K H l v fp)(e:TN l=some m):∃p xs fq,v = .ref p/\(SqL K H p xs\/SqT K H p xs)/\Iss K H m xs fq/\∀q∈fq,q∈fp:=by
 cases l with
 | lst l=>
  cases e
  obtain⟨p,xs,fq,rfl,hp,hi,rfl⟩:=h.lst_inv
  exact⟨p,xs,fq,rfl,.inl (SqL.of hp),hi,fun q hq=>List.mem_cons_of_mem _ hq⟩
 | cst l=>
  cases e
  obtain⟨p,xs,rfl,hp,hi⟩:=h.cst_inv
  exact⟨p,xs,fp,rfl,.inl hp.sq,hi,fun q hq=>hq⟩
 | tup l=>
  cases e
  obtain⟨p,xs,rfl,hp,hi⟩:=h.tup_inv
  exact⟨p,xs,fp,rfl,.inr (SqT.of hp),hi,fun q hq=>hq⟩
 | _=>cases e
def ZZ:List PV->Option PV
 | [.str z]=>if z.length<=sizeLine then some (.int z.length) else none
 | [l]=>(TN l).map fun m=>.int m.length
 | _=>none
theorem YG:RC K (fun xs H Q=>∃x n,xs=[x]/\HU K x H n/\Q (.int n) H) ZZ:=fun H vs ls l fp h e Q k=>by
 unfold ZZ at e
 split at e
 ·split at e
  ·cases e
   obtain⟨v,rfl,i⟩:=h.one_inv
   exact⟨v,_,rfl,by rw[i.str_inv.1];exact⟨by assumption,rfl⟩,k _ H [] (Same.refl H) (Is.int _) fun p hp=>by simp at hp⟩
  ·cases e
 ·obtain⟨m,e1,rfl⟩:=map_some e
  obtain⟨v,rfl,i⟩:=h.one_inv
  obtain⟨p,xs,fq,rfl,hp,hi,_⟩:=WE (K:=K) i e1
  refine⟨_,xs.length,rfl,?_,?_⟩
  ·rcases hp with hp | hp
   ·exact .inl ⟨xs,hp,rfl⟩
   ·exact .inr ⟨xs,hp,rfl⟩
  ·rw[hi.len]
   exact k _ H [] (Same.refl H) (Is.int _) fun p hp=>by simp at hp
 ·cases e
def Yh:List PV->Option PV
 | [l]=>(TN l).map .tup
 | _=>none
theorem Yi:RC K (IL K) Yh:=fun H vs ls l fp h e Q k=>by
 unfold Yh at e
 split at e
 ·obtain⟨m,e1,rfl⟩:=map_some e
  obtain⟨v,rfl,i⟩:=h.one_inv
  rename_i l0
  cases l0 with
  | tup l=>
   cases e1
   obtain⟨p,xs,rfl,hp,hi⟩:=id i.tup_inv
   exact⟨p,xs,rfl,.inr ⟨SqT.of hp,k _ H fp (Same.refl H) i fun a ha=>.inl ha⟩⟩
  | lst l=>
   cases e1
   obtain⟨p,xs,fq,rfl,hp,hi,rfl⟩:=i.lst_inv
   exact⟨p,xs,rfl,.inl ⟨SqL.of hp,fun q hq=>k _ _ fq (Same.new hq _) (Is.tup Zx (hi.mono (Same.new hq _))) fun a ha=>.inl (List.mem_cons_of_mem _ ha)⟩⟩
  | cst l=>
   cases e1
   obtain⟨p,xs,rfl,hp,hi⟩:=i.cst_inv
   exact⟨p,xs,rfl,.inl ⟨hp.sq,fun q hq=>k _ _ fp (Same.new hq _) (Is.tup Zx (hi.mono (Same.new hq _))) fun a ha=>.inl ha⟩⟩
  | _=>cases e1
 ·cases e
def Xo:List PV->Option PV
 | [l]=>(TN l).bind fun m=>if ZX m=true then some (.lst m) else none
 | _=>none
theorem Sy:Go K (KZ K) Xo:=fun H vs ls l fp h e Q k=>by
 unfold Xo at e
 split at e
 ·obtain⟨m,e1,e2⟩:=Zg e
  split at e2
  ·cases e2
   obtain⟨v,rfl,i⟩:=h.one_inv
   obtain⟨p,xs,fq,rfl,hp,hi,hs⟩:=WE (K:=K) i e1
   have:=Iss.pure _ _ _ (by assumption) hi
   subst this
   refine⟨p,xs,rfl,hp,fun q hq=>k _ _ [q] (Same.new hq _) (Is.lst Zx (hi.mono (Same.new hq _))) (by simp) fun a ha=>?_⟩
   rw[List.mem_singleton.mp ha]
   exact⟨hq,by rw[Zx];exact True.intro⟩
  ·cases e2
 ·cases e
def XF:List PV->Option (List Int)
 | []=>some []
 | .int i::r=>(XF r).map (i::·)
 | _=>none
theorem Y8:∀l:List Int,XF (iL l)=some l
 | []=>rfl
 | i::r=>by show(XF (iL r)).map (i::·)=_;rw[Y8 r];rfl
theorem XA:∀{m:List PV}{l:List Int},XF m=some l->m=iL l
 | [],l,h=>by cases h;rfl
 | .int i::r,l,h=>by
  obtain⟨a,e,rfl⟩:=map_some (show(XF r).map (i::·)=some l from h)
  rw[XA e];rfl
 | .non::_,_,h=>by cases h
 | .bl _::_,_,h=>by cases h
 | .str _::_,_,h=>by cases h
 | .ty _::_,_,h=>by cases h
 | .exc _::_,_,h=>by cases h
 | .tup _::_,_,h=>by cases h
 | .lst _::_,_,h=>by cases h
 | .cst _::_,_,h=>by cases h
 | .dK _ _::_,_,h=>by cases h
 | .dT _ _::_,_,h=>by cases h
abbrev bL(l:List Bool):List PV:=l.map PV.bl
def Vw:List PV->Option (List Bool)
 | []=>some []
 | .bl i::r=>(Vw r).map (i::·)
 | _=>none
theorem V0:∀l:List Bool,Vw (bL l)=some l
 | []=>rfl
 | i::r=>by show(Vw (bL r)).map (i::·)=_;rw[V0 r];rfl
theorem Uh:∀{m:List PV}{l:List Bool},Vw m=some l->m=bL l
 | [],l,h=>by cases h;rfl
 | .bl i::r,l,h=>by
  obtain⟨a,e,rfl⟩:=map_some (show(Vw r).map (i::·)=some l from h)
  rw[Uh e];rfl
 | .non::_,_,h=>by cases h
 | .int _::_,_,h=>by cases h
 | .str _::_,_,h=>by cases h
 | .ty _::_,_,h=>by cases h
 | .exc _::_,_,h=>by cases h
 | .tup _::_,_,h=>by cases h
 | .lst _::_,_,h=>by cases h
 | .cst _::_,_,h=>by cases h
 | .dK _ _::_,_,h=>by cases h
 | .dT _ _::_,_,h=>by cases h
theorem Iss.bL{H:Hp}:∀{l:List Bool}{xs:List V}{fp:List Addr},Iss K H (VL.bL l) xs fp->xs=l.map V.bl/\fp=[]
 | [],xs,fp,h=>by simpa only[VL.bL,List.map_nil,Iss] using h
 | i::l,xs,fp,h=>by
  obtain⟨x,r,f1,f2,rfl,h1,h2,rfl⟩:=Iss.inv (show Iss K H (PV.bl i::VL.bL l) xs fp from h)
  obtain⟨rfl,rfl⟩:=h1.bl_inv
  obtain⟨rfl,rfl⟩:=h2.bL
  exact⟨rfl,rfl⟩
theorem Os{H:Hp}{p:Addr}{xs:List V}(h:SqL K H p xs\/SqT K H p xs):∃b,Rr b K H p xs:=by
 rcases h with h | h
 ·exact⟨true,h⟩
 ·exact⟨false,h⟩
def X0:List PV->Option PV
 | [l]=>(TN l).bind fun m=>(XF m).map fun ns=>.int ns.sum
 | _=>none
def Sz:List PV->Option PV
 | [l]=>(TN l).bind fun m=>(Vw m).map fun bs=>.bl (bs.all id)
 | _=>none
theorem V4:RC K (fun xs H Q=>∃(b:Bool) (p:Addr) (ns:List Int),xs=[.ref p]/\Rr b K H p (ns.map V.int)/\Q (.int ns.sum) H) X0:=fun H vs ls l fp h e Q k=>by
 unfold X0 at e
 split at e
 ·obtain⟨m,e1,e2⟩:=Zg e
  obtain⟨ns,e3,rfl⟩:=map_some e2
  obtain⟨v,rfl,i⟩:=h.one_inv
  obtain⟨p,xs,fq,rfl,hp,hi,hs⟩:=WE (K:=K) i e1
  have em:=XA e3;subst em
  obtain⟨rfl,rfl⟩:=hi.iL
  obtain⟨b,hb⟩:=Os hp
  exact⟨b,p,ns,rfl,hb,k _ H [] (Same.refl H) (Is.int _) fun p hp=>by simp at hp⟩
 ·cases e
theorem Ot:RC K (fun xs H Q=>∃(b:Bool) (p:Addr) (bs:List Bool),xs=[.ref p]/\Rr b K H p (bs.map V.bl)/\Q (.bl (bs.all id)) H) Sz:=fun H vs ls l fp h e Q k=>by
 unfold Sz at e
 split at e
 ·obtain⟨m,e1,e2⟩:=Zg e
  obtain⟨ns,e3,rfl⟩:=map_some e2
  obtain⟨v,rfl,i⟩:=h.one_inv
  obtain⟨p,xs,fq,rfl,hp,hi,hs⟩:=WE (K:=K) i e1
  have em:=Uh e3;subst em
  obtain⟨rfl,rfl⟩:=hi.bL
  obtain⟨b,hb⟩:=Os hp
  exact⟨b,p,ns,rfl,hb,k _ H [] (Same.refl H) (Is.bl _) fun p hp=>by simp at hp⟩
 ·cases e
def Pn:List PV->Option PV
 | [.int i,.int j]=>some (.int (if j<i then j else i))
 | _=>none
def Gp:List PV->Option PV
 | [.int i,.int j]=>some (.int (if j>i then j else i))
 | _=>none
def JT:List PV->Option PV
 | [.int i]=>some (.int i)
 | [.bl c]=>some (.int (if c then 1 else 0))
 | _=>none
theorem K9:RC K (fun xs H Q=>∃i j,xs=[.int i,.int j]/\Q (.int (if j<i then j else i)) H) Pn:=fun H vs ls l fp h e Q k=>by
 unfold Pn at e
 split at e
 ·cases e
  obtain⟨v,w,f1,f2,rfl,a,b,rfl⟩:=h.two_inv
  exact⟨_,_,by rw[a.int_inv.1,b.int_inv.1],k _ H [] (Same.refl H) (Is.int _) fun p hp=>by simp at hp⟩
 ·cases e
section
variable {X:Cx} {e:Expr} {es:List Expr} {fs:List XE} {p pos:Pos}
def Wb:List PV->Option PV
 | [.int _,.ty "int"]=>some (.bl true)
 | [.int _,.ty "bool"]=>some (.bl false)
 | [.bl _,.ty "bool"]=>some (.bl true)
 | [.tup _,.ty "tuple"]=>some (.bl true)
 | [.lst _,.ty "list"]=>some (.bl true)
 | [.str _,.ty "str"]=>some (.bl true)
 | _=>none
theorem RA:PySem.W.kitOne K (.type "bool") (.type "bool")=some true:=rfl
theorem Ui:RC K (fun xs H Q=>∃x T t b,xs=[x,.ty T]/\TyOf K H x t/\PySem.W.kitOne K t (.type T)=some b/\Q (.bl b) H) Wb:=fun H vs ls l fp h e Q k=>by
  have fin:∀b:Bool,l = .bl b->Q (.bl b) H:=fun b z=>by subst z;exact k _ H [] (Same.refl H) (Is.bl _) fun p hp=>by simp at hp
  unfold Wb at e
  split at e<;>first
    | (cases e
       obtain⟨v,w,f1,f2,rfl,a,b,rfl⟩:=h.two_inv
       first
         | (obtain⟨rfl,_⟩:=a.int_inv;first
             | exact⟨_,_,_,_,by rw[b.ty_inv.1],TyOf.int _,Pf,fin _ rfl⟩
             | exact⟨_,_,_,_,by rw[b.ty_inv.1],TyOf.int _,Qo,fin _ rfl⟩)
         | (obtain⟨rfl,_⟩:=a.bl_inv;exact⟨_,_,_,_,by rw[b.ty_inv.1],TyOf.bl _,RA,fin _ rfl⟩)
         | (obtain⟨rfl,_⟩:=a.str_inv;exact⟨_,_,_,_,by rw[b.ty_inv.1],TyOf.str _,Ph,fin _ rfl⟩)
         | (obtain⟨q,xs,rfl,hp,_⟩:=a.tup_inv;exact⟨_,_,_,_,by rw[b.ty_inv.1],TyOf.tup hp,Pg,fin _ rfl⟩)
         | (obtain⟨q,xs,fq,rfl,hp,_⟩:=a.lst_inv
            exact⟨_,_,_,_,by rw[b.ty_inv.1],TyOf.lst hp,Ry,fin _ rfl⟩))
    | cases e
theorem Po{x:Str}{n:String}(hg:Gl X x)(hm:X.mg x=none)(hv:bootBuiltins x=some (.type n))(hn:x≠"__name__":=by decide)(hd:(x==("__debug__" : Str))=false:=by decide):VE X (.Name x pos) (eC (.ty n)):=
 K2 (Ku hg hm hv (v:=.ty n) rfl hn hd) fun _=>Is.ty n
end
end VL
namespace VL
open PySem PySem.Spec PyProof.Rows L2
variable {K:PySem.W.Frag}
open Classical in
noncomputable instance:DecidableEq PV:=fun a b=>propDecidable (a=b)
def XG:Nat->PV->PV->Bool
 | _+1,.non,.non=>true
 | _+1,.bl _,.bl _=>true
 | _+1,.int _,.int _=>true
 | _+1,.str _,.str _=>true
 | n+1,.tup l,.tup m=>(l.zip m).all fun z=>XG n z.1 z.2
 | n+1,.lst l,.lst m=>(l.zip m).all fun z=>XG n z.1 z.2
 | _,_,_=>false
theorem Uj{α β:Type}{p:α×β->Bool}{a:α}{b:β}{l:List α}{m:List β}(h:((a::l).zip (b::m)).all p=true):p (a,b)=true/\(l.zip m).all p=true:=by
 rw[List.zip_cons_cons,List.all_cons,Bool.and_eq_true] at h;exact h
theorem Iss.inj'{n:Nat}{H:Hp}(ih:∀a b v fa fb,XG n a b=true->Is K H a v fa->Is K H b v fb->a=b):∀{l m:List PV}{xs:List V}{fa fb:List Addr},(l.zip m).all (fun z=>XG n z.1 z.2)=true->Iss K H l xs fa->Iss K H m xs fb->l=m
 | [],m,xs,fa,fb,_,h,h'=>by
  simp only[Iss] at h
  rw[h.1] at h'
  have:=h'.len
  cases m with
  | nil=>rfl
  | cons _ _=>simp at this
 | a::l,m,xs,fa,fb,hc,h,h'=>by
  obtain⟨x,r,f1,f2,rfl,h1,h2,rfl⟩:=h.inv
  cases m with
  | nil=>have:=h'.len;simp at this
  | cons b m=>
   obtain⟨x',r',g1,g2,e,h3,h4,rfl⟩:=h'.inv
   cases e
   obtain⟨c1,c2⟩:=Uj hc
   rw[ih a b x f1 g1 c1 h1 h3,Iss.inj' ih c2 h2 h4]
theorem Is.inj'{H:Hp}:∀(n:Nat)(a b:PV)(v:V)(fa fb:List Addr),XG n a b=true->Is K H a v fa->Is K H b v fb->a=b
 | 0,a,b,v,fa,fb,hc,_,_=>by unfold XG at hc;simp at hc
 | n+1,a,b,v,fa,fb,hc,ha,hb=>by
  cases a<;>cases b<;>first
   | (exfalso;revert hc;unfold XG;simp;done)
   | skip
  ·rfl
  ·rw[ha.bl_inv.1] at hb;have:=hb.bl_inv.1;cases this;rfl
  ·rw[ha.int_inv.1] at hb;have:=hb.int_inv.1;cases this;rfl
  ·rw[ha.str_inv.1] at hb;have:=hb.str_inv.1;cases this;rfl
  ·obtain⟨p,xs,rfl,hp,hi⟩:=ha.tup_inv
   obtain⟨p',ys,e,hp',hi'⟩:=hb.tup_inv
   cases e
   rw[hp] at hp';cases hp'
   unfold XG at hc;rw[Iss.inj' (Is.inj' n) hc hi hi']
  ·obtain⟨p,xs,fq,rfl,hp,hi,_⟩:=ha.lst_inv
   obtain⟨p',ys,fq',e,hp',hi',_⟩:=hb.lst_inv
   cases e
   rw[hp] at hp';cases hp'
   unfold XG at hc;rw[Iss.inj' (Is.inj' n) hc hi hi']
section
variable {X:Cx} {pins:List (Addr×Obj)} {σ:TL} {H:Hp} {s:Shared} {A:Around}
theorem Ou{n:Nat}(ih:∀a b x y fa fb u w,XG n a b=true->Is K H a x fa->Is K H b y fb->RelV x u->RelV y w->∃r,SeqAt.EqAt A s u w r/\(r=true↔a=b)) :
  ∀{l m:List PV}{xs ys:List V}{fa fb:List Addr}{us ws:List Value},(l.zip m).all (fun z=>XG n z.1 z.2)=true->Iss K H l xs fa->Iss K H m ys fb->Vals xs us->Vals ys ws->
  ∃e:Nat->Bool,(∀j (h1:j<us.length) (h2:j<ws.length),SeqAt.EqAt A s us[j] ws[j] (e j))/\((List.range (min us.length ws.length)).all e=true↔l.take (min us.length ws.length)=m.take (min us.length ws.length))
 | [],m,xs,ys,fa,fb,us,ws,_,h,_,r,_=>by
  simp only[Iss] at h
  obtain⟨rfl,_⟩:=h
  cases r
  exact⟨fun _=>true,fun j h1=>by simp at h1,by simp⟩
 | a::l,[],xs,ys,fa,fb,us,ws,_,_,h,_,r=>by
  simp only[Iss] at h
  obtain⟨rfl,_⟩:=h
  cases r
  exact⟨fun _=>true,fun j h1 h2=>by simp at h2,by simp⟩
 | a::l,b::m,xs,ys,fa,fb,us,ws,hc,h,h',r,r'=>by
  obtain⟨x,xr,f1,f2,rfl,h1,h2,rfl⟩:=h.inv
  obtain⟨y,yr,g1,g2,rfl,h3,h4,rfl⟩:=h'.inv
  obtain⟨c1,c2⟩:=Uj hc
  cases r with
  | cons q v=>cases r' with
   | cons q' v'=>
    obtain⟨t,ht,ht'⟩:=ih a b x y f1 g1 _ _ c1 h1 h3 q q'
    obtain⟨e,he,he'⟩:=Ou ih c2 h2 h4 v v'
    refine⟨fun j=>match j with | 0=>t | k+1=>e k,fun j h1 h2=>?_,?_⟩
    ·cases j with
     | zero=>exact ht
     | succ k=>exact he k (by simpa using h1) (by simpa using h2)
    ·simp only[List.length_cons,Nat.succ_min_succ,List.range_succ_eq_map,List.all_cons,List.all_map,Bool.and_eq_true,List.take_succ_cons,List.cons.injEq]
     exact and_congr ht' he'
theorem Iss.same'{l m:List PV}{xs ys:List V}{fa fb:List Addr}{us ws:List Value}(h:Iss K H l xs fa)(h':Iss K H m ys fb)(r:Vals xs us)(r':Vals ys ws) :
  (l.take (min us.length ws.length)=m.take (min us.length ws.length)/\us.length=ws.length)↔l=m:=by
 have e1:=h.len;have e2:=h'.len;have e3:=r.length;have e4:=r'.length;constructor
 ·rintro⟨a,b⟩
  rw[List.take_of_length_le (by omega),List.take_of_length_le (by omega)] at a;exact a
 ·intro a
  subst a
  exact⟨rfl,by omega⟩
def JU(A:Around)(s:Shared)(u w:Value)(r:Bool):Prop:=SeqAt.RcAt A s u w r/\SeqAt.RcNeAt A s u w !r
theorem SA(I:Inv X pins σ H s):∀(n:Nat)(A:Around)(a b:PV)(x y:V)(fa fb:List Addr)(u w:Value),A.units+2*n+2<cLine->XG n a b=true->Is K H a x fa->Is K H b y fb->RelV x u->RelV y w->
  (∃r,SeqAt.EqAt A s u w r/\(r=true↔a=b))/\∃r,JU A s u w r/\(r=true↔a=b)
 | 0,A,a,b,x,y,fa,fb,u,w,hu,hc,_,_,_,_=>by unfold XG at hc;simp at hc
 | n+1,A,a,b,x,y,fa,fb,u,w,hu,hc,ha,hb,ru,Z7=>by
  cases a<;>cases b<;>first
   | (exfalso;revert hc;unfold XG;simp;done)
   | skip
  ·rw[ha.non_inv.1] at ru;rw[hb.non_inv.1] at Z7
   cases ru;cases Z7
   exact⟨⟨true,SeqAt.EqAt.same _,by simp⟩,true,⟨SeqAt.RcAt.none_none,SeqAt.RcNeAt.none_none⟩,by simp⟩
  ·rw[ha.bl_inv.1] at ru;rw[hb.bl_inv.1] at Z7
   cases ru;cases Z7
   exact⟨⟨_,SeqAt.EqAt.bool_bool _ _,by simp⟩,_,⟨SeqAt.RcAt.bool_bool _ _,SeqAt.RcNeAt.bool_bool _ _⟩,by simp⟩
  ·rw[ha.int_inv.1] at ru;rw[hb.int_inv.1] at Z7
   obtain⟨t,rfl⟩:=ru
   obtain⟨t',rfl⟩:=Z7
   exact⟨⟨_,SeqAt.EqAt.int_int _ _ _ _,by simp⟩,_,⟨SeqAt.RcAt.int_int _ _ _ _,SeqAt.RcNeAt.int_int _ _ _ _⟩,by simp⟩
  ·rw[ha.str_inv.1] at ru;rw[hb.str_inv.1] at Z7
   obtain⟨t,rfl⟩:=ru
   obtain⟨t',rfl⟩:=Z7
   exact⟨⟨_,SeqAt.EqAt.str_str _ _ _ _,by simp⟩,_,⟨SeqAt.RcAt.str_str _ _ _ _,SeqAt.RcNeAt.str_str _ _ _ _⟩,by simp⟩
  ·rename_i l1 l2
   obtain⟨p,xs,rfl,hp,hi⟩:=id ha.tup_inv
   obtain⟨p',ys,rfl,hp',hi'⟩:=id hb.tup_inv
   cases ru;cases Z7;have hc':=hc
   unfold XG at hc'
   obtain⟨us,rv,q,_⟩:=I.tuple (SqT.of hp)
   obtain⟨ws,rv',q',_⟩:=I.tuple (SqT.of hp')
   obtain⟨f,hf,hf'⟩:=Ou (A:=A.in1) (fun a b x y fa fb u w c i1 i2 r1 r2=>(SA I n A.in1 a b x y fa fb u w (by show A.units+1+2*n+2<cLine;omega) c i1 i2 r1 r2).1) hc' hi hi' rv rv'
   have rc:=SeqAt.RcAt.tuples (A:=A) (e:=f) (show s.heap.IsTuple p us.toArray from q) (show s.heap.IsTuple p' ws.toArray from q') (by omega) (fun j h1 h2=>hf j (by simpa using h1) (by simpa using h2))
   have rn:=SeqAt.RcNeAt.tuples (A:=A) (e:=f) (show s.heap.IsTuple p us.toArray from q) (show s.heap.IsTuple p' ws.toArray from q') (by omega) (fun j h1 h2=>hf j (by simpa using h1) (by simpa using h2))
   have key:(((List.range (min us.toArray.size ws.toArray.size)).all f&&us.toArray.size==ws.toArray.size)=true)↔PV.tup l1=PV.tup l2:=by
    simp only[List.size_toArray,Bool.and_eq_true,beq_iff_eq,PV.tup.injEq];rw[hf']
    exact Iss.same' hi hi' rv rv'
   refine⟨?_,_,⟨rc,rn⟩,key⟩
   by_cases e:p=p'
   ·subst e
    exact⟨true,SeqAt.EqAt.same _,by simp[Is.inj' (n+1) _ _ _ _ _ hc ha hb]⟩
   ·exact⟨_,SeqAt.EqAt.of_refs e rc,key⟩
  ·rename_i l1 l2
   obtain⟨p,xs,fq,rfl,hp,hi,_⟩:=id ha.lst_inv
   obtain⟨p',ys,fq',rfl,hp',hi',_⟩:=id hb.lst_inv
   cases ru;cases Z7;have hc':=hc
   unfold XG at hc'
   obtain⟨us,rv,q,_⟩:=I.list (SqL.of hp)
   obtain⟨ws,rv',q',_⟩:=I.list (SqL.of hp')
   obtain⟨f,hf,hf'⟩:=Ou (A:=A.in1) (fun a b x y fa fb u w c i1 i2 r1 r2=>(SA I n A.in1 a b x y fa fb u w (by show A.units+1+2*n+2<cLine;omega) c i1 i2 r1 r2).1) hc' hi hi' rv rv'
   have fin:∃r,JU A s (.ref p) (.ref p') r/\(r=true↔PV.lst l1=PV.lst l2):=by
    have key:=Iss.same' hi hi' rv rv'
    by_cases hsz:us.length=ws.length
    ·refine⟨_,⟨SeqAt.RcAt.lists (e:=f) q.isList q'.isList (by simpa using hsz) (by omega) (fun j h1 h2=>hf j (by simpa using h1) (by simpa using h2)),SeqAt.RcNeAt.lists (e:=f) q.isList q'.isList (by simpa using hsz) (by omega) (fun j h1 h2=>hf j (by simpa using h1) (by simpa using h2))⟩,?_⟩
     rw[hsz,Nat.min_self] at hf' key
     simp only[List.size_toArray,PV.lst.injEq];rw[hsz,hf',<-key]
     simp
    ·refine⟨false,⟨SeqAt.RcAt.lists_lengths q.isList q'.isList (by simpa using hsz) (by omega),SeqAt.RcNeAt.lists_lengths q.isList q'.isList (by simpa using hsz) (by omega)⟩,?_⟩
     rw[PV.lst.injEq,<-key];simp[hsz]
   obtain⟨r,hr,hk⟩:=fin
   refine⟨?_,r,hr,hk⟩
   by_cases e:p=p'
   ·subst e
    exact⟨true,SeqAt.EqAt.same _,by simp[Is.inj' (n+1) _ _ _ _ _ hc ha hb]⟩
   ·exact⟨r,SeqAt.EqAt.of_refs e hr.1,hk⟩
end
def IR(K:PySem.W.Frag)(neg:Bool):R2:=fun x y H Q=>∃a b fa fb,Is K H a x fa/\Is K H b y fb/\XG 8 a b=true/\∀r:Bool,(r=true↔a=b)->Q (.bl (if neg then !r else r)) H
section
variable {X:Cx}
theorem Ld(hu:X.A.units+64<cLine):VV X (compareOp .Eq) (IR X.K false):=by
 intro pins s σ H x y v u Q I rx ry h
 obtain⟨a,b,fa,fb,ha,hb,hc,q⟩:=h
 obtain⟨_,r,hr,hk⟩:=SA I 8 X.A a b x y fa fb v u (by omega) hc ha hb rx ry
 exact hr.1 X.prog X.w X.xe _ ⟨.bl r,H,I,rfl,q r hk⟩
theorem Lf(hu:X.A.units+64<cLine):VV X (compareOp .NotEq) (IR X.K true):=by
 intro pins s σ H x y v u Q I rx ry h
 obtain⟨a,b,fa,fb,ha,hb,hc,q⟩:=h
 obtain⟨_,r,hr,hk⟩:=SA I 8 X.A a b x y fa fb v u (by omega) hc ha hb rx ry
 exact hr.2 X.prog X.w X.xe _ ⟨.bl !r,H,I,rfl,q r hk⟩
end
noncomputable def Yr(neg:Bool):PV->PV->Option PV:=fun a b=>if XG 8 a b=true then some (.bl (if neg then !decide (a=b) else decide (a=b))) else none
theorem Qu(neg:Bool):RB K (IR K neg) (Yr neg):=fun H x y a b l fa fb ha hb e Q k=>by
 unfold Yr at e
 split at e
 ·cases e
  refine⟨a,b,fa,fb,ha,hb,by assumption,fun r hr=>?_⟩
  have:r=decide (a=b):=by
   cases r with
   | true=>exact(decide_eq_true (hr.mp rfl)).symm
   | false=>exact(decide_eq_false fun z=>Bool.false_ne_true (hr.mpr z)).symm
  subst this
  exact k _ H [] (Same.refl H) (Is.bl _) fun p hp=>by simp at hp
 ·cases e
def IS(K:PySem.W.Frag)(neg:Bool):R2:=fun x y H Q=>∃a b m fa fb,Is K H a x fa/\Is K H b y fb/\TN b=some m/\(m.all fun z=>XG 8 z a)=true/\∀r:Bool,(r=true↔a∈m)->Q (.bl (if neg then !r else r)) H
section
variable {X:Cx} {pins:List (Addr×Obj)} {σ:TL} {H:Hp} {s:Shared}
theorem T0{a:PV}{x:V}{fa:List Addr}{u:Value}{A:Around}(I:Inv X pins σ H s)(hu:A.units+18<cLine)(ha:Is K H a x fa)(rx:RelV x u):∀{m:List PV}{xs:List V}{fb:List Addr}{us:List Value},(m.all fun z=>XG 8 z a)=true->Iss K H m xs fb->Vals xs us->
  ∃e:Value->Bool,(∀y∈us,SeqAt.EqAt A s y u (e y))/\(us.any e=true↔a∈m):=fun{m xs fb us} hc h r=>by
 -- each one's answer
 have each:∀y∈us,∃t:Bool,SeqAt.EqAt A s y u t/\(t=true↔∃b,b∈m/\b=a/\∃z f,Is K H b z f/\RelV z y):=fun y hy=>by
  obtain⟨j,hj,e⟩:=List.mem_iff_getElem.mp hy
  have hl:=r.length
  have hxj:xs[j]?=some xs[j]:=List.getElem?_eq_getElem (by omega)
  obtain⟨b,f,hb,ib,_⟩:=h.get' hxj
  obtain⟨w,hw,Z7⟩:=r.get hxj
  rw[List.getElem?_eq_getElem hj] at hw;cases hw;rw[e] at Z7
  have hbm:b∈m:=List.mem_of_getElem? hb
  have cb:=List.all_eq_true.mp hc b hbm
  obtain⟨⟨t,ht,hk⟩,_⟩:=SA I 8 A b a xs[j] x f fa y u (by omega) cb ib ha Z7 rx
  refine⟨t,ht,hk.trans ⟨fun z=>⟨b,hbm,z,xs[j],f,ib,Z7⟩,fun⟨b',hb',e',z,f',i',r'⟩=>?_⟩⟩
  have ez:z=xs[j]:=r'.inj Z7
  subst ez;have cb':=List.all_eq_true.mp hc b' hb'
  subst e'
  exact Is.inj' 8 b b' _ _ _ cb ib i'
 classical
 refine⟨fun y=>if hy:y∈us then(each y hy).choose else false,fun y hy=>?_,?_⟩
 ·simp only[dif_pos hy];exact(each y hy).choose_spec.1
 ·rw[List.any_eq_true]
  constructor
  ·rintro⟨y,hy,e⟩
   rw[dif_pos hy] at e
   obtain⟨b,hb,rfl,_⟩:=(each y hy).choose_spec.2.mp e
   exact hb
  ·intro hm
   obtain⟨j,hj,e⟩:=List.mem_iff_getElem.mp hm
   obtain⟨z,f,hz,iz,_⟩:=h.get (List.getElem?_eq_getElem hj)
   obtain⟨y,hy,ry⟩:=r.get hz
   have hyu:y∈us:=List.mem_of_getElem? hy
   refine⟨y,hyu,?_⟩
   rw[dif_pos hyu]
   exact(each y hyu).choose_spec.2.mpr ⟨a,hm,rfl,z,f,e▸iz,ry⟩
end
section
variable {X:Cx}
theorem IT(hu:X.A.units+64<cLine):VV X (compareOp .In) (IS X.K false):=by
 intro pins s σ H x y v u Q I rx ry h
 obtain⟨a,b,m,fa,fb,ha,hb,hm,hc,q⟩:=h
 obtain⟨p,xs,fq,rfl,hp,hi,_⟩:=WE (K:=X.K) hb hm
 cases ry
 rcases hp with hp | hp
 ·obtain⟨us,rv,t,_⟩:=I.list hp
  obtain⟨e,he,hk⟩:=T0 (A:=X.A.in1) I (by show X.A.units+1+18<cLine;omega) ha rx hc hi rv
  refine SeqAt.in_listAt e t.isList (fun w hw=>he w (by simpa using hw)) ⟨.bl _,H,I,rfl,?_⟩
  rw[show us.toArray.any e=us.any e by simp]
  exact q _ hk
 ·obtain⟨us,rv,t,_⟩:=I.tuple hp
  obtain⟨e,he,hk⟩:=T0 (A:=X.A.in1) I (by show X.A.units+1+18<cLine;omega) ha rx hc hi rv
  refine SeqAt.in_tupleAt e t (fun w hw=>he w (by simpa using hw)) ⟨.bl _,H,I,rfl,?_⟩
  rw[show us.toArray.any e=us.any e by simp]
  exact q _ hk
theorem Mg(hu:X.A.units+64<cLine):VV X (compareOp .NotIn) (IS X.K true):=by
 intro pins s σ H x y v u Q I rx ry h
 obtain⟨a,b,m,fa,fb,ha,hb,hm,hc,q⟩:=h
 obtain⟨p,xs,fq,rfl,hp,hi,_⟩:=WE (K:=X.K) hb hm
 cases ry
 rcases hp with hp | hp
 ·obtain⟨us,rv,t,_⟩:=I.list hp
  obtain⟨e,he,hk⟩:=T0 (A:=X.A.in1) I (by show X.A.units+1+18<cLine;omega) ha rx hc hi rv
  refine SeqAt.notIn_listAt e t.isList (fun w hw=>he w (by simpa using hw)) ⟨.bl _,H,I,rfl,?_⟩
  rw[show us.toArray.any e=us.any e by simp]
  exact q _ hk
 ·obtain⟨us,rv,t,_⟩:=I.tuple hp
  obtain⟨e,he,hk⟩:=T0 (A:=X.A.in1) I (by show X.A.units+1+18<cLine;omega) ha rx hc hi rv
  refine SeqAt.notIn_tupleAt e t (fun w hw=>he w (by simpa using hw)) ⟨.bl _,H,I,rfl,?_⟩
  rw[show us.toArray.any e=us.any e by simp]
  exact q _ hk
end
noncomputable def P3(neg:Bool):PV->PV->Option PV:=fun a b=>(TN b).bind fun m=>if(m.all fun z=>XG 8 z a)=true then some (.bl (if neg then !decide (a∈m) else decide (a∈m))) else none
theorem Lg(neg:Bool):RB K (IS K neg) (P3 neg):=fun H x y a b l fa fb ha hb e Q k=>by
 obtain⟨m,hm,e⟩:=Zg e
 split at e
 ·cases e
  refine⟨a,b,m,fa,fb,ha,hb,hm,by assumption,fun r hr=>?_⟩
  have:r=decide (a∈m):=by
   cases r with
   | true=>exact(decide_eq_true (hr.mp rfl)).symm
   | false=>exact(decide_eq_false fun z=>Bool.false_ne_true (hr.mpr z)).symm
  subst this
  exact k _ H [] (Same.refl H) (Is.bl _) fun p hp=>by simp at hp
 ·cases e
end VL
namespace VL
open PySem PySem.Spec PyProof.Rows L2
variable {K:PySem.W.Frag}
mutual
theorem Is.dom{H:Hp}:∀(l:PV)(v:V)(fp:List Addr),Is K H l v fp->∀p∈fp,H p≠none
 | .non,_,_,h=>by simp only[Is] at h;rw[h.2];simp
 | .bl _,_,_,h=>by simp only[Is] at h;rw[h.2];simp
 | .int _,_,_,h=>by simp only[Is] at h;rw[h.2];simp
 | .str _,_,_,h=>by simp only[Is] at h;rw[h.2];simp
 | .ty _,_,_,h=>by simp only[Is] at h;rw[h.2];simp
 | .exc _,_,_,h=>by simp only[Is] at h;rw[h.2];simp
 | .tup l,v,fp,h=>by
  obtain⟨p,xs,_,_,hi⟩:=h.tup_inv
  exact Iss.dom l xs fp hi
 | .lst l,v,fp,h=>by
  obtain⟨p,xs,fq,_,hp,hi,rfl⟩:=h.lst_inv
  intro q hq
  rcases List.mem_cons.mp hq with rfl | hq
  ·rw[hp];simp
  ·exact Iss.dom l xs fq hi q hq
 | .cst l,v,fp,h=>by
  obtain⟨p,xs,_,_,hi⟩:=h.cst_inv
  exact Iss.dom l xs fp hi
 | .dK ks l,v,fp,h=>by
  obtain⟨p,kvs,fq,_,hp,_,hi,rfl⟩:=h.dK_inv
  intro q hq
  rcases List.mem_cons.mp hq with rfl | hq
  ·rcases hp with e | ⟨o,e⟩<;>rw[e]<;>simp
  ·exact Iss.dom l _ fq hi q hq
 | .dT ks l,v,fp,h=>by
  obtain⟨p,kvs,fq,_,hp,_,hi,rfl⟩:=h.dT_inv
  intro q hq
  rcases List.mem_cons.mp hq with rfl | hq
  ·rcases hp with e | ⟨o,e⟩<;>rw[e]<;>simp
  ·exact Iss.dom l _ fq hi q hq
theorem Iss.dom{H:Hp}:∀(l:List PV)(xs:List V)(fp:List Addr),Iss K H l xs fp->∀p∈fp,H p≠none
 | [],_,_,h=>by simp only[Iss] at h;rw[h.2];simp
 | l::ls,xs,fp,h=>by
  obtain⟨x,r,f1,f2,_,h1,h2,rfl⟩:=h.inv
  intro q hq
  rcases List.mem_append.mp hq with hq | hq
  ·exact Is.dom l x f1 h1 q hq
  ·exact Iss.dom ls r f2 h2 q hq
end
def Ab(Rm:Addr->Prop)(H H':Hp):Prop:=∀b o,H b=some o->¬Rm b->H' b=some o
theorem Same.ab{Rm:Addr->Prop}{H H':Hp}(s:Same H H'):Ab Rm H H':=fun b o h _=>s b o h
theorem Ab.tk{Rm:Addr->Prop}{H H':Hp}(a:Ab Rm H H')(hd:∀p,Rm p->Wv (H p)):JQ H H':=⟨fun b xs h=>a b _ h fun z=>by
 have:=hd b z
 rw[h] at this;exact this,fun b o xs h=>a b _ h fun z=>by
 have:=hd b z
 rw[h] at this;exact this,fun b o x h=>a b _ h fun z=>by
 have:=hd b z
 rw[h] at this;exact this⟩
theorem Is.ab{Rm:Addr->Prop}{H H':Hp}(a:Ab Rm H H')(hd:∀p,Rm p->Wv (H p)){l:PV}{v:V}{fp:List Addr}(n:∀p∈fp,¬Rm p)(h:Is K H l v fp):Is K H' l v fp:=
 Is.tr (a.tk hd) l v fp (fun p hp=>RdK.of fun o q=>a p o q (n p hp)) h
structure Fb(K:PySem.W.Frag)(Rm:Addr->Prop)(H1:Hp)(J:It)(ls:List PV):Prop where
 stop:∀H',Ab Rm H1 H'->J.stop ls.length H'
 go:∀H' (i:Nat) l,Ab Rm H1 H'->ls[i]?=some l->J.go i H'
 yld:∀H' (i:Nat) l x H'',Ab Rm H1 H'->ls[i]?=some l->J.yld i H' x H''->Same H' H''/\∃fp,Is K H'' l x fp/\∀p∈fp,H1 p≠none/\¬Rm p
abbrev XL:=ZU->Option (List PV)
def iF(K:PySem.W.Frag)(f:XL):TI:=fun σ H R=>∃(Rm:Addr->Prop) (s:ZU) (ls:List PV),(∀p,Rm p->Wv (H p))/\EnvIs K Rm H s σ/\f s=some ls/\∀J H1,Same H H1->Fb K Rm H1 J ls->R J H1
def VI(X:Cx)(tg e:Expr)(f:XL):Prop:=PI X tg e (iF X.K f)
section
variable {X:Cx} {tg e:Expr} {es:List Expr}
theorem PI.imp{t t':TI}(h:PI X tg e t)(i:∀σ H R,t' σ H R->t σ H R):PI X tg e t':=fun pins s σ H R I q=>h pins s σ H R I (i σ H R q)
def Ht:PV->Option (List PV)
 | .lst m=>some m
 | .cst m=>some m
 | _=>none
def Xp(f:XE):XL:=fun s=>(f s).bind Ht
def Wq(f:XE):XL:=fun s=>match f s with | some (.tup m)=>some m | _=>none
theorem Lh{a:PV}{m:List PV}(h:Ht a=some m):a = .lst m\/a = .cst m:=by
 unfold Ht at h;split at h
 ·cases h;exact .inl rfl
 ·cases h;exact .inr rfl
 ·cases h
theorem Mh{f:XE}{s:ZU}{m:List PV}(h:Wq f s=some m):f s=some (.tup m):=by
 unfold Wq at h;split at h
 ·cases h;assumption
 ·cases h
theorem XQ{f:XE}(h:VE X e f):VI X tg e (Xp f):=PI.imp (Ky h) fun σ H R ⟨Rm,s,ls,hd,env,e,k⟩=>by
 obtain⟨l,e1,e2⟩:=Zg e
 refine⟨Rm,s,l,hd,env,e1,fun v H1 fp s1 i1 n1=>?_⟩
 have hd1:∀p,Rm p->Wv (H1 p):=fun p hp=>Same.mut s1 (hd p hp)
 have main:∀a xs fq,v = .ref a->SqL X.K H1 a xs->(∀H',Ab Rm H1 H'->SqL X.K H' a xs)->Iss X.K H1 ls xs fq->(∀p∈fq,p∈fp)->∃a,v = .ref a/\(∃xs,SqL X.K H1 a xs)/\R (GU X.K a) H1:=by
  rintro a xs fq rfl ha keep hi sub
  refine⟨a,rfl,⟨xs,ha⟩,k _ H1 s1 ⟨fun H' ab=>⟨xs,keep H' ab,by rw[hi.len];exact Nat.le_refl _⟩,fun H' i l ab hl=>?_,fun H' i l x H'' ab hl y=>?_⟩⟩
  ·obtain⟨x,f1,hx,_,_⟩:=hi.get hl
   exact⟨xs,x,keep H' ab,hx⟩
  ·obtain⟨rfl,y⟩:=y
   obtain⟨x',f1,hx,ix,sub'⟩:=hi.get hl
   have:=y xs (keep _ ab)
   rw[hx] at this;cases this
   have n1':∀p∈f1,¬Rm p:=fun p hp=>n1 p (sub p (sub' p hp))
   exact⟨Same.refl _,f1,ix.ab ab hd1 n1',fun p hp=>⟨Is.dom _ _ _ ix p hp,n1' p hp⟩⟩
 rcases Lh e2 with rfl | rfl
 ·obtain⟨a,xs,fq,rfl,ha,hi,rfl⟩:=i1.lst_inv
  exact main a xs fq rfl (SqL.of ha) (fun H' ab=>SqL.of (ab a _ ha (n1 a List.mem_cons_self))) hi fun p hp=>List.mem_cons_of_mem _ hp
 ·obtain⟨a,xs,rfl,ha,hi⟩:=i1.cst_inv
  exact main a xs fp rfl ha.sq (fun H' ab=>(ha.tr (ab.tk hd1)).sq) hi fun p hp=>hp
theorem Qv{f:XE}(h:VE X e f):VI X tg e (Wq f):=PI.imp (Im h) fun σ H R ⟨Rm,s,ls,hd,env,e,k⟩=>by
 refine⟨Rm,s,.tup ls,hd,env,Mh e,fun v H1 fp s1 i1 n1=>?_⟩
 obtain⟨a,xs,rfl,ha,hi⟩:=i1.tup_inv
 have hd1:∀p,Rm p->Wv (H1 p):=fun p hp=>Same.mut s1 (hd p hp)
 have keep:∀H',Ab Rm H1 H'->SqT X.K H' a xs:=fun H' ab=>SqT.of ((ab.tk hd1).tup a xs ha)
 refine⟨a,rfl,⟨xs,SqT.of ha⟩,k _ H1 s1 ⟨fun H' ab=>⟨xs,keep H' ab,by rw[hi.len];exact Nat.le_refl _⟩,fun H' i l ab hl=>?_,fun H' i l x H'' ab hl y=>?_⟩⟩
 ·obtain⟨x,f1,hx,_,_⟩:=hi.get hl
  exact⟨xs,x,keep H' ab,hx⟩
 ·obtain⟨rfl,y⟩:=y
  obtain⟨x',f1,hx,ix,sub⟩:=hi.get hl
  have:=y xs (keep _ ab)
  rw[hx] at this;cases this
  have n1':∀p∈f1,¬Rm p:=fun p hp=>n1 p (sub p hp)
  exact⟨Same.refl _,f1,ix.ab ab hd1 n1',fun p hp=>⟨Is.dom _ _ _ ix p hp,n1' p hp⟩⟩
def W9(n:Nat):List PV:=(List.range n).map fun(i:Nat)=>PV.int (i:Int)
def V5(lo:Int)(n:Nat):List PV:=(List.range n).map fun(i:Nat)=>PV.int (lo+(i:Int))
def ZS(fs:List XE):XL:=fun s=>match TY fs s with | some [.int j]=>if -1000000<=j/\j<=1000000 then some (W9 j.toNat) else none | _=>none
def Va(fs:List XE):XL:=fun s=>match TY fs s with | some [.int i,.int j]=>if -1000000<=i/\i<=1000000/\-1000000<=j/\j<=1000000 then some (V5 i (j-i).toNat) else none | _=>none
theorem Nu{Rm:Addr->Prop}{H1:Hp}(lo:Int)(n:Nat):Fb K Rm H1 (HJ lo n) (V5 lo n):=by
 refine⟨fun H' _=>by unfold V5;rw[List.length_map,List.length_range];exact Nat.le_refl n,fun H' i l _ hl=>?_,fun H' i l x H'' _ hl y=>?_⟩
 ·have:=(List.getElem?_eq_some_iff.mp hl).1
  unfold V5 at this;rw[List.length_map,List.length_range] at this;exact this
 ·obtain⟨rfl,rfl⟩:=y
  have hi:=(List.getElem?_eq_some_iff.mp hl).1
  unfold V5 at hi hl;rw[List.length_map,List.length_range] at hi;rw[List.getElem?_map,List.getElem?_range hi] at hl;cases hl
  exact⟨Same.refl _,[],Is.int _,fun p hp=>by simp at hp⟩
theorem Ja(n:Nat):W9 n=V5 0 n:=by
 unfold W9 V5
 apply List.map_congr_left
 intro i _;rw[Int.zero_add]
theorem Yo{a:Expr}{fs:List XE}{p pos:Pos}(hg:Gl X "range")(hm:X.mg "range" = none)(ha:VA X [a] fs)(hs:starEach [a] X.env=[(false,eval a X.env)]:=by rfl):VI X tg (.Call (.Name "range" p) [a] [] pos) (ZS fs):=
 PI.imp (N4 hg hm ha hs) fun σ H R ⟨Rm,s,ls,hd,env,e,k⟩=>by
 unfold ZS at e
 split at e
 ·split at e
  ·cases e
   rename_i j he hb
   refine⟨Rm,s,_,hd,env,he,fun vs H1 fp s1 i1 _=>?_⟩
   obtain⟨v,rfl,i⟩:=i1.one_inv
   refine⟨j,by rw[i.int_inv.1],by omega,by omega,k _ H1 s1 ?_⟩
   rw[Ja];exact Nu _ _
  ·cases e
 ·cases e
theorem RU{a b:Expr}{fs:List XE}{p pos:Pos}(hg:Gl X "range")(hm:X.mg "range" = none)(ha:VA X [a,b] fs)(hs:starEach [a,b] X.env=[(false,eval a X.env),(false,eval b X.env)]:=by rfl)(hs2:starEach [b] X.env=[(false,eval b X.env)]:=by rfl):VI X tg (.Call (.Name "range" p) [a,b] [] pos) (Va fs):=
 PI.imp (N5 hg hm ha hs hs2) fun σ H R ⟨Rm,s,ls,hd,env,e,k⟩=>by
 unfold Va at e
 split at e
 ·split at e
  ·cases e
   rename_i i j he hb
   refine⟨Rm,s,_,hd,env,he,fun vs H1 fp s1 i1 _=>?_⟩
   obtain⟨v,w,f1,f2,rfl,iv,iw,_⟩:=i1.two_inv
   exact⟨i,j,by rw[iv.int_inv.1,iw.int_inv.1],⟨by omega,by omega,by omega,by omega⟩,k _ H1 s1 (Nu _ _)⟩
  ·cases e
 ·cases e
def Vb(m:List PV):List PV:=m.zipIdx.map fun z=>.tup [.int (z.2:Nat),z.1]
def V6(m n:List PV):List PV:=(m.zip n).map fun z=>.tup [z.1,z.2]
theorem RV{m:List PV}{i:Nat}{l:PV}(h:(Vb m)[i]?=some l):∃a,m[i]?=some a/\l = .tup [.int (i:Nat),a]:=by
 unfold Vb at h;rw[List.getElem?_map,List.getElem?_zipIdx] at h
 cases q:m[i]? with
 | none=>rw[q] at h;cases h
 | some a=>rw[q] at h;cases h;exact⟨a,rfl,by simp⟩
theorem RW(m:List PV):(Vb m).length=m.length:=by unfold Vb;rw[List.length_map,List.length_zipIdx]
theorem Pp{m n:List PV}{i:Nat}{l:PV}(h:(V6 m n)[i]?=some l):∃a b,m[i]?=some a/\n[i]?=some b/\l = .tup [a,b]:=by
 unfold V6 at h;rw[List.getElem?_map] at h
 cases q:(m.zip n)[i]? with
 | none=>rw[q] at h;cases h
 | some z=>
  rw[q] at h;cases h
  obtain⟨q1,q2⟩:=List.getElem?_zip_eq_some.mp q
  exact⟨z.1,z.2,q1,q2,rfl⟩
theorem Pq(m n:List PV):(V6 m n).length=min m.length n.length:=by unfold V6;rw[List.length_map,List.length_zip]
def seqB:Bool->PV->Option (List PV)
 | true,.lst l=>some l
 | true,.cst l=>some l
 | false,.tup l=>some l
 | _,_=>none
theorem Qw{H:Hp}{b:Bool}{l:PV}{v:V}{fp:List Addr}{m:List PV}(h:Is K H l v fp)(e:seqB b l=some m):∃p xs fq,v = .ref p/\Iss K H m xs fq/\(∀q∈fq,q∈fp)/\∀(Rm:Addr->Prop) H',Ab Rm H H'->(∀p,Rm p->Wv (H p))->(∀p∈fp,¬Rm p)->Rr b K H' p xs:=by
 cases b with
 | true=>cases l with
  | lst l=>
   cases e
   obtain⟨p,xs,fq,rfl,hp,hi,rfl⟩:=h.lst_inv
   exact⟨p,xs,fq,rfl,hi,fun q hq=>List.mem_cons_of_mem _ hq,fun Rm H' ab _ n=>SqL.of (ab p _ hp (n p List.mem_cons_self))⟩
  | cst l=>
   cases e
   obtain⟨p,xs,rfl,hp,hi⟩:=h.cst_inv
   exact⟨p,xs,fp,rfl,hi,fun q hq=>hq,fun Rm H' ab hd _=>(hp.tr (ab.tk hd)).sq⟩
  | _=>cases e
 | false=>cases l with
  | tup l=>
   cases e
   obtain⟨p,xs,rfl,hp,hi⟩:=h.tup_inv
   exact⟨p,xs,fp,rfl,hi,fun q hq=>hq,fun Rm H' ab hd _=>SqT.of ((ab.tk hd).tup p xs hp)⟩
  | _=>cases e
def Y9(b:Bool)(fs:List XE):XL:=fun s=>match TY fs s with | some [l]=>(seqB b l).map Vb | _=>none
def VR(b1 b2:Bool)(fs:List XE):XL:=fun s=>match TY fs s with | some [l,r]=>(seqB b1 l).bind fun m=>(seqB b2 r).map fun n=>V6 m n | _=>none
theorem Uk{elts:List Expr}{k:Nat}{tpos:Pos}(b:Bool){a:Expr}{fs:List XE}{p pos:Pos}(hg:Gl X "enumerate")(hm:X.mg "enumerate" = none)(ha:VA X [a] fs)(hs:starEach [a] X.env=[(false,eval a X.env)]:=by rfl) :
  VI X (.Tuple elts k tpos) (.Call (.Name "enumerate" p) [a] [] pos) (Y9 b fs):=PI.imp (KW b hg hm ha hs) fun σ H R ⟨Rm,s,ls,hd,env,e,k⟩=>by
 unfold Y9 at e
 split at e
 ·rename_i l he
  obtain⟨m,e1,rfl⟩:=map_some e
  refine⟨Rm,s,_,hd,env,he,fun vs H1 fp s1 i1 n1=>?_⟩
  obtain⟨v,rfl,i⟩:=i1.one_inv
  have hd1:∀p,Rm p->Wv (H1 p):=fun p hp=>Same.mut s1 (hd p hp)
  obtain⟨a,xs,fq,rfl,hi,sub,keep⟩:=Qw (K:=X.K) i e1
  have kp:=fun H' ab=>keep Rm H' ab hd1 n1
  refine⟨a,rfl,⟨xs,kp H1 (Same.ab (Same.refl H1))⟩,k _ H1 s1 ⟨fun H' ab=>⟨xs,kp H' ab,by rw[RW,hi.len]⟩,fun H' i l ab hl=>?_,fun H' i l x H'' ab hl y=>?_⟩⟩
  ·obtain⟨c,hc,rfl⟩:=RV hl
   obtain⟨x,f1,hx,_,_⟩:=hi.get hc
   exact⟨xs,x,kp H' ab,hx⟩
  ·obtain⟨c,hc,rfl⟩:=RV hl
   obtain⟨x',f1,hx,ix,sb⟩:=hi.get hc
   obtain⟨q,z,hq,rfl,rfl,y⟩:=y
   have:=y xs (kp _ ab)
   rw[hx] at this;cases this
   have n1':∀p∈f1,¬Rm p:=fun p hp=>n1 p (sub p (sb p hp))
   refine⟨Same.new hq _,f1,Is.tup Zx ?_,fun p hp=>⟨Is.dom _ _ _ ix p hp,n1' p hp⟩⟩
   exact Iss.cons (f1:=[]) (Is.int _) (Iss.one ((ix.ab ab hd1 n1').mono (Same.new hq _)))
 ·cases e
theorem Qx{elts:List Expr}{k:Nat}{tpos:Pos}(b1 b2:Bool){a b:Expr}{fs:List XE}{p pos:Pos}(hg:Gl X "zip")(hm:X.mg "zip" = none)(ha:VA X [a,b] fs)
  (hs:starEach [a,b] X.env=[(false,eval a X.env),(false,eval b X.env)]:=by rfl) (hs2:starEach [b] X.env=[(false,eval b X.env)]:=by rfl) :
  VI X (.Tuple elts k tpos) (.Call (.Name "zip" p) [a,b] [] pos) (VR b1 b2 fs):=PI.imp (IK b1 b2 hg hm ha hs hs2) fun σ H R ⟨Rm,s,ls,hd,env,e,k⟩=>by
 unfold VR at e
 split at e
 ·rename_i l r he
  obtain⟨m,e1,e⟩:=Zg e
  obtain⟨n,e2,rfl⟩:=map_some e
  refine⟨Rm,s,_,hd,env,he,fun vs H1 fp s1 i1 n1=>?_⟩
  obtain⟨v,w,g1,g2,rfl,iv,iw,rfl⟩:=i1.two_inv
  have hd1:∀p,Rm p->Wv (H1 p):=fun p hp=>Same.mut s1 (hd p hp)
  have ng1:∀p∈g1,¬Rm p:=fun p hp=>n1 p (List.mem_append_left _ hp)
  have ng2:∀p∈g2,¬Rm p:=fun p hp=>n1 p (List.mem_append_right _ hp)
  obtain⟨a1,xs,fq,rfl,hi,sub,keep⟩:=Qw (K:=X.K) iv e1
  obtain⟨a2,ys,fr,rfl,hj,sub2,keep2⟩:=Qw (K:=X.K) iw e2
  have kp:=fun H' ab=>keep Rm H' ab hd1 ng1
  have kp2:=fun H' ab=>keep2 Rm H' ab hd1 ng2
  refine⟨a1,a2,rfl,⟨xs,kp H1 (Same.ab (Same.refl H1))⟩,⟨ys,kp2 H1 (Same.ab (Same.refl H1))⟩,k _ H1 s1 ⟨fun H' ab=>⟨xs,ys,kp H' ab,kp2 H' ab,?_⟩,fun H' i l ab hl=>?_,fun H' i l x H'' ab hl y=>?_⟩⟩
  ·rw[Pq,hi.len,hj.len]
   omega
  ·obtain⟨c,d,hc,hd',rfl⟩:=Pp hl
   obtain⟨x,f1,hx,_,_⟩:=hi.get hc
   obtain⟨y,f2,hy,_,_⟩:=hj.get hd'
   exact⟨xs,ys,x,y,kp H' ab,kp2 H' ab,hx,hy⟩
  ·obtain⟨c,d,hc,hd',rfl⟩:=Pp hl
   obtain⟨x',f1,hx,ix,sb⟩:=hi.get hc
   obtain⟨y',f2,hy,iy,sb2⟩:=hj.get hd'
   obtain⟨q,z,z',hq,rfl,rfl,y1,y2⟩:=y
   have:=y1 xs (kp _ ab)
   rw[hx] at this;cases this
   have:=y2 ys (kp2 _ ab)
   rw[hy] at this;cases this
   have n1':∀p∈f1,¬Rm p:=fun p hp=>ng1 p (sub p (sb p hp))
   have n2':∀p∈f2,¬Rm p:=fun p hp=>ng2 p (sub2 p (sb2 p hp))
   refine⟨Same.new hq _,f1++f2,Is.tup Zx ?_,fun p hp=>?_⟩
   ·exact Iss.cons ((ix.ab ab hd1 n1').mono (Same.new hq _)) (Iss.one ((iy.ab ab hd1 n2').mono (Same.new hq _)))
   ·rcases List.mem_append.mp hp with hp | hp
    ·exact⟨Is.dom _ _ _ ix p hp,n1' p hp⟩
    ·exact⟨Is.dom _ _ _ iy p hp,n2' p hp⟩
 ·cases e
end
inductive Tgt where
 | one (i:Nat) | many (is:List Nat)
def Tgt.slots:Tgt->List Nat
 | .one i=>[i]
 | .many is=>is
def setAll:List Nat->List PV->ZU->ZU
 | i::is,l::ls,s=>setAll is ls (s.set i (some l))
 | _,_,s=>s
def YX:List Nat->List V->TL->TL
 | i::is,l::ls,s=>YX is ls (s.set i (some l))
 | _,_,s=>s
def X1:Tgt->PV->ZU->Option ZU
 | .one i,l,s=>some (s.set i (some l))
 | .many is,.tup ls,s=>if ls.length=is.length then some (setAll is ls s) else none
 | _,_,_=>none
def Ov:List Nat->JK
 | []=>HH
 | i::is=>JL (Tz i) (Ov is)
def gT(K:PySem.W.Frag):Tgt->TG
 | .one i=>Tz i
 | .many is=>HI K is.length (Ov is)
theorem SB:∀{is:List Nat}{vs:List V}{σ:TL}{H:Hp}{Q:TL->Hp->Prop},vs.length=is.length->Q (YX is vs σ) H->Ov is vs σ H Q
 | [],[],_,_,_,_,q=>⟨rfl,q⟩
 | [],_::_,_,_,_,h,_=>by simp at h
 | _::_,[],_,_,_,h,_=>by simp at h
 | i::is,v::vs,σ,H,Q,h,q=>⟨v,vs,rfl,SB (is:=is) (vs:=vs) (by simpa using h) q⟩
theorem Qy{T:Tgt}{l:PV}{v:V}{fp:List Addr}{s s':ZU}{H:Hp}(h:Is K H l v fp)(e:X1 T l s=some s') :
  ∃ls vs fs,s'=setAll T.slots ls s/\Iss K H ls vs fs/\ls.length=T.slots.length/\(∀p∈fs,p∈fp)/\∀σ (Q:TL->Hp->Prop),Q (YX T.slots vs σ) H->gT K T v σ H Q:=by
 cases T with
 | one i=>
  cases e
  exact⟨[l],[v],fp,rfl,Iss.one h,rfl,fun p hp=>hp,fun σ Q q=>q⟩
 | many is=>
  cases l with
  | tup ls=>
   have e:(if ls.length=is.length then some (VL.setAll is ls s) else none)=some s':=e
   split at e
   ·cases e
    obtain⟨p,xs,rfl,hp,hi⟩:=h.tup_inv
    exact⟨ls,xs,fp,rfl,hi,by assumption,fun p hp=>hp,fun σ Q q=>⟨p,xs,rfl,SqT.of hp,by rw[hi.len];assumption,SB (by rw[hi.len];assumption) q⟩⟩
   ·cases e
  | _=>cases e
theorem WF:∀{is:List Nat}{vs:List V}{σ:TL}{n:Nat},(∀i∈is,i<n)->(YX is vs σ).drop n=σ.drop n
 | [],_,_,_,_=>rfl
 | _::_,[],_,_,_=>rfl
 | i::is,v::vs,σ,n,h=>by
  show(YX is vs (σ.set i (some v))).drop n=_
  rw[WF (fun j hj=>h j (List.mem_cons_of_mem _ hj))]
  have:=h i List.mem_cons_self
  rw[List.drop_set,if_pos this]
theorem EnvIs.set{Rm:Addr->Prop}{H:Hp}{s:ZU}{σ:TL}{i:Nat}{l:PV}{v:V}{fp:List Addr}(h:EnvIs K Rm H s σ)(hl:s.length=σ.length)(hi:Is K H l v fp)(n:∀p∈fp,¬Rm p):EnvIs K Rm H (s.set i (some l)) (σ.set i (some v)):=⟨fun j a e=>by
 rw[List.getElem?_set] at e
 by_cases hj:i=j
 ·subst hj
  rw[if_pos rfl] at e
  split at e
  ·cases e
   exact⟨v,fp,by rw[List.getElem?_set,if_pos rfl,if_pos (by omega)],hi,n⟩
  ·cases e
 ·rw[if_neg hj] at e
  obtain⟨w,f,h1,h2,h3⟩:=h.is j a e
  exact⟨w,f,by rw[List.getElem?_set,if_neg hj];exact h1,h2,h3⟩⟩
theorem EnvIs.setAll{Rm:Addr->Prop}{H:Hp}:∀{is:List Nat}{ls:List PV}{vs:List V}{fs:List Addr}{s:ZU}{σ:TL},EnvIs K Rm H s σ->s.length=σ.length->Iss K H ls vs fs->(∀p∈fs,¬Rm p)->EnvIs K Rm H (VL.setAll is ls s) (YX is vs σ)
 | [],_,_,_,_,_,h,_,_,_=>by unfold VL.setAll YX;exact h
 | i::is,[],vs,fs,s,σ,h,_,hi,_=>by
  simp only[Iss] at hi;rw[hi.1];exact h
 | i::is,l::ls,vs,fs,s,σ,h,hl,hi,n=>by
  obtain⟨x,r,f1,f2,rfl,h1,h2,rfl⟩:=hi.inv
  show EnvIs K Rm H (VL.setAll is ls (s.set i (some l))) (YX is r (σ.set i (some x)))
  exact EnvIs.setAll (h.set hl h1 fun p hp=>n p (List.mem_append_left _ hp)) (by rw[List.length_set,List.length_set];exact hl) h2 fun p hp=>n p (List.mem_append_right _ hp)
def ZL(n:Nat)(ix:List Nat)(s:ZU):ZU:=List.replicate n none++ix.map (fun i=>(s[i]?).join)
def X2(T:Tgt)(ft:XT)(fe:XE)(s0:ZU):List PV->Option (List PV)
 | []=>some []
 | l::r=>(X1 T l s0).bind fun s1=>(ft s1).bind fun c=>if c=true then(fe s1).bind fun y=>(X2 T ft fe s0 r).map (y::·) else X2 T ft fe s0 r
def Zs(n:Nat)(ix:List Nat)(fi:XL)(T:Tgt)(ft:XT)(fe:XE):XE:=fun s=>(fi s).bind fun ls=>if ls.length<=10000 then(X2 T ft fe (ZL n ix s) ls).map .lst else none
def Zz:XT:=fun _=>some true
theorem Mi{α:Type}{o:Option (Option α)}{a:α}(h:o.join=some a):o=some (some a):=by
 cases o with
 | none=>cases h
 | some b=>cases b with
  | none=>cases h
  | some c=>cases h;rfl
theorem EnvIs.comp{Rm:Addr->Prop}{H:Hp}{s:ZU}{σ:TL}{n:Nat}{ix:List Nat}(h:EnvIs K Rm H s σ):EnvIs K Rm H (ZL n ix s) (Ym n ix σ):=⟨fun i l e=>by
 unfold ZL at e;unfold Ym
 by_cases hi:i<n
 ·rw[List.getElem?_append_left (by simpa using hi),List.getElem?_replicate,if_pos hi] at e
  cases e
 ·rw[List.getElem?_append_right (by simpa using hi),List.length_replicate,List.getElem?_map] at e
  rw[List.getElem?_append_right (by simpa using hi),List.length_replicate,List.getElem?_map]
  cases q:ix[i-n]? with
  | none=>rw[q] at e;cases e
  | some j=>
   rw[q] at e
   have e:=Mi (Option.some.inj e)
   obtain⟨v,fp,a,b,c⟩:=h.is j l e
   exact⟨v,fp,by show some ((σ[j]?).join)=_;rw[a];rfl,b,c⟩⟩
theorem Pr(n:Nat)(ix:List Nat)(s:ZU)(σ:TL):(ZL n ix s).length=(Ym n ix σ).length:=by unfold ZL Ym;simp
theorem SC{T:Tgt}{ft:XT}{fe:XE}{s0:ZU}{l:PV}{r ys:List PV}(h:X2 T ft fe s0 (l::r)=some ys):∃s1 c,X1 T l s0=some s1/\ft s1=some c/\((c=true/\∃y zs,fe s1=some y/\X2 T ft fe s0 r=some zs/\ys=y::zs)\/(c=false/\X2 T ft fe s0 r=some ys)):=by
 unfold X2 at h
 obtain⟨s1,e1,h⟩:=Zg h
 obtain⟨c,e2,h⟩:=Zg h
 refine⟨s1,c,e1,e2,?_⟩
 cases c with
 | true=>
  rw[if_pos rfl] at h
  obtain⟨y,e3,h⟩:=Zg h
  obtain⟨zs,e4,rfl⟩:=map_some h
  exact .inl ⟨rfl,y,zs,e3,e4,rfl⟩
 | false=>
  rw[if_neg Bool.false_ne_true] at h
  exact .inr ⟨rfl,h⟩
theorem SD{α:Type}{l:List α}{i:Nat}{a:α}{r:List α}(h:l.drop i=a::r):l[i]?=some a/\l.drop (i+1)=r:=by
 constructor
 ·have:=congrArg (fun z=>z[0]?) h
  simpa [List.getElem?_drop] using this
 ·rw[<-List.drop_drop,h];rfl
section
variable {n:Nat} {ix:List Nat} {fi:XL} {T:Tgt} {ft:XT} {fe:XE}
theorem Jb(hT:∀i∈T.slots,i<n):∀σ H Q,tF K (Zs n ix fi T ft fe) σ H Q->RL n ix (iF K fi) (gT K T) (P0 K ft) (tF K fe) σ H Q:=fun σ H Q ⟨Rm,s,L,hd,env,e,k⟩=>by
 obtain⟨ls,e1,e⟩:=Zg e
 split at e
 case isFalse=>cases e
 rename_i hlen
 obtain⟨ys,e2,rfl⟩:=map_some e
 refine⟨Rm,s,ls,hd,env,e1,fun J H1 s1 jis=>?_⟩
 have hd1:∀p,Rm p->Wv (H1 p):=fun p hp=>Same.mut s1 (hd p hp)
 refine⟨fun i m vs Hc=>m=ls.length-i/\i<=ls.length/\Same H1 Hc/\∃dn YJ fp,ys=dn++YJ/\dn.length<=i/\X2 T ft fe (ZL n ix s) (ls.drop i)=some YJ/\Iss K Hc dn vs fp/\∀p∈fp,¬Rm p,
  ⟨ls.length,by simp,Nat.zero_le _,Same.refl H1,[],ys,[],rfl,Nat.le_refl _,e2,Iss.nil,fun p hp=>by simp at hp⟩,?_⟩
 rintro i m vs Hc ⟨rfl,hi,sc,dn,YJ,fp,rfl,hdl,ec,iv,nv⟩
 refine⟨by rw[iv.len];exact Nat.le_of_lt (lt_size (by omega)),?_⟩
 cases q:ls.drop i with
 | nil=>
  have hil:i=ls.length:=by
   have:=congrArg List.length q
   rw[List.length_drop] at this
   simp at this;omega
  subst hil;rw[q] at ec;cases ec
  refine .inl ⟨jis.stop Hc (Same.ab sc),fun p hp=>k _ _ (p::fp) (s1.trans (sc.trans (Same.new hp _))) ?_ fun a ha z=>?_⟩
  ·rw[List.append_nil]
   exact Is.lst Zx (iv.mono (Same.new hp _))
  ·rcases List.mem_cons.mp ha with rfl | ha
   ·exact Y3 (Same.mut (s1.trans sc) (hd a z)) hp
   ·exact nv a ha z
 | cons l r=>
  obtain⟨hl,hr⟩:=SD q
  have hilt:i<ls.length:=(List.getElem?_eq_some_iff.mp hl).1
  rw[q] at ec
  obtain⟨sb,c,eb,et,alt⟩:=SC ec
  refine .inr ⟨jis.go Hc i l (Same.ab sc) hl,fun vs' H'=>Same H1 H'/\∃dn' rest' fp',dn++YJ=dn'++rest'/\dn'.length<=i+1/\X2 T ft fe (ZL n ix s) (ls.drop (i+1))=some rest'/\Iss K H' dn' vs' fp'/\∀p∈fp',¬Rm p,
   fun vs' H' h'=>⟨ls.length-(i+1),by omega,rfl,hilt,h'.1,h'.2⟩,fun x H2 y=>?_⟩
  obtain⟨s2,fx,ix',nx⟩:=jis.yld Hc i l x H2 (Same.ab sc) hl y
  have hd2:∀p,Rm p->Wv (H2 p):=fun p hp=>Same.mut (sc.trans s2) (hd1 p hp)
  obtain⟨bl,bv,bf,rfl,bi,_,bsub,buse⟩:=Qy (K:=K) ix' eb
  have env2:EnvIs K Rm H2 (ZL n ix s) (Ym n ix σ):=(env.mono (s1.trans (sc.trans s2))).comp
  have env3:=env2.setAll (is:=T.slots) (Pr n ix s σ) bi fun p hp=>(nx p (bsub p hp)).2
  refine buse _ _ ⟨WF hT,Rm,_,c,hd2,env3,et,fun H3 s3=>?_⟩
  have hd3:∀p,Rm p->Wv (H3 p):=fun p hp=>Same.mut s3 (hd2 p hp)
  rcases alt with⟨rfl,y',zs,ey,ez,rfl⟩ | ⟨rfl,ez⟩
  ·refine Gc ?_
   refine⟨Rm,_,y',hd3,env3.mono s3,ey,fun v H4 f4 s4 i4 n4=>?_⟩
   refine⟨sc.trans (s2.trans (s3.trans s4)),dn++[y'],zs,fp++f4,by rw[List.append_assoc];rfl,by rw[List.length_append];simp;exact hdl,by rw[hr];exact ez,(iv.mono (s2.trans (s3.trans s4))).append (Iss.one i4),fun p hp=>?_⟩
   rcases List.mem_append.mp hp with h | h
   ·exact nv p h
   ·exact n4 p h
  ·refine Gb ?_
   exact⟨sc.trans (s2.trans s3),dn,YJ,fp,rfl,Nat.le_succ_of_le hdl,by rw[hr];exact ez,iv.mono (s2.trans s3),nv⟩
theorem Nv(hT:∀i∈T.slots,i<n):∀σ H Q,tM K (Zs n ix fi T ft fe) σ H Q->RL n ix (iF K fi) (gT K T) (P0 K ft) (tM K fe) σ H Q:=fun σ H Q ⟨s,L,env,e,k⟩=>by
 obtain⟨ls,e1,e⟩:=Zg e
 split at e
 case isFalse=>cases e
 rename_i hlen
 obtain⟨ys,e2,rfl⟩:=map_some e
 have hd:∀(H:Hp) p,(fun _=>False:Addr->Prop) p->Wv (H p):=fun _ _ z=>z.elim
 refine⟨fun _=>False,s,ls,hd H,env,e1,fun J H1 s1 jis=>?_⟩
 refine⟨fun i m vs Hc=>m=ls.length-i/\i<=ls.length/\Same H1 Hc/\∃dn YJ fp,ys=dn++YJ/\dn.length<=i/\X2 T ft fe (ZL n ix s) (ls.drop i)=some YJ/\Iss K Hc dn vs fp/\fp.Nodup/\∀p∈fp,H1 p=none/\Wv (Hc p),
  ⟨ls.length,by simp,Nat.zero_le _,Same.refl H1,[],ys,[],rfl,Nat.le_refl _,e2,Iss.nil,List.nodup_nil,fun p hp=>by simp at hp⟩,?_⟩
 rintro i m vs Hc ⟨rfl,hi,sc,dn,YJ,fp,rfl,hdl,ec,iv,dv,nv⟩
 refine⟨by rw[iv.len];exact Nat.le_of_lt (lt_size (by omega)),?_⟩
 cases q:ls.drop i with
 | nil=>
  have hil:i=ls.length:=by
   have:=congrArg List.length q
   rw[List.length_drop] at this
   simp at this;omega
  subst hil;rw[q] at ec;cases ec
  refine .inl ⟨jis.stop Hc (Same.ab sc),fun p hp=>k _ _ (p::fp) (s1.trans (sc.trans (Same.new hp _))) ?_ (List.nodup_cons.mpr ⟨fun z=>Y3 (nv p z).2 hp,dv⟩) fun a ha=>?_⟩
  ·rw[List.append_nil]
   exact Is.lst Zx (iv.mono (Same.new hp _))
  ·rcases List.mem_cons.mp ha with rfl | ha
   ·exact⟨Same.off (s1.trans sc) hp,by rw[Zx];exact True.intro⟩
   ·exact⟨Same.off s1 (nv a ha).1,Same.mut (Same.new hp _) (nv a ha).2⟩
 | cons l r=>
  obtain⟨hl,hr⟩:=SD q
  have hilt:i<ls.length:=(List.getElem?_eq_some_iff.mp hl).1
  rw[q] at ec
  obtain⟨sb,c,eb,et,alt⟩:=SC ec
  refine .inr ⟨jis.go Hc i l (Same.ab sc) hl,fun vs' H'=>Same H1 H'/\∃dn' rest' fp',dn++YJ=dn'++rest'/\dn'.length<=i+1/\X2 T ft fe (ZL n ix s) (ls.drop (i+1))=some rest'/\Iss K H' dn' vs' fp'/\fp'.Nodup/\∀p∈fp',H1 p=none/\Wv (H' p),
   fun vs' H' h'=>⟨ls.length-(i+1),by omega,rfl,hilt,h'.1,h'.2⟩,fun x H2 y=>?_⟩
  obtain⟨s2,fx,ix',nx⟩:=jis.yld Hc i l x H2 (Same.ab sc) hl y
  obtain⟨bl,bv,bf,rfl,bi,_,bsub,buse⟩:=Qy (K:=K) ix' eb
  have env2:EnvIs K (fun _=>False) H2 (ZL n ix s) (Ym n ix σ):=(env.mono (s1.trans (sc.trans s2))).comp
  have env3:=env2.setAll (is:=T.slots) (Pr n ix s σ) bi fun p hp=>(nx p (bsub p hp)).2
  refine buse _ _ ⟨WF hT,fun _=>False,_,c,hd H2,env3,et,fun H3 s3=>?_⟩
  rcases alt with⟨rfl,y',zs,ey,ez,rfl⟩ | ⟨rfl,ez⟩
  ·refine Gc ?_
   refine⟨_,y',env3.mono s3,ey,fun v H4 f4 s4 i4 d4 n4=>?_⟩
   refine⟨sc.trans (s2.trans (s3.trans s4)),dn++[y'],zs,fp++f4,by rw[List.append_assoc];rfl,by rw[List.length_append];simp;exact hdl,by rw[hr];exact ez,(iv.mono (s2.trans (s3.trans s4))).append (Iss.one i4),List.nodup_append.mpr ⟨dv,d4,fun a ha b hb z=>?_⟩,fun p hp=>?_⟩
   ·subst z
    exact Y3 (Same.mut (s2.trans s3) (nv a ha).2) (n4 a hb).1
   ·rcases List.mem_append.mp hp with h | h
    ·exact⟨(nv p h).1,Same.mut (s2.trans (s3.trans s4)) (nv p h).2⟩
    ·exact⟨Same.off (sc.trans (s2.trans s3)) (n4 p h).1,(n4 p h).2⟩
  ·refine Gb ?_
   exact⟨sc.trans (s2.trans s3),dn,YJ,fp,rfl,Nat.le_succ_of_le hdl,by rw[hr];exact ez,iv.mono (s2.trans s3),dv,fun p hp=>⟨(nv p hp).1,Same.mut (s2.trans s3) (nv p hp).2⟩⟩
end
def Gq(X:Cx)(ifs:List Expr)(f:XT):Prop:=MX X ifs (P0 X.K f)
section
variable {X:Cx} {tg elt iter c:Expr} {ifs:List Expr} {scope:Scope} {pos:Pos} {fi:XL} {T:Tgt} {ft:XT} {fe:XE}
theorem Z3:Gq X [] Zz:=fun pins s σ H Q I ⟨Rm,s',c,hd,env,e,k⟩=>by
 cases e
 exact KR pins s σ H Q I (k H (Same.refl H))
theorem Qz(h:VT X c ft):Gq X [c] ft:=KS h
theorem Yc(own fr:List Str)(ix:List Nat)(hcalm:X.calm=true)(hi:VI X tg iter fi)(S:V3 X.N X.env.scope scope own fr ix=true)
  (hg:∀cl C s H ex,PG (ZP X (own++fr) scope cl C s H ex) tg (gT X.K T)) (ht:∀cl C s H ex,Gq (ZP X (own++fr) scope cl C s H ex) ifs ft) (he:∀cl C s H ex,VE (ZP X (own++fr) scope cl C s H ex) elt fe)
  (hT:∀i∈T.slots,i<own.length:=by decide) (hs:∀x,foldedSetIterable iter X.env x=pure x:=by intro _;rfl):VE X (.ListComp elt [⟨tg,iter,ifs,0⟩] scope pos) (Zs own.length ix fi T ft fe):=
 PE.imp (Pi own fr ix hcalm hi S hg (fun cl C s H ex=>(show MX (ZP X (own++fr) scope cl C s H ex) ifs (P0 X.K ft) from ht cl C s H ex)) (fun cl C s H ex=>(show PE (ZP X (own++fr) scope cl C s H ex) elt (tF X.K fe) from he cl C s H ex)) hs) (Jb hT)
theorem QA(own fr:List Str)(ix:List Nat)(hcalm:X.calm=true)(hi:VI X tg iter fi)(S:V3 X.N X.env.scope scope own fr ix=true)
  (hg:∀cl C s H ex,PG (ZP X (own++fr) scope cl C s H ex) tg (gT X.K T)) (ht:∀cl C s H ex,Gq (ZP X (own++fr) scope cl C s H ex) ifs ft) (he:∀cl C s H ex,VM (ZP X (own++fr) scope cl C s H ex) elt fe)
  (hT:∀i∈T.slots,i<own.length:=by decide) (hs:∀x,foldedSetIterable iter X.env x=pure x:=by intro _;rfl):VM X (.ListComp elt [⟨tg,iter,ifs,0⟩] scope pos) (Zs own.length ix fi T ft fe):=
 PE.imp (Pi own fr ix hcalm hi S hg (fun cl C s H ex=>(show MX (ZP X (own++fr) scope cl C s H ex) ifs (P0 X.K ft) from ht cl C s H ex)) (fun cl C s H ex=>(show PE (ZP X (own++fr) scope cl C s H ex) elt (tM X.K fe) from he cl C s H ex)) hs) (Nv hT)
end
def WZ(xs:List PV)(lo hi:Option Int):List PV:=(xs.drop (HT.sIx xs.length 0 lo)).take (HT.sIx xs.length xs.length hi-HT.sIx xs.length 0 lo)
theorem Iss.cut{H:Hp}{l:List PV}{xs:List V}{fp:List Addr}(lo hi:Option Int)(h:Iss K H l xs fp):∃f1,Iss K H (WZ l lo hi) (Pe xs lo hi) f1/\∀p∈f1,p∈fp:=by
 unfold WZ Pe;rw[h.len]
 obtain⟨f1,a,b⟩:=h.drop (HT.sIx l.length 0 lo)
 obtain⟨f2,c,d⟩:=a.take (HT.sIx l.length l.length hi-HT.sIx l.length 0 lo)
 exact⟨f2,c,fun p hp=>b p (d p hp)⟩
abbrev XO:=ZU->Option (Option Int)
def Fy(K:PySem.W.Frag)(f:XO):TO:=fun σ H Q=>∃(Rm:Addr->Prop) (s:ZU) (i:Option Int),(∀p,Rm p->Wv (H p))/\EnvIs K Rm H s σ/\f s=some i/\∀H',Same H H'->Q i H'
def VO(X:Cx)(e:Option Expr)(f:XO):Prop:=PO X e (Fy X.K f)
def Q4:XO:=fun _=>some none
def UO(f:XE):XO:=fun s=>match f s with | some (.int i)=>some (some i) | _=>none
def VU(x:PV)(lo hi:Option Int):Option PV:=match x with | .lst l=>some (.lst (WZ l lo hi)) | .cst l=>some (.lst (WZ l lo hi)) | _=>none
def TQ(x:PV)(lo hi:Option Int):Option PV:=match x with | .tup l=>if HT.sIx l.length 0 lo=0/\HT.sIx l.length l.length hi=l.length then none else some (.tup (WZ l lo hi)) | _=>none
def T3(g:PV->Option Int->Option Int->Option PV)(a:XE)(lo hi:XO):XE:=fun s=>(a s).bind fun x=>(lo s).bind fun l=>(hi s).bind fun u=>g x l u
section
variable {X:Cx} {e:Expr} {lo hi:Option Expr} {p2 pos:Pos} {fa:XE} {fl fh:XO}
theorem T4:VO X none Q4:=fun pins s σ H Q I ⟨Rm,s',i,hd,env,e,k⟩=>by
 cases e
 exact KM pins s σ H Q I (k H (Same.refl H))
theorem Vx{e:Expr}(h:VE X e fa):VO X (some e) (UO fa):=fun pins s σ H Q I ⟨Rm,s',i,hd,env,e,k⟩=>by
 unfold UO at e
 split at e
 ·cases e
  rename_i j hj
  exact KN h pins s σ H Q I ⟨Rm,s',.int j,hd,env,hj,fun v H' fp sm i n=>⟨j,i.int_inv.1,k H' sm⟩⟩
 ·cases e
theorem U4(ha:VE X e fa)(hl:VO X lo fl)(hh:VO X hi fh):VE X (.Subscript e (.Slice lo hi none p2) pos) (T3 VU fa fl fh):=PE.imp (Pd KP ha hl hh) fun σ H Q ⟨Rm,s,l,hd,env,e,k⟩=>by
 obtain⟨x,e1,e⟩:=Zg e
 obtain⟨a,e2,e⟩:=Zg e
 obtain⟨b,e3,e⟩:=Zg e
 refine⟨Rm,s,x,hd,env,e1,fun v H1 fp s1 i1 n1=>⟨Rm,s,a,fun p hp=>Same.mut s1 (hd p hp),env.mono s1,e2,fun H2 s2=>⟨Rm,s,b,fun p hp=>Same.mut (s1.trans s2) (hd p hp),env.mono (s1.trans s2),e3,fun H3 s3=>?_⟩⟩⟩
 cases x with
 | lst l=>
  cases e
  obtain⟨p,xs,fq,rfl,hp,hi,rfl⟩:=(i1.mono (s2.trans s3)).lst_inv
  obtain⟨f1,c,d⟩:=hi.cut a b
  refine⟨p,xs,rfl,SqL.of hp,fun q hq=>k _ _ (q::f1) (s1.trans (s2.trans (s3.trans (Same.new hq _)))) (Is.lst Zx (c.mono (Same.new hq _))) fun r hr z=>?_⟩
  rcases List.mem_cons.mp hr with rfl | hr
  ·exact Y3 (Same.mut (s1.trans (s2.trans s3)) (hd r z)) hq
  ·exact n1 r (List.mem_cons_of_mem _ (d r hr)) z
 | cst l=>
  cases e
  obtain⟨p,xs,rfl,hp,hi⟩:=(i1.mono (s2.trans s3)).cst_inv
  obtain⟨f1,c,d⟩:=hi.cut a b
  refine⟨p,xs,rfl,hp.sq,fun q hq=>k _ _ (q::f1) (s1.trans (s2.trans (s3.trans (Same.new hq _)))) (Is.lst Zx (c.mono (Same.new hq _))) fun r hr z=>?_⟩
  rcases List.mem_cons.mp hr with rfl | hr
  ·exact Y3 (Same.mut (s1.trans (s2.trans s3)) (hd r z)) hq
  ·exact n1 r (d r hr) z
 | _=>cases e
theorem RX(ha:VE X e fa)(hl:VO X lo fl)(hh:VO X hi fh):VE X (.Subscript e (.Slice lo hi none p2) pos) (T3 TQ fa fl fh):=PE.imp (Pd IA ha hl hh) fun σ H Q ⟨Rm,s,l,hd,env,e,k⟩=>by
 obtain⟨x,e1,e⟩:=Zg e
 obtain⟨a,e2,e⟩:=Zg e
 obtain⟨b,e3,e⟩:=Zg e
 refine⟨Rm,s,x,hd,env,e1,fun v H1 fp s1 i1 n1=>⟨Rm,s,a,fun p hp=>Same.mut s1 (hd p hp),env.mono s1,e2,fun H2 s2=>⟨Rm,s,b,fun p hp=>Same.mut (s1.trans s2) (hd p hp),env.mono (s1.trans s2),e3,fun H3 s3=>?_⟩⟩⟩
 cases x with
 | tup l=>
  unfold TQ at e
  simp only at e
  split at e
  ·cases e
  ·rename_i hne
   cases e
   obtain⟨p,xs,rfl,hp,hi⟩:=(i1.mono (s2.trans s3)).tup_inv
   obtain⟨f1,c,d⟩:=hi.cut a b
   refine⟨p,xs,rfl,SqT.of hp,by rw[hi.len];exact hne,fun q hq=>k _ _ f1 (s1.trans (s2.trans (s3.trans (Same.new hq _)))) (Is.tup Zx (c.mono (Same.new hq _))) fun r hr=>n1 r (d r hr)⟩
 | _=>cases e
end
end VL
namespace VL
open PySem PySem.Spec PyProof.Rows L2
variable {K:PySem.W.Frag}
structure Rel(K:PySem.W.Frag)(O:List Nat)(H0:Hp)(fps:Nat->List Addr)(s:ZU)(σ:TL)(H:Hp):Prop where
 same:Same H0 H
 len:s.length=σ.length
 is:∀(i:Nat) l,s[i]?=some (some l)->∃v,σ[i]?=some (some v)/\Is K H l v (fps i)
 emp:∀(i:Nat),(∀l,s[i]?≠some (some l))->fps i=[]
 nd:∀i∈O,(fps i).Nodup
 own:∀i∈O,∀p∈fps i,H0 p=none/\Wv (H p)
 dis:∀i∈O,∀j,j≠i->∀p∈fps i,p∉fps j
def Ow(O:List Nat)(fps:Nat->List Addr)(p:Addr):Prop:=∃i∈O,p∈fps i
def YB(O:List Nat)(s:ZU):ZU:=O.foldl (fun s i=>s.set i none) s
theorem SE:∀{O:List Nat}{s:ZU}{i:Nat}{l:PV},(YB O s)[i]?=some (some l)->i∉O/\s[i]?=some (some l)
 | [],s,i,l,h=>⟨by simp,h⟩
 | o::O,s,i,l,h=>by
  obtain⟨h1,h2⟩:=SE (O:=O) (s:=s.set o none) h
  rw[List.getElem?_set] at h2
  by_cases e:o=i
  ·rw[if_pos e] at h2;split at h2<;>cases h2
  ·rw[if_neg e] at h2
   exact⟨by simp only[List.mem_cons,not_or];exact⟨fun z=>e z.symm,h1⟩,h2⟩
section
variable {O:List Nat} {H0 H H':Hp} {fps:Nat->List Addr} {s:ZU} {σ:TL}
theorem Rel.at(r:Rel K O H0 fps s σ H)(i:Nat){p:Addr}(hp:p∈fps i):∃l v,s[i]?=some (some l)/\σ[i]?=some (some v)/\Is K H l v (fps i):=by
 cases q:s[i]? with
 | none=>rw[r.emp i (fun l z=>by rw[q] at z;cases z)] at hp;simp at hp
 | some o=>cases o with
  | none=>rw[r.emp i (fun l z=>by rw[q] at z;cases z)] at hp;simp at hp
  | some l=>
   obtain⟨v,a,b⟩:=r.is i l q
   exact⟨l,v,rfl,a,b⟩
theorem Rel.dom(r:Rel K O H0 fps s σ H)(i:Nat):∀p∈fps i,H p≠none:=fun p hp=>by
 obtain⟨l,v,_,_,b⟩:=r.at i hp
 exact Is.dom _ _ _ b p hp
theorem Rel.env(r:Rel K O H0 fps s σ H):EnvIs K (fun _=>False) H s σ:=⟨fun i l e=>by
 obtain⟨v,a,b⟩:=r.is i l e
 exact⟨v,_,a,b,fun _ _ z=>z⟩⟩
theorem Rel.envO(r:Rel K O H0 fps s σ H):EnvIs K (Ow O fps) H (YB O s) σ:=⟨fun i l e=>by
 obtain⟨n,e⟩:=SE e
 obtain⟨v,a,b⟩:=r.is i l e
 exact⟨v,_,a,b,fun p hp ⟨j,hj,hpj⟩=>r.dis j hj i (fun z=>n (z▸hj)) p hpj hp⟩⟩
theorem Rel.owMut(r:Rel K O H0 fps s σ H):∀p,Ow O fps p->Wv (H p):=fun p ⟨i,hi,hp⟩=>(r.own i hi p hp).2
theorem Rel.grow(r:Rel K O H0 fps s σ H)(e:Same H H'):Rel K O H0 fps s σ H':=
 ⟨r.same.trans e,r.len,fun i l q=>by obtain⟨v,a,b⟩:=r.is i l q;exact⟨v,a,b.mono e⟩,r.emp,r.nd,fun i hi p hp=>⟨(r.own i hi p hp).1,Same.mut e (r.own i hi p hp).2⟩,r.dis⟩
theorem Rel.less{F:Hp}(r:Rel K O F fps s σ H)(e:Same H0 F):Rel K O H0 fps s σ H:=
 ⟨e.trans r.same,r.len,r.is,r.emp,r.nd,fun i hi p hp=>⟨Same.off e (r.own i hi p hp).1,(r.own i hi p hp).2⟩,r.dis⟩
open Classical in
noncomputable def W0(H:Hp)(Rm:Addr->Prop):Hp:=fun b=>if Rm b then none else H b
theorem RY{Rm:Addr->Prop}:Same (W0 H Rm) H:=fun b o h=>by
 unfold W0 at h
 split at h
 ·cases h
 ·exact h
theorem Rel.frame(r:Rel K O H0 fps s σ H):Rel K O (W0 H (Ow O fps)) fps s σ H:=
 ⟨RY,r.len,r.is,r.emp,r.nd,fun i hi p hp=>⟨by unfold W0;rw[if_pos ⟨i,hi,hp⟩],(r.own i hi p hp).2⟩,r.dis⟩
theorem Rel.under(r:Rel K O H0 fps s σ H):Same H0 (W0 H (Ow O fps)):=fun b o h=>by
 unfold W0
 rw[if_neg (fun⟨i,hi,hp⟩=>by rw[(r.own i hi b hp).1] at h;cases h)]
 exact r.same b o h
open Classical in
noncomputable def Ul(fps:Nat->List Addr)(n:Nat)(i:Nat)(fp:List Addr):Nat->List Addr:=fun j=>if j=i/\i<n then fp else fps j
theorem ZV{n i j:Nat}{fp:List Addr}(h:j≠i):Ul fps n i fp j=fps j:=by unfold Ul;rw[if_neg (fun z=>h z.1)]
theorem QB{n i:Nat}{fp:List Addr}(h:i<n):Ul fps n i fp i=fp:=by unfold Ul;rw[if_pos ⟨rfl,h⟩]
theorem Rel.set(r:Rel K O H0 fps s σ H){i:Nat}{l:PV}{v:V}{fp:List Addr}(hi:Is K H l v fp)(ho:i∈O->fp.Nodup/\∀p∈fp,H0 p=none/\Wv (H p))
  (hd:∀j,j≠i->(j∈O\/i∈O)->∀p∈fp,p∉fps j):Rel K O H0 (Ul fps s.length i fp) (s.set i (some l)) (σ.set i (some v)) H:=by
 by_cases hlt:i<s.length
 ·have e1:Ul fps s.length i fp i=fp:=QB hlt
  refine⟨r.same,by rw[List.length_set,List.length_set];exact r.len,fun j a e=>?_,fun j h=>?_,fun j hj=>?_,fun j hj p hp=>?_,fun j hj k hk p hp=>?_⟩
  ·rw[List.getElem?_set] at e
   by_cases hj:i=j
   ·subst hj
    rw[if_pos rfl,if_pos hlt] at e;cases e;rw[e1]
    exact⟨v,by rw[List.getElem?_set,if_pos rfl,if_pos (by rw[<-r.len];exact hlt)],hi⟩
   ·rw[if_neg hj] at e
    obtain⟨w,h1,h2⟩:=r.is j a e
    rw[ZV (Ne.symm hj)]
    exact⟨w,by rw[List.getElem?_set,if_neg hj];exact h1,h2⟩
  ·by_cases hj:i=j
   ·subst hj
    exact absurd (by rw[List.getElem?_set,if_pos rfl,if_pos hlt]) (h l)
   ·rw[ZV (Ne.symm hj)]
    exact r.emp j fun a z=>h a (by rw[List.getElem?_set,if_neg hj];exact z)
  ·by_cases e:j=i
   ·subst e;rw[e1];exact(ho hj).1
   ·rw[ZV e];exact r.nd j hj
  ·by_cases e:j=i
   ·subst e;rw[e1] at hp;exact(ho hj).2 p hp
   ·rw[ZV e] at hp;exact r.own j hj p hp
  ·by_cases e:j=i
   ·subst e
    rw[e1] at hp;rw[ZV hk]
    exact hd k hk (.inr hj) p hp
   ·rw[ZV e] at hp
    by_cases e2:k=i
    ·subst e2
     rw[e1]
     exact fun z=>hd j e (.inl hj) p z hp
    ·rw[ZV e2];exact r.dis j hj k hk p hp
 ·have e1:s.set i (some l)=s:=List.set_eq_of_length_le (by omega)
  have e2:σ.set i (some v)=σ:=List.set_eq_of_length_le (by rw[<-r.len];omega)
  have e3:Ul fps s.length i fp=fps:=by funext j;unfold Ul;rw[if_neg (fun z=>hlt z.2)]
  rw[e1,e2,e3];exact r
theorem Rel.mutate(r:Rel K O H0 fps s σ H){i:Nat}(hi:i∈O){p:Addr}(hp:p∈fps i){o:HO}{l':PV}{v:V}{fp':List Addr}(hv:σ[i]?=some (some v))(hlt:i<s.length)
  (h':Is K (upd H p o) l' v fp') (nd:fp'.Nodup) (hm:∀q∈fp',H0 q=none/\Wv (upd H p o q)) (hd:∀j,j≠i->∀q∈fp',q∉fps j) (hmo:Wv (some o)):Rel K O H0 (Ul fps s.length i fp') (s.set i (some l')) σ (upd H p o):=by
 have mu:=(r.own i hi p hp).2
 have pn:H0 p=none:=(r.own i hi p hp).1
 have e1:Ul fps s.length i fp' i=fp':=QB hlt
 have tk:JQ H (upd H p o):=⟨fun b xs h=>by
  rw[upd_ne (fun z=>by rw[z] at h;rw[h] at mu;exact mu)];exact h,fun b o xs h=>by
  rw[upd_ne (fun z=>by rw[z] at h;rw[h] at mu;exact mu)];exact h,fun b o x h=>by
  rw[upd_ne (fun z=>by rw[z] at h;rw[h] at mu;exact mu)];exact h⟩
 refine⟨fun b u h=>by rw[upd_ne (ZG h pn)];exact r.same b u h,by rw[List.length_set];exact r.len,fun j a e=>?_,fun j h=>?_,fun j hj=>?_,fun j hj q hq=>?_,fun j hj k hk q hq=>?_⟩
 ·rw[List.getElem?_set] at e
  by_cases hj:i=j
  ·subst hj
   rw[if_pos rfl,if_pos hlt] at e;cases e
   rw[e1];exact⟨v,hv,h'⟩
  ·rw[if_neg hj] at e
   obtain⟨w,h1,h2⟩:=r.is j a e
   rw[ZV (Ne.symm hj)]
   refine⟨w,h1,Is.tr tk _ _ _ (fun q hq=>RdK.of fun u hu=>?_) h2⟩
   have ne:q≠p:=fun z=>r.dis i hi j (Ne.symm hj) p hp (z▸hq)
   rw[upd_ne ne];exact hu
 ·by_cases hj:i=j
  ·subst hj
   exact absurd (by rw[List.getElem?_set,if_pos rfl,if_pos hlt]) (h l')
  ·rw[ZV (Ne.symm hj)]
   exact r.emp j fun a z=>h a (by rw[List.getElem?_set,if_neg hj];exact z)
 ·by_cases e:j=i
  ·subst e;rw[e1];exact nd
  ·rw[ZV e];exact r.nd j hj
 ·by_cases e:j=i
  ·subst e;rw[e1] at hq;exact hm q hq
  ·rw[ZV e] at hq
   refine⟨(r.own j hj q hq).1,?_⟩
   have ne:q≠p:=fun z=>r.dis j hj i (Ne.symm e) q hq (z▸hp)
   rw[upd_ne ne];exact(r.own j hj q hq).2
 ·by_cases e:j=i
  ·subst e
   rw[e1] at hq;rw[ZV hk]
   exact hd k hk q hq
  ·rw[ZV e] at hq
   by_cases e2:k=i
   ·subst e2
    rw[e1]
    exact fun z=>hd j e q z hq
   ·rw[ZV e2];exact r.dis j hj k hk q hq
end
def Kep(a b:List Addr):Prop:=a=b\/a=[]
theorem Kep.refl(a:List Addr):Kep a a:=.inl rfl
theorem Kep.trans{a b c:List Addr}(h:Kep a b)(k:Kep b c):Kep a c:=by
 rcases h with rfl | h
 ·exact k
 ·exact .inr h
inductive Out where
 | nx (s:ZU) | rt (l:PV) | bk (s:ZU) | ct (s:ZU)
abbrev XS:=ZU->Option Out
def OutOk(K:PySem.W.Frag)(O W:List Nat)(H0:Hp)(fps:Nat->List Addr)(σ:TL)(D:Sj):Out->Prop
 | .nx s'=>∀fps' σ' H',Rel K O H0 fps' s' σ' H'->(∀j,j∉W->σ'[j]?=σ[j]?/\Kep (fps' j) (fps j))->D.nx σ' H'
 | .bk s'=>∀fps' σ' H',Rel K O H0 fps' s' σ' H'->(∀j,j∉W->σ'[j]?=σ[j]?/\Kep (fps' j) (fps j))->D.bk σ' H'
 | .ct s'=>∀fps' σ' H',Rel K O H0 fps' s' σ' H'->(∀j,j∉W->σ'[j]?=σ[j]?/\Kep (fps' j) (fps j))->D.ct σ' H'
 | .rt l=>∀v fp H',Same H0 H'->Is K H' l v fp->fp.Nodup->(∀p∈fp,H0 p=none/\Wv (H' p))->D.rt v H'
def Hu(K:PySem.W.Frag)(O W:List Nat)(f:XS):TS:=fun D σ H=>∃H0 fps s out,Rel K O H0 fps s σ H/\f s=some out/\OutOk K O W H0 fps σ D out
def VS(X:Cx)(O W:List Nat)(st:Stmt)(f:XS):Prop:=PS X st (Hu X.K O W f)
def Kp(X:Cx)(O W:List Nat)(st:List Stmt)(f:XS):Prop:=PSs X st (Hu X.K O W f)
theorem OutOk.same{O W W':List Nat}{H0:Hp}{fps fps1:Nat->List Addr}{σ σ1:TL}{D:Sj}{out:Out}(h:OutOk K O W' H0 fps σ D out)(k:∀j,j∉W'->σ1[j]?=σ[j]?/\Kep (fps1 j) (fps j))(hs:∀j,j∉W'->j∉W):OutOk K O W H0 fps1 σ1 D out:=by
 cases out with
 | nx s'=>exact fun fps' σ' H' r q=>h fps' σ' H' r fun j hj=>⟨(q j (hs j hj)).1.trans (k j hj).1,(q j (hs j hj)).2.trans (k j hj).2⟩
 | bk s'=>exact fun fps' σ' H' r q=>h fps' σ' H' r fun j hj=>⟨(q j (hs j hj)).1.trans (k j hj).1,(q j (hs j hj)).2.trans (k j hj).2⟩
 | ct s'=>exact fun fps' σ' H' r q=>h fps' σ' H' r fun j hj=>⟨(q j (hs j hj)).1.trans (k j hj).1,(q j (hs j hj)).2.trans (k j hj).2⟩
 | rt l=>exact h
theorem OutOk.less{O W:List Nat}{H0 F:Hp}{fps:Nat->List Addr}{σ:TL}{D:Sj}{out:Out}(h:OutOk K O W H0 fps σ D out)(e:Same H0 F):OutOk K O W F fps σ D out:=by
 cases out with
 | nx s'=>exact fun fps' σ' H' r q=>h fps' σ' H' (r.less e) q
 | bk s'=>exact fun fps' σ' H' r q=>h fps' σ' H' (r.less e) q
 | ct s'=>exact fun fps' σ' H' r q=>h fps' σ' H' (r.less e) q
 | rt l=>exact fun v fp H' sm i d n=>h v fp H' (e.trans sm) i d fun p hp=>⟨Same.off e (n p hp).1,(n p hp).2⟩
def ZY:XS:=fun s=>some (.nx s)
def Zp(f g:XS):XS:=fun s=>(f s).bind fun o=>match o with | .nx s'=>g s' | r=>some r
def Wo(c:XT)(f g:XS):XS:=fun s=>(c s).bind fun k=>if k=true then f s else g s
def ZK(f:XE):XS:=fun s=>(f s).map .rt
def Zr(i:Nat)(f:XE):XS:=fun s=>(f s).map fun l=>.nx (s.set i (some l))
section
variable {X:Cx} {O W W1 W2:List Nat} {st:Stmt} {YJ:List Stmt} {f g:XS} {pos:Pos}
theorem PS.imp{t t':TS}(h:PS X st t)(i:∀D σ H,t' D σ H->t D σ H):PS X st t':=fun pins s σ H D I q=>h pins s σ H D I (i D σ H q)
theorem PSs.imp{t t':TS}(h:PSs X YJ t)(i:∀D σ H,t' D σ H->t D σ H):PSs X YJ t':=fun pins s σ H D I q=>h pins s σ H D I (i D σ H q)
theorem Li:∀D σ H,Hu K O W ZY D σ H->JJ D σ H:=fun D σ H ⟨H0,fps,s,out,r,e,k⟩=>by
 cases e
 exact k fps σ H r fun j _=>⟨rfl,Kep.refl _⟩
theorem Yj:Kp X O [] [] ZY:=PSs.imp Kx Li
theorem Zm(h:VS X O W st f):Kp X O W [st] f:=Nd h
theorem Zh(h1:VS X O W1 st f)(h2:Kp X O W2 YJ g):Kp X O (W1++W2) (st::YJ) (Zp f g):=PSs.imp (Q7 h1 h2) fun D σ H ⟨H0,fps,s,out,r,e,k⟩=>by
 obtain⟨o1,e1,e⟩:=Zg e
 have sub1:∀j,j∉W1++W2->j∉W1:=fun j hj z=>hj (List.mem_append_left _ z)
 have sub2:∀j,j∉W1++W2->j∉W2:=fun j hj z=>hj (List.mem_append_right _ z)
 refine⟨H0,fps,s,o1,r,e1,?_⟩
 cases o1 with
 | nx s1=>
  intro fps1 σ1 H1 r1 q1
  exact⟨H0,fps1,s1,out,r1,e,k.same (fun j hj=>q1 j (sub1 j hj)) sub2⟩
 | bk s1=>cases e;exact fun fps' σ' H' r' q'=>k fps' σ' H' r' fun j hj=>q' j (sub1 j hj)
 | ct s1=>cases e;exact fun fps' σ' H' r' q'=>k fps' σ' H' r' fun j hj=>q' j (sub1 j hj)
 | rt l=>cases e;exact k
theorem Xg{c:Expr}{a b:List Stmt}{fc:XT}(hc:VT X c fc)(ha:Kp X O W1 a f)(hb:Kp X O W2 b g):VS X O (W1++W2) (.If c a b pos) (Wo fc f g):=PS.imp (HF hc ha hb) fun D σ H ⟨H0,fps,s,out,r,e,k⟩=>by
 obtain⟨c,e1,e⟩:=Zg e
 have sub1:∀j,j∉W1++W2->j∉W1:=fun j hj z=>hj (List.mem_append_left _ z)
 have sub2:∀j,j∉W1++W2->j∉W2:=fun j hj z=>hj (List.mem_append_right _ z)
 refine⟨fun _=>False,s,c,fun _ z=>z.elim,r.env,e1,fun H1 s1=>?_⟩
 cases c with
 | true=>
  rw[if_pos rfl] at e ⊢
  exact⟨H0,fps,s,out,r.grow s1,e,k.same (fun j _=>⟨rfl,Kep.refl _⟩) sub1⟩
 | false=>
  rw[if_neg Bool.false_ne_true] at e ⊢
  exact⟨H0,fps,s,out,r.grow s1,e,k.same (fun j _=>⟨rfl,Kep.refl _⟩) sub2⟩
theorem ZB{e:Expr}{fe:XE}(he:VM X e fe):VS X O [] (.Return (some e) pos) (ZK fe):=PS.imp (P4 he) fun D σ H ⟨H0,fps,s,out,r,e,k⟩=>by
 obtain⟨l,e1,rfl⟩:=map_some e
 exact⟨s,l,r.env,e1,fun v H' fp sm i d n=>k v fp H' (r.same.trans sm) i d fun p hp=>⟨Same.off r.same (n p hp).1,(n p hp).2⟩⟩
theorem Jc{e:Expr}{i:Nat}(he:PE X e (Rt i))(hi:i∈O:=by decide):VS X O [] (.Return (some e) pos) (ZK (Za i)):=PS.imp (P4 he) fun D σ H ⟨H0,fps,s,out,r,e,k⟩=>by
 obtain⟨l,e1,rfl⟩:=map_some e
 obtain⟨v,a,b⟩:=r.is i l (RS e1)
 exact⟨v,a,k v _ H r.same b (r.nd i hi) (r.own i hi)⟩
theorem Nw{t:TE}{i:Nat}{fe:XE}(ht:∀σ H Q,tM K fe σ H Q->t σ H Q):∀D σ H,Hu K O [i] (Zr i fe) D σ H->Q8 t (Tz i) D σ H:=fun D σ H ⟨H0,fps,s,out,r,e,k⟩=>by
 obtain⟨l,e1,rfl⟩:=map_some e
 refine ht σ H _ ⟨s,l,r.env,e1,fun v H' fp sm is d n=>?_⟩
 refine k _ _ H' ((r.grow sm).set (i:=i) is (fun _=>⟨d,fun p hp=>⟨Same.off r.same (n p hp).1,(n p hp).2⟩⟩) fun j _ _ p hp z=>r.dom j p z (n p hp).1) fun j hj=>?_
 have:j≠i:=by simpa using hj
 exact⟨by rw[List.getElem?_set,if_neg (Ne.symm this)],.inl (ZV this)⟩
theorem Zy{i:Nat}{x:Str}{e:Expr}{fe:XE}{pos':Pos}(hN:X.N.Nodup)(hi:X.N[i]?=some x)(hx:Hy X.env.scope x)(he:VM X e fe)(hs:swapsWith e (some (.Name x pos')) pos.line X.env=pure false:=by rfl)(hf:X.fn x=true\/X.env.scope.names.lookup x=some .local:=by first | exact .inl rfl | exact .inr rfl | assumption) :
  VS X O [i] (.Assign [.Name x pos'] e pos) (Zr i fe):=PS.imp (Ik hN hi hx he hs hf) (Nw fun _ _ _ h=>h)
end
def W3(T:Tgt)(fb:XS):List PV->ZU->Option Out
 | [],s=>some (.nx s)
 | l::r,s=>(X1 T l s).bind fun s1=>(fb s1).bind fun o=>match o with | .nx s2=>W3 T fb r s2 | .ct s2=>W3 T fb r s2 | .bk s2=>some (.nx s2) | .rt v=>some (.rt v)
def Wa(O:List Nat)(fi:XL)(T:Tgt)(fb:XS):XS:=fun s=>(fi (YB O s)).bind fun ls=>W3 T fb ls s
theorem Rel.setAll{O:List Nat}{H0 H:Hp}:∀{is:List Nat}{ls:List PV}{vs:List V}{fs:List Addr}{fps:Nat->List Addr}{s:ZU}{σ:TL},Rel K O H0 fps s σ H->Iss K H ls vs fs->ls.length=is.length->(∀i∈is,i∉O)->(∀i∈O,∀p∈fps i,p∉fs)->
  ∃fps',Rel K O H0 fps' (VL.setAll is ls s) (YX is vs σ) H/\∀j,j∉is->(YX is vs σ)[j]?=σ[j]?/\Kep (fps' j) (fps j)
 | [],ls,vs,fs,fps,s,σ,r,_,_,_,_=>⟨fps,by unfold VL.setAll YX;exact r,fun j _=>⟨by unfold YX;rfl,Kep.refl _⟩⟩
 | i::is,[],vs,fs,fps,s,σ,r,_,hl,_,_=>by simp at hl
 | i::is,l::ls,vs,fs,fps,s,σ,r,hi,hl,hO,hd=>by
  obtain⟨x,rr,f1,f2,rfl,h1,h2,rfl⟩:=hi.inv
  have hiO:=hO i List.mem_cons_self
  have r1:=r.set (i:=i) h1 (fun z=>absurd z hiO) fun j hj hjo p hp z=>by
   rcases hjo with hjo | hjo
   ·exact hd j hjo p z (List.mem_append_left _ hp)
   ·exact absurd hjo hiO
  obtain⟨fps',r2,q2⟩:=Rel.setAll (is:=is) r1 h2 (by simpa using hl) (fun j hj=>hO j (List.mem_cons_of_mem _ hj)) fun j hj p hp z=>by
   have hji:j≠i:=fun e=>hiO (by rw[<-e];exact hj)
   rw[ZV hji] at hp
   exact hd j hj p hp (List.mem_append_right _ z)
  refine⟨fps',r2,fun j hj=>?_⟩
  have hji:j≠i:=fun e=>hj (e▸List.mem_cons_self)
  obtain⟨a,b⟩:=q2 j (fun z=>hj (List.mem_cons_of_mem _ z))
  exact⟨a.trans (by rw[List.getElem?_set,if_neg (Ne.symm hji)]),b.trans (.inl (ZV hji))⟩
section
variable {O W:List Nat} {T:Tgt} {fb:XS}
theorem Lj{H1:Hp}{fps:Nat->List Addr}{s:ZU}{σ:TL}{D:Sj}{J:It}{ls:List PV}{out:Out}(r:Rel K O (W0 H1 (Ow O fps)) fps s σ H1)(jis:Fb K (Ow O fps) H1 J ls)(e:W3 T fb ls s=some out)(hT:∀i∈T.slots,i∉O)
  (k:OutOk K O (T.slots++W) (W0 H1 (Ow O fps)) fps σ D out):G9 (gT K T) (Hu K O W fb) D σ J H1:=by
 have subT:∀j,j∉T.slots++W->j∉T.slots:=fun j hj z=>hj (List.mem_append_left _ z)
 have subW:∀j,j∉T.slots++W->j∉W:=fun j hj z=>hj (List.mem_append_right _ z)
 refine⟨fun i m σ' H'=>m=ls.length-i/\i<=ls.length/\∃fps' s',Rel K O (W0 H1 (Ow O fps)) fps' s' σ' H'/\W3 T fb (ls.drop i) s'=some out/\∀j,j∉T.slots++W->σ'[j]?=σ[j]?/\Kep (fps' j) (fps j),
  ⟨ls.length,by simp,Nat.zero_le _,fps,s,r,e,fun j _=>⟨rfl,Kep.refl _⟩⟩,?_⟩
 rintro i m σ' H' ⟨rfl,hi,fps',s',r',e',q'⟩
 have ab:Ab (Ow O fps) H1 H':=fun b o h n=>r'.same b o (by unfold W0;rw[if_neg n];exact h)
 cases q:ls.drop i with
 | nil=>
  have hil:i=ls.length:=by
   have:=congrArg List.length q
   rw[List.length_drop] at this
   simp at this;omega
  subst hil
  rw[q] at e'
  cases e'
  exact .inl ⟨jis.stop H' ab,k fps' σ' H' r' q'⟩
 | cons l rr=>
  obtain⟨hl,hr⟩:=SD q
  have hilt:i<ls.length:=(List.getElem?_eq_some_iff.mp hl).1
  rw[q] at e'
  unfold W3 at e'
  obtain⟨sb,eb,e'⟩:=Zg e'
  obtain⟨o,eo,e'⟩:=Zg e'
  refine .inr ⟨jis.go H' i l ab hl,fun σ2 H2=>∃fps2 s2,Rel K O (W0 H1 (Ow O fps)) fps2 s2 σ2 H2/\W3 T fb (ls.drop (i+1)) s2=some out/\∀j,j∉T.slots++W->σ2[j]?=σ[j]?/\Kep (fps2 j) (fps j),
   fun σ2 H2 h2=>⟨ls.length-(i+1),by omega,rfl,hilt,h2⟩,fun x H2 y=>?_⟩
  obtain⟨s2,fx,ix,nx⟩:=jis.yld H' i l x H2 ab hl y
  obtain⟨bl,bv,bf,rfl,bi,blen,bsub,buse⟩:=Qy (K:=K) ix eb
  obtain⟨fps3,r3,q3⟩:=Rel.setAll (is:=T.slots) (r'.grow s2) bi blen hT fun j hj p hp z=>by
   obtain⟨n1,n2⟩:=nx p (bsub p z)
   have:=(r'.own j hj p hp).1
   unfold W0 at this;rw[if_neg n2] at this
   exact n1 this
  refine buse _ _ ⟨_,fps3,_,o,r3,eo,?_⟩
  have keep:∀j,j∉T.slots++W->(YX T.slots bv σ')[j]?=σ[j]?/\Kep (fps3 j) (fps j):=fun j hj=>⟨(q3 j (subT j hj)).1.trans (q' j hj).1,(q3 j (subT j hj)).2.trans (q' j hj).2⟩
  cases o with
  | nx s4=>exact fun fps4 σ4 H4 r4 q4=>⟨fps4,s4,r4,by rw[hr];exact e',fun j hj=>⟨(q4 j (subW j hj)).1.trans (keep j hj).1,(q4 j (subW j hj)).2.trans (keep j hj).2⟩⟩
  | ct s4=>exact fun fps4 σ4 H4 r4 q4=>⟨fps4,s4,r4,by rw[hr];exact e',fun j hj=>⟨(q4 j (subW j hj)).1.trans (keep j hj).1,(q4 j (subW j hj)).2.trans (keep j hj).2⟩⟩
  | bk s4=>
   cases e'
   exact fun fps4 σ4 H4 r4 q4=>k fps4 σ4 H4 r4 fun j hj=>⟨(q4 j (subW j hj)).1.trans (keep j hj).1,(q4 j (subW j hj)).2.trans (keep j hj).2⟩
  | rt v=>
   cases e'
   exact k
end
section
variable {X:Cx} {O W:List Nat} {tg iter:Expr} {body:List Stmt} {fi:XL} {T:Tgt} {fb:XS} {pos:Pos}
theorem Wk(hp:PassesOwn (model X.prog X.w) X.A X.env X.xe)(hc:X.calm=true)(hi:VI X tg iter fi)(hg:PG X tg (gT X.K T))(hb:Kp X O W body fb)(hT:∀i∈T.slots,i∉O:=by decide)
  (hs:∀x,foldedSetIterable iter X.env x=pure x:=by intro _;rfl):VS X O (T.slots++W) (.For tg iter body [] pos) (Wa O fi T fb):=PS.imp (Io hp hc hi hg hb hs) fun D σ H ⟨H0,fps,s,out,r,e,k⟩=>by
 obtain⟨ls,e1,e⟩:=Zg e
 refine⟨Ow O fps,YB O s,ls,r.owMut,r.envO,e1,fun J H1 s1 jis=>?_⟩
 exact Lj (r.grow s1).frame jis e hT (k.less (r.grow s1).under)
end
def YC(c:XT)(fb:XS):Nat->ZU->Option Out
 | 0,_=>none
 | n+1,s=>(c s).bind fun k=>if k=true then(fb s).bind fun o=>match o with | .nx s2=>YC c fb n s2 | .ct s2=>YC c fb n s2 | .bk s2=>some (.nx s2) | .rt v=>some (.rt v) else some (.nx s)
theorem Vc{c:XT}{fb:XS}:∀{n:Nat}{s:ZU}{o:Out},YC c fb n s=some o->YC c fb (n+1) s=some o
 | 0,_,_,h=>by cases h
 | n+1,s,o,h=>by
  unfold YC at h ⊢
  obtain⟨k,e1,h⟩:=Zg h
  rw[e1]
  cases k with
  | false=>exact h
  | true=>
   rw[if_pos rfl] at h
   obtain⟨o1,e2,h⟩:=Zg h
   simp only[Option.bind_some,if_true,e2]
   cases o1 with
   | nx s2=>exact Vc h
   | ct s2=>exact Vc h
   | bk s2=>exact h
   | rt v=>exact h
theorem RZ{c:XT}{fb:XS}{n m:Nat}{s:ZU}{o:Out}(h:YC c fb n s=some o)(hm:n<=m):YC c fb m s=some o:=by
 induction m with
 | zero=>
  have:n=0:=by omega
  subst this;exact h
 | succ m ih=>
  by_cases e:n=m+1
  ·subst e;exact h
  ·exact Vc (ih (by omega))
open Classical in
noncomputable def Vd(c:XT)(fb:XS):XS:=fun s=>if h:∃n,(YC c fb n s).isSome=true then YC c fb h.choose s else none
theorem R0{c:XT}{fb:XS}{n:Nat}{s:ZU}{o:Out}(h:YC c fb n s=some o):Vd c fb s=some o:=by
 have ex:∃n,(YC c fb n s).isSome=true:=⟨n,by rw[h];rfl⟩
 unfold Vd;rw[dif_pos ex]
 obtain⟨o',e⟩:=Option.isSome_iff_exists.mp ex.choose_spec
 rw[e]
 rcases Nat.le_total n ex.choose with hl | hl
 ·rw[RZ h hl] at e;exact e.symm
 ·rw[RZ e hl] at h;exact h
section
variable {X:Cx} {O W:List Nat} {c:Expr} {body:List Stmt} {fc:XT} {fb:XS} {pos:Pos}
theorem Ps(hp:PassesOwn (model X.prog X.w) X.A X.env X.xe)(hc:VT X c fc)(hb:Kp X O W body fb):VS X O W (.While c body [] pos) (Vd fc fb):=PS.imp (MN hp hc hb) fun D σ H ⟨H0,fps,s,out,r,e,k⟩=>by
 unfold Vd at e
 split at e
 case isFalse=>cases e
 rename_i ex
 generalize ex.choose=n at e
 refine⟨fun m σ' H'=>∃fps' s',Rel X.K O H0 fps' s' σ' H'/\YC fc fb m s'=some out/\∀j,j∉W->σ'[j]?=σ[j]?/\Kep (fps' j) (fps j),⟨n,fps,s,r,e,fun j _=>⟨rfl,Kep.refl _⟩⟩,?_⟩
 rintro m σ' H' ⟨fps',s',r',e',q'⟩
 cases m with
 | zero=>cases e'
 | succ m=>
  unfold YC at e'
  obtain⟨b,e1,e'⟩:=Zg e'
  refine⟨fun _=>False,s',b,fun _ z=>z.elim,r'.env,e1,fun H2 s2=>?_⟩
  cases b with
  | false=>
   rw[if_neg Bool.false_ne_true] at e' ⊢
   cases e'
   exact k fps' σ' H2 (r'.grow s2) q'
  | true=>
   rw[if_pos rfl] at e' ⊢
   obtain⟨o,eo,e'⟩:=Zg e'
   refine⟨fun σ2 H2=>∃fps2 s2,Rel X.K O H0 fps2 s2 σ2 H2/\YC fc fb m s2=some out/\∀j,j∉W->σ2[j]?=σ[j]?/\Kep (fps2 j) (fps j),fun σ2 H2 h2=>⟨m,Nat.lt_succ_self m,h2⟩,H0,fps',s',o,r'.grow s2,eo,?_⟩
   cases o with
   | nx s4=>exact fun fps4 σ4 H4 r4 q4=>⟨fps4,s4,r4,e',fun j hj=>⟨(q4 j hj).1.trans (q' j hj).1,(q4 j hj).2.trans (q' j hj).2⟩⟩
   | ct s4=>exact fun fps4 σ4 H4 r4 q4=>⟨fps4,s4,r4,e',fun j hj=>⟨(q4 j hj).1.trans (q' j hj).1,(q4 j hj).2.trans (q' j hj).2⟩⟩
   | bk s4=>
    cases e'
    exact fun fps4 σ4 H4 r4 q4=>k fps4 σ4 H4 r4 fun j hj=>⟨(q4 j hj).1.trans (q' j hj).1,(q4 j hj).2.trans (q' j hj).2⟩
   | rt v=>cases e';exact k
end
end VL
namespace VL
open PySem PySem.Spec PyProof.Rows L2
variable {K:PySem.W.Frag}
section
variable {O:List Nat} {H0 H H':Hp} {fps:Nat->List Addr} {s:ZU} {σ:TL}
theorem Rel.lst_at(r:Rel K O H0 fps s σ H){i:Nat}(hi:i∈O){m:List PV}(e:s[i]?=some (some (.lst m))):∃p xs fq,σ[i]?=some (some (.ref p))/\H p=some (.lst xs)/\Iss K H m xs fq/\fps i=p::fq:=by
 obtain⟨v,a,b⟩:=r.is i _ e
 obtain⟨p,xs,fq,rfl,hp,hm,ef⟩:=b.lst_inv
 exact⟨p,xs,fq,a,hp,hm,ef⟩
theorem U5{α:Type}{l:List α}{i:Nat}{a:α}(h:l[i]?=some a):i<l.length:=(List.getElem?_eq_some_iff.mp h).1
theorem TK.upd'{p:Addr}{o:HO}(mu:Wv (H p)):JQ H (L2.upd H p o):=⟨fun b xs h=>by
 rw[upd_ne (fun z=>by rw[z] at h;rw[h] at mu;exact mu)];exact h,fun b o xs h=>by
 rw[upd_ne (fun z=>by rw[z] at h;rw[h] at mu;exact mu)];exact h,fun b o x h=>by
 rw[upd_ne (fun z=>by rw[z] at h;rw[h] at mu;exact mu)];exact h⟩
theorem RdK.upd_ne{p q:Addr}{o:HO}(ne:q≠p):RdK H (L2.upd H p o) q:=RdK.of fun u hu=>by rw[L2.upd_ne ne];exact hu
theorem Rel.relist(r:Rel K O H0 fps s σ H){i:Nat}(hi:i∈O){m m':List PV}(e:s[i]?=some (some (.lst m))){p:Addr}{fq fq':List Addr}{xs':List V}(ef:fps i=p::fq)(hv:σ[i]?=some (some (.ref p)))
  (h':Iss K H m' xs' fq') (nd:(p::fq').Nodup) (hf:∀q∈fq',q∈fq\/((H0 q=none/\Wv (H q))/\∀j,q∉fps j)):Rel K O H0 (Ul fps s.length i (p::fq')) (s.set i (some (.lst m'))) σ (L2.upd H p (.lst xs')):=by
 have hp:p∈fps i:=by rw[ef];exact List.mem_cons_self
 have mu:=(r.own i hi p hp).2
 have np:p∉fq':=(List.nodup_cons.mp nd).1
 refine r.mutate hi hp hv (U5 e) (Is.lst Zx (Iss.tr (TK.upd' mu) _ _ _ (fun q hq=>RdK.upd_ne fun z=>np (z▸hq)) h')) nd (fun q hq=>?_) (fun j hj q hq z=>?_) True.intro
 ·rcases List.mem_cons.mp hq with rfl | hq
  ·exact⟨(r.own i hi q hp).1,by rw[Zx];exact True.intro⟩
  ·have ne:q≠p:=fun z=>np (z▸hq)
   rw[L2.upd_ne ne]
   rcases hf q hq with h | h
   ·exact r.own i hi q (by rw[ef];exact List.mem_cons_of_mem _ h)
   ·exact h.1
 ·rcases List.mem_cons.mp hq with rfl | hq
  ·exact r.dis i hi j hj q hp z
  ·rcases hf q hq with h | h
   ·exact r.dis i hi j hj q (by rw[ef];exact List.mem_cons_of_mem _ h) z
   ·exact h.2 j z
end
def Kq(s:ZU)(i:Nat):Option (List PV):=match s[i]? with | some (some (.lst m))=>some m | _=>none
def MK:PV->Option Int
 | .int k=>some k
 | _=>none
def GG:PV->Option (List PV)
 | .lst k=>some k
 | _=>none
theorem Um{s:ZU}{i:Nat}{m:List PV}(h:Kq s i=some m):s[i]?=some (some (.lst m)):=by
 unfold Kq at h;split at h
 ·cases h;assumption
 ·cases h
theorem Uo{a:PV}{k:Int}(h:MK a=some k):a = .int k:=by
 unfold MK at h;split at h
 ·cases h;rfl
 ·cases h
theorem Lk{a:PV}{k:List PV}(h:GG a=some k):a = .lst k:=by
 unfold GG at h;split at h
 ·cases h;rfl
 ·cases h
def gd(c:Bool):Option Unit:=if c=true then some () else none
theorem T5{c:Bool}{u:Unit}(h:gd c=some u):c=true:=by
 unfold gd at h;split at h
 ·assumption
 ·cases h
def Wc(i:Nat)(f:XE):XS:=fun s=>(f s).bind fun l=>(Kq s i).bind fun m=>(gd (decide (m.length<=10000))).bind fun _=>some (.nx (s.set i (some (.lst (m++[l])))))
def WG(i:Nat)(fk:XE)(f:XE):XS:=fun s=>(fk s).bind fun k=>(f s).bind fun l=>(MK k).bind fun k=>(Kq s i).bind fun m=>(gd (ZX m&&Z6 l&&decide (0<=k/\k<=1000000/\m.length<=10000))).bind fun _=>some (.nx (s.set i (some (.lst (m.take k.toNat++l::m.drop k.toNat)))))
def Xq(i:Nat)(fk:XE)(f:XE):XS:=fun s=>(f s).bind fun l=>(fk s).bind fun k=>(MK k).bind fun k=>(Kq s i).bind fun m=>(gd (ZX m&&Z6 l)).bind fun _=>(Q3 m.length k).map fun j=>.nx (s.set i (some (.lst (m.set j l))))
section
variable {X:Cx} {O:List Nat} {i:Nat} {st:Stmt} {f fk:XE}
theorem Fm{H:Hp}{p:Addr}{xs:List V}(h:H p=some (.lst xs)):G5 K "list" (.ref p) H:=.inl ⟨rfl,_,SqL.of h⟩
theorem Nx{s:ZU}{σ:TL}{fps:Nat->List Addr}{fp:List Addr}:∀j,j∉[i]->σ[j]?=σ[j]?/\Kep (Ul fps s.length i fp j) (fps j):=fun j hj=>⟨rfl,.inl (ZV (by simpa using hj))⟩
theorem R1(h:PS X st (Nf (G6 X.K "list" Nk (Rt i) (Sn (tM X.K f) KF))))(hi:i∈O:=by decide):VS X O [i] st (Wc i f):=PS.imp h fun D σ H ⟨H0,fps,s,out,r,e,k⟩=>by
 obtain⟨l,e1,e⟩:=Zg e
 obtain⟨m,em,e⟩:=Zg e
 obtain⟨_,eg,e⟩:=Zg e
 have em:=Um em
 have hlen:=of_decide_eq_true (T5 eg)
 cases e
 obtain⟨p,xs,fq,hv,hp,hm,ef⟩:=r.lst_at hi em
 refine⟨.ref p,hv,Fm hp,s,l,r.env,e1,fun y H2 fe s2 i2 d2 n2=>?_⟩
 refine⟨p,xs,y,rfl,rfl,s2 _ _ hp,by rw[hm.len];exact lt_size (by omega),?_⟩
 have r2:=r.grow s2
 have fr:∀q∈fe,∀j,q∉fps j:=fun q hq j z=>r.dom j q z (n2 q hq).1
 refine k _ _ _ (r2.relist hi em ef hv ((hm.mono s2).append (Iss.one i2)) ?_ fun q hq=>?_) Nx
 ·have nd:=r.nd i hi
  rw[ef] at nd;rw[<-List.cons_append]
  exact List.nodup_append.mpr ⟨nd,d2,fun a ha b hb z=>fr b hb i (by rw[ef,<-z];exact ha)⟩
 ·rcases List.mem_append.mp hq with h | h
  ·exact .inl h
  ·exact .inr ⟨⟨Same.off r.same (n2 q h).1,(n2 q h).2⟩,fr q h⟩
theorem Iss.pureEq{H:Hp}{l:List PV}{xs:List V}{fp:List Addr}(h:Iss K H l xs fp)(hp:ZX l=true):Iss K H l xs []:=by
 have:=Iss.pure _ _ _ hp h
 subst this;exact h
theorem Ox{l:List PV}(n:Nat)(h:ZX l=true):ZX (l.take n)=true:=by
 rw[Wp,List.all_eq_true] at *
 exact fun x hx=>h x (List.mem_of_mem_take hx)
theorem Oy{l:List PV}(n:Nat)(h:ZX l=true):ZX (l.drop n)=true:=by
 rw[Wp,List.all_eq_true] at *
 exact fun x hx=>h x (List.mem_of_mem_drop hx)
theorem R3(h:PS X st (Nf (G6 X.K "list" Nm (Rt i) (Sn (tF X.K fk) (Sn (tF X.K f) KF)))))(hi:i∈O:=by decide):VS X O [i] st (WG i fk f):=PS.imp h fun D σ H ⟨H0,fps,s,out,r,e,k⟩=>by
 obtain⟨kk,e0,e⟩:=Zg e
 obtain⟨l,e1,e⟩:=Zg e
 obtain⟨ki,ek,e⟩:=Zg e
 obtain⟨m,em,e⟩:=Zg e
 obtain⟨_,eg,e⟩:=Zg e
 rw[Uo ek] at e0;have em:=Um em;have hc:=T5 eg;simp only[Bool.and_eq_true,decide_eq_true_eq] at hc
 obtain⟨⟨pm,pl⟩,k0,k1,hlen⟩:=hc
 cases e
 obtain⟨p,xs,fq,hv,hp,hm,ef⟩:=r.lst_at hi em
 refine⟨.ref p,hv,Fm hp,fun _=>False,s,_,fun _ z=>z.elim,r.env,e0,fun z H1 fz s1 i1 _=>⟨fun _=>False,s,l,fun _ z=>z.elim,r.env.mono s1,e1,fun y H2 fe s2 i2 _=>?_⟩⟩
 have s12:=s1.trans s2
 obtain⟨rfl,_⟩:=i1.int_inv
 have:=Is.pure _ _ _ pl i2
 subst this
 refine⟨p,xs,ki,y,rfl,rfl,s12 _ _ hp,k0,by omega,by rw[hm.len];exact lt_size (by omega),?_⟩
 have hm':=(hm.mono s12).pureEq pm
 obtain⟨f1,a1,_⟩:=hm'.take ki.toNat
 obtain⟨f2,a2,_⟩:=hm'.drop ki.toNat
 have a1:=a1.pureEq (Ox _ pm)
 have a2:=a2.pureEq (Oy _ pm)
 exact k _ _ _ ((r.grow s12).relist hi em ef hv (a1.append (Iss.cons i2 a2)) (by simp) fun q hq=>by simp at hq) Nx
theorem SF(h:PS X st (Q8 (tF X.K f) (Ij (Rt i) (tF X.K fk) MV)))(hi:i∈O:=by decide):VS X O [i] st (Xq i fk f):=PS.imp h fun D σ H ⟨H0,fps,s,out,r,e,k⟩=>by
 obtain⟨l,e0,e⟩:=Zg e
 obtain⟨kk,e1,e⟩:=Zg e
 obtain⟨ki,ek,e⟩:=Zg e
 obtain⟨m,em,e⟩:=Zg e
 obtain⟨_,eg,e⟩:=Zg e
 rw[Uo ek] at e1;have em:=Um em;have hc:=T5 eg;simp only[Bool.and_eq_true] at hc
 obtain⟨pm,pl⟩:=hc
 obtain⟨j,ej,rfl⟩:=map_some e
 obtain⟨p,xs,fq,hv,hp,hm,ef⟩:=r.lst_at hi em
 refine⟨fun _=>False,s,l,fun _ z=>z.elim,r.env,e0,fun y H1 fy s1 i1 _=>?_⟩
 refine⟨.ref p,hv,fun _=>False,s,_,fun _ z=>z.elim,r.env.mono s1,e1,fun z H2 fz s2 i2 _=>?_⟩
 have s12:=s1.trans s2
 obtain⟨rfl,_⟩:=i2.int_inv
 have:=Is.pure _ _ _ pl i1
 subst this
 refine⟨p,xs,ki,j,rfl,rfl,s12 _ _ hp,by rw[hm.len];exact ej,?_⟩
 exact k _ _ _ ((r.grow s12).relist hi em ef hv (Iss.setP j pm pl ((hm.mono s12).pureEq pm) (i1.mono s2)) (by simp) fun q hq=>by simp at hq) Nx
end
theorem Iss.setRow{H:Hp}{o:List V}:∀{m:List PV}{xs:List V}{fq:List Addr}{j:Nat}{n n':List PV}{q:Addr},Iss K H m xs fq->m[j]?=some (.lst n)->xs[j]?=some (.ref q)->fq.Nodup->Wv (H q)->ZX n=true->Iss K (L2.upd H q (.lst o)) n' o []->
  Iss K (L2.upd H q (.lst o)) (m.set j (.lst n')) xs fq
 | [],_,_,_,_,_,_,_,e,_,_,_,_,_=>by simp at e
 | a::m,xs,fq,0,n,n',q,h,e,ex,nd,mu,pn,h'=>by
  obtain⟨x,r,f1,f2,rfl,h1,h2,rfl⟩:=h.inv
  simp at e ex
  subst e ex
  obtain⟨p',zs,fz,e,hp,hz,rfl⟩:=h1.lst_inv
  cases e
  have:=Iss.pure _ _ _ pn hz
  subst this
  have nq:q∉f2:=(List.nodup_cons.mp nd).1
  exact Iss.cons (Is.lst Zx h') (Iss.tr (TK.upd' mu) _ _ _ (fun z hz=>RdK.upd_ne fun e=>nq (e▸hz)) h2)
 | a::m,xs,fq,j+1,n,n',q,h,e,ex,nd,mu,pn,h'=>by
  obtain⟨x,r,f1,f2,rfl,h1,h2,rfl⟩:=h.inv
  simp at e ex
  obtain⟨nd1,nd2,nd3⟩:=List.nodup_append.mp nd
  obtain⟨y,fy,hy,iy,suby⟩:=h2.get e
  rw[ex] at hy;cases hy
  obtain⟨p',zs,fz,e',_,_,rfl⟩:=iy.lst_inv
  cases e'
  have nq:q∉f1:=fun z=>nd3 q z q (suby q List.mem_cons_self) rfl
  exact Iss.cons (Is.tr (TK.upd' mu) _ _ _ (fun z hz=>RdK.upd_ne fun e=>nq (e▸hz)) h1) (Iss.setRow h2 e ex nd2 mu pn h')
def WH(i:Nat)(fa fb:XE)(f:XE):XS:=fun s=>(f s).bind fun l=>(fa s).bind fun a=>(fb s).bind fun b=>(MK a).bind fun a=>(MK b).bind fun b=>(Kq s i).bind fun m=>(Q3 m.length a).bind fun j=>(m[j]?).bind fun r=>(GG r).bind fun n=>
 (gd (ZX n&&Z6 l)).bind fun _=>(Q3 n.length b).map fun c=>.nx (s.set i (some (.lst (m.set j (.lst (n.set c l))))))
end VL
namespace VL
open PySem PySem.Spec PyProof.Rows L2
variable {K:PySem.W.Frag}
section
variable {X:Cx} {a b c d:Expr} {fa fb fc fd:XE} {pos:Pos}
theorem JV(hu:X.A.units+64<cLine)(ha:VE X a fa)(hb:VE X b fb):VE X (.Compare a [.Eq] [b] pos) (Zi (Yr false) fa fb):=Oi (Ld hu) (Qu false) ha hb (V1 _)
theorem Gr(hu:X.A.units+64<cLine)(ha:VE X a fa)(hb:VE X b fb):VE X (.Compare a [.NotEq] [b] pos) (Zi (Yr true) fa fb):=Oi (Lf hu) (Qu true) ha hb (V1 _)
theorem R4(hu:X.A.units+64<cLine)(ha:VE X a fa)(hb:VE X b fb):VT X (.Compare a [.Eq] [b] pos) (xB (Zi (Yr false) fa fb)):=UZ (Ld hu) (Qu false) ha hb (V1 _)
theorem WV(hu:X.A.units+64<cLine)(ha:VE X a fa)(hb:VE X b fb):VT X (.Compare a [.NotEq] [b] pos) (xB (Zi (Yr true) fa fb)):=UZ (Lf hu) (Qu true) ha hb (V1 _)
theorem Gs(hu:X.A.units+64<cLine)(ha:VE X a fa)(hb:VE X b fb)(hm:behindInMarks .In b=false:=by with_unfolding_all rfl):VT X (.Compare a [.In] [b] pos) (xB (Zi (P3 false) fa fb)):=UZ (IT hu) (Lg false) ha hb hm
theorem Pt(hu:X.A.units+64<cLine)(ha:VE X a fa)(hb:VE X b fb)(hm:behindInMarks .NotIn b=false:=by with_unfolding_all rfl):VT X (.Compare a [.NotIn] [b] pos) (xB (Zi (P3 true) fa fb)):=UZ (Mg hu) (Lg true) ha hb hm
def IU:PV->Option Bool
 | .bl c=>some c
 | _=>none
theorem Ll{a:PV}{k:Bool}(h:IU a=some k):a = .bl k:=by
 unfold IU at h;split at h
 ·cases h;rfl
 ·cases h
def Hv(g h:PV->PV->Option PV)(a b c:XE):XE:=fun s=>(a s).bind fun x=>(b s).bind fun y=>((g x y).bind IU).bind fun k=>if k=true then(c s).bind fun z=>h y z else some (.bl false)
theorem Lm{r r':R2}{g h:PV->PV->Option PV}(hr:RB K r g)(hr':RB K r' h):∀σ H Q,tF K (Hv g h fa fb fc) σ H Q->MP r r' (tF K fa) (tF K fb) (tF K fc) σ H Q:=fun σ H Q ⟨Rm,s,l,hd,env,e,k⟩=>by
 obtain⟨x',e1,e⟩:=Zg e
 obtain⟨y',e2,e⟩:=Zg e
 obtain⟨b,e3,e⟩:=Zg e
 obtain⟨z',e3,eb⟩:=Zg e3
 rw[Ll eb] at e3
 refine⟨Rm,s,x',hd,env,e1,fun x H1 f1 s1 i1 n1=>⟨Rm,s,y',fun p hp=>Same.mut s1 (hd p hp),env.mono s1,e2,fun y H2 f2 s2 i2 n2=>?_⟩⟩
 refine hr H2 x y x' y' _ f1 f2 (i1.mono s2) i2 e3 _ fun v H3 fp s3 i3 n3=>⟨b,i3.bl_inv.1,?_⟩
 have s123:=s1.trans (s2.trans s3)
 cases b with
 | false=>
  rw[if_neg Bool.false_ne_true] at e ⊢
  cases e
  exact k _ H3 [] s123 (Is.bl _) fun p hp=>by simp at hp
 | true=>
  rw[if_pos rfl] at e ⊢
  obtain⟨w',e4,e⟩:=Zg e
  refine⟨Rm,s,w',fun p hp=>Same.mut s123 (hd p hp),env.mono s123,e4,fun w H4 f4 s4 i4 n4=>?_⟩
  refine hr' H4 y w y' w' l f2 f4 (i2.mono (s3.trans s4)) i4 e Q fun v H5 fp5 s5 i5 n5=>k v H5 fp5 (s123.trans (s4.trans s5)) i5 fun p hp z=>?_
  rcases n5 p hp with q | q | q
  ·exact n2 p q z
  ·exact n4 p q z
  ·exact Y3 (Same.mut (s123.trans s4) (hd p z)) q
theorem Ln{op op':CmpOp}{r r':R2}{g h:PV->PV->Option PV}(ho:VV X (compareOp op) r)(ho':VV X (compareOp op') r')(hr:RB X.K r g)(hr':RB X.K r' h)(ha:VE X a fa)(hb:VE X b fb)(hc:VE X c fc)
  (hm:lastMarks [op,op'] [b,c]=false:=by with_unfolding_all rfl):VE X (.Compare a [op,op'] [b,c] pos) (Hv g h fa fb fc):=PE.imp (MQ ho ho' ha hb hc hm) (Lm hr hr')
end
section
variable {X:Cx} {a b:Expr} {fa fb:XE} {pos:Pos}
def gCat:PV->PV->Option PV
 | .lst m,.lst n=>if m.length+n.length<=10000 then some (.lst (m++n)) else none
 | _,_=>none
def Lo:PV->PV->Option PV
 | .lst m,.int k=>if ZX m=true/\-1000000<=k/\k<=1000000/\m.length*k.toNat<=10000 then some (.lst (List.replicate k.toNat m).flatten) else none
 | _,_=>none
theorem Iss.rep{H:Hp}{m:List PV}{xs:List V}(h:Iss K H m xs []):∀k:Nat,Iss K H (List.replicate k m).flatten (List.replicate k xs).flatten []
 | 0=>Iss.nil
 | k+1=>by
  rw[List.replicate_succ,List.replicate_succ,List.flatten_cons,List.flatten_cons]
  exact h.append (Iss.rep h k)
theorem IV(ha:VE X a fa)(hb:VE X b fb):VM X (.BinOp a .Mult b pos) (Zi Lo fa fb):=PE.imp (JM IF ha hb) fun σ H Q ⟨s,l,env,e,k⟩=>by
 obtain⟨x',y',e1,e2,e⟩:=Pm e
 refine⟨fun _=>False,s,x',fun _ z=>z.elim,env,e1,fun x H1 f1 s1 i1 _=>⟨fun _=>False,s,y',fun _ z=>z.elim,env.mono s1,e2,fun y H2 f2 s2 i2 _=>?_⟩⟩
 cases x' with
 | lst m=>cases y' with
  | int n=>
   have e:(if ZX m=true/\-1000000<=n/\n<=1000000/\m.length*n.toNat<=10000 then some (PV.lst (List.replicate n.toNat m).flatten) else none)=some l:=e
   split at e
   case isFalse=>cases e
   rename_i hl
   cases e
   obtain⟨p,xs,fq,rfl,hp,hi,rfl⟩:=i1.lst_inv
   refine⟨p,n,xs,rfl,i2.int_inv.1,s2 _ _ hp,by omega,by omega,by rw[hi.len];exact Nat.le_of_lt (lt_size hl.2.2.2),fun q hq=>?_⟩
   refine k _ _ [q] (s1.trans (s2.trans (Same.new hq _))) (Is.lst Zx ((Iss.rep ((hi.mono s2).pureEq hl.1) n.toNat).mono (Same.new hq _))) (by simp) fun r hr=>?_
   rw[List.mem_singleton.mp hr]
   exact⟨Same.off (s1.trans s2) hq,by rw[Zx];exact True.intro⟩
  | _=>cases e
 | _=>cases e
end
theorem Iss.fps{H:Hp}:∀{ls:List PV}{vs:List V}{fp:List Addr},Iss K H ls vs fp->∃fps:Nat->List Addr,(∀(i:Nat) l,ls[i]?=some l->∃v,vs[i]?=some v/\Is K H l v (fps i))/\∀i,ls.length<=i->fps i=[]
 | [],vs,fp,h=>⟨fun _=>[],fun i l e=>by simp at e,fun _ _=>rfl⟩
 | a::ls,vs,fp,h=>by
  obtain⟨x,r,f1,f2,rfl,h1,h2,rfl⟩:=h.inv
  obtain⟨fps,p1,p2⟩:=h2.fps
  refine⟨fun i=>match i with | 0=>f1 | k+1=>fps k,fun i l e=>?_,fun i hi=>?_⟩
  ·cases i with
   | zero=>simp at e;subst e;exact⟨x,rfl,h1⟩
   | succ k=>
    obtain⟨v,a,b⟩:=p1 k l (by simpa using e)
    exact⟨v,by simpa using a,b⟩
  ·cases i with
   | zero=>simp at hi
   | succ k=>exact p2 k (by simpa using hi)
def Yf(m:Nat)(ls:List PV):ZU:=ls.map some++List.replicate (m-ls.length) none
def Xr:Out->Option PV
 | .rt v=>some v
 | .nx _=>some .non
 | _=>none
def YO(m:Nat)(f:XS):List PV->Option PV:=fun ls=>(f (Yf m ls)).bind Xr
theorem Ny{N:List Str}{n:Nat}{O W:List Nat}{f:XS}{vs:List V}{H:Hp}{Q:VK}{E:XK}(hO:∀i∈O,n<=i)(h:Yt K (YO N.length f) n vs H Q E):Hu K O W f { nx:=fun _ H'=>Q .non H',rt:=Q } (L2.start N vs) H:=by
 obtain⟨hl,ls,fp,l,hi,e,q⟩:=h
 obtain⟨out,e1,e2⟩:=Zg e
 obtain⟨fps,p1,p2⟩:=hi.fps
 have hlen:=hi.len
 have hout:∀i:Nat,ls.length<=i->∀l,(Yf N.length ls)[i]?≠some (some l):=fun i hi l z=>by
  unfold Yf at z;rw[List.getElem?_append_right (by simpa using hi),List.getElem?_replicate] at z
  split at z<;>cases z
 have rel:Rel K O H fps (Yf N.length ls) (L2.start N vs) H:=by
  refine⟨Same.refl H,?_,fun i a z=>?_,fun i hne=>?_,fun i hi=>?_,fun i hi p hp=>?_,fun i hi j hj p hp=>?_⟩
  ·unfold Yf L2.start;simp[hlen]
  ·by_cases hil:i<ls.length
   ·unfold Yf at z
    rw[List.getElem?_append_left (by simpa using hil),List.getElem?_map] at z
    cases q:ls[i]? with
    | none=>rw[q] at z;cases z
    | some b=>
     rw[q] at z;cases z
     obtain⟨v,a1,b1⟩:=p1 i a q
     refine⟨v,?_,b1⟩
     unfold L2.start
     rw[List.getElem?_append_left (by simpa [hlen] using hil),List.getElem?_map,a1];rfl
   ·exact absurd z (hout i (by omega) a)
  ·by_cases hil:i<ls.length
   ·exact absurd (by unfold Yf;rw[List.getElem?_append_left (by simpa using hil),List.getElem?_map,List.getElem?_eq_getElem hil];rfl) (hne ls[i])
   ·exact p2 i (by omega)
  ·rw[p2 i (by have:=hO i hi;omega)];exact List.nodup_nil
  ·rw[p2 i (by have:=hO i hi;omega)] at hp;simp at hp
  ·rw[p2 i (by have:=hO i hi;omega)] at hp;simp at hp
 refine⟨H,fps,Yf N.length ls,out,rel,e1,?_⟩
 cases out with
 | nx s'=>
  cases e2
  exact fun fps' σ' H' r' _=>q .non H' [] r'.same Is.non List.nodup_nil fun p hp=>by simp at hp
 | rt v=>
  cases e2
  exact fun v fp H' sm i d n=>q v H' fp sm i d n
 | bk s'=>cases e2
 | ct s'=>cases e2
section
variable {P:Program} {w:World} {mg:Str->Option Value} {base:Heap}
theorem ZR{x:Str}{st:Stmt}{N ps:List Str}{k n:Nat}{O W:List Nat}(m:Nat)(f:XS)(D:Def K mg x st)(S:Zw N ps (Zk st))
  (hb:∀(kV doc pm:Value)(an:Option Addr)(cdv ct:Value)(us:List Value),us.length=ps.length->bindArgs (PySem.W.fnOf x x (XM st) (YN st) (Zk st) .none kV doc pm an cdv ct) ⟨us,[]⟩=pure (ps.zip us))
  (hn:ps.length=n) (hm:N.length=m) (hO:∀i∈O,n<=i)
  (hbody:∀(fa:Addr)(cdv:Value)(A:Around)(outer:List Env)(s:Shared)(H:Hp)(E:XK),Room k (A.deeper (envOfC x (Zk st) s.heap.objs.size fa cdv))->Kp (Ru Nl P w K mg base N x (Zk st) fa cdv A outer s H E).nox O W (YN st) f) :
  Yv P w K mg base x ps (Yt K (YO m f) n) (k+1):=by
 subst hm
 refine D.cal S hb (fun vs H Q E h=>by rw[hn];exact h.1) fun fa cdv A outer s H vs Q E hr h=>⟨_,hbody fa cdv A outer s H E hr,Ny hO h⟩
end
end VL
namespace VL
open PySem PySem.Spec PyProof.Rows L2
variable {K:PySem.W.Frag}
section
variable {X:Cx} {O:List Nat} {tg elt iter:Expr} {ifs:List Expr} {scope:Scope} {pos:Pos} {fi:XL} {T:Tgt} {ft:XT} {fe:XE}
theorem Nz(own fr:List Str)(ix:List Nat){i:Nat}{y:Str}{py spos:Pos}(hN:X.N.Nodup)(hy:X.N[i]?=some y)(hloc:X.env.scope.names.lookup y=some .local)(hcalm:X.calm=true)(hi:VI X tg iter fi)(S:V3 X.N X.env.scope scope own fr ix=true)
  (hg:∀cl C s H ex,PG (ZP X (own++fr) scope cl C s H ex) tg (gT X.K T)) (ht:∀cl C s H ex,Gq (ZP X (own++fr) scope cl C s H ex) ifs ft) (he:∀cl C s H ex,VM (ZP X (own++fr) scope cl C s H ex) elt fe)
  (hT:∀i∈T.slots,i<own.length:=by decide)
  (hsw:swapsWith (.ListComp elt [⟨tg,iter,ifs,0⟩] scope pos) (some (.Name y py)) spos.line X.env=pure true:=by rfl)
  (hs:∀x,foldedSetIterable iter X.env x=pure x:=by intro _;rfl):VS X O [i] (.Assign [.Name y py] (.ListComp elt [⟨tg,iter,ifs,0⟩] scope pos) spos) (Zr i (Zs own.length ix fi T ft fe)):=
 PS.imp (M1 own fr ix hN hy hloc hcalm hi S hg (fun cl C s H ex=>(show MX (ZP X (own++fr) scope cl C s H ex) ifs (P0 X.K ft) from ht cl C s H ex)) (fun cl C s H ex=>(show PE (ZP X (own++fr) scope cl C s H ex) elt (tM X.K fe) from he cl C s H ex)) hsw hs) (Nw (Nv hT))
end
section
variable {P:Program} {w:World} {mg:Str->Option Value} {base:Heap}
theorem IW{x:Str}{st:Stmt}{N ps:List Str}{k n:Nat}{O W:List Nat}{fa:Addr}{fd:FuncData}(m:Nat)(f:XS)(F:Fun K x x st fa fd)(S:Zw N ps (Zk st))
  (hn:ps.length=n) (hm:N.length=m) (hO:∀i∈O,n<=i)
  (hbody:∀(fa:Addr)(cdv:Value)(A:Around)(outer:List Env)(s:Shared)(H:Hp)(E:XK),Room k (A.deeper (envOfC x (Zk st) s.heap.objs.size fa cdv))->Kp (Ru Nl P w K mg base N x (Zk st) fa cdv A outer s H E).nox O W (YN st) f) :
  TF P w K mg base Nl (k+1) fa fd ps (Yt K (YO m f) n):=by
 subst hm
 refine F.ok S (fun vs H Q E h=>by rw[hn];exact h.1) fun cdv A outer s H vs Q E hr h=>⟨_,hbody fa cdv A outer s H E hr,?_⟩
 exact Ny hO h
theorem Lp{st:Stmt}{x:Str}{D:List PV->Option PV}{k:Nat}{fa:Addr}(Df:Def K mg "law" st)(hfa:mg "law" = some (.ref fa))
  (hb:∀(kV doc pm:Value)(an:Option Addr)(cdv ct u:Value),bindArgs (PySem.W.fnOf "law" "law" (XM st) (YN st) (Zk st) .none kV doc pm an cdv ct) ⟨[u],[]⟩=pure [(x,u)])
  (H:∀(base:Heap)(f:Addr)(fd:FuncData),K.In base->base.Ns mainGlobals mg->Fun K "law" "law" st f fd->TF P w K mg base Nl k f fd [x] (Yt K D 1)) :
  ∃fd:FuncData,(∀(s:Shared)(u:Value),BindsTo s fd ⟨[u],[]⟩ [(x,u)])/\∀base:Heap,K.In base->base.Ns mainGlobals mg->TF P w K mg base Nl k fa fd [x] (Yt K D 1):=by
 obtain⟨f,fd,hm,F⟩:=Df.ex
 have e:=hfa.symm.trans hm;cases e
 refine⟨fd,?_,fun base h1 h2=>H base fa fd h1 h2 F⟩
 obtain⟨oc,od,kV,doc,pm,an,cdv,ct,osl,rfl,lk,hcd⟩:=F.ex
 exact fun s u=>.of_eq (hb kV doc pm an cdv ct u)
end
theorem IX{H:Hp}{a:Addr}{ns:List Int}{D:List PV->Option PV}{E:XK}(hD:D [.cst (iL ns)]=some (.bl true))(hO:IG H)(hS:SqL K H a (ns.map V.int)):Yt K D 1 [.ref a] H (fun v _=>v = .bl true) E:=by
 have cs:CsK K H a (ns.map V.int):=by
  rcases hS with h | h
  ·rcases h with h | ⟨o,h⟩
   ·rcases hO a with z | ⟨o,xs,z⟩
    ·rw[h] at z;cases z
    ·rw[h] at z;cases z
   ·exact .inl ⟨o,h⟩
  ·exact .inr h
 exact⟨rfl,[.cst (iL ns)],[],.bl true,Iss.one (Is.cst cs (Iss.ofInts ns)),hD,fun v H' fq _ i _ _=>i.bl_inv.1⟩
end VL
namespace VL
open PySem L2
@[simp] theorem eVar_def(i:Nat)(s:ZU):Za i s=(s[i]?).join:=rfl
@[simp] theorem eC_def(l:PV)(s:ZU):eC l s=some l:=rfl
@[simp] theorem YY(g:PV->PV->Option PV)(a b:XE)(s:ZU):Zi g a b s=(a s).bind fun x=>(b s).bind fun y=>g x y:=rfl
@[simp] theorem eUn_def(g:PV->Option PV)(a:XE)(s:ZU):Oo g a s=(a s).bind g:=rfl
@[simp] theorem Xs(f:XE)(s:ZU):eP f s=(f s).bind fun l=>if Z6 l=true then some l else none:=rfl
@[simp] theorem Up(s:ZU):TY [] s=some []:=rfl
@[simp] theorem ZJ(f:XE)(fs:List XE)(s:ZU):TY (f::fs) s=(f s).bind fun x=>(TY fs s).map (x::·):=rfl
@[simp] theorem Z0(D:List PV->Option PV)(fs:List XE)(s:ZU):Ze D fs s=(TY fs s).bind D:=rfl
@[simp] theorem Lq(fs:List XE)(s:ZU):Qt fs s=(TY fs s).map .tup:=rfl
@[simp] theorem eLst_def(fs:List XE)(s:ZU):VQ fs s=(TY fs s).map .lst:=rfl
@[simp] theorem eSl_def(g:PV->Option Int->Option Int->Option PV)(a:XE)(lo hi:XO)(s:ZU):T3 g a lo hi s=(a s).bind fun x=>(lo s).bind fun l=>(hi s).bind fun u=>g x l u:=rfl
@[simp] theorem xoN_def(s:ZU):Q4 s=some none:=rfl
@[simp] theorem gI_ii(g:Int->Int->Int)(i j:Int):gI g (.int i) (.int j)=some (.int (g i j)):=rfl
@[simp] theorem gB_ii(g:Int->Int->Bool)(i j:Int):gB g (.int i) (.int j)=some (.bl (g i j)):=rfl
@[simp] theorem IY(C:Int->Int->Prop)[∀i j,Decidable (C i j)](g:Int->Int->Int)(i j:Int):M4 C g (.int i) (.int j)=if C i j then some (.int (g i j)) else none:=rfl
@[simp] theorem gIx_ti(l:List PV)(i:Int):ZQ (.tup l) (.int i)=UN l i:=rfl
@[simp] theorem gIx_li(l:List PV)(i:Int):ZQ (.lst l) (.int i)=UN l i:=rfl
@[simp] theorem gIx_ci(l:List PV)(i:Int):ZQ (.cst l) (.int i)=UN l i:=rfl
@[simp] theorem Yn(f:XE)(s:ZU):xB f s=(f s).bind IU:=by
 unfold xB
 cases f s with
 | none=>rfl
 | some a=>cases a<;>rfl
@[simp] theorem U6(b:Bool):IU (.bl b)=some b:=rfl
@[simp] theorem xAnd_def(a b:XT)(s:ZU):U0 a b s=(a s).bind fun c=>if c=true then b s else some false:=rfl
@[simp] theorem WI(a b:XT)(s:ZU):TW a b s=(a s).bind fun c=>if c=true then some true else b s:=rfl
@[simp] theorem X3(a:XT)(s:ZU):X9 a s=(a s).map not:=rfl
@[simp] theorem Lr(a b:XE)(s:ZU):U2 a b s=(xB a s).bind fun c=>if c=true then b s else some (.bl false):=rfl
@[simp] theorem eOr_def(a b:XE)(s:ZU):Fw a b s=(xB a s).bind fun c=>if c=true then some (.bl true) else b s:=rfl
@[simp] theorem eNot_def(a:XE)(s:ZU):K6 a s=(xB a s).map fun c=>.bl !c:=rfl
@[simp] theorem Uq(c:XT)(a b:XE)(s:ZU):Me c a b s=(c s).bind fun k=>if k=true then a s else b s:=rfl
@[simp] theorem eIsN_def(neg:Bool)(a:XE)(s:ZU):WY neg a s=(a s).bind (Mf neg):=rfl
@[simp] theorem sNext_def(s:ZU):ZY s=some (.nx s):=rfl
@[simp] theorem Pu(f g:XS)(s:ZU):Zp f g s=(f s).bind fun o=>match o with | .nx s'=>g s' | r=>some r:=rfl
@[simp] theorem Yd(c:XT)(f g:XS)(s:ZU):Wo c f g s=(c s).bind fun k=>if k=true then f s else g s:=rfl
@[simp] theorem Ls(f:XE)(s:ZU):ZK f s=(f s).map .rt:=rfl
@[simp] theorem ZD(i:Nat)(f:XE)(s:ZU):Zr i f s=(f s).map fun l=>.nx (s.set i (some l)):=rfl
@[simp] theorem retO_rt(v:PV):Xr (.rt v)=some v:=rfl
@[simp] theorem pureV_int(i:Int):Z6 (.int i)=true:=rfl
@[simp] theorem pureV_bl(i:Bool):Z6 (.bl i)=true:=rfl
@[simp] theorem pureV_str(i:Str):Z6 (.str i)=true:=rfl
@[simp] theorem pureV_non:Z6 .non=true:=rfl
@[simp] theorem Mj(l:List PV):Z6 (.tup l)=ZX l:=by rw[Z6]
@[simp] theorem pureL_nil:ZX []=true:=rfl
@[simp] theorem pureL_cons(a:PV)(l:List PV):ZX (a::l)=(Z6 a&&ZX l):=rfl
theorem Mk{α:Type}{l:List α}{f:α->PV}(h:∀a∈l,Z6 (f a)=true):ZX (l.map f)=true:=by
 rw[Wp,List.all_map,List.all_eq_true];exact h
@[simp] theorem pureL_iL(l:List Int):ZX (l.map PV.int)=true:=Y7 l
abbrev pP(l:List Int):PV:=.tup (iL l)
abbrev wP(W:List (List Int)):PV:=.tup (W.map pP)
@[simp] theorem Pv(W:List (List Int)):ZX (W.map pP)=true:=Mk fun a _=>by simp
theorem Oz{l:List Int}{k:Nat}(h:k<l.length):(iL l)[k]?=some (.int (Zq l k)):=by
 rw[List.getElem?_map,List.getElem?_eq_getElem h];simp[Zq,List.getD_eq_getElem?_getD,List.getElem?_eq_getElem h]
theorem Y1{l:List Int}{k:Nat}(h:k<l.length):UN (iL l) (k:Int)=some (.int (Zq l k)):=Ua (Oz h)
theorem Ur{W:List (List Int)}{k:Nat}(h:k<W.length):UN (W.map pP) (k:Int)=some (pP (ZO W k)):=by
 refine Ua ?_
 rw[List.getElem?_map,Pj h];rfl
@[simp] theorem IZ(l:List Int):X0 [.tup (l.map PV.int)]=some (.int l.sum):=by
 simp[X0,TN,Y8 l]
@[simp] theorem OA(l:List Int):X0 [.lst (l.map PV.int)]=some (.int l.sum):=by
 simp[X0,TN,Y8 l]
@[simp] theorem OB(l:List Bool):Sz [.lst (l.map PV.bl)]=some (.bl (l.all id)):=by
 simp[Sz,TN,V0 l]
@[simp] theorem gLen_t(l:List PV):ZZ [.tup l]=some (.int l.length):=rfl
@[simp] theorem gLen_l(l:List PV):ZZ [.lst l]=some (.int l.length):=rfl
@[simp] theorem gLen_c(l:List PV):ZZ [.cst l]=some (.int l.length):=rfl
@[simp] theorem Lu(l:List PV):Yh [.lst l]=some (.tup l):=rfl
@[simp] theorem gTuple_t(l:List PV):Yh [.tup l]=some (.tup l):=rfl
@[simp] theorem Lv(l:List PV):Xo [.tup l]=if ZX l=true then some (.lst l) else none:=rfl
@[simp] theorem Lw(l:List PV):Xo [.lst l]=if ZX l=true then some (.lst l) else none:=rfl
@[simp] theorem gMin2_ii(i j:Int):Pn [.int i,.int j]=some (.int (if j<i then j else i)):=rfl
@[simp] theorem gMax2_ii(i j:Int):Gp [.int i,.int j]=some (.int (if j>i then j else i)):=rfl
@[simp] theorem gInt1_b(c:Bool):JT [.bl c]=some (.int (if c then 1 else 0)):=rfl
@[simp] theorem gInt1_i(c:Int):JT [.int c]=some (.int c):=rfl
@[simp] theorem gInst_ii(i:Int):Wb [.int i,.ty "int"]=some (.bl true):=rfl
@[simp] theorem gInst_ib(i:Int):Wb [.int i,.ty "bool"]=some (.bl false):=rfl
@[simp] theorem gInst_tt(l:List PV):Wb [.tup l,.ty "tuple"]=some (.bl true):=rfl
@[simp] theorem gInst_ll(l:List PV):Wb [.lst l,.ty "list"]=some (.bl true):=rfl
theorem QC(n:Nat)(i j:Int):XG (n+1) (.int i) (.int j)=true:=rfl
theorem Ve{α β:Type}{f:α->PV}{g:β->PV}{p:PV->PV->Bool}(h:∀a b,p (f a) (g b)=true):∀(l:List α)(m:List β),((l.map f).zip (m.map g)).all (fun z=>p z.1 z.2)=true
 | [],_=>by simp
 | _::_,[]=>by simp
 | a::l,b::m=>by
  rw[List.map_cons,List.map_cons,List.zip_cons_cons,List.all_cons,Ve h l m,h a b];rfl
theorem Jd(n:Nat)(l m:List Int):XG (n+2) (pP l) (pP m)=true:=Ve (fun a b=>QC n a b) l m
theorem Je(n:Nat)(l m:List Int):XG (n+2) (.lst (iL l)) (.lst (iL m))=true:=Ve (fun a b=>QC n a b) l m
theorem Lx{l m:List Int}:iL l=iL m↔l=m:=by
 constructor
 ·intro h
  exact(List.map_inj_right (fun a b e=>PV.int.inj e)).mp h
 ·intro h;rw[h]
theorem pP_inj{l m:List Int}:pP l=pP m↔l=m:=by
 rw[PV.tup.injEq];exact Lx
@[simp] theorem gEq_ii(neg:Bool)(i j:Int):Yr neg (.int i) (.int j)=some (.bl (if neg then !decide (i=j) else decide (i=j))):=by
 unfold Yr;rw[if_pos (QC 7 i j)]
 congr 2
 cases neg<;>simp
@[simp] theorem U7(neg:Bool)(l m:List Int):Yr neg (.tup (l.map PV.int)) (.tup (m.map PV.int))=some (.bl (if neg then !decide (l=m) else decide (l=m))):=by
 unfold Yr;rw[if_pos (Jd 6 l m)]
 have:decide ((PV.tup (l.map PV.int)) = .tup (m.map PV.int))=decide (l=m):=decide_eq_decide.mpr pP_inj
 rw[this]
@[simp] theorem gEq_ll(neg:Bool)(l m:List Int):Yr neg (.lst (l.map PV.int)) (.lst (m.map PV.int))=some (.bl (if neg then !decide (l=m) else decide (l=m))):=by
 unfold Yr;rw[if_pos (Je 6 l m)]
 have:decide ((PV.lst (l.map PV.int)) = .lst (m.map PV.int))=decide (l=m):=decide_eq_decide.mpr (by rw[PV.lst.injEq];exact Lx)
 rw[this]
theorem R5{α:Type}{T:Tgt}{ft:XT}{fe:XE}{s0:ZU}{q g:α->PV}:∀{ls:List α},(∀a∈ls,∃s1,X1 T (q a) s0=some s1/\ft s1=some true/\fe s1=some (g a))->X2 T ft fe s0 (ls.map q)=some (ls.map g)
 | [],_=>rfl
 | a::r,h=>by
  obtain⟨s1,h1,h2,h3⟩:=h a List.mem_cons_self
  have ih:=R5 (ls:=r) fun b hb=>h b (List.mem_cons_of_mem _ hb)
  rw[List.map_cons,List.map_cons];unfold X2;rw[h1];simp only[Option.bind_some,h2,if_true,h3,ih,Option.map_some]
theorem Us{α:Type}{T:Tgt}{ft:XT}{fe:XE}{s0:ZU}{q g:α->PV}{c:α->Bool}:∀{ls:List α},(∀a∈ls,∃s1,X1 T (q a) s0=some s1/\ft s1=some (c a)/\(c a=true->fe s1=some (g a)))->X2 T ft fe s0 (ls.map q)=some ((ls.filter c).map g)
 | [],_=>rfl
 | a::r,h=>by
  obtain⟨s1,h1,h2,h3⟩:=h a List.mem_cons_self
  have ih:=Us (ls:=r) fun b hb=>h b (List.mem_cons_of_mem _ hb)
  rw[List.map_cons];unfold X2;rw[h1];simp only[Option.bind_some,h2]
  cases hc:c a with
  | true=>simp[h3 hc,ih,hc]
  | false=>simp[ih,hc]
theorem Z1{α:Type}{n:Nat}{ix:List Nat}{fi:XL}{T:Tgt}{ft:XT}{fe:XE}{s:ZU}(ls:List α)(q g:α->PV)(hfi:fi s=some (ls.map q))(hl:ls.length<=10000)
  (h:∀a∈ls,∃s1,X1 T (q a) (ZL n ix s)=some s1/\ft s1=some true/\fe s1=some (g a)):Zs n ix fi T ft fe s=some (.lst (ls.map g)):=by
 unfold Zs;rw[hfi];simp only[Option.bind_some,List.length_map,if_pos hl,R5 h,Option.map_some]
theorem WK{α:Type}{n:Nat}{ix:List Nat}{fi:XL}{T:Tgt}{ft:XT}{fe:XE}{s:ZU}(ls:List α)(q g:α->PV)(c:α->Bool)(hfi:fi s=some (ls.map q))(hl:ls.length<=10000)
  (h:∀a∈ls,∃s1,X1 T (q a) (ZL n ix s)=some s1/\ft s1=some (c a)/\(c a=true->fe s1=some (g a))):Zs n ix fi T ft fe s=some (.lst ((ls.filter c).map g)):=by
 unfold Zs;rw[hfi];simp only[Option.bind_some,List.length_map,if_pos hl,Us h,Option.map_some]
theorem Xh{T:Tgt}{fb:XS}:∀{ls:List PV}{s:ZU}(Jv:Nat->ZU->Prop),Jv 0 s->(∀(i:Nat) l st,ls[i]?=some l->Jv i st->∃s1 s2,X1 T l st=some s1/\fb s1=some (.nx s2)/\Jv (i+1) s2)->
  ∃s',W3 T fb ls s=some (.nx s')/\Jv ls.length s'
 | [],s,Jv,h0,_=>⟨s,rfl,h0⟩
 | l::r,s,Jv,h0,h=>by
  obtain⟨s1,s2,a,b,c⟩:=h 0 l s rfl h0
  obtain⟨s',d,e⟩:=Xh (ls:=r) (s:=s2) (fun i=>Jv (i+1)) c fun i l' st hl hi=>h (i+1) l' st (by simpa using hl) hi
  refine⟨s',?_,e⟩
  unfold W3;rw[a];simp only[Option.bind_some,b];exact d
theorem Vf{n i:Nat}{l:PV}(h:(W9 n)[i]?=some l):i<n/\l = .int (i:Int):=by
 have hi:=(List.getElem?_eq_some_iff.mp h).1
 unfold W9 at hi h;rw[List.length_map,List.length_range] at hi;rw[List.getElem?_map,List.getElem?_range hi] at h
 exact⟨hi,(Option.some.inj h).symm⟩
theorem Pw{lo:Int}{n i:Nat}{l:PV}(h:(V5 lo n)[i]?=some l):i<n/\l = .int (lo+(i:Int)):=by
 have hi:=(List.getElem?_eq_some_iff.mp h).1
 unfold V5 at hi h;rw[List.length_map,List.length_range] at hi;rw[List.getElem?_map,List.getElem?_range hi] at h
 exact⟨hi,(Option.some.inj h).symm⟩
@[simp] theorem SG(n:Nat):(W9 n).length=n:=by unfold W9;simp
@[simp] theorem Ly(lo:Int)(n:Nat):(V5 lo n).length=n:=by unfold V5;simp
@[simp] theorem bindT_one(i:Nat)(l:PV)(s:ZU):X1 (.one i) l s=some (s.set i (some l)):=rfl
theorem Ml(i j:Nat)(a b:PV)(s:ZU):X1 (.many [i,j]) (.tup [a,b]) s=some ((s.set i (some a)).set j (some b)):=rfl
theorem TC(m:List PV):Vb m=(List.range m.length).map fun(i:Nat)=>.tup [.int (i:Int),m.getD i .non]:=by
 apply List.ext_getElem?
 intro i;rw[List.getElem?_map]
 by_cases h:i<m.length
 ·have:(Vb m)[i]?=some (.tup [.int (i:Int),m[i]]):=by
   unfold Vb;rw[List.getElem?_map,List.getElem?_zipIdx,List.getElem?_eq_getElem h]
   simp
  rw[this,List.getElem?_range h];simp[List.getD_eq_getElem?_getD,List.getElem?_eq_getElem h]
 ·rw[List.getElem?_eq_none (by rw[RW];omega),List.getElem?_eq_none (by simpa using h)];rfl
theorem WL(m n:List PV)(h:n.length=m.length):V6 m n=(List.range m.length).map fun(i:Nat)=>.tup [m.getD i .non,n.getD i .non]:=by
 apply List.ext_getElem?
 intro i;rw[List.getElem?_map]
 by_cases hi:i<m.length
 ·have:(V6 m n)[i]?=some (.tup [m[i],n[i]]):=by
   unfold V6
   rw[List.getElem?_map,List.getElem?_zip_eq_some (z:=(m[i],n[i])) |>.mpr ⟨List.getElem?_eq_getElem hi,List.getElem?_eq_getElem (by omega)⟩]
   rfl
  rw[this,List.getElem?_range hi];simp[List.getD_eq_getElem?_getD,List.getElem?_eq_getElem hi,List.getElem?_eq_getElem (show i<n.length by omega)]
 ·rw[List.getElem?_eq_none (by rw[Pq];omega),List.getElem?_eq_none (by simpa using hi)];rfl
theorem Wd(l:List Int)(i:Nat)(h:i<l.length):(iL l).getD i .non = .int (Zq l i):=by
 rw[List.getD_eq_getElem?_getD,Oz h];rfl
@[simp] theorem Jf(f:XE)(s:ZU):ZS [f] s=(f s).bind fun a=>(MK a).bind fun j=>if -1000000<=j/\j<=1000000 then some (W9 j.toNat) else none:=by
 unfold ZS
 cases h:f s with
 | none=>simp[h]
 | some a=>cases a<;>simp[h,MK]
@[simp] theorem Jg(f g:XE)(s:ZU):Va [f,g] s=(f s).bind fun a=>(g s).bind fun b=>(MK a).bind fun i=>(MK b).bind fun j=>if -1000000<=i/\i<=1000000/\-1000000<=j/\j<=1000000 then some (V5 i (j-i).toNat) else none:=by
 unfold Va
 cases h:f s with
 | none=>simp[h]
 | some a=>cases h2:g s with
  | none=>simp[h,h2]
  | some b=>cases a<;>cases b<;>simp[h,h2,MK]
@[simp] theorem Ut(i:Int):MK (.int i)=some i:=rfl
@[simp] theorem Jh(i:List PV):GG (.lst i)=some i:=rfl
@[simp] theorem xEnum_def(b:Bool)(f:XE)(s:ZU):Y9 b [f] s=(f s).bind fun l=>(seqB b l).map Vb:=by
 unfold Y9
 cases h:f s<;>simp[h]
@[simp] theorem xZip_def(b1 b2:Bool)(f g:XE)(s:ZU):VR b1 b2 [f,g] s=(f s).bind fun l=>(g s).bind fun r=>(seqB b1 l).bind fun m=>(seqB b2 r).map fun n=>V6 m n:=by
 unfold VR
 cases h:f s<;>cases h2:g s<;>simp[h,h2]
@[simp] theorem seqB_f(l:List PV):seqB false (.tup l)=some l:=rfl
@[simp] theorem seqB_t(l:List PV):seqB true (.lst l)=some l:=rfl
@[simp] theorem seqB_c(l:List PV):seqB true (.cst l)=some l:=rfl
@[simp] theorem xLst_def(f:XE)(s:ZU):Xp f s=(f s).bind Ht:=rfl
@[simp] theorem asS_l(l:List PV):Ht (.lst l)=some l:=rfl
@[simp] theorem asS_c(l:List PV):Ht (.cst l)=some l:=rfl
theorem SH{f:XE}{s:ZU}{l:List PV}(h:f s=some (.tup l)):Wq f s=some l:=by unfold Wq;rw[h]
@[simp] theorem sFor_def(O:List Nat)(fi:XL)(T:Tgt)(fb:XS)(s:ZU):Wa O fi T fb s=(fi (YB O s)).bind fun ls=>W3 T fb ls s:=rfl
@[simp] theorem xTrue_def(s:ZU):Zz s=some true:=rfl
theorem Yp{f:XE}{s:ZU}{n:Nat}(h:f s=some (.int (n:Int)))(hn:n<=10000):ZS [f] s=some (W9 n):=by
 rw[Jf,h];simp only[Option.bind_some,Ut];rw[if_pos ⟨by omega,by omega⟩,Int.toNat_natCast]
theorem R6{f g:XE}{s:ZU}{i j:Int}(h:f s=some (.int i))(h':g s=some (.int j))(hi : -10000<=i/\i<=10000)(hj : -10000<=j/\j<=10000):Va [f,g] s=some (V5 i (j-i).toNat):=by
 rw[Jg,h,h'];simp only[Option.bind_some,Ut];rw[if_pos ⟨by omega,by omega,by omega,by omega⟩]
theorem OC{i j:Int}(h0 : -10000<=i)(h:i<=10000):CMul i j:=by
 refine .inl ?_
 have e:(2^64:Int)=18446744073709551616:=by decide
 rw[e];omega
theorem T6{c:Bool}(h:c=true):gd c=some ():=by unfold gd;rw[if_pos h]
theorem SI{i:Nat}{f:XE}{s:ZU}{m:List PV}{l:PV}(h:f s=some l)(hm:Kq s i=some m)(hl:m.length<=10000):Wc i f s=some (.nx (s.set i (some (.lst (m++[l]))))):=by
 unfold Wc;rw[h];simp only[Option.bind_some,hm,T6 (decide_eq_true hl)]
theorem SJ{i:Nat}{fk f:XE}{s:ZU}{m:List PV}{l:PV}{k:Int}(hk:fk s=some (.int k))(h:f s=some l)(hm:Kq s i=some m)(hp:ZX m=true)(hq:Z6 l=true)(h0:0<=k)(h1:k<=1000000)(hl:m.length<=10000) :
  WG i fk f s=some (.nx (s.set i (some (.lst (m.take k.toNat++l::m.drop k.toNat))))):=by
 unfold WG;rw[hk,h]
 have c:(ZX m&&Z6 l&&decide (0<=k/\k<=1000000/\m.length<=10000))=true:=by rw[hp,hq,decide_eq_true ⟨h0,h1,hl⟩];rfl
 simp only[Option.bind_some,Ut,hm,T6 c]
theorem U8{i:Nat}{fk f:XE}{s:ZU}{m:List PV}{l:PV}{k:Int}{j:Nat}(h:f s=some l)(hk:fk s=some (.int k))(hm:Kq s i=some m)(hp:ZX m=true)(hq:Z6 l=true)(hj:Q3 m.length k=some j) :
  Xq i fk f s=some (.nx (s.set i (some (.lst (m.set j l))))):=by
 unfold Xq;rw[hk,h]
 have c:(ZX m&&Z6 l)=true:=by rw[hp,hq];rfl
 simp only[Option.bind_some,Ut,hm,T6 c,hj,Option.map_some]
theorem SK{i:Nat}{fa fb f:XE}{s:ZU}{m n:List PV}{l:PV}{a b:Int}{j c:Nat}(h:f s=some l)(ha:fa s=some (.int a))(hb:fb s=some (.int b))(hm:Kq s i=some m)(hj:Q3 m.length a=some j)(hn:m[j]?=some (.lst n))(hp:ZX n=true)(hq:Z6 l=true)(hc:Q3 n.length b=some c) :
  WH i fa fb f s=some (.nx (s.set i (some (.lst (m.set j (.lst (n.set c l))))))):=by
 unfold WH;rw[h,ha,hb]
 have cc:(ZX n&&Z6 l)=true:=by rw[hp,hq];rfl
 simp only[Option.bind_some,Ut,Jh,hm,hj,hn,T6 cc,hc,Option.map_some]
theorem WM{n k:Nat}(h:k<n):Q3 n (k:Int)=some k:=by
 unfold Q3
 rw[if_pos (by omega),if_pos (by omega)];rfl
@[simp] theorem CMul_l{i j:Int}(h : -(2^64)<i/\i<2^64):CMul i j:=.inl h
end VL
namespace VL
open PySem PySem.Spec PyProof.Rows L2
variable {K:PySem.W.Frag}
def JW(K:PySem.W.Frag):R2:=fun x y H Q=>∃a b xs ys,x = .ref a/\y = .ref b/\SqT K H a xs/\SqT K H b ys/\xs.length+ys.length<=sizeLine/\
 (xs=[]->Q (.ref b) H)/\(ys=[]->Q (.ref a) H)/\∀p,H p=none->Q (.ref p) (upd H p (.tup (xs++ys)))
theorem NA{X:Cx}:VV X (binaryOp .Add) (JW X.K):=by
 intro pins s σ H x y v u Q I rx ry h
 obtain⟨a,b,xs,ys,rfl,rfl,ha,hb,hz,q0,q1,q2⟩:=h
 by_cases hx:xs=[]
 ·cases rx
  cases ry
  obtain⟨its,r1,p1,_⟩:=I.tuple ha
  obtain⟨its2,r2,p2,_⟩:=I.tuple hb
  obtain⟨⟨cls,dd,data,sl⟩,ho,hc,n,hd⟩:=id p1
  obtain⟨⟨cls2,dd2,data2,sl2⟩,ho2,hc2,n2,hd2⟩:=id p2
  simp only at hc hd hc2 hd2
  subst hc hd hc2 hd2
  exact concat_meets ⟨_,ho,rfl⟩ ⟨_,ho2,rfl⟩ noFill_tuple_add seq_tuple_add PySem.F.slot_tuple_add PySem.F.entry_tuple_add (PySem.F.args_tuple_add_2 _ _)
   (tuple_addW0 a b its.toArray its2.toArray n n2 dd dd2 sl sl2 (by simp[r1.nil_iff.mpr hx])) ⟨ho,ho2,.ref b,H,I,rfl,q0 hx⟩
 ·exact KO _ _ _ _ _ _ _ _ _ I rx ry ⟨a,b,xs,ys,rfl,rfl,ha,hb,hx,hz,q1,fun _=>q2⟩
def WW:PV->PV->Option PV
 | .tup m,.tup n=>if m.length+n.length<=10000 then some (.tup (m++n)) else none
 | _,_=>none
theorem NB:RB K (JW K) WW:=fun H x y a b l fa fb ha hb e Q k=>by
 cases a with
 | tup m=>cases b with
  | tup n=>
   have e:(if m.length+n.length<=10000 then some (PV.tup (m++n)) else none)=some l:=e
   split at e
   case isFalse=>cases e
   rename_i hl
   cases e
   obtain⟨p,xs,rfl,hp,hi⟩:=ha.tup_inv
   obtain⟨p',ys,rfl,hp',hi'⟩:=hb.tup_inv
   refine⟨p,p',xs,ys,rfl,rfl,SqT.of hp,SqT.of hp',by rw[hi.len,hi'.len];exact Nat.le_of_lt (lt_size hl),fun z=>?_,fun z=>?_,fun q hq=>?_⟩
   ·have:m=[]:=List.length_eq_zero_iff.mp (by rw[<-hi.len,z];rfl)
    subst this
    exact k _ _ fb (Same.refl _) hb fun r hr=>.inr (.inl hr)
   ·have:n=[]:=List.length_eq_zero_iff.mp (by rw[<-hi'.len,z];rfl)
    subst this;rw[List.append_nil] at k
    exact k _ _ fa (Same.refl _) ha fun r hr=>.inl hr
   ·exact k _ _ (fa++fb) (Same.new hq _) (Is.tup Zx ((hi.append hi').mono (Same.new hq _))) fun r hr=>(List.mem_append.mp hr).elim .inl fun z=>.inr (.inl z)
  | _=>cases e
 | _=>cases e
end VL
namespace PW
open PySem L2 VL
noncomputable def U9:XS:=(ZK (eP (Ze X0 [(Zi ZQ (Za 0) (Za 1))])))
noncomputable def XV:List PV->Option PV:=YO 2 U9
noncomputable def OD:XS:=(ZK (eP (Ze X0 [(Zs 2 [1,2] (Y9 false [(Zi ZQ (Za 0) (Za 2))]) (.many [0,1]) Zz (Zi VP (Za 1) (Zi YT (Zi ZQ (Za 2) (Za 0)) (Zi ZQ (Za 2) (Za 3)))))])))
noncomputable def Ta:List PV->Option PV:=YO 3 OD
noncomputable def Lz:XS:=(ZK (eP (Ze Yh [(Zs 2 [0,2] (Y9 false [(Za 1)]) (.many [0,1]) Zz (Zi Yu (Za 1) (Ze Ta [(Za 2),(Za 3),(Za 0)])))])))
noncomputable def Vg:List PV->Option PV:=YO 3 Lz
noncomputable def OE:XS:=(ZK (eP (Ze Yh [(Zs 2 [] (VR false false [(Za 0),(Za 1)]) (.many [0,1]) Zz (Zi Yu (Za 0) (Za 1)))])))
noncomputable def Vh:List PV->Option PV:=YO 2 OE
noncomputable def QD:XS:=(ZK (eP (Ze Yh [(Zs 2 [] (VR false false [(Za 0),(Za 1)]) (.many [0,1]) Zz (Zi YT (Za 0) (Za 1)))])))
noncomputable def WN:List PV->Option PV:=YO 2 QD
noncomputable def Tc:XS:=(ZK (eP (U2 (Ze Wb [(Za 0),(eC (.ty "int"))]) (K6 (Ze Wb [(Za 0),(eC (.ty "bool"))])))))
noncomputable def YD:List PV->Option PV:=YO 1 Tc
noncomputable def R7:XS:=(ZK (eP (U2 (Ze Wb [(Za 0),(eC (.ty "tuple"))]) (U2 (Zi (Yr false) (Ze ZZ [(Za 0)]) (Za 1)) (Ze Sz [(Zs 1 [] (Wq (Za 0)) (.one 0) Zz (Ze YD [(Za 0)]))])))))
noncomputable def R8:List PV->Option PV:=YO 2 R7
end PW
namespace VL
open PySem PySem.Spec PyProof.Rows L2
def YH:List Int->Int
 | []=>0
 | [x]=>x
 | x::y::r=>if YH (y::r)<x then YH (y::r) else x
theorem Td:∀{l:List Int},l≠[]->YH l∈l/\∀x∈l,YH l<=x
 | [],h=>absurd rfl h
 | [x],_=>by simp[YH]
 | x::y::r,_=>by
  obtain⟨a,b⟩:=Td (l:=y::r) (by simp)
  unfold YH
  split
  ·rename_i h
   refine⟨List.mem_cons_of_mem _ a,fun z hz=>?_⟩
   rcases List.mem_cons.mp hz with rfl | hz
   ·omega
   ·exact b z hz
  ·rename_i h
   refine⟨by simp,fun z hz=>?_⟩
   rcases List.mem_cons.mp hz with rfl | hz
   ·omega
   ·have:=b z hz;omega
theorem NC{l:List Int}{m:Int}(h:m∈l)(g:∀x∈l,m<=x):YH l=m:=by
 obtain⟨a,b⟩:=Td (l:=l) (by intro z;subst z;simp at h)
 have:=b m h
 have:=g _ a
 omega
theorem SL(val:Nat->Int):∀k,argBest (fun i j=>decide (val i<val j)) k<=k/\∀j,j<=k->val (argBest (fun i j=>decide (val i<val j)) k)<=val j
 | 0=>⟨Nat.le_refl _,fun j hj=>by rw[Nat.le_zero.mp hj];exact Int.le_refl _⟩
 | k+1=>by
  obtain⟨a,b⟩:=SL val k
  unfold argBest
  split
  ·rename_i h
   have h:=of_decide_eq_true h
   refine⟨Nat.le_refl _,fun j hj=>?_⟩
   by_cases e:j=k+1
   ·subst e;exact Int.le_refl _
   ·have:=b j (by omega);omega
  ·rename_i h
   have h:¬_:=fun z=>h (decide_eq_true z)
   refine⟨by omega,fun j hj=>?_⟩
   by_cases e:j=k+1
   ·subst e;omega
   ·exact b j (by omega)
def LA(f:List Int->Int)(K:PySem.W.Frag):List V->Hp->VK->Prop:=fun xs H Q=>∃(b:Bool) (p:Addr) (ns:List Int),xs=[.ref p]/\ns≠[]/\Rr b K H p (ns.map V.int)/\Q (.int (f ns)) H
section
variable {X:Cx}
theorem Vy(hc:X.calm=true):XZ X (.builtin "min") (LA YH X.K):=by
 intro pins s σ H xs us Q I r h
 obtain⟨b,p,ns,rfl,hne,hq,q⟩:=h
 obtain⟨u,rfl,rx⟩:=Sm r
 cases rx
 obtain⟨its,rv,hseq,hz⟩:=I.seqB hq
 have hp:p<s.heap.objs.size:=let⟨_,e⟩:=hseq.has;Heap.lt_size e
 have hl:=rv.length;rw[List.length_map] at hl
 have hpos:0<ns.length:=List.length_pos_iff.mpr hne
 have hval:∀(i:Nat)(v:Value),its.toArray[i]?=some v->∃t,v=Value.int (ns.getD i 0) t:=fun(i:Nat) (v:Value) hv=>by
  have hv:its[i]?=some v:=by simpa using hv
  have hi:i<ns.length:=by rw[hl];exact(List.getElem?_eq_some_iff.mp hv).1
  obtain⟨u,hu,ru⟩:=rv.get (i:=i) (x:=.int ns[i]) (by rw[List.getElem?_map,List.getElem?_eq_getElem hi];rfl)
  rw[hv] at hu;cases hu
  obtain⟨t,rfl⟩:=ru
  refine⟨t,?_⟩
  show Value.int ns[i] t=Value.int (ns.getD i 0) t
  rw[List.getD_eq_getElem?_getD,List.getElem?_eq_getElem hi];rfl
 refine call_min_walk (YF hseq ?_)
 refine⟨_,_,_,_,_,_,fun i j=>decide (ns.getD i 0<ns.getD j 0),rfl,Walks.seqB (A:=X.A.in1) b (I.ok.hd hc) s.heap.objs.size p (Nat.ne_of_lt hp) its.toArray,⟨IterB.new (Heap.get?_push_size _ rfl),hseq.at fun o e=>Heap.get?_push_of_some _ e⟩,fun c hcm=>?_,by rw[List.size_toArray,<-hl];exact hpos,CmpOf.ints_lt (fun i=>ns.getD i 0) hval,fun v h' tk hv hk=>?_⟩
 ·show c<(s.heap.push _).objs.size
  rw[Heap.size_push]
  rcases List.mem_cons.mp hcm with rfl | hcm
  ·exact Nat.lt_succ_self _
  ·rw[List.mem_singleton.mp hcm];exact Nat.lt_succ_of_lt hp
 ·obtain⟨t,rfl⟩:=hval _ _ hv
  obtain⟨g1,g2⟩:=SL (fun i=>ns.getD i 0) (its.toArray.size-1)
  rw[List.size_toArray,<-hl] at g1 g2
  have e:YH ns=ns.getD (argBest (fun i j=>decide (ns.getD i 0<ns.getD j 0)) (its.toArray.size-1)) 0:=by
   rw[List.size_toArray,<-hl]
   refine NC ?_ fun x hx=>?_
   ·rw[List.getD_eq_getElem?_getD,List.getElem?_eq_getElem (by omega)]
    exact List.getElem_mem _
   ·obtain⟨j,hj,ej⟩:=List.getElem_of_mem hx
    have:=g2 j (by omega)
    rw[List.getD_eq_getElem?_getD (i:=j),List.getElem?_eq_getElem hj,ej] at this;exact this
  refine⟨.int (YH ns),H,I.kept (fun c o hco=>hk c o ?_ (Heap.get?_push_of_some _ hco)),⟨t,by rw[e]⟩,q⟩
  intro hm;rw[List.mem_singleton.mp hm] at hco
  exact absurd (Heap.lt_size hco) (Nat.lt_irrefl _)
end
def Px(f:List Int->Int):List PV->Option PV
 | [l]=>(TN l).bind fun m=>(XF m).bind fun ns=>if ns=[] then none else some (.int (f ns))
 | _=>none
abbrev WX:List PV->Option PV:=Px YH
theorem Ji{K:PySem.W.Frag}(f:List Int->Int):RC K (LA f K) (Px f):=fun H vs ls l fp h e Q k=>by
 unfold Px at e
 split at e
 ·obtain⟨m,e1,e2⟩:=Zg e
  obtain⟨ns,e3,e4⟩:=Zg e2
  split at e4
  ·cases e4
  ·rename_i hne
   cases e4
   obtain⟨v,rfl,i⟩:=h.one_inv
   obtain⟨p,xs,fq,rfl,hp,hi,hs⟩:=WE (K:=K) i e1
   have em:=XA e3;subst em
   obtain⟨rfl,rfl⟩:=hi.iL
   obtain⟨b,hb⟩:=Os hp
   exact⟨b,p,ns,rfl,hne,hb,k _ H [] (Same.refl H) (Is.int _) fun p hp=>by simp at hp⟩
 ·cases e
theorem T7{K:PySem.W.Frag}:RC K (LA YH K) WX:=Ji YH
theorem QE(f:List Int->Int){l:List Int}(h:l≠[]):Px f [pP l]=some (.int (f l)):=by
 show(XF (iL l)).bind _=_
 rw[Y8];simp only[Option.bind_some];rw[if_neg h]
theorem Jj(f:List Int->Int){l:List Int}(h:l≠[]):Px f [.lst (iL l)]=some (.int (f l)):=by
 show(XF (iL l)).bind _=_
 rw[Y8];simp only[Option.bind_some];rw[if_neg h]
def Uu(l:List Int):List Int:=l.mergeSort fun a b=>decide (a<=b)
theorem SM(l:List Int):(Uu l).Perm l:=List.mergeSort_perm l _
theorem QF(l:List Int):(Uu l).Pairwise (·<=·):=by
 have:=List.pairwise_mergeSort (le:=fun a b:Int=>decide (a<=b)) (fun a b c h1 h2=>by simp only[decide_eq_true_eq] at *;omega) (fun a b=>by simp only[Bool.or_eq_true,decide_eq_true_eq];omega) l
 exact this.imp fun h=>of_decide_eq_true h
theorem Py{l m:List Int}(hp:m.Perm l)(hs:m.Pairwise (·<=·)):m=Uu l:=
 List.Perm.eq_of_pairwise (le:=(·<=·)) (fun a b _ _ h1 h2=>Int.le_antisymm h1 h2) hs (QF l) (hp.trans (SM l).symm)
theorem Uv:∀{us:List Value}{ns:List Int},IntsAre us ns->Vals (ns.map V.int) us
 | _,_,.nil=>.nil
 | _,_,.cons n t h=>.cons ⟨t,rfl⟩ (Uv h)
def QG(K:PySem.W.Frag):List V->Hp->VK->Prop:=fun xs H Q=>∃p ns,xs=[.ref p]/\SqL K H p (ns.map V.int)/\ns.length<64/\∀l,H l=none->Q (.ref l) (upd H l (.lst ((Uu ns).map V.int)))
theorem QH{X:Cx}:XZ X (.builtin "sorted") (QG X.K):=by
 intro pins s σ H xs us Q I r h
 obtain⟨p,ns,rfl,hq,hl,q⟩:=h
 obtain⟨u,rfl,rx⟩:=Sm r
 cases rx
 obtain⟨its,r',pl,hz⟩:=I.list hq
 have hlen:=r'.length
 rw[List.length_map] at hlen hz
 refine sorted_ints pl.isList (Oe r') (by omega) fun out ns' a1 a2 a3=>?_
 obtain⟨e,he⟩:=sortedAll_at s.heap its out
 have hns:=Py a2 a3;subst hns
 refine⟨.ref (s.heap.objs.size+1),_,I.laid (t':=s.toks) (fun b o=>sortedAll_old) (Nat.le_succ _) (show ObjOk X.prog X.w _ _ _ (.lst ((Uu ns).map V.int)) from⟨?_,out.toList,e,Uv a1,?_⟩),rfl,q _ (I.hok.fresh (Nat.le_succ _))⟩
 ·rw[List.length_map,(SM ns).length_eq];exact hz
 ·rw[Array.toArray_toList];exact he
def WO:List PV->Option PV
 | [.lst l]=>(XF l).bind fun ns=>if ns.length<64 then some (.lst (iL (Uu ns))) else none
 | [.cst l]=>(XF l).bind fun ns=>if ns.length<64 then some (.lst (iL (Uu ns))) else none
 | _=>none
theorem OF{K:PySem.W.Frag}:Go K (QG K) WO:=fun H vs ls l fp h e Q k=>by
 have fin:∀(p:Addr)(ns:List Int),SqL K H p (ns.map V.int)->ns.length<64->l = .lst (iL (Uu ns))->QG K [.ref p] H Q:=by
  rintro p ns hp hl rfl
  refine⟨p,ns,rfl,hp,hl,fun q hq=>k _ _ [q] (Same.new hq _) (Is.lst Zx (Iss.ofInts _)) (by simp) fun r hr=>?_⟩
  rw[List.mem_singleton.mp hr]
  exact⟨hq,by rw[Zx];exact True.intro⟩
 unfold WO at e
 split at e
 ·obtain⟨ns,e1,e2⟩:=Zg e
  split at e2
  ·cases e2
   obtain⟨v,rfl,i⟩:=h.one_inv
   have em:=XA e1;subst em
   obtain⟨p,xs,fq,rfl,hp,hi,_⟩:=i.lst_inv
   obtain⟨rfl,rfl⟩:=hi.iL
   exact fin p ns (.inl (.inl hp)) (by assumption) rfl
  ·cases e2
 ·obtain⟨ns,e1,e2⟩:=Zg e
  split at e2
  ·cases e2
   obtain⟨v,rfl,i⟩:=h.one_inv
   have em:=XA e1;subst em
   obtain⟨p,xs,rfl,hp,hi⟩:=i.cst_inv
   obtain⟨rfl,rfl⟩:=hi.iL
   exact fin p ns hp.sq (by assumption) rfl
  ·cases e2
 ·cases e
theorem SN:∀(us:List Value)(k:Nat),(∀(i:Nat)(v:Value),us[i]?=some v->∃t,v=Value.int ((k+i:Nat):Int) t)->Vals ((List.range us.length).map fun i=>V.int ((k+i:Nat):Int)) us
 | [],k,_=>.nil
 | u::us,k,h=>by
  obtain⟨t,rfl⟩:=h 0 u rfl
  rw[List.length_cons,List.range_succ_eq_map,List.map_cons,List.map_map]
  refine .cons ⟨t,rfl⟩ ?_
  have:=SN us (k+1) fun i v hv=>by
   obtain⟨t,e⟩:=h (i+1) v (by simpa using hv)
   exact⟨t,by rw[e];congr 2;omega⟩
  refine Eq.mp (congrArg (fun l=>Vals l us) (List.map_congr_left fun i _=>?_)) this
  show V.int _=V.int _
  congr 2;omega
def Fz(ta:TA):TE:=fun σ H Q=>ta σ H fun vs H1=>∃j:Nat,vs=[.int (j:Int)]/\j<=10000/\∀l,H1 l=none->Q (.ref l) (upd H1 l (.lst ((List.range j).map fun(i:Nat)=>V.int (i:Int))))
section
variable {X:Cx} {a:Expr} {ta:TA} {p p2 pos pos2:Pos}
theorem QI(hc:X.calm=true)(hgl:Gl X "list")(hml:X.mg "list" = none)(hgr:Gl X "range")(hmr:X.mg "range" = none)(ha:PA X [a] ta)(hs:starEach [a] X.env=[(false,eval a X.env)]:=by rfl)
  (he:starEach [.Call (.Name "range" p2) [a] [] pos2] X.env=(false,eval (.Call (.Name "range" p2) [a] [] pos2) X.env)::starEach [] X.env:=by rfl) (hpl:(backTo pos (starEach [] X.env)).any (·.1)=false:=by rfl) :
  PE X (.Call (.Name "list" p) [.Call (.Name "range" p2) [a] [] pos2] [] pos) (Fz ta):=by
 intro pins s σ H Q I h
 refine wpAny_Call_Name_kw (Ww I hgl hml (u:=.type "list") (by decide +kernel) ?_)
 refine PyProof.Rows.callWith_type1 (T:="list") ?_ he hpl
 rw[he]
 show wpAny _ _ (spliced ((false,eval (.Call (.Name "range" p2) [a] [] pos2) X.env)::[])) _ _ s
 refine Calls.spliced_cons ?_
 refine Call_ (Ww I hgr hmr boot_range (PyProof.Rows.callWith_type1 (YS (ha pos2 pins s σ H _ I h) fun us s1 ⟨vs,H1,I1,r1,q1⟩=>?_) hs rfl))
 obtain⟨j,e,hj,q⟩:=q1
 subst e
 cases r1 with
 | cons r rr=>
  cases rr
  obtain⟨t,rfl⟩:=r
  refine call_range_1 (Calls.spliced_nil ?_)
  have sz:sizeLine=2^24:=rfl
  refine call_list_range (n:=j) (I.ok.hd hc) (IsRange.new ..) (small_one (by omega) (by omega) (by omega) (by omega)) (by rw[rangeSize_one];split<;>omega) (by omega) fun h' tk acc' c' hk hS hacc=>?_
  have I2:=I1.kept (t':=s1.toks+1+1) (h':=s1.heap.push { cls:=.type "range",data:=.fields #[.int 0 s1.toks,.int (j:Int) t,.int 1 (s1.toks+1)] }) fun b o e=>Heap.get?_push_of_some _ e
  refine⟨.ref _,_,I2.laid (t':=tk) hk (Nat.le_refl _) (show ObjOk X.prog X.w _ _ _ (.lst ((List.range j).map fun(i:Nat)=>V.int (i:Int))) from⟨by simp;omega,acc'.toList,c',?_,?_⟩),rfl,q _ (I2.hok.fresh (Nat.le_refl _))⟩
  ·have:=SN acc'.toList 0 fun i v hv=>by
    obtain⟨t',e⟩:=hacc.2 i v (by simpa using hv)
    exact⟨t',by rw[e];congr 1;omega⟩
   rw[Array.length_toList,hacc.1] at this
   refine Eq.mp (congrArg (fun l=>Vals l acc'.toList) (List.map_congr_left fun i _=>?_)) this
   show V.int _=V.int _
   congr 2;omega
  ·rw[Array.toArray_toList];exact hS
end
def Vi:PV->Option PV
 | .int k=>if 0<=k/\k<=10000 then some (.lst (iL ((List.range k.toNat).map fun(i:Nat)=>(i:Int)))) else none
 | _=>none
theorem QJ{X:Cx}{a:Expr}{fa:XE}{p p2 pos pos2:Pos}(hc:X.calm=true)(hgl:Gl X "list")(hml:X.mg "list" = none)(hgr:Gl X "range")(hmr:X.mg "range" = none)(ha:VE X a fa)(hs:starEach [a] X.env=[(false,eval a X.env)]:=by rfl)
  (he:starEach [.Call (.Name "range" p2) [a] [] pos2] X.env=(false,eval (.Call (.Name "range" p2) [a] [] pos2) X.env)::starEach [] X.env:=by rfl) (hpl:(backTo pos (starEach [] X.env)).any (·.1)=false:=by rfl) :
  VM X (.Call (.Name "list" p) [.Call (.Name "range" p2) [a] [] pos2] [] pos) (Oo Vi fa):=
 PE.imp (QI hc hgl hml hgr hmr (Zc ha Zf hs) hs he hpl) fun σ H Q ⟨s,l,env,e,k⟩=>by
  obtain⟨x,e1,e2⟩:=Zg e
  refine⟨fun _=>False,s,[x],fun _ z=>z.elim,env,by show(fa s).bind _=_;rw[e1];rfl,fun vs H1 fp s1 i1 _=>?_⟩
  obtain⟨w,rfl,iw⟩:=i1.one_inv
  cases x with
  | int kk=>
   unfold Vi at e2
   simp only at e2
   split at e2
   case isFalse=>cases e2
   rename_i hk
   cases e2
   refine⟨kk.toNat,by rw[iw.int_inv.1];congr 2;omega,by omega,fun q hq=>?_⟩
   have hm:(List.range kk.toNat).map (fun(i:Nat)=>V.int (i:Int))=((List.range kk.toNat).map fun(i:Nat)=>(i:Int)).map V.int:=by rw[List.map_map];rfl
   rw[hm]
   refine k _ _ [q] (s1.trans (Same.new hq _)) (Is.lst Zx (Iss.ofInts _)) (by simp) fun r hr=>?_
   rw[List.mem_singleton.mp hr]
   exact⟨Same.off s1 hq,by rw[Zx];exact True.intro⟩
  | _=>cases e2
variable {K:PySem.W.Frag}
def Hw(K:PySem.W.Frag)(D:List PV->Option PV)(n:Nat):Sp:=fun vs H Q _=>vs.length=n/\∃v0 vr l0 ls fp0 l',vs=v0::vr/\Is K H l0 v0 fp0/\fp0.Nodup/\(∀p∈fp0,Wv (H p))/\Iss K H ls vr []/\D (l0::ls)=some l'/\
 ∀H' fq,Same (W0 H (·∈fp0)) H'->Is K H' l' v0 fq->fq.Nodup->(∀p∈fq,W0 H (·∈fp0) p=none/\Wv (H' p))->Q .non H'
def Ha(K:PySem.W.Frag)(O W:List Nat)(H0:Hp)(fps:Nat->List Addr)(σ:TL)(D:Sj):Out->Prop
 | .nx s'=>∀fps' σ' H',Rel K O H0 fps' s' σ' H'->σ'[0]?=σ[0]?->D.nx σ' H'
 | _=>True
def Hb(K:PySem.W.Frag)(O W:List Nat)(f:XS):TS:=fun D σ H=>∃H0 fps s s',Rel K O H0 fps s σ H/\f s=some (.nx s')/\Ha K O W H0 fps σ D (.nx s')
def GH(X:Cx)(O W:List Nat)(st:Stmt)(f:XS):Prop:=PS X st (Hb X.K O W f)
def Jk(X:Cx)(O W:List Nat)(st:List Stmt)(f:XS):Prop:=PSs X st (Hb X.K O W f)
section
variable {X:Cx} {O W W1 W2:List Nat} {st:Stmt} {YJ:List Stmt} {f g:XS} {pos:Pos}
theorem VS.vs0(h:VS X O W st f)(hw:0∉W:=by decide):GH X O W st f:=PS.imp h fun D σ H ⟨H0,fps,s,s',r,e,k⟩=>⟨H0,fps,s,.nx s',r,e,fun fps' σ' H' r' q=>k fps' σ' H' r' (q 0 hw).1⟩
theorem LB(h:GH X O W st f):Jk X O W [st] f:=Nd h
theorem R9(h1:GH X O W1 st f)(h2:Jk X O W2 YJ g):Jk X O (W1++W2) (st::YJ) (Zp f g):=PSs.imp (Q7 h1 h2) fun D σ H ⟨H0,fps,s,s',r,e,k⟩=>by
 obtain⟨o1,e1,e⟩:=Zg e
 cases o1 with
 | nx s1=>exact⟨H0,fps,s,s1,r,e1,fun fps1 σ1 H1 r1 q1=>⟨H0,fps1,s1,s',r1,e,fun fps' σ' H' r' q'=>k fps' σ' H' r' (q'.trans q1)⟩⟩
 | bk s1=>cases e
 | ct s1=>cases e
 | rt l=>cases e
theorem SO{fe fa fb:XE}(h:PS X st (Q8 (tF X.K fe) (Ij (Hr (IB X.K) (Rt 0) (tF X.K fa)) (tF X.K fb) MV)))(hi:0∈O:=by decide):GH X O [0] st (WH 0 fa fb fe):=PS.imp h fun D σ H ⟨H0,fps,s,s',r,e,k⟩=>by
 obtain⟨l,e0,e⟩:=Zg e
 obtain⟨a,e1,e⟩:=Zg e
 obtain⟨b,e2,e⟩:=Zg e
 obtain⟨ai,ea,e⟩:=Zg e
 obtain⟨bi,eb,e⟩:=Zg e
 obtain⟨m,em,e⟩:=Zg e
 obtain⟨j,ej,e⟩:=Zg e
 obtain⟨Z7,en,e⟩:=Zg e
 obtain⟨n,er,e⟩:=Zg e
 obtain⟨_,eg,e⟩:=Zg e
 rw[Uo ea] at e1;rw[Uo eb] at e2;rw[Lk er] at en;have em:=Um em;have hc:=T5 eg;simp only[Bool.and_eq_true] at hc
 obtain⟨pn,pl⟩:=hc
 obtain⟨c,ec,e⟩:=map_some e
 cases e
 obtain⟨p,xs,fq,hv,hp,hm,ef⟩:=r.lst_at hi em
 refine⟨fun _=>False,s,l,fun _ z=>z.elim,r.env,e0,fun y H1 fy s1 i1 _=>?_⟩
 refine⟨.ref p,hv,fun _=>False,s,_,fun _ z=>z.elim,r.env.mono s1,e1,fun z H2 fz s2 i2 _=>?_⟩
 obtain⟨rfl,_⟩:=i2.int_inv
 have s12:=s1.trans s2
 obtain⟨q,f1,hq,iq,subq⟩:=(hm.mono s12).get en
 obtain⟨qa,zs,fz',rfl,hqa,hz,rfl⟩:=id iq.lst_inv
 refine⟨p,xs,ai,.ref qa,rfl,rfl,SqL.of (s12 _ _ hp),?_,fun _=>False,s,_,fun _ z=>z.elim,r.env.mono s12,e2,fun w H3 fw s3 i3 _=>?_⟩
 ·unfold UN;rw[hm.len,ej];exact hq
 obtain⟨rfl,_⟩:=i3.int_inv
 have s123:=s12.trans s3;have r3:=r.grow s123
 have hqf:qa∈fps 0:=by rw[ef];exact List.mem_cons_of_mem _ (subq qa List.mem_cons_self)
 have mu:=(r3.own 0 hi qa hqf).2
 have hqa3:H3 qa=some (.lst zs):=s3 _ _ hqa
 have:=Is.pure _ _ _ pl i1
 subst this
 refine⟨qa,zs,bi,c,rfl,rfl,hqa3,by rw[hz.len];exact ec,?_⟩
 have nd:=r.nd 0 hi;rw[ef] at nd
 have hqp:qa≠p:=fun z=>(List.nodup_cons.mp nd).1 (z▸subq qa List.mem_cons_self)
 have newrow:Iss X.K (L2.upd H3 qa (.lst (zs.set c y))) (n.set c l) (zs.set c y) []:=Iss.tr (TK.upd' mu) _ _ _ (fun q hq=>by simp at hq) (Iss.setP c pn pl ((hz.mono s3).pureEq pn) (i1.mono (s2.trans s3)))
 have rows:=Iss.setRow (hm.mono s123) en hq (List.nodup_cons.mp nd).2 mu pn newrow
 refine k _ _ _ (r3.mutate (o:=.lst (zs.set c y)) (l':=.lst (m.set j (.lst (n.set c l)))) (fp':=p::fq) hi hqf hv (U5 em) (Is.lst (by rw[L2.upd_ne (Ne.symm hqp)];exact s123 _ _ hp) rows) nd (fun q hq=>?_) (fun j hj q hq z=>r.dis 0 hi j hj q (by rw[ef];exact hq) z) True.intro) rfl
 refine⟨(r.own 0 hi q (by rw[ef];exact hq)).1,?_⟩
 by_cases e:q=qa
 ·subst e;rw[Zx];exact True.intro
 ·rw[L2.upd_ne e];exact(r3.own 0 hi q (by rw[ef];exact hq)).2
end
def Gu:Out->Option PV
 | .nx s=>match s[0]? with | some (some l)=>some l | _=>none
 | _=>none
def Hx(m:Nat)(f:XS):List PV->Option PV:=fun ls=>if ZX (ls.drop 1)=true then(f (Yf m ls)).bind Gu else none
theorem LC{N:List Str}{n:Nat}{W:List Nat}{f:XS}{vs:List V}{H:Hp}{Q:VK}{E:XK}(h:Hw K (Hx N.length f) n vs H Q E):Hb K [0] W f { nx:=fun _ H'=>Q .non H',rt:=Q } (L2.start N vs) H:=by
 obtain⟨hl,v0,vr,l0,lr,fp0,l',rfl,i0,nd0,mu0,hir,e,q⟩:=h
 unfold Hx at e
 split at e
 case isFalse=>cases e
 obtain⟨out,e1,e2⟩:=Zg e
 have hi:Iss K H (l0::lr) (v0::vr) (fp0++[]):=Iss.cons i0 hir
 have hlen:=hi.len
 generalize hls:l0::lr=ls at *
 have hout:∀i:Nat,ls.length<=i->∀l,(Yf N.length ls)[i]?≠some (some l):=fun i hi l z=>by
  unfold Yf at z;rw[List.getElem?_append_right (by simpa using hi),List.getElem?_replicate] at z
  split at z<;>cases z
 have rel:Rel K [0] (W0 H (·∈fp0)) (fun i=>if i=0 then fp0 else []) (Yf N.length ls) (L2.start N (v0::vr)) H:=by
  refine⟨RY,?_,fun i a z=>?_,fun i hne=>?_,fun i hi=>?_,fun i hi p hp=>?_,fun i hi j hj p hp=>?_⟩
  ·have hq:vr.length+1=ls.length:=hlen
   unfold Yf L2.start;simp;omega
  ·by_cases hil:i<ls.length
   ·unfold Yf at z
    rw[List.getElem?_append_left (by simpa using hil),List.getElem?_map] at z
    cases q:ls[i]? with
    | none=>rw[q] at z;cases z
    | some b=>
     rw[q] at z;cases z
     cases i with
     | zero=>
      rw[<-hls] at q
      simp at q;subst q
      exact⟨v0,by unfold L2.start;simp,by simpa using i0⟩
     | succ i=>
      rw[<-hls] at q
      obtain⟨v,f1,a1,b1,b2⟩:=hir.get (i:=i) (a:=a) (by simpa using q)
      have:f1=[]:=by cases f1 with | nil=>rfl | cons x r=>exact absurd (b2 x List.mem_cons_self) (by simp)
      subst this
      refine⟨v,?_,by simpa using b1⟩
      unfold L2.start
      rw[List.getElem?_append_left (by rw[List.length_map,hlen];exact hil),List.getElem?_map]
      simp[a1]
   ·exact absurd z (hout i (by omega) a)
  ·by_cases hil:i<ls.length
   ·exact absurd (by unfold Yf;rw[List.getElem?_append_left (by simpa using hil),List.getElem?_map,List.getElem?_eq_getElem hil];rfl) (hne ls[i])
   ·have:i≠0:=by rw[<-hls] at hil;simp at hil;omega
    simp[this]
  ·simp at hi;subst hi;simpa using nd0
  ·simp at hi;subst hi
   have hp:p∈fp0:=by simpa using hp
   exact⟨by unfold W0;rw[if_pos hp],mu0 p hp⟩
  ·simp at hi;subst hi
   simp[hj]
 cases out with
 | nx s'=>
  have e2:(match s'[0]? with | some (some l)=>some l | _=>none)=some l':=e2
  split at e2
  case h_2=>cases e2
  rename_i l es
  cases e2
  refine⟨_,_,_,s',rel,e1,fun fps' σ' H' r' q'=>?_⟩
  obtain⟨v,a,b⟩:=r'.is 0 _ es
  rw[q'] at a
  have:v=v0:=by unfold L2.start at a;simp at a;exact a.symm
  subst this
  exact q H' (fps' 0) r'.same b (r'.nd 0 (by simp)) fun p hp=>r'.own 0 (by simp) p hp
 | rt v=>cases e2
 | bk s'=>cases e2
 | ct s'=>cases e2
section
variable {P:Program} {w:World} {mg:Str->Option Value} {base:Heap}
theorem Jl{x:Str}{st:Stmt}{N ps:List Str}{k n:Nat}{W:List Nat}(m:Nat)(f:XS)(D:Def K mg x st)(S:Zw N ps (Zk st))
  (hb:∀(kV doc pm:Value)(an:Option Addr)(cdv ct:Value)(us:List Value),us.length=ps.length->bindArgs (PySem.W.fnOf x x (XM st) (YN st) (Zk st) .none kV doc pm an cdv ct) ⟨us,[]⟩=pure (ps.zip us))
  (hn:ps.length=n) (hm:N.length=m)
  (hbody:∀(fa:Addr)(cdv:Value)(A:Around)(outer:List Env)(s:Shared)(H:Hp)(E:XK),Room k (A.deeper (envOfC x (Zk st) s.heap.objs.size fa cdv))->Jk (Ru Nl P w K mg base N x (Zk st) fa cdv A outer s H E).nox [0] W (YN st) f) :
  Yv P w K mg base x ps (Hw K (Hx m f) n) (k+1):=by
 subst hm
 refine D.cal S hb (fun vs H Q E h=>by rw[hn];exact h.1) fun fa cdv A outer s H vs Q E hr h=>⟨_,hbody fa cdv A outer s H E hr,LC h⟩
end
def Pz(i:Nat)(D:List PV->Option PV)(fs:List XE):XS:=fun s=>match s[i]? with
 | some (some l0)=>(TY fs s).bind fun ls=>if ZX ls=true then(D (l0::ls)).map fun l'=>.nx (s.set i (some l')) else none
 | _=>none
theorem LD{X:Cx}{O:List Nat}{i:Nat}{st:Stmt}{D:List PV->Option PV}{n:Nat}{fs:List XE}(h:PS X st (Nf (MS (Hw X.K D n) [] E0 (Sn (Rt i) (GF X.K fs)))))(hn:fs.length+1=n:=by rfl)(hi:i∈O:=by decide):VS X O [i] st (Pz i D fs):=PS.imp h fun D' σ H ⟨H0,fps,s,out,r,e,k⟩=>by
 unfold Pz at e
 split at e
 case h_2=>cases e
 rename_i l0 e0
 obtain⟨ls,e1,e⟩:=Zg e
 split at e
 case isFalse=>cases e
 rename_i pls
 obtain⟨l',e2,rfl⟩:=map_some e
 obtain⟨v0,hv,iv⟩:=r.is i _ e0
 refine⟨v0,hv,fun _=>False,s,ls,fun _ z=>z.elim,r.env,e1,fun vs H1 fp s1 i1 _=>?_⟩
 have:=Iss.pure _ _ _ pls i1
 subst this
 show Hw X.K D n ((v0::vs)++[]) H1 _ E0
 rw[List.append_nil];have r1:=r.grow s1
 refine⟨by rw[List.length_cons,i1.len,WD e1];exact hn,v0,vs,l0,ls,fps i,l',rfl,iv.mono s1,r.nd i hi,fun p hp=>(r1.own i hi p hp).2,i1,e2,fun H' fq sm iq ndq nq=>?_⟩
 have hlt:i<s.length:=U5 e0
 have keep:∀b o,b∉fps i->H1 b=some o->H' b=some o:=fun b o hb ho=>sm b o (by unfold W0;rw[if_neg hb];exact ho)
 have tk:JQ H1 H':=⟨fun b xs hb=>keep b _ (fun z=>by have:=(r1.own i hi b z).2;rw[hb] at this;exact this) hb,fun b o xs hb=>keep b _ (fun z=>by have:=(r1.own i hi b z).2;rw[hb] at this;exact this) hb,fun b o xs hb=>keep b _ (fun z=>by have:=(r1.own i hi b z).2;rw[hb] at this;exact this) hb⟩
 have hfq:∀p∈fq,p∈fps i\/H1 p=none:=fun p hp=>by
  have:=(nq p hp).1
  unfold W0 at this
  split at this
  ·exact .inl (by assumption)
  ·exact .inr this
 have fr:∀j,j≠i->∀p∈fq,p∉fps j:=fun j hj p hp z=>by
  rcases hfq p hp with h | h
  ·exact r1.dis i hi j hj p h z
  ·exact r1.dom j p z h
 have e1':Ul fps s.length i fq i=fq:=QB hlt
 refine k (Ul fps s.length i fq) σ H' ⟨fun b u hb=>keep b u (fun z=>by rw[(r1.own i hi b z).1] at hb;cases hb) (r1.same b u hb),by rw[List.length_set];exact r.len,fun j a e=>?_,fun j h=>?_,fun j hj=>?_,fun j hj q hq=>?_,fun j hj k' hk q hq=>?_⟩ Nx
 ·rw[List.getElem?_set] at e
  by_cases hj:i=j
  ·subst hj
   rw[if_pos rfl,if_pos hlt] at e;cases e
   rw[e1'];exact⟨v0,hv,iq⟩
  ·rw[if_neg hj] at e
   obtain⟨w,h1,h2⟩:=r1.is j a e
   rw[ZV (Ne.symm hj)]
   refine⟨w,h1,Is.tr tk _ _ _ (fun q hq=>RdK.of fun u hu=>?_) h2⟩
   exact keep q u (fun z=>r1.dis i hi j (Ne.symm hj) q z hq) hu
 ·by_cases hj:i=j
  ·subst hj
   exact absurd (by rw[List.getElem?_set,if_pos rfl,if_pos hlt]) (h l')
  ·rw[ZV (Ne.symm hj)]
   exact r.emp j fun a z=>h a (by rw[List.getElem?_set,if_neg hj];exact z)
 ·by_cases e:j=i
  ·subst e;rw[e1'];exact ndq
  ·rw[ZV e];exact r.nd j hj
 ·by_cases e:j=i
  ·subst e;rw[e1'] at hq
   refine⟨?_,(nq q hq).2⟩
   rcases hfq q hq with h | h
   ·exact(r1.own j hj q h).1
   ·exact Same.off r1.same h
  ·rw[ZV e] at hq
   refine⟨(r.own j hj q hq).1,?_⟩
   have mu:=(r1.own j hj q hq).2
   have nin:q∉fps i:=fun z=>r1.dis j hj i (Ne.symm e) q hq z
   cases hh:H1 q with
   | none=>exact absurd hh (r1.dom j q hq)
   | some o=>rw[keep q o nin hh,<-hh];exact mu
 ·by_cases e:j=i
  ·subst e
   rw[e1'] at hq;rw[ZV hk]
   exact fr k' hk q hq
  ·rw[ZV e] at hq
   by_cases e2:k'=i
   ·subst e2
    rw[e1']
    exact fun z=>fr j e q z hq
   ·rw[ZV e2];exact r.dis j hj k' hk q hq
end VL
namespace VL
open PySem PySem.Spec PyProof.Rows L2
variable {K:PySem.W.Frag}
def CMulW(i j:Int):Prop:=i.natAbs.log2<67108863/\j.natAbs.log2<67108863
def TD(i j:Int):Prop:=j≠0/\j.natAbs.log2<9000
instance (i j:Int):Decidable (CMulW i j):=by unfold CMulW;infer_instance
instance (i j:Int):Decidable (TD i j):=by unfold TD;infer_instance
theorem ND(i:Int):Builtin.Int.intBits i<=i.natAbs.log2+1:=by
 unfold Builtin.Int.intBits
 split
 ·exact Nat.zero_le _
 ·exact Nat.le_refl _
theorem CMulW.ok{i j:Int}(h:CMulW i j):IntMulOk i j:=by
 unfold IntMulOk Builtin.Int.intTooBig;have h1:=ND i;have h2:=ND j;have h3:=h.1;have h4:=h.2
 have:decide (((Builtin.Int.intBits i:Int)+(Builtin.Int.intBits j:Int))>(bitsLine:Int))=false:=decide_eq_false (by
  have e:(bitsLine:Int)=134217728:=rfl
  rw[e];omega)
 rw[this]
 simp
section
variable {X:Cx} {a b:Expr} {fa fb:XE} {pos:Pos}
theorem Jm:VV X (binaryOp .Mult) (rI CMulW fun i j=>.int (i*j)):=Hs fun _ _ _ _ _ _ _ hc q=>mul_int q hc.ok
theorem LE:VV X (binaryOp .FloorDiv) (rI TD fun i j=>.int (i.fdiv j)):=Hs fun _ _ _ _ _ _ _ hc q=>floordiv_int hc.1 q (.inl (PyProof.noPylong_of_log2 hc.2))
abbrev SQ:=M4 CMulW (· * ·)
abbrev SR:=M4 TD Int.fdiv
theorem T8(ha:VE X a fa)(hb:VE X b fb):VE X (.BinOp a .Mult b pos) (Zi SQ fa fb):=VZ Jm (RT _ _) ha hb
theorem Uw(ha:VE X a fa)(hb:VE X b fb):VE X (.BinOp a .FloorDiv b pos) (Zi SR fa fb):=VZ LE (RT _ _) ha hb
end
theorem SS:∀{ns:List Int}{n:Int},n∈ns->n.natAbs.log2<=PySem.W.WData.weightAll (ns.map .int)
 | m::r,n,h=>by
  rw[List.map_cons];simp only[PySem.W.WData.weightAll,PySem.W.WData.weight]
  rcases List.mem_cons.mp h with rfl | h
  ·by_cases h0:n=0
   ·subst h0
    have:Nat.log2 (Int.natAbs 0)=0:=by decide +kernel
    omega
   ·rw[if_neg (by simpa using h0)];omega
  ·have:=SS h
   omega
open PySem.W PySem.Calls in
theorem law_walkB{l:PySem.W.OpenLaw}{q:Program}{loose:List Str}{XP:(Str->Option Value)->Heap->Prop}{YP:World->Heap->Prop}{d:DefRec}{KK:Params->PySem.W.Frag}{x:Str}{D:List PV->Option PV}(k:Nat)(hn:l.most=some 63)(hdf:d.params.defaults=[])
  (hr:Room k callerA) (hD:∀ns:List Int,ns.length<=63->(∀n∈ns,n.natAbs.log2<=1048576)->D [.cst (iL ns)]=some (.bl true))
  (hY:∀(w:World)(h:Heap),YP w h->(KK w.params).In h)
  (F:∀(w:World)(mg:Str->Option Value)(fa:Addr)(h:Heap),(KK w.params).In h->h.Ns mainGlobals mg->mg d.name=some (.ref fa)->
   ∃fd:FuncData,(∀(s:Shared)(u:Value),BindsTo s fd ⟨[u],[]⟩ [(x,u)])/\∀base:Heap,(KK w.params).In base->base.Ns mainGlobals mg->TF l.prog w (KK w.params) mg base Nl k fa fd [x] (Yt (KK w.params) D 1)) :
  PySem.W.WalkO q loose XP YP l.row.toRowW d [] (fun f vs=>PySem.call f vs):=by
 intro w s₀ s₁ mg mb gr yy fa o pm cd doc dv kv ho hd hcd hdd hmg hgen args vals as hpre hlay hrd hwl hlo
 obtain rfl:dv = .none:=Dflts.none hdd hdf
 obtain rfl:kv = .none:=Dflts.noKw hdd
 obtain⟨a,vs,ns,rfl,rfl,hobj,hints,hlen⟩:=Att.script_of hn hpre hwl
 have hw:∀n∈ns,n.natAbs.log2<=1048576:=fun n h=>by
  have h1:(WData.list (ns.map WData.int)).layable=true:=List.all_eq_true.mp hlay _ (List.mem_singleton.mpr rfl)
  unfold WData.layable at h1
  have h2:=of_decide_eq_true (Bool.and_eq_true_iff.mp h1).2
  have h3:WData.weightAll (ns.map WData.int)<=1048576:=by simpa [WData.weight] using h2
  exact Nat.le_trans (SS h) h3
 have kx:=hY w _ yy
 obtain⟨fd,hb,hF⟩:=F w mg fa _ kx gr.T.g hmg
 refine enter_call (codeAny_mono (L2.law_call kx gr.T.g gr.T.b gr.T.builtins gr.T.nolimit hgen hobj hints (Nat.le_trans hlen (by decide)) hr hF hb (fun H hO hS=>IX (hD ns hlen hw) hO hS) fun H e s' z=>z) fun r s' hq=>?_)
 obtain⟨rfl,h2,h3,h4⟩:=hq
 exact⟨.inl ⟨.bool true,.bool true,[],rfl,fun _=>rfl,.bool true,Att.post_true l _,fun _=>⟨List.Pairwise.nil,fun _ hm=>(nomatch hm)⟩⟩,h2,h3,h4⟩
end VL
namespace VL
open PySem PySem.Spec PyProof.Rows L2
variable {K:PySem.W.Frag}
def OG(O:List Nat)(T:Tgt)(f:XE):XS:=fun s=>(f (YB O s)).bind fun l=>(X1 T l s).map .nx
theorem LF{X:Cx}{O:List Nat}{st:Stmt}{f:XE}{T:Tgt}(h:PS X st (Q8 (tF X.K f) (gT X.K T)))(hT:∀i∈T.slots,i∉O:=by decide):VS X O T.slots st (OG O T f):=PS.imp h fun D σ H ⟨H0,fps,s,out,r,e,k⟩=>by
 obtain⟨l,e1,e⟩:=Zg e
 obtain⟨s',e2,rfl⟩:=map_some e
 refine⟨Ow O fps,YB O s,l,r.owMut,r.envO,e1,fun v H1 fp s1 i1 n1=>?_⟩
 obtain⟨ls,vs,fs,rfl,hi,hl,sub,use⟩:=Qy (K:=X.K) i1 e2
 obtain⟨fps',r2,q2⟩:=Rel.setAll (is:=T.slots) (r.grow s1) hi hl hT fun j hj p hp z=>n1 p (sub p z) ⟨j,hj,hp⟩
 exact use σ D.nx (k fps' _ H1 r2 q2)
end VL
namespace VL
open PySem PySem.Spec PyProof.Rows L2
def LG(i:Nat)(f0:XE):XS:=fun s=>(f0 s).bind fun l0=>match s[i]? with
 | some (some l)=>if Z6 l0=true then some (.rt (.tup [l0,l])) else none
 | _=>none
theorem LH{X:Cx}{O:List Nat}{e:Expr}{i:Nat}{f0:XE}{pos:Pos}(he:PE X e (HV (Sn (tF X.K f0) (Sn (Rt i) KF))))(hi:i∈O:=by decide):VS X O [] (.Return (some e) pos) (LG i f0):=PS.imp (P4 he) fun D σ H ⟨H0,fps,s,out,r,e,k⟩=>by
 obtain⟨l0,e0,e⟩:=Zg e
 split at e
 case h_2=>cases e
 rename_i l em
 split at e
 case isFalse=>cases e
 rename_i pu
 cases e
 obtain⟨v,hv,iv⟩:=r.is i _ em
 refine⟨fun _=>False,s,l0,fun _ z=>z.elim,r.env,e0,fun v0 H1 f1 s1 i1 _=>?_⟩
 have:=Is.pure _ _ _ pu i1
 subst this
 refine⟨v,hv,(by show 2<=sizeLine;decide),fun q hq=>?_⟩
 have sn:Same H1 (upd H1 q (.tup [v0,v])):=Same.new hq _
 have r3:=r.grow s1
 refine k _ (fps i) _ (r3.same.trans sn) (Is.tup Zx ?_) (r.nd i hi) fun z hz=>?_
 ·have h1:=Iss.cons (i1.mono sn) (Iss.one ((iv.mono s1).mono sn))
  simpa using h1
 ·have:=r3.own i hi z hz
  exact⟨this.1,Same.mut sn this.2⟩
end VL
namespace PW
open PySem L2 VL
noncomputable def Vj:XS:=(Zp (Wo (xB (Zi MJ (Za 1) (Ze ZZ [(Za 0)]))) (ZK (eP (Zi ZQ (Za 0) (Za 1)))) ZY)
  (ZK (eP (Zi Xz (Zi VP (Zi Yu (Zi Yu (Zi VP (Za 1) (Za 1)) (Zi VP (eC (.int 3)) (Za 1))) (eC (.int 1))) (eC (.int 5003))) (eC (.int 1999))))))
noncomputable def ZF:List PV->Option PV:=YO 2 Vj
noncomputable def Ux:XS:=(Zp (Zr 3 (eP (Zi Oj (Za 0) (eC (.int 2)))))
  (Zp (Wo (U0 (xB (Zi (Yr false) (Zi Xz (Za 0) (eC (.int 2))) (eC (.int 1)))) (xB (Zi Np (Za 0) (Zi TM (eC (.int 10)) (eC (.int 9)))))) (Zp (Wa [] (ZS [(Za 1)]) (.one 4) (Zr 3 (eP (Zi Oj (Za 3) (eC (.int 1000))))))
  (ZK (eP (Zi Xz (Za 3) (Za 2))))) ZY)
  (Zp (Zr 3 (eP (Zi Yu (Zi Xz (Za 3) (eC (.int 999979))) (Zi VP (eC (.int 1009)) (Za 1)))))
  (Zp (Zr 3 (eP (Zi Xz (Zi Yu (Zi VP (Za 3) (Za 3)) (Zi VP (eC (.int 40503)) (Za 3))) (eC (.int 999983)))))
  (ZK (eP (Zi Xz (Zi Oj (Zi Xz (Zi Yu (Zi VP (Za 3) (Za 3)) (Zi VP (eC (.int 7)) (Za 1))) (eC (.int 999961))) (eC (.int 11))) (Za 2))))))))
noncomputable def Zn:List PV->Option PV:=YO 5 Ux
noncomputable def T9:XS:=(Zp (Zr 4 (eP (Ze Pn [(eC (.int 9)),(Zi Yu (Zi ZQ (Zi ZQ (Za 0) (Za 1)) (Za 2)) (Za 3))])))
  (Zp (WH 0 (Za 1) (Za 2) (Za 4))
  (WH 0 (Za 2) (Za 1) (Za 4))))
noncomputable def WP:List PV->Option PV:=Hx 5 T9
noncomputable def Sa:XS:=(Zp (Zr 2 (Ze ZF [(Za 0),(eC (.int 0))]))
  (Zp (Zr 3 (eP (Zi Yu (eC (.int 1)) (Ze Zn [(Za 2),(eC (.int 0)),(Za 1)]))))
  (Zp (Zr 4 (Zs 1 [3] (ZS [(Za 3)]) (.one 0) Zz (Zi Lo (VQ [(eC (.int 0))]) (Za 1))))
  (Zp (Zr 5 (VQ []))
  (Zp (Wa [4,5] (ZS [(Za 3)]) (.one 6) (WG 5 (Ze Zn [(Ze ZF [(Za 0),(Zi Yu (eC (.int 6)) (Za 6))]),(eC (.int 10)),(Zi Yu (Za 6) (eC (.int 1)))]) (Za 6)))
  (Zp (Wa [4,5] (Va [(eC (.int 1)),(Za 3)]) (.one 6) (Zp (Zr 7 (Ze ZF [(Za 0),(Za 6)]))
  (Pz 4 WP [(Zi ZQ (Za 5) (Za 6)),(Zi ZQ (Za 5) (Ze Zn [(Za 7),(eC (.int 1)),(Za 6)])),(Zi Yu (eC (.int 1)) (Ze Zn [(Za 7),(eC (.int 2)),(eC (.int 3))]))])))
  (Zp (Wo (xB (Zi Np (Za 3) (eC (.int 1)))) (Wa [4,5] (ZS [(Ze Zn [(Za 2),(eC (.int 3)),(eC (.int 6))])]) (.one 6) (Zp (Zr 7 (Ze ZF [(Za 0),(Zi Yu (eC (.int 7)) (Za 6))]))
  (Zp (Zr 8 (Ze Zn [(Za 7),(eC (.int 4)),(Za 3)]))
  (Zp (Zr 9 (eP (Zi Xz (Zi Yu (Zi Yu (Za 8) (eC (.int 1))) (Ze Zn [(Za 7),(eC (.int 5)),(Zi YT (Za 3) (eC (.int 1)))])) (Za 3))))
  (Pz 4 WP [(Za 8),(Za 9),(Zi Yu (eC (.int 1)) (Ze Zn [(Za 7),(eC (.int 6)),(eC (.int 2))]))]))))) ZY)
  (ZK (eP (Ze Yh [(Zs 1 [] (Xp (Za 4)) (.one 0) Zz (Ze Yh [(Za 0)]))]))))))))))
noncomputable def Vz:List PV->Option PV:=YO 10 Sa
noncomputable def VB:XS:=(Zp (Wo (xB (Zi (Yr false) (Zi Xz (Za 0) (eC (.int 5))) (eC (.int 4)))) (ZK (eP (Zi YT (Zi Xz (Zi SQ (Za 0) (Za 0)) (Zi SQ (eC (.int 2)) (Zi TM (eC (.int 10)) (eC (.int 29))))) (Zi TM (eC (.int 10)) (eC (.int 29)))))) ZY)
  (Zp (Wo (xB (Zi (Yr false) (Zi Xz (Za 0) (eC (.int 5))) (eC (.int 3)))) (ZK (eP (Zi YT (Zi Xz (Zi SR (Za 0) (eC (.int 5))) (eC (.int 2001))) (eC (.int 1000))))) ZY)
  (ZK (eP (Zi YT (Zi Xz (Zi SR (Za 0) (eC (.int 5))) (eC (.int 13))) (eC (.int 6)))))))
noncomputable def Wr:List PV->Option PV:=YO 1 VB
noncomputable def Te:XS:=(ZK (eP (Ze Yh [(Zs 1 [0,1] (ZS [(Za 2)]) (.one 0) Zz (Ze Wr [(Ze ZF [(Za 1),(Zi Yu (Za 2) (Za 0))])]))])))
noncomputable def Yg:List PV->Option PV:=YO 3 Te
noncomputable def VC:XS:=(ZK (eP (Ze X0 [(Zs 1 [0,1] (Xp (Za 2)) (.one 0) Zz (Zi ZQ (Zi ZQ (Za 1) (Za 2)) (Za 0)))])))
noncomputable def Ws:List PV->Option PV:=YO 3 VC
noncomputable def Y4:XS:=(Zp (Wa [] (Y9 false [(Za 1)]) (.many [3,4]) (Wo (U0 (xB (Zi (P3 true) (Za 3) (Za 2))) (xB (Zi MJ (Za 4) (Ze Ws [(Za 0),(Za 3),(Za 2)])))) (ZK (eP (Za 3))) ZY))
  (ZK (eP (eC .non))))
noncomputable def ZW:List PV->Option PV:=YO 5 Y4
noncomputable def Sb:XS:=(Zp (Zr 3 (VQ [(eP (Za 2))]))
  (Zp (Zr 4 (Ze ZW [(Za 0),(Za 1),(Za 3)]))
  (Zp (Vd (xB (WY true (Za 4))) (Zp (Wc 3 (eP (Za 4)))
  (Zr 4 (Ze ZW [(Za 0),(Za 1),(Za 3)]))))
  (ZK (Za 3)))))
noncomputable def Uy:List PV->Option PV:=YO 5 Sb
noncomputable def Uz:XS:=(Zp (Wo (TW (X9 (xB (Ze Wb [(Za 0),(eC (.ty "list"))]))) (xB (Zi Np (Ze ZZ [(Za 0)]) (Za 1)))) (ZK (eP (eC (.bl false)))) ZY)
  (ZK (eP (Ze Sz [(Zs 1 [1] (Xp (Za 0)) (.one 0) Zz (U2 (Ze YD [(Za 0)]) (Hv Fa MJ (eC (.int 0)) (Za 0) (Za 1))))]))))
noncomputable def X4:List PV->Option PV:=YO 2 Uz
noncomputable def UA:XS:=(Zp (Wa [] (ZS [(Ze ZZ [(Za 0)])]) (.one 3) (Zp (Zr 4 (eP (Ze X0 [(Zs 1 [0,3] (Xp (Za 2)) (.one 0) Zz (Zi ZQ (Zi ZQ (Za 1) (Za 2)) (Za 0)))])))
  (Wo (U0 (xB (Zi (P3 true) (Za 3) (Za 2))) (xB (Zi MJ (Zi ZQ (Za 1) (Za 3)) (Za 4)))) (ZK (eP (Za 3))) ZY)))
  (ZK (eP (eC .non))))
noncomputable def Xi:List PV->Option PV:=YO 5 UA
noncomputable def VD:XS:=(Zp (Wo (xB (Zi (Yr true) (T3 VU (Za 3) Q4 (UO (eC (.int 1)))) (VQ [(Za 2)]))) (ZK (eP (eC (.bl false)))) ZY)
  (Zp (Wa [] (Va [(eC (.int 1)),(Ze ZZ [(Za 3)])]) (.one 4) (Wo (xB (Zi (Yr true) (Ze Xi [(Za 0),(Za 1),(T3 VU (Za 3) Q4 (UO (Za 4)))]) (Zi ZQ (Za 3) (Za 4)))) (ZK (eP (eC (.bl false)))) ZY))
  (ZK (eP (WY false (Ze Xi [(Za 0),(Za 1),(Za 3)]))))))
noncomputable def XW:List PV->Option PV:=YO 5 VD
noncomputable def VF:XS:=(ZK (Zs 2 [1] (Y9 false [(Za 0)]) (.many [0,1]) (U0 (xB (Zi (Yr true) (Za 0) (Za 2))) (xB (Zi MJ (Za 1) (eC (.int 0))))) (eP (Za 0))))
noncomputable def YM:List PV->Option PV:=YO 2 VF
noncomputable def VG:XS:=(ZK (eP (Ze Yh [(Zs 2 [3,1,2,0] (VR false false [(Za 0),(Za 1)]) (.many [0,1]) Zz (Zi SR (Zi YT (Zi SQ (Zi ZQ (Za 3) (Za 4)) (Za 0)) (Zi SQ (Zi ZQ (Za 5) (Za 4)) (Za 1))) (Za 2)))])))
noncomputable def Xa:List PV->Option PV:=YO 4 VG
noncomputable def UB:XS:=(Zp (Zr 1 (Ze Xo [(Za 0)]))
  (Zp (Zr 2 (eP (eC (.int 1))))
  (Zp (Wa [1] (ZS [(Ze ZZ [(Za 0)])]) (.one 3) (Zp (Zr 4 (eP (Zi ZQ (Za 1) (Za 3))))
  (Zp (Zr 1 (Zs 2 [3,4,2] (Y9 true [(Za 1)]) (.many [0,1]) Zz (eP (Me (xB (Zi (Yr false) (Za 0) (Za 2))) (Za 1) (Ze Xa [(Za 1),(Za 3),(Za 2),(Za 4)])))))
  (Zr 2 (eP (Zi ZQ (Za 4) (Za 3)))))))
  (LG 1 (Za 2)))))
noncomputable def Wt:List PV->Option PV:=YO 5 UB
noncomputable def Xj:XS:=(Zp (Zr 2 (Ze Wt [(Zs 2 [] (VR false false [(Za 0),(Za 1)]) (.many [0,1]) Zz (Zi WW (Za 0) (Qt [(Za 1)])))]))
  (ZK (Zs 1 [2] (Xp (Zi ZQ (Za 2) (eC (.int 1)))) (.one 0) Zz (eP (Zi SR (Zi ZQ (Za 0) (Oo Rz (eC (.int 1)))) (Zi ZQ (Za 1) (eC (.int 0))))))))
noncomputable def YE:List PV->Option PV:=YO 3 Xj
noncomputable def UC:XS:=(ZK (eP (Ze Yh [(Zs 1 [1,0] (Xp (Za 2)) (.one 0) Zz (Me (xB (Zi (Yr false) (Za 0) (Za 1))) (Ze XV [(Za 2),(Za 1)]) (Oo Rz (Zi ZQ (Zi ZQ (Za 2) (Za 1)) (Za 0)))))])))
noncomputable def Vk:List PV->Option PV:=YO 3 UC
noncomputable def YZ:XS:=(Zp (Zr 2 (Zs 1 [1] (ZS [(Ze ZZ [(Za 0)])]) (.one 0) (xB (Zi (Yr true) (Za 0) (Za 1))) (eP (Za 0))))
  (ZK (eP (Ze Yh [(Zs 1 [0,2] (Xp (Za 2)) (.one 0) Zz (Ze Vk [(Za 1),(Za 0),(Za 2)]))]))))
noncomputable def Ya:List PV->Option PV:=YO 3 YZ
noncomputable def VH:XS:=(Zp (Zr 3 (eP (Zi WW (T3 TQ (Za 1) Q4 (UO (Za 2))) (T3 TQ (Za 1) (UO (Zi Yu (Za 2) (eC (.int 1)))) Q4))))
  (Zp (Zr 4 (Ze YE [(Ze Ya [(Za 0),(Za 2)]),(Za 3)]))
  (Zp (WG 4 (Za 2) (eC (.int 0)))
  (ZK (eP (Ze Yh [(Za 4)]))))))
noncomputable def Xt:List PV->Option PV:=YO 5 VH
noncomputable def We:XS:=(ZK (eP (Ze Yh [(Zs 1 [1] (ZS [(Ze ZZ [(Za 0)])]) (.one 0) Zz (Me (xB (Zi (P3 false) (Za 0) (Za 1))) (Oo Rz (eC (.int 1))) (eC (.int 0))))])))
noncomputable def YU:List PV->Option PV:=YO 2 We
noncomputable def QK:XS:=(Zp (Zr 1 (eP (Ze WX [(Za 0)])))
  (ZK (eP (Ze Yh [(Zs 1 [1] (Wq (Za 0)) (.one 0) Zz (Zi YT (Za 0) (Za 1)))]))))
noncomputable def XR:List PV->Option PV:=YO 2 QK
noncomputable def UD:XS:=(Zp (Zr 3 (Ze Xt [(Za 0),(Za 1),(Za 2)]))
  (Zp (Zr 4 (Ze Vg [(Za 0),(Za 1),(Za 3)]))
  (Zp (Zr 5 (Ze YM [(Za 4),(Za 2)]))
  (Zp (Vd (xB (Zi Np (Ze ZZ [(Za 5)]) (eC (.int 0)))) (Zp (Zr 6 (Ze YU [(Za 0),(Za 5)]))
  (Zp (Zr 3 (Ze Vh [(Za 3),(Za 6)]))
  (Zp (Zr 4 (Ze Vg [(Za 0),(Za 4),(Za 6)]))
  (Zr 5 (Ze YM [(Za 4),(Za 2)]))))))
  (ZK (Qt [(Ze XR [(Za 3)]),(eP (Za 4)),(Ze Uy [(Za 0),(Za 4),(Za 2)])]))))))
noncomputable def ZM:List PV->Option PV:=YO 7 UD
noncomputable def NE:XS:=(ZK (eP (U2 (Ze Wb [(Za 0),(eC (.ty "tuple"))]) (U2 (Zi (Yr false) (Ze ZZ [(Za 0)]) (Za 1)) (Ze Sz [(Zs 1 [] (Wq (Za 0)) (.one 0) Zz (Ze YD [(Za 0)]))])))))
noncomputable def Yy:List PV->Option PV:=YO 2 NE
noncomputable def Sc:XS:=(Zp (Zr 3 (VQ []))
  (Zp (Wa [3] (ZS [(Ze ZZ [(Za 0)])]) (.one 4) (Zp (Zr 5 (eP (Ze X0 [(Zs 1 [0,4,2] (ZS [(Ze ZZ [(Za 0)])]) (.one 0) Zz (Zi VP (Zi ZQ (Zi ZQ (Za 1) (Za 2)) (Za 0)) (Zi YT (Zi ZQ (Za 3) (Za 2)) (Zi ZQ (Za 3) (Za 0)))))])))
  (Wc 3 (eP (Zi YT (Zi ZQ (Za 1) (Za 4)) (Za 5))))))
  (ZK (eP (Ze Yh [(Za 3)])))))
noncomputable def YQ:List PV->Option PV:=YO 6 Sc
noncomputable def Wf:XS:=(Zp (Wo (TW (X9 (xB (Ze Wb [(Za 3),(eC (.ty "tuple"))]))) (xB (Zi (Yr true) (Ze ZZ [(Za 3)]) (eC (.int 3))))) (ZK (eP (eC (.bl false)))) ZY)
  (Zp (OG [] (.many [4,5,6]) (Za 3))
  (Zp (Wo (TW (X9 (xB (Ze Yy [(Za 4),(Ze ZZ [(Za 0)])]))) (TW (X9 (xB (Ze Yy [(Za 5),(Ze ZZ [(Za 0)])]))) (X9 (xB (Ze X4 [(Za 6),(Ze ZZ [(Za 0)])]))))) (ZK (eP (eC (.bl false)))) ZY)
  (Zp (Wo (TW (xB (Zi (Yr true) (Ze WX [(Za 4)]) (eC (.int 0)))) (TW (xB (Zi (Yr true) (Ze YQ [(Za 0),(Za 1),(Za 4)]) (Za 5))) (xB (Zi (Yr true) (Ze WO [(Za 6)]) (Oo Vi (Ze ZZ [(Za 0)])))))) (ZK (eP (eC (.bl false)))) ZY)
  (Zp (Wo (X9 (xB (Ze XW [(Za 0),(Za 5),(Za 2),(Za 6)]))) (ZK (eP (eC (.bl false)))) ZY)
  (ZK (eP (Ze Sz [(Zs 1 [5,2] (ZS [(Ze ZZ [(Za 0)])]) (.one 0) (xB (Zi (Yr true) (Za 0) (Za 2))) (Zi GE (Zi ZQ (Za 1) (Za 0)) (eC (.int 0))))]))))))))
noncomputable def Ys:List PV->Option PV:=YO 7 Wf
noncomputable def VJ:XS:=(Zp (Zr 3 (Ze ZM [(Za 0),(Za 1),(eC (.int 0))]))
  (Zp (Zr 4 (Ze ZM [(Za 0),(Za 2),(eC (.int 0))]))
  (Zp (Wo (xB (Zi (Yr true) (Zi ZQ (Za 3) (eC (.int 1))) (Zi ZQ (Za 4) (eC (.int 1))))) (ZK (eP (eC .non))) ZY)
  (ZK (Ze XR [(Ze WN [(Zi ZQ (Za 3) (eC (.int 0))),(Zi ZQ (Za 4) (eC (.int 0)))])])))))
noncomputable def YR:List PV->Option PV:=YO 5 VJ
noncomputable def QL:XS:=(Zp (Zr 1 (eP (Ze WX [(Za 0)])))
  (ZK (eP (Ze Yh [(Zs 1 [1] (Xp (Za 0)) (.one 0) Zz (Zi YT (Za 0) (Za 1)))]))))
noncomputable def Wg:List PV->Option PV:=YO 2 QL
end PW
namespace L2
open PySem PySem.Spec PyProof.Rows
abbrev WJ:=Addr->Obj->List (List TV×V)->It
end L2
namespace PW
open PySem L2 VL
noncomputable def VN:XS:=(Zp (Zr 2 (eP (Ze ZZ [(Za 1)])))
  (Zp (Zr 3 (Ze Xo [(Ze Yg [(Za 0),(eC (.int 20)),(Za 2)])]))
  (Zp (Xq 3 (eC (.int 0)) (Zi YT (Zi Yu (Zi ZQ (Za 3) (eC (.int 0))) (Ze X0 [(Za 1)])) (Ze X0 [(Za 3)])))
  (Zp (Wo (xB (Zi (Yr false) (Ze Zn [(Ze ZF [(Za 0),(eC (.int 12))]),(eC (.int 9)),(eC (.int 2))]) (eC (.int 0)))) (Zp (Zr 3 (Ze Xo [(Za 1)]))
  (Wa [3] (Xp (T3 VU (Za 0) (UO (eC (.int 20))) (UO (eC (.int 62))))) (.one 4) (Zp (Zr 5 (Ze Zn [(Za 4),(eC (.int 8)),(Za 2)]))
  (Zp (Zr 6 (Ze Zn [(Za 4),(eC (.int 9)),(Za 2)]))
  (Zp (Xq 3 (Za 5) (Zi YT (Zi ZQ (Za 3) (Za 5)) (eC (.int 1))))
  (Xq 3 (Za 6) (Zi Yu (Zi ZQ (Za 3) (Za 6)) (eC (.int 1))))))))) ZY)
  (ZK (eP (Ze Yh [(Za 3)])))))))
noncomputable def Wu:List PV->Option PV:=YO 7 VN
noncomputable def NF:XS:=(Zp (Zr 1 (Ze Vz [(Za 0),(eC (.int 7))]))
  (Zp (Zr 2 (eP (Ze ZZ [(Za 1)])))
  (Zp (Zr 3 (eP (Ze Yh [(Zs 1 [] (Wq (Ze Yg [(Za 0),(eC (.int 13)),(Za 2)])) (.one 0) Zz (Zi Xz (Za 0) (Zi TM (eC (.int 10)) (eC (.int 28)))))])))
  (Zp (Zr 4 (Ze Wu [(Za 0),(Za 3)]))
  (Zp (Zr 5 (Ze Zn [(Ze ZF [(Za 0),(eC (.int 12))]),(eC (.int 7)),(Za 2)]))
  (Zp (Zr 6 (Ze YR [(Za 1),(Za 3),(Za 4)]))
  (Zp (Zr 7 (Ze YR [(Za 1),(Za 4),(Za 3)]))
  (Zp (Wo (xB (WY true (Za 6))) (Zp (Wo (TW (X9 (xB (Ze Yy [(Za 6),(Za 2)]))) (TW (xB (Zi (Yr true) (Ze WX [(Za 6)]) (eC (.int 0)))) (xB (Zi (Yr true) (Ze YQ [(Za 1),(Za 3),(Za 6)]) (Za 4))))) (ZK (eP (eC (.bl false)))) ZY)
  (ZK (eP (Zi (Yr false) (Za 7) (Ze Wg [(Zs 1 [] (Wq (Za 6)) (.one 0) Zz (Zi YT (eC (.int 0)) (Za 0)))]))))) ZY)
  (Zp (Zr 8 (Ze ZM [(Za 1),(Za 3),(Za 5)]))
  (Zp (Zr 9 (Ze ZM [(Za 1),(Za 4),(Za 5)]))
  (Zp (Wo (TW (X9 (xB (Ze Ys [(Za 1),(Za 3),(Za 5),(Za 8)]))) (X9 (xB (Ze Ys [(Za 1),(Za 4),(Za 5),(Za 9)])))) (ZK (eP (eC (.bl false)))) ZY)
  (ZK (eP (U2 (WY false (Za 7)) (Zi (Yr true) (Zi ZQ (Za 8) (eC (.int 1))) (Zi ZQ (Za 9) (eC (.int 1))))))))))))))))))
noncomputable def D_law:List PV->Option PV:=YO 10 NF
def Vl(i:Nat):Stmt:=PySem.Challenge.pw_purseweb_k33_whole_alike_or_two_settled.main.body.getD i (.Pass ⟨0,0,0,0⟩)
section
variable {P:Program} {w:World} {K:PySem.W.Frag} {mg:Str->Option Value} {base:Heap}
abbrev SU:Stmt:=Vl 27
theorem Mm:Zw (["_law_script_here","_law_k"]:List Str) (["_law_script_here","_law_k"]:List Str) (Zk SU):=⟨rfl,rfl,rfl,by decide +kernel,rfl,by decide +kernel,by decide +kernel⟩
theorem Mn(Df:Def K mg "_law_cell" SU)(B:W7 mg):Yv P w K mg base "_law_cell" (["_law_script_here","_law_k"]:List Str) (Yt K ZF 2) 1:=
 ZR (O:=[]) (k:=0) 2 Vj Df Mm (fun _ _ _ _ _ _ us hl=>match us,hl with | [_,_],_=>rfl) rfl rfl (by decide) (fun fa cdv A outer s H E hr=>
  (Zh (Xg (Nq (Zd (pv 1)) (Zu Z2 YG rfl B.len (by decide +kernel) (Zc (Zd (pv 0)) Zf))) (Zm (ZB (VE.pure (ZA (Zd (pv 0)) (Zd (pv 1)))))) Yj)
  (Zm (ZB (VE.pure (Xf (Wj (Yz (Yz (Wj (Zd (pv 1)) (Zd (pv 1))) (Wj Zj (Zd (pv 1)))) Zj) Zj) Zj))))))
abbrev SV:Stmt:=Vl 28
theorem sc_l_part:Zw (["_law_cell_here","_law_turn","_law_many","_law_x","_law_k"]:List Str) (["_law_cell_here","_law_turn","_law_many"]:List Str) (Zk SV):=⟨rfl,rfl,rfl,by decide +kernel,rfl,by decide +kernel,by decide +kernel⟩
theorem Mo(Df:Def K mg "_law_part" SV)(B:W7 mg):Yv P w K mg base "_law_part" (["_law_cell_here","_law_turn","_law_many"]:List Str) (Yt K Zn 3) 1:=
 ZR (O:=[]) (k:=0) 5 Ux Df sc_l_part (fun _ _ _ _ _ _ us hl=>match us,hl with | [_,_,_],_=>rfl) rfl rfl (by decide) (fun fa cdv A outer s H E hr=>
  (Zh (Zy (i:=3) sc_l_part.nd rfl (Or.inl rfl) (VE.pure (Qp (Zd (pv 0)) Zj)))
  (Zh (Xg (VW.vt (Qr (R4 hr.units (Xf (Zd (pv 0)) Zj) Zj) (TX (Nr (Zd (pv 0)) (Qq Zj Zj))))) (Zh (Wk PassesOwn.never rfl (Yo rfl B.range (Zc (Zd (pv 1)) Zf)) (Zt (i:=4) sc_l_part.nd rfl (Or.inl rfl)) (Zm (Zy (i:=3) sc_l_part.nd rfl (Or.inl rfl) (VE.pure (Qp (Zd (pv 3)) Zj)))))
  (Zm (ZB (VE.pure (Xf (Zd (pv 3)) (Zd (pv 2))))))) Yj)
  (Zh (Zy (i:=3) sc_l_part.nd rfl (Or.inl rfl) (VE.pure (Yz (Xf (Zd (pv 3)) Zj) (Wj Zj (Zd (pv 1))))))
  (Zh (Zy (i:=3) sc_l_part.nd rfl (Or.inl rfl) (VE.pure (Xf (Yz (Wj (Zd (pv 3)) (Zd (pv 3))) (Wj Zj (Zd (pv 3)))) Zj)))
  (Zm (ZB (VE.pure (Xf (Qp (Xf (Yz (Wj (Zd (pv 3)) (Zd (pv 3))) (Wj Zj (Zd (pv 1)))) Zj) Zj) (Zd (pv 2)))))))))))
abbrev QM:Stmt:=Vl 29
theorem sc_l_tie:Zw (["_law_times","_law_one","_law_other_here","_law_more","_law_many"]:List Str) (["_law_times","_law_one","_law_other_here","_law_more"]:List Str) (Zk QM):=⟨rfl,rfl,rfl,by decide +kernel,rfl,by decide +kernel,by decide +kernel⟩
theorem LI(Df:Def K mg "_law_tie" QM)(B:W7 mg):Yv P w K mg base "_law_tie" (["_law_times","_law_one","_law_other_here","_law_more"]:List Str) (Hw K WP 4) 1:=
 Jl (k:=0) 5 T9 Df sc_l_tie (fun _ _ _ _ _ _ us hl=>match us,hl with | [_,_,_,_],_=>rfl) rfl rfl (fun fa cdv A outer s H E hr=>
  (R9 (VS.vs0 (Zy (i:=4) sc_l_tie.nd rfl (Or.inl rfl) (VE.pure (Zu (N7 rfl) K9 rfl B.min (by decide +kernel) (Zc Zj (Zc (Yz (ZA (ZA (Zd (pv 0)) (Zd (pv 1))) (Zd (pv 2))) (Zd (pv 3))) Zf))))))
  (R9 (SO (UP (Zd (pv 4)) (Sk (MU ix_list (pv 0) (Zd (pv 1)) (fun _ _=>rfl)) (Zd (pv 2)) W8)))
  (LB (SO (UP (Zd (pv 4)) (Sk (MU ix_list (pv 0) (Zd (pv 2)) (fun _ _=>rfl)) (Zd (pv 1)) W8)))))))
abbrev QN:Stmt:=Vl 30
theorem sc_l_web:Zw (["_law_script_here","_law_most","_law_first","_law_houses","_law_times","_law_spots","_law_k","_law_cell_here","_law_one","_law_other_here"]:List Str) (["_law_script_here","_law_most"]:List Str) (Zk QN):=⟨rfl,rfl,rfl,by decide +kernel,rfl,by decide +kernel,by decide +kernel⟩
theorem LJ(Df:Def K mg "_law_web" QN)(B:W7 mg)(C_m_cell:Yv P w K mg base "_law_cell" (["_law_script_here","_law_k"]:List Str) (Yt K ZF 2) 1)(C_l_part:Yv P w K mg base "_law_part" (["_law_cell_here","_law_turn","_law_many"]:List Str) (Yt K Zn 3) 1)(C_l_tie:Yv P w K mg base "_law_tie" (["_law_times","_law_one","_law_other_here","_law_more"]:List Str) (Hw K WP 4) 1):Yv P w K mg base "_law_web" (["_law_script_here","_law_most"]:List Str) (Yt K Vz 2) 2:=
 ZR (O:=[4,5]) (k:=1) 10 Sa Df sc_l_web (fun _ _ _ _ _ _ us hl=>match us,hl with | [_,_],_=>rfl) rfl rfl (by decide) (fun fa cdv A outer s H E hr=>
  (Zh (Zy (i:=2) sc_l_web.nd rfl (Or.inl rfl) (Zl C_m_cell (hr.mono (by decide)) rfl (Zc (Zd (pv 0)) (Zc Zj Zf))))
  (Zh (Zy (i:=3) sc_l_web.nd rfl (Or.inr rfl) (VE.pure (Yz Zj (VM.ve (Zl C_l_part (hr.mono (by decide)) rfl (Zc (Zd (pv 2)) (Zc Zj (Zc (Zd (pv 1)) Zf))))))))
  (Zh (Nz (["_law_k"]:List Str) (["_law_houses"]:List Str) [3] (i:=4) sc_l_web.nd rfl rfl rfl (Yo rfl B.range (Zc (Zd (pv 3)) Zf)) (by kernel_rfl) (fun _ _ _ _ _=>(Zt (i:=0) (show((["_law_k"]:List Str)++(["_law_houses"]:List Str)).Nodup by decide +kernel) rfl (Or.inl rfl) (.inr rfl))) (fun _ _ _ _ _=>Z3) (fun _ _ _ _ _=>(IV (Lb (Zc Zj Zf)) (Zd (pv 1)))))
  (Zh (Zy (i:=5) sc_l_web.nd rfl (Or.inl rfl) (Oq TZ))
  (Zh (Wk PassesOwn.never rfl (Yo rfl B.range (Zc (Zd (pv 3)) Zf)) (Zt (i:=6) sc_l_web.nd rfl (Or.inl rfl)) (Zm (R3 (Vu (Nj PySem.F.plainAttrs_list PySem.F.slot_list_insert PySem.F.type_list_insert RN (pv 5) (Y2 (VM.ve (Zl C_l_part (hr.mono (by decide)) rfl (Zc (VM.ve (Zl C_m_cell (hr.mono (by decide)) rfl (Zc (Zd (pv 0)) (Zc (Yz Zj (Zd (pv 6))) Zf)))) (Zc Zj (Zc (Yz (Zd (pv 6)) Zj) Zf))))) (Y2 (Zd (pv 6)) V2)))))))
  (Zh (Wk PassesOwn.never rfl (RU rfl B.range (Zc Zj (Zc (Zd (pv 3)) Zf))) (Zt (i:=6) sc_l_web.nd rfl (Or.inl rfl)) (Zh (Zy (i:=7) sc_l_web.nd rfl (Or.inl rfl) (Zl C_m_cell (hr.mono (by decide)) rfl (Zc (Zd (pv 0)) (Zc (Zd (pv 6)) Zf))))
  (Zm (LD (Vu (Og C_l_tie (hr.mono (by decide)) rfl (Y2 (pv 4) (Zc (ZA (Zd (pv 5)) (Zd (pv 6))) (Zc (ZA (Zd (pv 5)) (VM.ve (Zl C_l_part (hr.mono (by decide)) rfl (Zc (Zd (pv 7)) (Zc Zj (Zc (Zd (pv 6)) Zf)))))) (Zc (Yz Zj (VM.ve (Zl C_l_part (hr.mono (by decide)) rfl (Zc (Zd (pv 7)) (Zc Zj (Zc Zj Zf)))))) Zf))))))))))
  (Zh (Xg (Nr (Zd (pv 3)) Zj) (Zm (Wk PassesOwn.never rfl (Yo rfl B.range (Zc (VM.ve (Zl C_l_part (hr.mono (by decide)) rfl (Zc (Zd (pv 2)) (Zc Zj (Zc Zj Zf))))) Zf)) (Zt (i:=6) sc_l_web.nd rfl (Or.inl rfl)) (Zh (Zy (i:=7) sc_l_web.nd rfl (Or.inl rfl) (Zl C_m_cell (hr.mono (by decide)) rfl (Zc (Zd (pv 0)) (Zc (Yz Zj (Zd (pv 6))) Zf))))
  (Zh (Zy (i:=8) sc_l_web.nd rfl (Or.inl rfl) (Zl C_l_part (hr.mono (by decide)) rfl (Zc (Zd (pv 7)) (Zc Zj (Zc (Zd (pv 3)) Zf)))))
  (Zh (Zy (i:=9) sc_l_web.nd rfl (Or.inl rfl) (VE.pure (Xf (Yz (Yz (Zd (pv 8)) Zj) (VM.ve (Zl C_l_part (hr.mono (by decide)) rfl (Zc (Zd (pv 7)) (Zc Zj (Zc (Xe (Zd (pv 3)) Zj) Zf)))))) (Zd (pv 3)))))
  (Zm (LD (Vu (Og C_l_tie (hr.mono (by decide)) rfl (Y2 (pv 4) (Zc (Zd (pv 8)) (Zc (Zd (pv 9)) (Zc (Yz Zj (VM.ve (Zl C_l_part (hr.mono (by decide)) rfl (Zc (Zd (pv 7)) (Zc Zj (Zc Zj Zf)))))) Zf))))))))))))) Yj)
  (Zm (ZB (VE.pure (Z5 ZE Yi rfl B.tuple (by decide +kernel) (Zc (Yc (["_law_row_here"]:List Str) ([]:List Str) [] rfl (XQ (Zd (pv 4))) (by kernel_rfl) (fun _ _ _ _ _=>(Zt (i:=0) (show((["_law_row_here"]:List Str)++([]:List Str)).Nodup by decide +kernel) rfl (Or.inl rfl) (.inr rfl))) (fun _ _ _ _ _=>Z3) (fun _ _ _ _ _=>(Z5 ZE Yi rfl B.tuple (by decide +kernel) (Zc (Zd (pv 0)) Zf)))) Zf)))))))))))))
abbrev Tf:Stmt:=Vl 31
theorem OH:Zw (["_law_cell_here"]:List Str) (["_law_cell_here"]:List Str) (Zk Tf):=⟨rfl,rfl,rfl,by decide +kernel,rfl,by decide +kernel,by decide +kernel⟩
theorem OI(Df:Def K mg "_law_coins" Tf)(B:W7 mg):Yv P w K mg base "_law_coins" (["_law_cell_here"]:List Str) (Yt K Wr 1) 1:=
 ZR (O:=[]) (k:=0) 1 VB Df OH (fun _ _ _ _ _ _ us hl=>match us,hl with | [_],_=>rfl) rfl rfl (by decide) (fun fa cdv A outer s H E hr=>
  (Zh (Xg (R4 hr.units (Xf (Zd (pv 0)) Zj) Zj) (Zm (ZB (VE.pure (Xe (Xf (T8 (Zd (pv 0)) (Zd (pv 0))) (T8 Zj (Qq Zj Zj))) (Qq Zj Zj))))) Yj)
  (Zh (Xg (R4 hr.units (Xf (Zd (pv 0)) Zj) Zj) (Zm (ZB (VE.pure (Xe (Xf (Uw (Zd (pv 0)) Zj) Zj) Zj)))) Yj)
  (Zm (ZB (VE.pure (Xe (Xf (Uw (Zd (pv 0)) Zj) Zj) Zj)))))))
abbrev Tg:Stmt:=Vl 32
theorem OJ:Zw (["_law_script_here","_law_at","_law_houses"]:List Str) (["_law_script_here","_law_at","_law_houses"]:List Str) (Zk Tg):=⟨rfl,rfl,rfl,by decide +kernel,rfl,by decide +kernel,by decide +kernel⟩
theorem OK(Df:Def K mg "_law_purse" Tg)(B:W7 mg)(C_m_coins:Yv P w K mg base "_law_coins" (["_law_cell_here"]:List Str) (Yt K Wr 1) 1)(C_m_cell:Yv P w K mg base "_law_cell" (["_law_script_here","_law_k"]:List Str) (Yt K ZF 2) 1):Yv P w K mg base "_law_purse" (["_law_script_here","_law_at","_law_houses"]:List Str) (Yt K Yg 3) 2:=
 ZR (O:=[]) (k:=1) 3 Te Df OJ (fun _ _ _ _ _ _ us hl=>match us,hl with | [_,_,_],_=>rfl) rfl rfl (by decide) (fun fa cdv A outer s H E hr=>
  (Zm (ZB (VE.pure (Z5 ZE Yi rfl B.tuple (by decide +kernel) (Zc (Yc (["_law_k"]:List Str) (["_law_script_here","_law_at"]:List Str) [0,1] rfl (Yo rfl B.range (Zc (Zd (pv 2)) Zf)) (by kernel_rfl) (fun _ _ _ _ _=>(Zt (i:=0) (show((["_law_k"]:List Str)++(["_law_script_here","_law_at"]:List Str)).Nodup by decide +kernel) rfl (Or.inl rfl) (.inr rfl))) (fun _ _ _ _ _=>Z3) (fun _ _ _ _ _=>(VM.ve (Zl C_m_coins (hr.mono (by decide)) rfl (Zc (VM.ve (Zl C_m_cell (hr.mono (by decide)) rfl (Zc (Zd (pv 1)) (Zc (Yz (Zd (pv 2)) (Zd (pv 0))) Zf)))) Zf))))) Zf))))))
abbrev Th:Stmt:=Vl 43
theorem sc_l_other:Zw (["_law_script_here","_law_purse_here","_law_houses","_law_coins_here","_law_cell_here","_law_one","_law_other_here"]:List Str) (["_law_script_here","_law_purse_here"]:List Str) (Zk Th):=⟨rfl,rfl,rfl,by decide +kernel,rfl,by decide +kernel,by decide +kernel⟩
theorem OL(Df:Def K mg "_law_other" Th)(B:W7 mg)(C_l_purse:Yv P w K mg base "_law_purse" (["_law_script_here","_law_at","_law_houses"]:List Str) (Yt K Yg 3) 2)(C_l_part:Yv P w K mg base "_law_part" (["_law_cell_here","_law_turn","_law_many"]:List Str) (Yt K Zn 3) 1)(C_m_cell:Yv P w K mg base "_law_cell" (["_law_script_here","_law_k"]:List Str) (Yt K ZF 2) 1):Yv P w K mg base "_law_other" (["_law_script_here","_law_purse_here"]:List Str) (Yt K Wu 2) 3:=
 ZR (O:=[3]) (k:=2) 7 VN Df sc_l_other (fun _ _ _ _ _ _ us hl=>match us,hl with | [_,_],_=>rfl) rfl rfl (by decide) (fun fa cdv A outer s H E hr=>
  (Zh (Zy (i:=2) sc_l_other.nd rfl (Or.inl rfl) (VE.pure (Zu Z2 YG rfl B.len (by decide +kernel) (Zc (Zd (pv 1)) Zf))))
  (Zh (Zy (i:=3) sc_l_other.nd rfl (Or.inl rfl) (U3 Wy Sy rfl B.list (by decide +kernel) (Zc (VM.ve (Zl C_l_purse (hr.mono (by decide)) rfl (Zc (Zd (pv 0)) (Zc Zj (Zc (Zd (pv 2)) Zf))))) Zf)))
  (Zh (SF (UP (Xe (Yz (ZA (Zd (pv 3)) Zj) (Zu (Xn rfl) V4 rfl B.sum (by decide +kernel) (Zc (Zd (pv 1)) Zf))) (Zu (Xn rfl) V4 rfl B.sum (by decide +kernel) (Zc (Zd (pv 3)) Zf))) (Sk (pv 3) Zj W8)))
  (Zh (Xg (R4 hr.units (VM.ve (Zl C_l_part (hr.mono (by decide)) rfl (Zc (VM.ve (Zl C_m_cell (hr.mono (by decide)) rfl (Zc (Zd (pv 0)) (Zc Zj Zf)))) (Zc Zj (Zc Zj Zf))))) Zj) (Zh (Zy (i:=3) sc_l_other.nd rfl (Or.inl rfl) (U3 Wy Sy rfl B.list (by decide +kernel) (Zc (Zd (pv 1)) Zf)))
  (Zm (Wk PassesOwn.never rfl (XQ (U4 (Zd (pv 0)) (Vx Zj) (Vx Zj))) (Zt (i:=4) sc_l_other.nd rfl (Or.inl rfl)) (Zh (Zy (i:=5) sc_l_other.nd rfl (Or.inl rfl) (Zl C_l_part (hr.mono (by decide)) rfl (Zc (Zd (pv 4)) (Zc Zj (Zc (Zd (pv 2)) Zf)))))
  (Zh (Zy (i:=6) sc_l_other.nd rfl (Or.inl rfl) (Zl C_l_part (hr.mono (by decide)) rfl (Zc (Zd (pv 4)) (Zc Zj (Zc (Zd (pv 2)) Zf)))))
  (Zh (SF (UP (Xe (ZA (Zd (pv 3)) (Zd (pv 5))) Zj) (Sk (pv 3) (Zd (pv 5)) W8)))
  (Zm (SF (UP (Yz (ZA (Zd (pv 3)) (Zd (pv 6))) Zj) (Sk (pv 3) (Zd (pv 6)) W8)))))))))) Yj)
  (Zm (ZB (VE.pure (Z5 ZE Yi rfl B.tuple (by decide +kernel) (Zc (Zd (pv 3)) Zf))))))))))
abbrev Ti:Stmt:=Vl 16
theorem OM:Zw (["row","by","place","divisor"]:List Str) (["row","by","place","divisor"]:List Str) (Zk Ti):=⟨rfl,rfl,rfl,by decide +kernel,rfl,by decide +kernel,by decide +kernel⟩
theorem ON(Df:Def K mg "reduced" Ti)(B:W7 mg):Yv P w K mg base "reduced" (["row","by","place","divisor"]:List Str) (Yt K Xa 4) 1:=
 ZR (O:=[]) (k:=0) 4 VG Df OM (fun _ _ _ _ _ _ us hl=>match us,hl with | [_,_,_,_],_=>rfl) rfl rfl (by decide) (fun fa cdv A outer s H E hr=>
  (Zm (ZB (VE.pure (Z5 ZE Yi rfl B.tuple (by decide +kernel) (Zc (Yc (["number","other"]:List Str) (["divisor","by","place","row"]:List Str) [3,1,2,0] rfl (Qx false false rfl B.zip (Zc (Zd (pv 0)) (Zc (Zd (pv 1)) Zf))) (by kernel_rfl) (fun _ _ _ _ _=>(Wi (n:=2) rfl (ZT (Zt (i:=0) (show((["number","other"]:List Str)++(["divisor","by","place","row"]:List Str)).Nodup by decide +kernel) rfl (Or.inl rfl) (.inr rfl)) (ZT (Zt (i:=1) (show((["number","other"]:List Str)++(["divisor","by","place","row"]:List Str)).Nodup by decide +kernel) rfl (Or.inl rfl) (.inr rfl)) Xx)))) (fun _ _ _ _ _=>Z3) (fun _ _ _ _ _=>(Uw (Xe (T8 (ZA (Zd (pv 3)) (Zd (pv 4))) (Zd (pv 0))) (T8 (ZA (Zd (pv 5)) (Zd (pv 4))) (Zd (pv 1)))) (Zd (pv 2))))) Zf))))))
abbrev SW:Stmt:=Vl 15
theorem sc_evened:Zw (["rows","left","divisor","place","by"]:List Str) (["rows"]:List Str) (Zk SW):=⟨rfl,rfl,rfl,by decide +kernel,rfl,by decide +kernel,by decide +kernel⟩
theorem Mp(Df:Def K mg "evened" SW)(B:W7 mg)(C_reduced:Yv P w K mg base "reduced" (["row","by","place","divisor"]:List Str) (Yt K Xa 4) 1):Yv P w K mg base "evened" (["rows"]:List Str) (Yt K Wt 1) 2:=
 ZR (O:=[1]) (k:=1) 5 UB Df sc_evened (fun _ _ _ _ _ _ us hl=>match us,hl with | [_],_=>rfl) rfl rfl (by decide) (fun fa cdv A outer s H E hr=>
  (Zh (Zy (i:=1) sc_evened.nd rfl (Or.inl rfl) (U3 Wy Sy rfl B.list (by decide +kernel) (Zc (Zd (pv 0)) Zf)))
  (Zh (Zy (i:=2) sc_evened.nd rfl (Or.inr rfl) (VE.pure Zj))
  (Zh (Wk PassesOwn.never rfl (Yo rfl B.range (Zc (Zu Z2 YG rfl B.len (by decide +kernel) (Zc (Zd (pv 0)) Zf)) Zf)) (Zt (i:=3) sc_evened.nd rfl (Or.inr rfl)) (Zh (Zy (i:=4) sc_evened.nd rfl (Or.inr rfl) (VE.pure (ZA (Zd (pv 1)) (Zd (pv 3)))))
  (Zh (Nz (["at","row"]:List Str) (["place","by","divisor"]:List Str) [3,4,2] (i:=1) sc_evened.nd rfl rfl rfl (Uk true rfl B.enumerate (Zc (Zd (pv 1)) Zf)) (by kernel_rfl) (fun _ _ _ _ _=>(Wi (n:=2) rfl (ZT (Zt (i:=0) (show((["at","row"]:List Str)++(["place","by","divisor"]:List Str)).Nodup by decide +kernel) rfl (Or.inl rfl) (.inr rfl)) (ZT (Zt (i:=1) (show((["at","row"]:List Str)++(["place","by","divisor"]:List Str)).Nodup by decide +kernel) rfl (Or.inl rfl) (.inr rfl)) Xx)))) (fun _ _ _ _ _=>Z3) (fun _ _ _ _ _=>(VE.pure (M8 (R4 hr.units (Zd (pv 0)) (Zd (pv 2))) (Zd (pv 1)) (VM.ve (Zl C_reduced (hr.mono (by decide)) rfl (Zc (Zd (pv 1)) (Zc (Zd (pv 3)) (Zc (Zd (pv 2)) (Zc (Zd (pv 4)) Zf))))))))))
  (Zm (Zy (i:=2) sc_evened.nd rfl (Or.inr rfl) (VE.pure (ZA (Zd (pv 4)) (Zd (pv 3)))))))))
  (Zm (LH (Oa (Y2 (Zd (pv 2)) (Y2 (pv 1) V2)))))))))
abbrev X5:Stmt:=Vl 14
theorem sc_solved_below:Zw (["square","column","told"]:List Str) (["square","column"]:List Str) (Zk X5):=⟨rfl,rfl,rfl,by decide +kernel,rfl,by decide +kernel,by decide +kernel⟩
theorem TR(Df:Def K mg "solved_below" X5)(B:W7 mg)(C_evened:Yv P w K mg base "evened" (["rows"]:List Str) (Yt K Wt 1) 2):Yv P w K mg base "solved_below" (["square","column"]:List Str) (Yt K YE 2) 3:=
 ZR (O:=[]) (k:=2) 3 Xj Df sc_solved_below (fun _ _ _ _ _ _ us hl=>match us,hl with | [_,_],_=>rfl) rfl rfl (by decide) (fun fa cdv A outer s H E hr=>
  (Zh (Zy (i:=2) sc_solved_below.nd rfl (Or.inr rfl) (Zl C_evened (hr.mono (by decide)) rfl (Zc (Yc (["row","number"]:List Str) ([]:List Str) [] rfl (Qx false false rfl B.zip (Zc (Zd (pv 0)) (Zc (Zd (pv 1)) Zf))) (by kernel_rfl) (fun _ _ _ _ _=>(Wi (n:=2) rfl (ZT (Zt (i:=0) (show((["row","number"]:List Str)++([]:List Str)).Nodup by decide +kernel) rfl (Or.inl rfl) (.inr rfl)) (ZT (Zt (i:=1) (show((["row","number"]:List Str)++([]:List Str)).Nodup by decide +kernel) rfl (Or.inl rfl) (.inr rfl)) Xx)))) (fun _ _ _ _ _=>Z3) (fun _ _ _ _ _=>(VZ NA NB (Zd (pv 0)) (IP (Zc (Zd (pv 1)) Zf))))) Zf)))
  (Zm (ZB (QA (["row"]:List Str) (["told"]:List Str) [2] rfl (XQ (ZA (Zd (pv 2)) Zj)) (by kernel_rfl) (fun _ _ _ _ _=>(Zt (i:=0) (show((["row"]:List Str)++(["told"]:List Str)).Nodup by decide +kernel) rfl (Or.inl rfl) (.inr rfl))) (fun _ _ _ _ _=>Z3) (fun _ _ _ _ _=>(VE.pure (Uw (ZA (Zd (pv 0)) (Op Zj)) (ZA (Zd (pv 1)) Zj)))))))))
abbrev Tj:Stmt:=Vl 1
theorem OO:Zw (["web","house"]:List Str) (["web","house"]:List Str) (Zk Tj):=⟨rfl,rfl,rfl,by decide +kernel,rfl,by decide +kernel,by decide +kernel⟩
theorem OP(Df:Def K mg "ties_at" Tj)(B:W7 mg):Yv P w K mg base "ties_at" (["web","house"]:List Str) (Yt K XV 2) 1:=
 ZR (O:=[]) (k:=0) 2 U9 Df OO (fun _ _ _ _ _ _ us hl=>match us,hl with | [_,_],_=>rfl) rfl rfl (by decide) (fun fa cdv A outer s H E hr=>
  (Zm (ZB (VE.pure (Zu (Xn rfl) V4 rfl B.sum (by decide +kernel) (Zc (ZA (Zd (pv 0)) (Zd (pv 1))) Zf))))))
abbrev SX:Stmt:=Vl 19
theorem Mq:Zw (["web","house","others"]:List Str) (["web","house","others"]:List Str) (Zk SX):=⟨rfl,rfl,rfl,by decide +kernel,rfl,by decide +kernel,by decide +kernel⟩
theorem Mr(Df:Def K mg "row_of" SX)(B:W7 mg)(C_ties_at:Yv P w K mg base "ties_at" (["web","house"]:List Str) (Yt K XV 2) 1):Yv P w K mg base "row_of" (["web","house","others"]:List Str) (Yt K Vk 3) 2:=
 ZR (O:=[]) (k:=1) 3 UC Df Mq (fun _ _ _ _ _ _ us hl=>match us,hl with | [_,_,_],_=>rfl) rfl rfl (by decide) (fun fa cdv A outer s H E hr=>
  (Zm (ZB (VE.pure (Z5 ZE Yi rfl B.tuple (by decide +kernel) (Zc (Yc (["other"]:List Str) (["house","web"]:List Str) [1,0] rfl (XQ (Zd (pv 2))) (by kernel_rfl) (fun _ _ _ _ _=>(Zt (i:=0) (show((["other"]:List Str)++(["house","web"]:List Str)).Nodup by decide +kernel) rfl (Or.inl rfl) (.inr rfl))) (fun _ _ _ _ _=>Z3) (fun _ _ _ _ _=>(M8 (R4 hr.units (Zd (pv 0)) (Zd (pv 1))) (VM.ve (Zl C_ties_at (hr.mono (by decide)) rfl (Zc (Zd (pv 2)) (Zc (Zd (pv 1)) Zf)))) (Op (ZA (ZA (Zd (pv 2)) (Zd (pv 1))) (Zd (pv 0))))))) Zf))))))
abbrev Xu:Stmt:=Vl 18
theorem sc_square_without:Zw (["web","base","others"]:List Str) (["web","base"]:List Str) (Zk Xu):=⟨rfl,rfl,rfl,by decide +kernel,rfl,by decide +kernel,by decide +kernel⟩
theorem UE(Df:Def K mg "square_without" Xu)(B:W7 mg)(C_row_of:Yv P w K mg base "row_of" (["web","house","others"]:List Str) (Yt K Vk 3) 2):Yv P w K mg base "square_without" (["web","base"]:List Str) (Yt K Ya 2) 3:=
 ZR (O:=[]) (k:=2) 3 YZ Df sc_square_without (fun _ _ _ _ _ _ us hl=>match us,hl with | [_,_],_=>rfl) rfl rfl (by decide) (fun fa cdv A outer s H E hr=>
  (Zh (Zy (i:=2) sc_square_without.nd rfl (Or.inr rfl) (QA (["house"]:List Str) (["base"]:List Str) [1] rfl (Yo rfl B.range (Zc (Zu Z2 YG rfl B.len (by decide +kernel) (Zc (Zd (pv 0)) Zf)) Zf)) (by kernel_rfl) (fun _ _ _ _ _=>(Zt (i:=0) (show((["house"]:List Str)++(["base"]:List Str)).Nodup by decide +kernel) rfl (Or.inl rfl) (.inr rfl))) (fun _ _ _ _ _=>(Qz (WV hr.units (Zd (pv 0)) (Zd (pv 1))))) (fun _ _ _ _ _=>(VE.pure (Zd (pv 0))))))
  (Zm (ZB (VE.pure (Z5 ZE Yi rfl B.tuple (by decide +kernel) (Zc (Yc (["house"]:List Str) (["web","others"]:List Str) [0,2] rfl (XQ (Zd (pv 2))) (by kernel_rfl) (fun _ _ _ _ _=>(Zt (i:=0) (show((["house"]:List Str)++(["web","others"]:List Str)).Nodup by decide +kernel) rfl (Or.inl rfl) (.inr rfl))) (fun _ _ _ _ _=>Z3) (fun _ _ _ _ _=>(VM.ve (Zl C_row_of (hr.mono (by decide)) rfl (Zc (Zd (pv 1)) (Zc (Zd (pv 0)) (Zc (Zd (pv 2)) Zf))))))) Zf)))))))
abbrev Tk:Stmt:=Vl 22
theorem sc_nearing:Zw (["web","purse","base","column","script"]:List Str) (["web","purse","base"]:List Str) (Zk Tk):=⟨rfl,rfl,rfl,by decide +kernel,rfl,by decide +kernel,by decide +kernel⟩
theorem OQ(Df:Def K mg "nearing" Tk)(B:W7 mg)(C_solved_below:Yv P w K mg base "solved_below" (["square","column"]:List Str) (Yt K YE 2) 3)(C_square_without:Yv P w K mg base "square_without" (["web","base"]:List Str) (Yt K Ya 2) 3):Yv P w K mg base "nearing" (["web","purse","base"]:List Str) (Yt K Xt 3) 4:=
 ZR (O:=[4]) (k:=3) 5 VH Df sc_nearing (fun _ _ _ _ _ _ us hl=>match us,hl with | [_,_,_],_=>rfl) rfl rfl (by decide) (fun fa cdv A outer s H E hr=>
  (Zh (Zy (i:=3) sc_nearing.nd rfl (Or.inl rfl) (VE.pure (VZ NA NB (RX (Zd (pv 1)) T4 (Vx (Zd (pv 2)))) (RX (Zd (pv 1)) (Vx (Yz (Zd (pv 2)) Zj)) T4))))
  (Zh (Zy (i:=4) sc_nearing.nd rfl (Or.inl rfl) (Zl C_solved_below (hr.mono (by decide)) rfl (Zc (VM.ve (Zl C_square_without (hr.mono (by decide)) rfl (Zc (Zd (pv 0)) (Zc (Zd (pv 2)) Zf)))) (Zc (Zd (pv 3)) Zf))))
  (Zh (R3 (Vu (Nj PySem.F.plainAttrs_list PySem.F.slot_list_insert PySem.F.type_list_insert RN (pv 4) (Y2 (Zd (pv 2)) (Y2 Zj V2)))))
  (Zm (ZB (VE.pure (Z5 ZE Yi rfl B.tuple (by decide +kernel) (Zc (Zd (pv 4)) Zf)))))))))
abbrev OR:Stmt:=Vl 4
theorem Jn:Zw (["web","script","house"]:List Str) (["web","script","house"]:List Str) (Zk OR):=⟨rfl,rfl,rfl,by decide +kernel,rfl,by decide +kernel,by decide +kernel⟩
theorem Jo(Df:Def K mg "gain" OR)(B:W7 mg):Yv P w K mg base "gain" (["web","script","house"]:List Str) (Yt K Ta 3) 1:=
 ZR (O:=[]) (k:=0) 3 OD Df Jn (fun _ _ _ _ _ _ us hl=>match us,hl with | [_,_,_],_=>rfl) rfl rfl (by decide) (fun fa cdv A outer s H E hr=>
  (Zm (ZB (VE.pure (Zu (Xn rfl) V4 rfl B.sum (by decide +kernel) (Zc (Yc (["other","times"]:List Str) (["script","house"]:List Str) [1,2] rfl (Uk false rfl B.enumerate (Zc (ZA (Zd (pv 0)) (Zd (pv 2))) Zf)) (by kernel_rfl) (fun _ _ _ _ _=>(Wi (n:=2) rfl (ZT (Zt (i:=0) (show((["other","times"]:List Str)++(["script","house"]:List Str)).Nodup by decide +kernel) rfl (Or.inl rfl) (.inr rfl)) (ZT (Zt (i:=1) (show((["other","times"]:List Str)++(["script","house"]:List Str)).Nodup by decide +kernel) rfl (Or.inl rfl) (.inr rfl)) Xx)))) (fun _ _ _ _ _=>Z3) (fun _ _ _ _ _=>(Wj (Zd (pv 1)) (Xe (ZA (Zd (pv 2)) (Zd (pv 0))) (ZA (Zd (pv 2)) (Zd (pv 3))))))) Zf))))))
abbrev LK:Stmt:=Vl 3
theorem Hd:Zw (["web","purse","script"]:List Str) (["web","purse","script"]:List Str) (Zk LK):=⟨rfl,rfl,rfl,by decide +kernel,rfl,by decide +kernel,by decide +kernel⟩
theorem He(Df:Def K mg "run" LK)(B:W7 mg)(C_gain:Yv P w K mg base "gain" (["web","script","house"]:List Str) (Yt K Ta 3) 1):Yv P w K mg base "run" (["web","purse","script"]:List Str) (Yt K Vg 3) 2:=
 ZR (O:=[]) (k:=1) 3 Lz Df Hd (fun _ _ _ _ _ _ us hl=>match us,hl with | [_,_,_],_=>rfl) rfl rfl (by decide) (fun fa cdv A outer s H E hr=>
  (Zm (ZB (VE.pure (Z5 ZE Yi rfl B.tuple (by decide +kernel) (Zc (Yc (["house","coins"]:List Str) (["web","script"]:List Str) [0,2] rfl (Uk false rfl B.enumerate (Zc (Zd (pv 1)) Zf)) (by kernel_rfl) (fun _ _ _ _ _=>(Wi (n:=2) rfl (ZT (Zt (i:=0) (show((["house","coins"]:List Str)++(["web","script"]:List Str)).Nodup by decide +kernel) rfl (Or.inl rfl) (.inr rfl)) (ZT (Zt (i:=1) (show((["house","coins"]:List Str)++(["web","script"]:List Str)).Nodup by decide +kernel) rfl (Or.inl rfl) (.inr rfl)) Xx)))) (fun _ _ _ _ _=>Z3) (fun _ _ _ _ _=>(Yz (Zd (pv 1)) (VM.ve (Zl C_gain (hr.mono (by decide)) rfl (Zc (Zd (pv 2)) (Zc (Zd (pv 3)) (Zc (Zd (pv 0)) Zf)))))))) Zf))))))
abbrev Tl:Stmt:=Vl 12
theorem OS:Zw (["purse","base"]:List Str) (["purse","base"]:List Str) (Zk Tl):=⟨rfl,rfl,rfl,by decide +kernel,rfl,by decide +kernel,by decide +kernel⟩
theorem OT(Df:Def K mg "in_debt" Tl)(B:W7 mg):Yv P w K mg base "in_debt" (["purse","base"]:List Str) (Yt K YM 2) 1:=
 ZR (O:=[]) (k:=0) 2 VF Df OS (fun _ _ _ _ _ _ us hl=>match us,hl with | [_,_],_=>rfl) rfl rfl (by decide) (fun fa cdv A outer s H E hr=>
  (Zm (ZB (QA (["house","coins"]:List Str) (["base"]:List Str) [1] rfl (Uk false rfl B.enumerate (Zc (Zd (pv 0)) Zf)) (by kernel_rfl) (fun _ _ _ _ _=>(Wi (n:=2) rfl (ZT (Zt (i:=0) (show((["house","coins"]:List Str)++(["base"]:List Str)).Nodup by decide +kernel) rfl (Or.inl rfl) (.inr rfl)) (ZT (Zt (i:=1) (show((["house","coins"]:List Str)++(["base"]:List Str)).Nodup by decide +kernel) rfl (Or.inl rfl) (.inr rfl)) Xx)))) (fun _ _ _ _ _=>(Qz (VW.vt (Qr (WV hr.units (Zd (pv 0)) (Zd (pv 2))) (TX (Nq (Zd (pv 1)) Zj)))))) (fun _ _ _ _ _=>(VE.pure (Zd (pv 0))))))))
abbrev Vm:Stmt:=Vl 23
theorem QO:Zw (["web","houses"]:List Str) (["web","houses"]:List Str) (Zk Vm):=⟨rfl,rfl,rfl,by decide +kernel,rfl,by decide +kernel,by decide +kernel⟩
theorem QP(Df:Def K mg "borrowing" Vm)(B:W7 mg):Yv P w K mg base "borrowing" (["web","houses"]:List Str) (Yt K YU 2) 1:=
 ZR (O:=[]) (k:=0) 2 We Df QO (fun _ _ _ _ _ _ us hl=>match us,hl with | [_,_],_=>rfl) rfl rfl (by decide) (fun fa cdv A outer s H E hr=>
  (Zm (ZB (VE.pure (Z5 ZE Yi rfl B.tuple (by decide +kernel) (Zc (Yc (["house"]:List Str) (["houses"]:List Str) [1] rfl (Yo rfl B.range (Zc (Zu Z2 YG rfl B.len (by decide +kernel) (Zc (Zd (pv 0)) Zf)) Zf)) (by kernel_rfl) (fun _ _ _ _ _=>(Zt (i:=0) (show((["house"]:List Str)++(["houses"]:List Str)).Nodup by decide +kernel) rfl (Or.inl rfl) (.inr rfl))) (fun _ _ _ _ _=>Z3) (fun _ _ _ _ _=>(M8 (Gs hr.units (Zd (pv 0)) (Zd (pv 1))) (Op Zj) Zj))) Zf))))))
abbrev OU:Stmt:=Vl 6
theorem Jp:Zw (["one","other"]:List Str) (["one","other"]:List Str) (Zk OU):=⟨rfl,rfl,rfl,by decide +kernel,rfl,by decide +kernel,by decide +kernel⟩
theorem Jq(Df:Def K mg "plus" OU)(B:W7 mg):Yv P w K mg base "plus" (["one","other"]:List Str) (Yt K Vh 2) 1:=
 ZR (O:=[]) (k:=0) 2 OE Df Jp (fun _ _ _ _ _ _ us hl=>match us,hl with | [_,_],_=>rfl) rfl rfl (by decide) (fun fa cdv A outer s H E hr=>
  (Zm (ZB (VE.pure (Z5 ZE Yi rfl B.tuple (by decide +kernel) (Zc (Yc (["first","second"]:List Str) ([]:List Str) [] rfl (Qx false false rfl B.zip (Zc (Zd (pv 0)) (Zc (Zd (pv 1)) Zf))) (by kernel_rfl) (fun _ _ _ _ _=>(Wi (n:=2) rfl (ZT (Zt (i:=0) (show((["first","second"]:List Str)++([]:List Str)).Nodup by decide +kernel) rfl (Or.inl rfl) (.inr rfl)) (ZT (Zt (i:=1) (show((["first","second"]:List Str)++([]:List Str)).Nodup by decide +kernel) rfl (Or.inl rfl) (.inr rfl)) Xx)))) (fun _ _ _ _ _=>Z3) (fun _ _ _ _ _=>(Yz (Zd (pv 0)) (Zd (pv 1))))) Zf))))))
abbrev QQ:Stmt:=Vl 5
theorem sc_least:Zw (["script","lowest"]:List Str) (["script"]:List Str) (Zk QQ):=⟨rfl,rfl,rfl,by decide +kernel,rfl,by decide +kernel,by decide +kernel⟩
theorem LL(Df:Def K mg "least" QQ)(B:W7 mg):Yv P w K mg base "least" (["script"]:List Str) (Yt K XR 1) 1:=
 ZR (O:=[]) (k:=0) 2 QK Df sc_least (fun _ _ _ _ _ _ us hl=>match us,hl with | [_],_=>rfl) rfl rfl (by decide) (fun fa cdv A outer s H E hr=>
  (Zh (Zy (i:=1) sc_least.nd rfl (Or.inr rfl) (VE.pure (Zu (Vy rfl) T7 rfl B.min (by decide +kernel) (Zc (Zd (pv 0)) Zf))))
  (Zm (ZB (VE.pure (Z5 ZE Yi rfl B.tuple (by decide +kernel) (Zc (Yc (["often"]:List Str) (["lowest"]:List Str) [1] rfl (Qv (Zd (pv 0))) (by kernel_rfl) (fun _ _ _ _ _=>(Zt (i:=0) (show((["often"]:List Str)++(["lowest"]:List Str)).Nodup by decide +kernel) rfl (Or.inl rfl) (.inr rfl))) (fun _ _ _ _ _=>Z3) (fun _ _ _ _ _=>(Xe (Zd (pv 0)) (Zd (pv 1))))) Zf)))))))
abbrev Tm:Stmt:=Vl 11
theorem OV:Zw (["web","house","others"]:List Str) (["web","house","others"]:List Str) (Zk Tm):=⟨rfl,rfl,rfl,by decide +kernel,rfl,by decide +kernel,by decide +kernel⟩
theorem OW(Df:Def K mg "ties_to" Tm)(B:W7 mg):Yv P w K mg base "ties_to" (["web","house","others"]:List Str) (Yt K Ws 3) 1:=
 ZR (O:=[]) (k:=0) 3 VC Df OV (fun _ _ _ _ _ _ us hl=>match us,hl with | [_,_,_],_=>rfl) rfl rfl (by decide) (fun fa cdv A outer s H E hr=>
  (Zm (ZB (VE.pure (Zu (Xn rfl) V4 rfl B.sum (by decide +kernel) (Zc (Yc (["other"]:List Str) (["web","house"]:List Str) [0,1] rfl (XQ (Zd (pv 2))) (by kernel_rfl) (fun _ _ _ _ _=>(Zt (i:=0) (show((["other"]:List Str)++(["web","house"]:List Str)).Nodup by decide +kernel) rfl (Or.inl rfl) (.inr rfl))) (fun _ _ _ _ _=>Z3) (fun _ _ _ _ _=>(ZA (ZA (Zd (pv 1)) (Zd (pv 2))) (Zd (pv 0))))) Zf))))))
abbrev XH:Stmt:=Vl 10
theorem sc_house_to_burn:Zw (["web","purse","fire","house","coins"]:List Str) (["web","purse","fire"]:List Str) (Zk XH):=⟨rfl,rfl,rfl,by decide +kernel,rfl,by decide +kernel,by decide +kernel⟩
theorem Tn(Df:Def K mg "house_to_burn" XH)(B:W7 mg)(C_ties_to:Yv P w K mg base "ties_to" (["web","house","others"]:List Str) (Yt K Ws 3) 1):Yv P w K mg base "house_to_burn" (["web","purse","fire"]:List Str) (Yt K ZW 3) 2:=
 ZR (O:=[]) (k:=1) 5 Y4 Df sc_house_to_burn (fun _ _ _ _ _ _ us hl=>match us,hl with | [_,_,_],_=>rfl) rfl rfl (by decide) (fun fa cdv A outer s H E hr=>
  (Zh (Wk PassesOwn.never rfl (Uk false rfl B.enumerate (Zc (Zd (pv 1)) Zf)) (Wi (n:=2) rfl (ZT (Zt (i:=3) sc_house_to_burn.nd rfl (Or.inl rfl)) (ZT (Zt (i:=4) sc_house_to_burn.nd rfl (Or.inl rfl)) Xx))) (Zm (Xg (VW.vt (Qr (Pt hr.units (Zd (pv 3)) (Zd (pv 2))) (TX (Nq (Zd (pv 4)) (VM.ve (Zl C_ties_to (hr.mono (by decide)) rfl (Zc (Zd (pv 0)) (Zc (Zd (pv 3)) (Zc (Zd (pv 2)) Zf))))))))) (Zm (ZB (VE.pure (Zd (pv 3))))) Yj)))
  (Zm (ZB (VE.pure Oh)))))
abbrev QR:Stmt:=Vl 9
theorem sc_burnt:Zw (["web","purse","base","fire","house"]:List Str) (["web","purse","base"]:List Str) (Zk QR):=⟨rfl,rfl,rfl,by decide +kernel,rfl,by decide +kernel,by decide +kernel⟩
theorem LM(Df:Def K mg "burnt" QR)(B:W7 mg)(C_house_to_burn:Yv P w K mg base "house_to_burn" (["web","purse","fire"]:List Str) (Yt K ZW 3) 2):Yv P w K mg base "burnt" (["web","purse","base"]:List Str) (Yt K Uy 3) 3:=
 ZR (O:=[3]) (k:=2) 5 Sb Df sc_burnt (fun _ _ _ _ _ _ us hl=>match us,hl with | [_,_,_],_=>rfl) rfl rfl (by decide) (fun fa cdv A outer s H E hr=>
  (Zh (Zy (i:=3) sc_burnt.nd rfl (Or.inl rfl) (Oq (Ug (VE.pure (Zd (pv 2))) TZ)))
  (Zh (Zy (i:=4) sc_burnt.nd rfl (Or.inl rfl) (Zl C_house_to_burn (hr.mono (by decide)) rfl (Zc (Zd (pv 0)) (Zc (Zd (pv 1)) (Zc (Zd (pv 3)) Zf)))))
  (Zh (Ps PassesOwn.never (Nt (Zd (pv 4))) (Zh (R1 (Vu (Nj PySem.F.plainAttrs_list PySem.F.slot_list_append PySem.F.type_list_append RJ (pv 3) (Y2 (VE.pure (Zd (pv 4))) V2))))
  (Zm (Zy (i:=4) sc_burnt.nd rfl (Or.inl rfl) (Zl C_house_to_burn (hr.mono (by decide)) rfl (Zc (Zd (pv 0)) (Zc (Zd (pv 1)) (Zc (Zd (pv 3)) Zf))))))))
  (Zm (Jc (pv 3)))))))
abbrev SY:Stmt:=Vl 21
theorem sc_settle:Zw (["web","purse","base","script","near","indebted","step"]:List Str) (["web","purse","base"]:List Str) (Zk SY):=⟨rfl,rfl,rfl,by decide +kernel,rfl,by decide +kernel,by decide +kernel⟩
theorem Ms(Df:Def K mg "settle" SY)(B:W7 mg)(C_nearing:Yv P w K mg base "nearing" (["web","purse","base"]:List Str) (Yt K Xt 3) 4)(C_run:Yv P w K mg base "run" (["web","purse","script"]:List Str) (Yt K Vg 3) 2)(C_in_debt:Yv P w K mg base "in_debt" (["purse","base"]:List Str) (Yt K YM 2) 1)(C_borrowing:Yv P w K mg base "borrowing" (["web","houses"]:List Str) (Yt K YU 2) 1)(C_plus:Yv P w K mg base "plus" (["one","other"]:List Str) (Yt K Vh 2) 1)(C_burnt:Yv P w K mg base "burnt" (["web","purse","base"]:List Str) (Yt K Uy 3) 3)(C_least:Yv P w K mg base "least" (["script"]:List Str) (Yt K XR 1) 1):Yv P w K mg base "settle" (["web","purse","base"]:List Str) (Yt K ZM 3) 5:=
 ZR (O:=[]) (k:=4) 7 UD Df sc_settle (fun _ _ _ _ _ _ us hl=>match us,hl with | [_,_,_],_=>rfl) rfl rfl (by decide) (fun fa cdv A outer s H E hr=>
  (Zh (Zy (i:=3) sc_settle.nd rfl (Or.inl rfl) (Zl C_nearing (hr.mono (by decide)) rfl (Zc (Zd (pv 0)) (Zc (Zd (pv 1)) (Zc (Zd (pv 2)) Zf)))))
  (Zh (Zy (i:=4) sc_settle.nd rfl (Or.inl rfl) (Zl C_run (hr.mono (by decide)) rfl (Zc (Zd (pv 0)) (Zc (Zd (pv 1)) (Zc (Zd (pv 3)) Zf)))))
  (Zh (Zy (i:=5) sc_settle.nd rfl (Or.inl rfl) (Zl C_in_debt (hr.mono (by decide)) rfl (Zc (Zd (pv 4)) (Zc (Zd (pv 2)) Zf))))
  (Zh (Ps PassesOwn.never (Nr (Zu Z2 YG rfl B.len (by decide +kernel) (Zc (Zd (pv 5)) Zf)) Zj) (Zh (Zy (i:=6) sc_settle.nd rfl (Or.inl rfl) (Zl C_borrowing (hr.mono (by decide)) rfl (Zc (Zd (pv 0)) (Zc (Zd (pv 5)) Zf))))
  (Zh (Zy (i:=3) sc_settle.nd rfl (Or.inl rfl) (Zl C_plus (hr.mono (by decide)) rfl (Zc (Zd (pv 3)) (Zc (Zd (pv 6)) Zf))))
  (Zh (Zy (i:=4) sc_settle.nd rfl (Or.inl rfl) (Zl C_run (hr.mono (by decide)) rfl (Zc (Zd (pv 0)) (Zc (Zd (pv 4)) (Zc (Zd (pv 6)) Zf)))))
  (Zm (Zy (i:=5) sc_settle.nd rfl (Or.inl rfl) (Zl C_in_debt (hr.mono (by decide)) rfl (Zc (Zd (pv 4)) (Zc (Zd (pv 2)) Zf)))))))))
  (Zm (ZB (IQ (Ug (Zl C_least (hr.mono (by decide)) rfl (Zc (Zd (pv 3)) Zf)) (Ug (VE.pure (Zd (pv 4))) (Ug (Zl C_burnt (hr.mono (by decide)) rfl (Zc (Zd (pv 0)) (Zc (Zd (pv 4)) (Zc (Zd (pv 2)) Zf)))) TZ)))))))))))
abbrev QS:Stmt:=Vl 7
theorem LN:Zw (["one","other"]:List Str) (["one","other"]:List Str) (Zk QS):=⟨rfl,rfl,rfl,by decide +kernel,rfl,by decide +kernel,by decide +kernel⟩
theorem LO(Df:Def K mg "minus" QS)(B:W7 mg):Yv P w K mg base "minus" (["one","other"]:List Str) (Yt K WN 2) 1:=
 ZR (O:=[]) (k:=0) 2 QD Df LN (fun _ _ _ _ _ _ us hl=>match us,hl with | [_,_],_=>rfl) rfl rfl (by decide) (fun fa cdv A outer s H E hr=>
  (Zm (ZB (VE.pure (Z5 ZE Yi rfl B.tuple (by decide +kernel) (Zc (Yc (["first","second"]:List Str) ([]:List Str) [] rfl (Qx false false rfl B.zip (Zc (Zd (pv 0)) (Zc (Zd (pv 1)) Zf))) (by kernel_rfl) (fun _ _ _ _ _=>(Wi (n:=2) rfl (ZT (Zt (i:=0) (show((["first","second"]:List Str)++([]:List Str)).Nodup by decide +kernel) rfl (Or.inl rfl) (.inr rfl)) (ZT (Zt (i:=1) (show((["first","second"]:List Str)++([]:List Str)).Nodup by decide +kernel) rfl (Or.inl rfl) (.inr rfl)) Xx)))) (fun _ _ _ _ _=>Z3) (fun _ _ _ _ _=>(Xe (Zd (pv 0)) (Zd (pv 1))))) Zf))))))
abbrev QT:Stmt:=Vl 25
theorem sc_alike:Zw (["web","one","other","from_one","from_other"]:List Str) (["web","one","other"]:List Str) (Zk QT):=⟨rfl,rfl,rfl,by decide +kernel,rfl,by decide +kernel,by decide +kernel⟩
theorem LP(Df:Def K mg "alike" QT)(B:W7 mg)(C_settle:Yv P w K mg base "settle" (["web","purse","base"]:List Str) (Yt K ZM 3) 5)(C_least:Yv P w K mg base "least" (["script"]:List Str) (Yt K XR 1) 1)(C_minus:Yv P w K mg base "minus" (["one","other"]:List Str) (Yt K WN 2) 1):Yv P w K mg base "alike" (["web","one","other"]:List Str) (Yt K YR 3) 6:=
 ZR (O:=[]) (k:=5) 5 VJ Df sc_alike (fun _ _ _ _ _ _ us hl=>match us,hl with | [_,_,_],_=>rfl) rfl rfl (by decide) (fun fa cdv A outer s H E hr=>
  (Zh (Zy (i:=3) sc_alike.nd rfl (Or.inl rfl) (Zl C_settle (hr.mono (by decide)) rfl (Zc (Zd (pv 0)) (Zc (Zd (pv 1)) (Zc Zj Zf)))))
  (Zh (Zy (i:=4) sc_alike.nd rfl (Or.inl rfl) (Zl C_settle (hr.mono (by decide)) rfl (Zc (Zd (pv 0)) (Zc (Zd (pv 2)) (Zc Zj Zf)))))
  (Zh (Xg (WV hr.units (ZA (Zd (pv 3)) Zj) (ZA (Zd (pv 4)) Zj)) (Zm (ZB (VE.pure Oh))) Yj)
  (Zm (ZB (Zl C_least (hr.mono (by decide)) rfl (Zc (VM.ve (Zl C_minus (hr.mono (by decide)) rfl (Zc (ZA (Zd (pv 3)) Zj) (Zc (ZA (Zd (pv 4)) Zj) Zf)))) Zf))))))))
abbrev QU:Stmt:=Vl 36
theorem sc_l_low:Zw (["_law_often_here","_law_low_here"]:List Str) (["_law_often_here"]:List Str) (Zk QU):=⟨rfl,rfl,rfl,by decide +kernel,rfl,by decide +kernel,by decide +kernel⟩
theorem LQ(Df:Def K mg "_law_low" QU)(B:W7 mg):Yv P w K mg base "_law_low" (["_law_often_here"]:List Str) (Yt K Wg 1) 1:=
 ZR (O:=[]) (k:=0) 2 QL Df sc_l_low (fun _ _ _ _ _ _ us hl=>match us,hl with | [_],_=>rfl) rfl rfl (by decide) (fun fa cdv A outer s H E hr=>
  (Zh (Zy (i:=1) sc_l_low.nd rfl (Or.inr rfl) (VE.pure (Zu (Vy rfl) T7 rfl B.min (by decide +kernel) (Zc (Zd (pv 0)) Zf))))
  (Zm (ZB (VE.pure (Z5 ZE Yi rfl B.tuple (by decide +kernel) (Zc (Yc (["_law_one"]:List Str) (["_law_low_here"]:List Str) [1] rfl (XQ (Zd (pv 0))) (by kernel_rfl) (fun _ _ _ _ _=>(Zt (i:=0) (show((["_law_one"]:List Str)++(["_law_low_here"]:List Str)).Nodup by decide +kernel) rfl (Or.inl rfl) (.inr rfl))) (fun _ _ _ _ _=>Z3) (fun _ _ _ _ _=>(Xe (Zd (pv 0)) (Zd (pv 1))))) Zf)))))))
abbrev SZ:Stmt:=Vl 40
theorem sc_l_next:Zw (["_law_web_here","_law_purse_here","_law_fire_here","_law_house","_law_burning"]:List Str) (["_law_web_here","_law_purse_here","_law_fire_here"]:List Str) (Zk SZ):=⟨rfl,rfl,rfl,by decide +kernel,rfl,by decide +kernel,by decide +kernel⟩
theorem Mu(Df:Def K mg "_law_next" SZ)(B:W7 mg):Yv P w K mg base "_law_next" (["_law_web_here","_law_purse_here","_law_fire_here"]:List Str) (Yt K Xi 3) 1:=
 ZR (O:=[]) (k:=0) 5 UA Df sc_l_next (fun _ _ _ _ _ _ us hl=>match us,hl with | [_,_,_],_=>rfl) rfl rfl (by decide) (fun fa cdv A outer s H E hr=>
  (Zh (Wk PassesOwn.never rfl (Yo rfl B.range (Zc (Zu Z2 YG rfl B.len (by decide +kernel) (Zc (Zd (pv 0)) Zf)) Zf)) (Zt (i:=3) sc_l_next.nd rfl (Or.inr rfl)) (Zh (Zy (i:=4) sc_l_next.nd rfl (Or.inl rfl) (VE.pure (Zu (Xn rfl) V4 rfl B.sum (by decide +kernel) (Zc (Yc (["_law_other_here"]:List Str) (["_law_web_here","_law_house"]:List Str) [0,3] rfl (XQ (Zd (pv 2))) (by kernel_rfl) (fun _ _ _ _ _=>(Zt (i:=0) (show((["_law_other_here"]:List Str)++(["_law_web_here","_law_house"]:List Str)).Nodup by decide +kernel) rfl (Or.inl rfl) (.inr rfl))) (fun _ _ _ _ _=>Z3) (fun _ _ _ _ _=>(ZA (ZA (Zd (pv 1)) (Zd (pv 2))) (Zd (pv 0))))) Zf))))
  (Zm (Xg (VW.vt (Qr (Pt hr.units (Zd (pv 3)) (Zd (pv 2))) (TX (Nq (ZA (Zd (pv 1)) (Zd (pv 3))) (Zd (pv 4)))))) (Zm (ZB (VE.pure (Zd (pv 3))))) Yj))))
  (Zm (ZB (VE.pure Oh)))))
abbrev To:Stmt:=Vl 41
theorem sc_l_burns:Zw (["_law_web_here","_law_purse_here","_law_base","_law_fire_here","_law_k"]:List Str) (["_law_web_here","_law_purse_here","_law_base","_law_fire_here"]:List Str) (Zk To):=⟨rfl,rfl,rfl,by decide +kernel,rfl,by decide +kernel,by decide +kernel⟩
theorem OX(Df:Def K mg "_law_burns" To)(B:W7 mg)(C_l_next:Yv P w K mg base "_law_next" (["_law_web_here","_law_purse_here","_law_fire_here"]:List Str) (Yt K Xi 3) 1):Yv P w K mg base "_law_burns" (["_law_web_here","_law_purse_here","_law_base","_law_fire_here"]:List Str) (Yt K XW 4) 2:=
 ZR (O:=[]) (k:=1) 5 VD Df sc_l_burns (fun _ _ _ _ _ _ us hl=>match us,hl with | [_,_,_,_],_=>rfl) rfl rfl (by decide) (fun fa cdv A outer s H E hr=>
  (Zh (Xg (WV hr.units (U4 (Zd (pv 3)) T4 (Vx Zj)) (Lb (Zc (Zd (pv 2)) Zf))) (Zm (ZB (VE.pure Ud))) Yj)
  (Zh (Wk PassesOwn.never rfl (RU rfl B.range (Zc Zj (Zc (Zu Z2 YG rfl B.len (by decide +kernel) (Zc (Zd (pv 3)) Zf)) Zf))) (Zt (i:=4) sc_l_burns.nd rfl (Or.inl rfl)) (Zm (Xg (WV hr.units (VM.ve (Zl C_l_next (hr.mono (by decide)) rfl (Zc (Zd (pv 0)) (Zc (Zd (pv 1)) (Zc (U4 (Zd (pv 3)) T4 (Vx (Zd (pv 4)))) Zf))))) (ZA (Zd (pv 3)) (Zd (pv 4)))) (Zm (ZB (VE.pure Ud))) Yj)))
  (Zm (ZB (VE.pure (La (VM.ve (Zl C_l_next (hr.mono (by decide)) rfl (Zc (Zd (pv 0)) (Zc (Zd (pv 1)) (Zc (Zd (pv 3)) Zf))))))))))))
abbrev Tp:Stmt:=Vl 37
theorem OY:Zw (["_law_number"]:List Str) (["_law_number"]:List Str) (Zk Tp):=⟨rfl,rfl,rfl,by decide +kernel,rfl,by decide +kernel,by decide +kernel⟩
theorem OZ(Df:Def K mg "_law_whole" Tp)(B:W7 mg):Yv P w K mg base "_law_whole" (["_law_number"]:List Str) (Yt K YD 1) 1:=
 ZR (O:=[]) (k:=0) 1 Tc Df OY (fun _ _ _ _ _ _ us hl=>match us,hl with | [_],_=>rfl) rfl rfl (by decide) (fun fa cdv A outer s H E hr=>
  (Zm (ZB (VE.pure (Sv (Zu Xy Ui rfl B.isinstance (by decide +kernel) (Zc (Zd (pv 0)) (Zc (Po rfl B.int (by decide +kernel)) Zf))) (Qs (IN (Zu Xy Ui rfl B.isinstance (by decide +kernel) (Zc (Zd (pv 0)) (Zc (Po rfl B.bool (by decide +kernel)) Zf))))))))))
abbrev QV:Stmt:=Vl 38
theorem LR:Zw (["_law_found","_law_houses"]:List Str) (["_law_found","_law_houses"]:List Str) (Zk QV):=⟨rfl,rfl,rfl,by decide +kernel,rfl,by decide +kernel,by decide +kernel⟩
theorem LS(Df:Def K mg "_law_row" QV)(B:W7 mg)(C_l_whole:Yv P w K mg base "_law_whole" (["_law_number"]:List Str) (Yt K YD 1) 1):Yv P w K mg base "_law_row" (["_law_found","_law_houses"]:List Str) (Yt K Yy 2) 2:=
 ZR (O:=[]) (k:=1) 2 NE Df LR (fun _ _ _ _ _ _ us hl=>match us,hl with | [_,_],_=>rfl) rfl rfl (by decide) (fun fa cdv A outer s H E hr=>
  (Zm (ZB (VE.pure (Sv (Zu Xy Ui rfl B.isinstance (by decide +kernel) (Zc (Zd (pv 0)) (Zc (Po rfl B.tuple (by decide +kernel)) Zf))) (Sv (JV hr.units (Zu Z2 YG rfl B.len (by decide +kernel) (Zc (Zd (pv 0)) Zf)) (Zd (pv 1))) (Qs (Zu (UW rfl) Ot rfl B.all (by decide +kernel) (Zc (Yc (["_law_one"]:List Str) ([]:List Str) [] rfl (Qv (Zd (pv 0))) (by kernel_rfl) (fun _ _ _ _ _=>(Zt (i:=0) (show((["_law_one"]:List Str)++([]:List Str)).Nodup by decide +kernel) rfl (Or.inl rfl) (.inr rfl))) (fun _ _ _ _ _=>Z3) (fun _ _ _ _ _=>(VM.ve (Zl C_l_whole (hr.mono (by decide)) rfl (Zc (Zd (pv 0)) Zf))))) Zf)))))))))
abbrev S3:Stmt:=Vl 39
theorem Mv:Zw (["_law_found","_law_houses"]:List Str) (["_law_found","_law_houses"]:List Str) (Zk S3):=⟨rfl,rfl,rfl,by decide +kernel,rfl,by decide +kernel,by decide +kernel⟩
theorem Mw(Df:Def K mg "_law_fire" S3)(B:W7 mg)(C_l_whole:Yv P w K mg base "_law_whole" (["_law_number"]:List Str) (Yt K YD 1) 1):Yv P w K mg base "_law_fire" (["_law_found","_law_houses"]:List Str) (Yt K X4 2) 2:=
 ZR (O:=[]) (k:=1) 2 Uz Df Mv (fun _ _ _ _ _ _ us hl=>match us,hl with | [_,_],_=>rfl) rfl rfl (by decide) (fun fa cdv A outer s H E hr=>
  (Zh (Xg (VW.vt (Uf (WC (WB (Zu Xy Ui rfl B.isinstance (by decide +kernel) (Zc (Zd (pv 0)) (Zc (Po rfl B.list (by decide +kernel)) Zf))))) (U1 (Nr (Zu Z2 YG rfl B.len (by decide +kernel) (Zc (Zd (pv 0)) Zf)) (Zd (pv 1)))))) (Zm (ZB (VE.pure Ud))) Yj)
  (Zm (ZB (VE.pure (Zu (UW rfl) Ot rfl B.all (by decide +kernel) (Zc (Yc (["_law_one"]:List Str) (["_law_houses"]:List Str) [1] rfl (XQ (Zd (pv 0))) (by kernel_rfl) (fun _ _ _ _ _=>(Zt (i:=0) (show((["_law_one"]:List Str)++(["_law_houses"]:List Str)).Nodup by decide +kernel) rfl (Or.inl rfl) (.inr rfl))) (fun _ _ _ _ _=>Z3) (fun _ _ _ _ _=>(Sv (VM.ve (Zl C_l_whole (hr.mono (by decide)) rfl (Zc (Zd (pv 0)) Zf))) (Qs (Ln HQ JO (M6 _) (M6 _) Zj (Zd (pv 0)) (Zd (pv 1))))))) Zf)))))))
abbrev QW:Stmt:=Vl 35
theorem sc_l_run:Zw (["_law_web_here","_law_purse_here","_law_often_here","_law_coins_here","_law_k","_law_out"]:List Str) (["_law_web_here","_law_purse_here","_law_often_here"]:List Str) (Zk QW):=⟨rfl,rfl,rfl,by decide +kernel,rfl,by decide +kernel,by decide +kernel⟩
theorem LT(Df:Def K mg "_law_run" QW)(B:W7 mg):Yv P w K mg base "_law_run" (["_law_web_here","_law_purse_here","_law_often_here"]:List Str) (Yt K YQ 3) 1:=
 ZR (O:=[3]) (k:=0) 6 Sc Df sc_l_run (fun _ _ _ _ _ _ us hl=>match us,hl with | [_,_,_],_=>rfl) rfl rfl (by decide) (fun fa cdv A outer s H E hr=>
  (Zh (Zy (i:=3) sc_l_run.nd rfl (Or.inl rfl) (Oq TZ))
  (Zh (Wk PassesOwn.never rfl (Yo rfl B.range (Zc (Zu Z2 YG rfl B.len (by decide +kernel) (Zc (Zd (pv 0)) Zf)) Zf)) (Zt (i:=4) sc_l_run.nd rfl (Or.inr rfl)) (Zh (Zy (i:=5) sc_l_run.nd rfl (Or.inl rfl) (VE.pure (Zu (Xn rfl) V4 rfl B.sum (by decide +kernel) (Zc (Yc (["_law_j"]:List Str) (["_law_web_here","_law_k","_law_often_here"]:List Str) [0,4,2] rfl (Yo rfl B.range (Zc (Zu Z2 YG rfl B.len (by decide +kernel) (Zc (Zd (pv 0)) Zf)) Zf)) (by kernel_rfl) (fun _ _ _ _ _=>(Zt (i:=0) (show((["_law_j"]:List Str)++(["_law_web_here","_law_k","_law_often_here"]:List Str)).Nodup by decide +kernel) rfl (Or.inl rfl) (.inr rfl))) (fun _ _ _ _ _=>Z3) (fun _ _ _ _ _=>(Wj (ZA (ZA (Zd (pv 1)) (Zd (pv 2))) (Zd (pv 0))) (Xe (ZA (Zd (pv 3)) (Zd (pv 2))) (ZA (Zd (pv 3)) (Zd (pv 0))))))) Zf))))
  (Zm (R1 (Vu (Nj PySem.F.plainAttrs_list PySem.F.slot_list_append PySem.F.type_list_append RJ (pv 3) (Y2 (VE.pure (Xe (ZA (Zd (pv 1)) (Zd (pv 4))) (Zd (pv 5)))) V2)))))))
  (Zm (ZB (VE.pure (Z5 ZE Yi rfl B.tuple (by decide +kernel) (Zc (Zd (pv 3)) Zf))))))))
abbrev Vn:Stmt:=Vl 42
theorem sc_l_settled:Zw (["_law_web_here","_law_purse_here","_law_base","_law_found","_law_often_here","_law_coins_here","_law_fire_here"]:List Str) (["_law_web_here","_law_purse_here","_law_base","_law_found"]:List Str) (Zk Vn):=⟨rfl,rfl,rfl,by decide +kernel,rfl,by decide +kernel,by decide +kernel⟩
theorem QX(Df:Def K mg "_law_settled" Vn)(B:W7 mg)(C_l_fire:Yv P w K mg base "_law_fire" (["_law_found","_law_houses"]:List Str) (Yt K X4 2) 2)(C_l_row:Yv P w K mg base "_law_row" (["_law_found","_law_houses"]:List Str) (Yt K Yy 2) 2)(C_l_run:Yv P w K mg base "_law_run" (["_law_web_here","_law_purse_here","_law_often_here"]:List Str) (Yt K YQ 3) 1)(C_l_burns:Yv P w K mg base "_law_burns" (["_law_web_here","_law_purse_here","_law_base","_law_fire_here"]:List Str) (Yt K XW 4) 2):Yv P w K mg base "_law_settled" (["_law_web_here","_law_purse_here","_law_base","_law_found"]:List Str) (Yt K Ys 4) 3:=
 ZR (O:=[]) (k:=2) 7 Wf Df sc_l_settled (fun _ _ _ _ _ _ us hl=>match us,hl with | [_,_,_,_],_=>rfl) rfl rfl (by decide) (fun fa cdv A outer s H E hr=>
  (Zh (Xg (VW.vt (Uf (WC (WB (Zu Xy Ui rfl B.isinstance (by decide +kernel) (Zc (Zd (pv 3)) (Zc (Po rfl B.tuple (by decide +kernel)) Zf))))) (U1 (WV hr.units (Zu Z2 YG rfl B.len (by decide +kernel) (Zc (Zd (pv 3)) Zf)) Zj)))) (Zm (ZB (VE.pure Ud))) Yj)
  (Zh (LF (T:=(.many [4,5,6])) (UP (Zd (pv 3)) (Wi (n:=3) rfl (ZT (Zt (i:=4) sc_l_settled.nd rfl (Or.inl rfl)) (ZT (Zt (i:=5) sc_l_settled.nd rfl (Or.inr rfl)) (ZT (Zt (i:=6) sc_l_settled.nd rfl (Or.inl rfl)) Xx))))))
  (Zh (Xg (VW.vt (Uf (WC (WB (VM.ve (Zl C_l_row (hr.mono (by decide)) rfl (Zc (Zd (pv 4)) (Zc (Zu Z2 YG rfl B.len (by decide +kernel) (Zc (Zd (pv 0)) Zf)) Zf)))))) (Uf (WC (WB (VM.ve (Zl C_l_row (hr.mono (by decide)) rfl (Zc (Zd (pv 5)) (Zc (Zu Z2 YG rfl B.len (by decide +kernel) (Zc (Zd (pv 0)) Zf)) Zf)))))) (U1 (WC (WB (VM.ve (Zl C_l_fire (hr.mono (by decide)) rfl (Zc (Zd (pv 6)) (Zc (Zu Z2 YG rfl B.len (by decide +kernel) (Zc (Zd (pv 0)) Zf)) Zf)))))))))) (Zm (ZB (VE.pure Ud))) Yj)
  (Zh (Xg (VW.vt (Uf (WV hr.units (Zu (Vy rfl) T7 rfl B.min (by decide +kernel) (Zc (Zd (pv 4)) Zf)) Zj) (Uf (WV hr.units (VM.ve (Zl C_l_run (hr.mono (by decide)) rfl (Zc (Zd (pv 0)) (Zc (Zd (pv 1)) (Zc (Zd (pv 4)) Zf))))) (Zd (pv 5))) (U1 (WV hr.units (VM.ve (Lc QH OF rfl B.sorted (by decide +kernel) (Zc (Zd (pv 6)) Zf))) (VM.ve (QJ rfl rfl B.list rfl B.range (Zu Z2 YG rfl B.len (by decide +kernel) (Zc (Zd (pv 0)) Zf))))))))) (Zm (ZB (VE.pure Ud))) Yj)
  (Zh (Xg (WC (WB (VM.ve (Zl C_l_burns (hr.mono (by decide)) rfl (Zc (Zd (pv 0)) (Zc (Zd (pv 5)) (Zc (Zd (pv 2)) (Zc (Zd (pv 6)) Zf)))))))) (Zm (ZB (VE.pure Ud))) Yj)
  (Zm (ZB (VE.pure (Zu (UW rfl) Ot rfl B.all (by decide +kernel) (Zc (Yc (["_law_house"]:List Str) (["_law_coins_here","_law_base"]:List Str) [5,2] rfl (Yo rfl B.range (Zc (Zu Z2 YG rfl B.len (by decide +kernel) (Zc (Zd (pv 0)) Zf)) Zf)) (by kernel_rfl) (fun _ _ _ _ _=>(Zt (i:=0) (show((["_law_house"]:List Str)++(["_law_coins_here","_law_base"]:List Str)).Nodup by decide +kernel) rfl (Or.inl rfl) (.inr rfl))) (fun _ _ _ _ _=>(Qz (WV hr.units (Zd (pv 0)) (Zd (pv 2))))) (fun _ _ _ _ _=>(Gj (ZA (Zd (pv 1)) (Zd (pv 0))) Zj))) Zf)))))))))))
abbrev LU:Stmt:=Vl 44
theorem sc_law:Zw (["_law_script_here","_law_web_here","_law_houses","_law_purse_here","_law_other_here","_law_base","_law_found","_law_turned_about","_law_one","_law_two"]:List Str) (["_law_script_here"]:List Str) (Zk LU):=⟨rfl,rfl,rfl,by decide +kernel,rfl,by decide +kernel,by decide +kernel⟩
theorem Hf{ff:Addr}{fd:FuncData}(Fn:Fun K "law" "law" LU ff fd)(B:W7 mg)(C_l_web:Yv P w K mg base "_law_web" (["_law_script_here","_law_most"]:List Str) (Yt K Vz 2) 2)(C_l_purse:Yv P w K mg base "_law_purse" (["_law_script_here","_law_at","_law_houses"]:List Str) (Yt K Yg 3) 2)(C_l_other:Yv P w K mg base "_law_other" (["_law_script_here","_law_purse_here"]:List Str) (Yt K Wu 2) 3)(C_l_part:Yv P w K mg base "_law_part" (["_law_cell_here","_law_turn","_law_many"]:List Str) (Yt K Zn 3) 1)(C_m_cell:Yv P w K mg base "_law_cell" (["_law_script_here","_law_k"]:List Str) (Yt K ZF 2) 1)(C_alike:Yv P w K mg base "alike" (["web","one","other"]:List Str) (Yt K YR 3) 6)(C_l_run:Yv P w K mg base "_law_run" (["_law_web_here","_law_purse_here","_law_often_here"]:List Str) (Yt K YQ 3) 1)(C_l_row:Yv P w K mg base "_law_row" (["_law_found","_law_houses"]:List Str) (Yt K Yy 2) 2)(C_l_low:Yv P w K mg base "_law_low" (["_law_often_here"]:List Str) (Yt K Wg 1) 1)(C_settle:Yv P w K mg base "settle" (["web","purse","base"]:List Str) (Yt K ZM 3) 5)(C_l_settled:Yv P w K mg base "_law_settled" (["_law_web_here","_law_purse_here","_law_base","_law_found"]:List Str) (Yt K Ys 4) 3):TF P w K mg base Nl 7 ff fd (["_law_script_here"]:List Str) (Yt K D_law 1):=
 IW (O:=[]) (k:=6) 10 NF Fn sc_law rfl rfl (by decide) (fun fa cdv A outer s H E hr=>
  (Zh (Zy (i:=1) sc_law.nd rfl (Or.inl rfl) (Zl C_l_web (hr.mono (by decide)) rfl (Zc (Zd (pv 0)) (Zc Zj Zf))))
  (Zh (Zy (i:=2) sc_law.nd rfl (Or.inl rfl) (VE.pure (Zu Z2 YG rfl B.len (by decide +kernel) (Zc (Zd (pv 1)) Zf))))
  (Zh (Zy (i:=3) sc_law.nd rfl (Or.inl rfl) (VE.pure (Z5 ZE Yi rfl B.tuple (by decide +kernel) (Zc (Yc (["_law_coins_here"]:List Str) ([]:List Str) [] rfl (Qv (VM.ve (Zl C_l_purse (hr.mono (by decide)) rfl (Zc (Zd (pv 0)) (Zc Zj (Zc (Zd (pv 2)) Zf)))))) (by kernel_rfl) (fun _ _ _ _ _=>(Zt (i:=0) (show((["_law_coins_here"]:List Str)++([]:List Str)).Nodup by decide +kernel) rfl (Or.inl rfl) (.inr rfl))) (fun _ _ _ _ _=>Z3) (fun _ _ _ _ _=>(Xf (Zd (pv 0)) (Qq Zj Zj)))) Zf))))
  (Zh (Zy (i:=4) sc_law.nd rfl (Or.inl rfl) (Zl C_l_other (hr.mono (by decide)) rfl (Zc (Zd (pv 0)) (Zc (Zd (pv 3)) Zf))))
  (Zh (Zy (i:=5) sc_law.nd rfl (Or.inl rfl) (Zl C_l_part (hr.mono (by decide)) rfl (Zc (VM.ve (Zl C_m_cell (hr.mono (by decide)) rfl (Zc (Zd (pv 0)) (Zc Zj Zf)))) (Zc Zj (Zc (Zd (pv 2)) Zf)))))
  (Zh (Zy (i:=6) sc_law.nd rfl (Or.inl rfl) (Zl C_alike (hr.mono (by decide)) rfl (Zc (Zd (pv 1)) (Zc (Zd (pv 3)) (Zc (Zd (pv 4)) Zf)))))
  (Zh (Zy (i:=7) sc_law.nd rfl (Or.inl rfl) (Zl C_alike (hr.mono (by decide)) rfl (Zc (Zd (pv 1)) (Zc (Zd (pv 4)) (Zc (Zd (pv 3)) Zf)))))
  (Zh (Xg (Nt (Zd (pv 6))) (Zh (Xg (VW.vt (Uf (WC (WB (VM.ve (Zl C_l_row (hr.mono (by decide)) rfl (Zc (Zd (pv 6)) (Zc (Zd (pv 2)) Zf)))))) (Uf (WV hr.units (Zu (Vy rfl) T7 rfl B.min (by decide +kernel) (Zc (Zd (pv 6)) Zf)) Zj) (U1 (WV hr.units (VM.ve (Zl C_l_run (hr.mono (by decide)) rfl (Zc (Zd (pv 1)) (Zc (Zd (pv 3)) (Zc (Zd (pv 6)) Zf))))) (Zd (pv 4))))))) (Zm (ZB (VE.pure Ud))) Yj)
  (Zm (ZB (VE.pure (JV hr.units (Zd (pv 7)) (VM.ve (Zl C_l_low (hr.mono (by decide)) rfl (Zc (Yc (["_law_one"]:List Str) ([]:List Str) [] rfl (Qv (Zd (pv 6))) (by kernel_rfl) (fun _ _ _ _ _=>(Zt (i:=0) (show((["_law_one"]:List Str)++([]:List Str)).Nodup by decide +kernel) rfl (Or.inl rfl) (.inr rfl))) (fun _ _ _ _ _=>Z3) (fun _ _ _ _ _=>(Xe Zj (Zd (pv 0))))) Zf)))))))) Yj)
  (Zh (Zy (i:=8) sc_law.nd rfl (Or.inl rfl) (Zl C_settle (hr.mono (by decide)) rfl (Zc (Zd (pv 1)) (Zc (Zd (pv 3)) (Zc (Zd (pv 5)) Zf)))))
  (Zh (Zy (i:=9) sc_law.nd rfl (Or.inl rfl) (Zl C_settle (hr.mono (by decide)) rfl (Zc (Zd (pv 1)) (Zc (Zd (pv 4)) (Zc (Zd (pv 5)) Zf)))))
  (Zh (Xg (VW.vt (Uf (WC (WB (VM.ve (Zl C_l_settled (hr.mono (by decide)) rfl (Zc (Zd (pv 1)) (Zc (Zd (pv 3)) (Zc (Zd (pv 5)) (Zc (Zd (pv 8)) Zf)))))))) (U1 (WC (WB (VM.ve (Zl C_l_settled (hr.mono (by decide)) rfl (Zc (Zd (pv 1)) (Zc (Zd (pv 4)) (Zc (Zd (pv 5)) (Zc (Zd (pv 9)) Zf))))))))))) (Zm (ZB (VE.pure Ud))) Yj)
  (Zm (ZB (VE.pure (Sv (La (Zd (pv 7))) (Qs (Gr hr.units (ZA (Zd (pv 8)) Zj) (ZA (Zd (pv 9)) Zj)))))))))))))))))))
end
end PW
namespace PW
open L2 VL
theorem O0{W:List (List Int)}{h:Nat}(hh:h<W.length):XV [wP W,.int (h:Int)]=some (.int (ZO W h).sum):=by
 simp[XV,U9,YO,Yf,Ur hh]
theorem PB(i:Int):YD [.int i]=some (.bl true):=by
 simp[YD,Tc,YO,Yf]
def PD(a b:List Int):List Int:=(List.range a.length).map fun i=>Zq a i+Zq b i
def WQ(a b:List Int):List Int:=(List.range a.length).map fun i=>Zq a i-Zq b i
theorem Jr{a b:List Int}(h:b.length=a.length)(hl:a.length<=1000):Vh [pP a,pP b]=some (pP (PD a b)):=by
 have hz:V6 (iL a) (iL b)=(List.range a.length).map fun(i:Nat)=>.tup [.int (Zq a i),.int (Zq b i)]:=by
  rw[WL _ _ (by simpa using h),List.length_map]
  apply List.map_congr_left
  intro i hi;have hi:=List.mem_range.mp hi;rw[Wd a i hi,Wd b i (by omega)]
 have hc:Zs 2 [] (VR false false [Za 0,Za 1]) (.many [0,1]) Zz (Zi Yu (Za 0) (Za 1)) [some (pP a),some (pP b)]=some (.lst (iL (PD a b))):=by
  rw[Z1 (List.range a.length) (fun(i:Nat)=>.tup [.int (Zq a i),.int (Zq b i)]) (fun i=>.int (Zq a i+Zq b i)) (by simp[hz]) (by simp;omega) (fun i _=>⟨_,rfl,rfl,by simp[setAll,ZL]⟩)]
  simp[PD]
 simp[Vh,OE,YO,Yf,hc]
theorem LV{a b:List Int}(h:b.length=a.length)(hl:a.length<=1000):WN [pP a,pP b]=some (pP (WQ a b)):=by
 have hz:V6 (iL a) (iL b)=(List.range a.length).map fun(i:Nat)=>.tup [.int (Zq a i),.int (Zq b i)]:=by
  rw[WL _ _ (by simpa using h),List.length_map]
  apply List.map_congr_left
  intro i hi;have hi:=List.mem_range.mp hi;rw[Wd a i hi,Wd b i (by omega)]
 have hc:Zs 2 [] (VR false false [Za 0,Za 1]) (.many [0,1]) Zz (Zi YT (Za 0) (Za 1)) [some (pP a),some (pP b)]=some (.lst (iL (WQ a b))):=by
  rw[Z1 (List.range a.length) (fun(i:Nat)=>.tup [.int (Zq a i),.int (Zq b i)]) (fun i=>.int (Zq a i-Zq b i)) (by simp[hz]) (by simp;omega) (fun i _=>⟨_,rfl,rfl,by simp[setAll,ZL]⟩)]
  simp[WQ]
 simp[WN,QD,YO,Yf,hc]
theorem Sd(l:List Int):Vb (iL l)=(List.range l.length).map fun(i:Nat)=>.tup [.int (i:Int),.int (Zq l i)]:=by
 rw[TC,List.length_map]
 apply List.map_congr_left
 intro i hi;rw[Wd l i (List.mem_range.mp hi)]
def XJ(W:List (List Int))(S:List Int)(h:Nat):Int:=((List.range W.length).map fun i=>Yl W h i*(Zq S i-Zq S h)).sum
theorem Js{W:List (List Int)}{S:List Int}{h:Nat}(ok:Yk W)(hh:h<W.length)(hs:S.length=W.length):Ta [wP W,pP S,.int (h:Int)]=some (.int (XJ W S h)):=by
 have hr:=ok.sq h hh;have hf:=ok.few
 have hc:Zs 2 [1,2] (Y9 false [Zi ZQ (Za 0) (Za 2)]) (.many [0,1]) Zz (Zi VP (Za 1) (Zi YT (Zi ZQ (Za 2) (Za 0)) (Zi ZQ (Za 2) (Za 3)))) [some (wP W),some (pP S),some (.int (h:Int))]=some (.lst (iL ((List.range W.length).map fun i=>Yl W h i*(Zq S i-Zq S h)))):=by
  rw[Z1 (List.range W.length) (fun(i:Nat)=>.tup [.int (i:Int),.int (Yl W h i)]) (fun i=>.int (Yl W h i*(Zq S i-Zq S h))) (by simp[Ur hh,Sd,hr];intro a _;rfl) (by simp;omega) (fun i hi=>?_)]
  ·simp
  ·have hi:=List.mem_range.mp hi
   refine⟨_,rfl,rfl,?_⟩
   have b1:=ok.lo h i hh hi;have b2:=ok.hi h i hh hi
   have hm:∀j,CMul (Yl W h i) j:=fun j=>OC (by omega) (by omega)
   simp[setAll,ZL,Y1 (show i<S.length by omega),Y1 (show h<S.length by omega),hm]
 simp[Ta,OD,YO,Yf,hc,XJ,-List.map_map]
def ZH(W:List (List Int))(D S:List Int):List Int:=(List.range D.length).map fun h=>Zq D h+XJ W S h
theorem LW{W:List (List Int)}{D S:List Int}(ok:Yk W)(hd:D.length=W.length)(hs:S.length=W.length):Vg [wP W,pP D,pP S]=some (pP (ZH W D S)):=by
 have hf:=ok.few
 have hc:Zs 2 [0,2] (Y9 false [Za 1]) (.many [0,1]) Zz (Zi Yu (Za 1) (Ze Ta [Za 2,Za 3,Za 0])) [some (wP W),some (pP D),some (pP S)]=some (.lst (iL (ZH W D S))):=by
  rw[Z1 (List.range D.length) (fun(i:Nat)=>.tup [.int (i:Int),.int (Zq D i)]) (fun h=>.int (Zq D h+XJ W S h)) (by simp[Sd]) (by simp;omega) (fun i hi=>?_)]
  ·simp[ZH]
  ·have hi:=List.mem_range.mp hi
   refine⟨_,rfl,rfl,?_⟩
   simp[setAll,ZL,Js ok (show i<W.length by omega) hs]
 simp[Vg,Lz,YO,Yf,hc]
theorem LX{l:List Int}(hl:l.length<=1000):R8 [pP l,.int (l.length:Int)]=some (.bl true):=by
 have hc:Zs 1 [] (Wq (Za 0)) (.one 0) Zz (Ze YD [Za 0]) [some (pP l),some (.int (l.length:Int))]=some (.lst (bL (l.map fun _=>true))):=by
  rw[Z1 l PV.int (fun _=>.bl true) (SH (by simp)) (by omega) (fun i hi=>⟨_,rfl,rfl,by simp[ZL,PB]⟩)]
  simp
 have ha:Sz [.lst (bL (l.map fun _=>true))]=some (.bl true):=by
  rw[OB]
  simp
 simp[R8,R7,YO,Yf,hc,ha,-List.map_map]
def tk(e:Fv):List TV:=[.inl (e.1:Int),.inl (e.2.1:Int)]
def Tq(W:List (List Int)):Prop:=∀P:Nat->Prop,(∀a b,a<W.length->b<W.length->0<Yl W a b->(P a↔P b))->∀i j,i<W.length->j<W.length->(P i↔P j)
theorem S4:∀{l m:List Int},l.Nodup->(∀x∈l,x∈m)->l.length<=m.length
 | [],m,_,_=>Nat.zero_le _
 | x::r,m,nd,h=>by
  have hx:x∈m:=h x (by simp)
  have nd':=List.nodup_cons.mp nd
  have:=S4 (l:=r) (m:=m.erase x) nd'.2 fun y hy=>(List.mem_erase_of_ne (show y≠x from fun z=>nd'.1 (by rw[<-z];exact hy))).mpr (h y (by simp[hy]))
  rw[List.length_erase_of_mem hx] at this;have hp:=List.length_pos_of_mem hx
  rw[List.length_cons];omega
theorem Fc{n:Nat}{l:List Int}(nd:l.Nodup)(h:∀x∈l,∃k:Nat,k<n/\x=(k:Int))(hl:l.length=n){j:Nat}(hj:j<n):(j:Int)∈l:=by
 by_cases q:(j:Int)∈l
 ·exact q
 ·have:=S4 (l:=(j:Int)::l) (m:=(List.range n).map fun(k:Nat)=>(k:Int)) (List.nodup_cons.mpr ⟨q,nd⟩) (fun x hx=>by
   rcases List.mem_cons.mp hx with rfl | hx
   ·exact List.mem_map.mpr ⟨j,List.mem_range.mpr hj,rfl⟩
   ·obtain⟨k,hk,rfl⟩:=h x hx
    exact List.mem_map.mpr ⟨k,List.mem_range.mpr hk,rfl⟩)
  rw[List.length_cons,List.length_map,List.length_range] at this;omega
def rL(M:List (List Int)):List PV:=M.map fun r=>.lst (iL r)
theorem O1{M:List (List Int)}{a:Nat}(h:a<M.length):(rL M)[a]?=some (.lst (iL (ZO M a))):=by
 unfold rL
 rw[List.getElem?_map,Pj h];rfl
theorem LY{M:List (List Int)}{a b:Nat}{t:Int}:(rL M).set a (.lst ((iL (ZO M a)).set b (.int t)))=rL (UY M a b t):=by
 unfold rL UY;rw[List.map_set]
 show _=(List.map (fun r=>PV.lst (iL r)) M).set a (PV.lst (((ZO M a).set b t).map PV.int))
 rw[List.map_set]
theorem LZ(l:List Int)(k:Nat)(x:Int):(iL l).take k++PV.int x::(iL l).drop k=iL (l.take k++x::l.drop k):=by
 show(l.map PV.int).take k++PV.int x::(l.map PV.int).drop k=(l.take k++x::l.drop k).map PV.int
 rw[List.map_append,List.map_cons,List.map_take,List.map_drop]
theorem JX(neg:Bool)(a:Int)(l:List Int):P3 neg (.int a) (.lst (iL l))=some (.bl (if neg then !decide (a∈l) else decide (a∈l))):=by
 unfold P3
 have c:((iL l).all fun z=>XG 8 z (.int a))=true:=by
  rw[List.all_map,List.all_eq_true]
  intro x _;rfl
 show(some (iL l)).bind _=_
 simp only[Option.bind_some,if_pos c]
 have:decide (PV.int a∈iL l)=decide (a∈l):=decide_eq_decide.mpr (by
  rw[List.mem_map];constructor
  ·rintro⟨x,hx,e⟩;cases e;exact hx
  ·intro h;exact⟨a,h,rfl⟩)
 rw[this]
theorem ZI{f g:XS}{s s1:ZU}(e1:f s=some (.nx s1)):Zp f g s=g s1:=by
 simp only[Pu,e1,Option.bind_some]
theorem PF(a b:List Int):(PD a b).length=a.length:=by simp[PD]
theorem Xk(a b:List Int):(WQ a b).length=a.length:=by simp[WQ]
theorem Z8(W:List (List Int))(D S:List Int):(ZH W D S).length=D.length:=by simp[ZH]
theorem S5{a b:List Int}{i:Nat}(h:i<a.length):Zq (PD a b) i=Zq a i+Zq b i:=ZN h
theorem Vo{a b:List Int}{i:Nat}(h:i<a.length):Zq (WQ a b) i=Zq a i-Zq b i:=ZN h
theorem XB{W:List (List Int)}{a b:List Int}{i:Nat}(h:i<a.length):Zq (ZH W a b) i=Zq a i+XJ W b i:=ZN h
theorem XU{a b:List Int}(hl:a.length=b.length)(h:∀i,i<a.length->Zq a i=Zq b i):a=b:=by
 rw[<-UX a,<-UX b,hl]
 apply List.map_congr_left
 intro i hi
 exact h i (by rw[hl];exact List.mem_range.mp hi)
theorem NG{W:List (List Int)}(ok:Yk W){i:Nat}(hi:i<W.length):(ZO W i).sum=((List.range W.length).map fun j=>Yl W i j).sum:=by
 rw[<-Nn (ZO W i),ok.sq i hi];rfl
theorem Tr{n m:Nat}{ix:List Nat}{fi:XL}{ft:XT}{fe:XE}{s:ZU}(g:Nat->Int)(hfi:fi s=some (W9 m))(hm:m<=1000)(h:∀i:Nat,i<m->∃s1,X1 (.one 0) (.int (i:Int)) (ZL n ix s)=some s1/\ft s1=some true/\fe s1=some (.int (g i))) :
  Zs n ix fi (.one 0) ft fe s=some (.lst (iL ((List.range m).map g))):=by
 rw[Z1 (List.range m) (fun(i:Nat)=>.int (i:Int)) (fun i=>.int (g i)) hfi (by simp;omega) (fun i hi=>h i (List.mem_range.mp hi))]
 simp
theorem L0(f g:Nat->Int)(n:Nat):((List.range n).map fun i=>f i+g i).sum=((List.range n).map f).sum+((List.range n).map g).sum:=by
 induction n with
 | zero=>rfl
 | succ n ih=>rw[Uc,Uc,Uc,ih];omega
theorem Pl{f:Nat->Int}{n:Nat}(h:∀i,i<n->f i=0):((List.range n).map f).sum=0:=by
 rw[Vv h,RQ,Int.mul_zero]
theorem Mx{W:List (List Int)}{S U T:List Int}{h:Nat}(e:∀i,i<W.length->Zq T i=Zq S i+Zq U i)(hh:h<W.length):XJ W T h=XJ W S h+XJ W U h:=by
 unfold XJ;rw[<-L0]
 apply Vv
 intro i hi;rw[e i hi,e h hh,<-Int.mul_add]
 congr 1
 omega
theorem Se{W:List (List Int)}{D S U T:List Int}(hd:D.length=W.length)(e:∀i,i<W.length->Zq T i=Zq S i+Zq U i):ZH W (ZH W D S) U=ZH W D T:=XU (by simp[Z8]) fun i hi=>by
 rw[Z8,Z8] at hi
 rw[XB (by rw[Z8];exact hi),XB hi,XB hi,Mx e (by omega)]
 omega
theorem My{W:List (List Int)}{S T:List Int}{h:Nat}(c:Int)(e:∀i,i<W.length->Zq T i=Zq S i+c)(hh:h<W.length):XJ W T h=XJ W S h:=by
 unfold XJ
 apply Vv
 intro i hi;rw[e i hi,e h hh]
 congr 1
 omega
theorem Mz{W:List (List Int)}{S:List Int}{h:Nat}(e:∀i,i<W.length->Zq S i=0)(hh:h<W.length):XJ W S h=0:=by
 unfold XJ
 apply Pl
 intro i hi;rw[e i hi,e h hh]
 simp
theorem L3{W:List (List Int)}{D S:List Int}(hd:D.length=W.length)(e:∀i,i<W.length->Zq S i=0):ZH W D S=D:=XU (by simp[Z8]) fun i hi=>by
 rw[Z8] at hi;rw[XB hi,Mz e (by omega),Int.add_zero]
theorem nth_set{l:List Int}{h i:Nat}{v:Int}(hi:i<l.length):Zq (l.set h v) i=if i=h then v else Zq l i:=by
 unfold Zq;rw[List.getD_eq_getElem?_getD,List.getD_eq_getElem?_getD,List.getElem?_set]
 by_cases e:h=i
 ·subst e
  rw[if_pos rfl,if_pos rfl,if_pos hi];rfl
 ·rw[if_neg e,if_neg (Ne.symm e)]
theorem NH{n i:Nat}(c:Int)(hi:i<n):Zq (List.replicate n c) i=c:=by
 unfold Zq
 rw[List.getD_eq_getElem?_getD,List.getElem?_replicate,if_pos hi];rfl
theorem L4(l:List Int)(k:Nat):WZ (iL l) none (some (k:Int))=iL (l.take k):=by
 unfold WZ;rw[HT.sIx_none,HT.sIx_nat,List.length_map,List.drop_zero,Nat.sub_zero,<-List.map_take]
 congr 1
 by_cases h:k<=l.length
 ·rw[Nat.min_eq_left h]
 ·rw[Nat.min_eq_right (by omega),List.take_of_length_le (Nat.le_refl _),List.take_of_length_le (by omega)]
theorem Hg(l:List Int)(k:Nat):WZ (iL l) (some (k:Int)) none=iL (l.drop k):=by
 unfold WZ;rw[HT.sIx_none,HT.sIx_nat,List.length_map,<-List.map_drop,<-List.map_take]
 congr 1
 by_cases h:k<=l.length
 ·rw[Nat.min_eq_left h,List.take_of_length_le (by rw[List.length_drop];omega)]
 ·rw[Nat.min_eq_right (by omega),List.drop_eq_nil_of_le (Nat.le_refl _),List.drop_eq_nil_of_le (by omega)];simp
theorem L5(l:List Int)(lo hi:Option Int):∃m:List Int,WZ (iL l) lo hi=iL m/\m.length<=l.length:=by
 refine⟨(l.drop (HT.sIx l.length 0 lo)).take (HT.sIx l.length l.length hi-HT.sIx l.length 0 lo),?_,?_⟩
 ·unfold WZ
  rw[List.length_map,<-List.map_drop,<-List.map_take]
 ·rw[List.length_take,List.length_drop];omega
theorem QY{l:List Int}{i:Nat}(h:i<l.length):Zq l i∈l:=by
 unfold Zq;rw[List.getD_eq_getElem?_getD,List.getElem?_eq_getElem h]
 exact List.getElem_mem h
theorem QZ{l:List Int}{x:Int}(h:x∈l):∃i,i<l.length/\Zq l i=x:=by
 obtain⟨i,hi,e⟩:=List.getElem_of_mem h
 refine⟨i,hi,?_⟩
 unfold Zq
 rw[List.getD_eq_getElem?_getD,List.getElem?_eq_getElem hi,e];rfl
theorem Qa{l l':List Int}(c:Int)(hl:l'.length=l.length)(hp:0<l.length)(e:∀i,i<l.length->Zq l' i=Zq l i+c):YH l'=YH l+c:=by
 obtain⟨a,b⟩:=Td (l:=l) (List.length_pos_iff.mp hp)
 obtain⟨i,hi,ei⟩:=QZ a
 refine NC ?_ fun x hx=>?_
 ·have:=QY (l:=l') (i:=i) (by omega)
  rw[e i hi,ei] at this;exact this
 ·obtain⟨j,hj,ej⟩:=QZ hx
  have h1:=b _ (QY (l:=l) (i:=j) (by omega))
  rw[e j (by omega)] at ej;omega
def ZC(l:List Int):List Int:=(List.range l.length).map fun i=>Zq l i-YH l
theorem Z4(l:List Int):(ZC l).length=l.length:=by simp[ZC]
theorem YI{l:List Int}{i:Nat}(h:i<l.length):Zq (ZC l) i=Zq l i-YH l:=ZN h
theorem Vp{l l':List Int}(c:Int)(hl:l'.length=l.length)(hp:0<l.length)(e:∀i,i<l.length->Zq l' i=Zq l i+c):ZC l'=ZC l:=XU (by rw[Z4,Z4,hl]) fun i hi=>by
 rw[Z4] at hi
 rw[YI hi,YI (by omega),Qa c hl hp e,e i (by omega)];omega
theorem Ts{W:List (List Int)}{D S T:List Int}(c:Int)(hd:D.length=W.length)(e:∀i,i<W.length->Zq T i=Zq S i+c):ZH W D T=ZH W D S:=XU (by simp[Z8]) fun i hi=>by
 rw[Z8] at hi;rw[XB hi,XB hi,My c e (by omega)]
theorem O2{f g:XS}{s:ZU}{v:PV}(e1:f s=some (.rt v)):Zp f g s=some (.rt v):=by rw[Pu,e1];rfl
def Z9(ns:List Int)(k:Nat):Int:=if k<ns.length then Zq ns k else((k:Int)*k+3*k+1)*5003%1999
section
variable {s:ZU} {f g:XE} {a b:Int} {C:Int->Int->Prop} [∀i j,Decidable (C i j)] {op:Int->Int->Int}
theorem vC(h1:f s=some (.int a))(h2:g s=some (.int b))(c:C a b):Zi (M4 C op) f g s=some (.int (op a b)):=by
 rw[YY,h1,h2];simp only[Option.bind_some,IY,if_pos c]
theorem vI(h1:f s=some (.int a))(h2:g s=some (.int b)):Zi (gI op) f g s=some (.int (op a b)):=by
 rw[YY,h1,h2];rfl
theorem vP(h1:f s=some (.int a)):eP f s=some (.int a):=by
 rw[Xs,h1];rfl
theorem W4{v:PV}(h1:f s=some v):ZK f s=some (.rt v):=by
 rw[Ls,h1];rfl
end
theorem Xv{ns:List Int}(h:ns.length<=63){k:Nat}(hk:k<=100):ZF [.cst (iL ns),.int (k:Int)]=some (.int (Z9 ns k)):=by
 unfold Z9
 by_cases q:k<ns.length
 ·simp[ZF,Vj,YO,Yf,q,Y1 q]
 ·have c1:CMul (k:Int) (k:Int):=OC (by omega) (by omega)
  have c2:CMul 3 (k:Int):=.inl (by omega)
  have c3:CMul ((k:Int)*k+3*k+1) 5003:=.inr (by omega)
  have e1:Wo (xB (Zi MJ (Za 1) (Ze ZZ [(Za 0)]))) (ZK (eP (Zi ZQ (Za 0) (Za 1)))) ZY [some (.cst (iL ns)),some (.int (k:Int))]=some (.nx [some (.cst (iL ns)),some (.int (k:Int))]):=by simp[q]
  show YO 2 Vj _=_
  unfold Vj
  show(Zp _ _ [some (.cst (iL ns)),some (.int (k:Int))]).bind Xr=_
  rw[ZI e1,if_neg q,W4 (vP (vC (vC (vI (vI (vC rfl rfl c1) (vC rfl rfl c2)) rfl) rfl c3) rfl (by decide)))];rfl
theorem L6{ns:List Int}(hb:∀n∈ns,n.natAbs.log2<=1048576)(k:Nat):(Z9 ns k).natAbs.log2<=1048576:=by
 unfold Z9
 split
 ·exact hb _ (QY (by assumption))
 ·generalize ((k:Int)*k+3*k+1)*5003=z
  have h0:=Int.emod_nonneg z (show(1999:Int)≠0 by decide)
  have h1:=Int.emod_lt_of_pos z (show(0:Int)<1999 by decide)
  have:(z%1999).natAbs.log2<=1048576:=by
   by_cases h:(z%1999).natAbs=0
   ·rw[h];decide +kernel
   ·have:=(Nat.log2_lt (k:=11) h).mpr (by omega)
    omega
  exact this
theorem Y5(c:Int){t m:Nat}(ht:t<=100)(hm:0<m):∃v:Nat,v<m/\Zn [.int c,.int (t:Int),.int (m:Int)]=some (.int (v:Int)):=by
 have hm':(0:Int)<(m:Int):=by omega
 have fin:∀x:Int,∃v:Nat,v<m/\x%(m:Int)=(v:Int):=fun x=>by
  have h0:=Int.emod_nonneg x (show(m:Int)≠0 by omega)
  have h1:=Int.emod_lt_of_pos x hm'
  exact⟨(x%(m:Int)).toNat,by omega,by omega⟩
 have e1:Zr 3 (eP (Zi Oj (Za 0) (eC (.int 2)))) [some (.int c),some (.int (t:Int)),some (.int (m:Int)),none,none]=some (.nx [some (.int c),some (.int (t:Int)),some (.int (m:Int)),some (.int (c/2)),none]):=by simp[P8]
 show ∃v:Nat,v<m/\YO 5 Ux _=_
 unfold Ux
 show ∃v:Nat,v<m/\(Zp _ _ [some (.int c),some (.int (t:Int)),some (.int (m:Int)),none,none]).bind Xr=_
 rw[ZI e1]
 by_cases q:c%2=1/\1000000000<c
 ·obtain⟨s',h1,x,y,e⟩:=Xh (T:=.one 4) (fb:=Zr 3 (eP (Zi Oj (Za 3) (eC (.int 1000))))) (ls:=W9 t) (s:=[some (.int c),some (.int (t:Int)),some (.int (m:Int)),some (.int (c/2)),none])
   (fun i st=>∃x y,st=[some (.int c),some (.int (t:Int)),some (.int (m:Int)),some (.int x),y]) ⟨_,_,rfl⟩ (by
    rintro i l st hl ⟨x,y,rfl⟩
    obtain⟨hi,rfl⟩:=Vf hl
    refine⟨_,_,rfl,?_,x/1000,some (.int (i:Int)),rfl⟩
    simp[P8])
  subst e
  obtain⟨v,hv,ev⟩:=fin x
  refine⟨v,hv,?_⟩
  have hr:ZS [Za 1] [some (.int c),some (.int (t:Int)),some (.int (m:Int)),some (.int (c/2)),none]=some (W9 t):=Yp (by simp) (by omega)
  have e2:Wa [] (ZS [Za 1]) (.one 4) (Zr 3 (eP (Zi Oj (Za 3) (eC (.int 1000))))) [some (.int c),some (.int (t:Int)),some (.int (m:Int)),some (.int (c/2)),none]=some (.nx [some (.int c),some (.int (t:Int)),some (.int (m:Int)),some (.int x),y]):=by
   show(ZS [Za 1] [some (.int c),some (.int (t:Int)),some (.int (m:Int)),some (.int (c/2)),none]).bind _=_
   rw[hr];exact h1
  rw[O2 (v:=.int (v:Int))]
  ·rfl
  ·rw[Yd]
   have:(U0 (xB (Zi (Yr false) (Zi Xz (Za 0) (eC (.int 2))) (eC (.int 1)))) (xB (Zi Np (Za 0) (Zi TM (eC (.int 10)) (eC (.int 9)))))) [some (.int c),some (.int (t:Int)),some (.int (m:Int)),some (.int (c/2)),none]=some true:=by
    simp[q.1,Pa,q.2]
   rw[this];simp only[Option.bind_some,if_true];rw[ZI e2];simp[hm,ev]
 ·have:(U0 (xB (Zi (Yr false) (Zi Xz (Za 0) (eC (.int 2))) (eC (.int 1)))) (xB (Zi Np (Za 0) (Zi TM (eC (.int 10)) (eC (.int 9)))))) [some (.int c),some (.int (t:Int)),some (.int (m:Int)),some (.int (c/2)),none]=some false:=by
   by_cases q1:c%2=1
   ·have:¬1000000000<c:=fun z=>q ⟨q1,z⟩
    simp[q1,Pa,this]
   ·simp[q1]
  rw[ZI (s1:=[some (.int c),some (.int (t:Int)),some (.int (m:Int)),some (.int (c/2)),none]) (by rw[Yd,this];rfl)]
  generalize hx1:c/2%999979+1009*(t:Int)=x1
  have b1:0<=x1/\x1<2000000:=by
   have h0:=Int.emod_nonneg (c/2) (show(999979:Int)≠0 by decide)
   have h1:=Int.emod_lt_of_pos (c/2) (show(0:Int)<999979 by decide)
   omega
  generalize hx2:(x1*x1+40503*x1)%999983=x2
  have b2:0<=x2/\x2<2000000:=by
   have h0:=Int.emod_nonneg (x1*x1+40503*x1) (show(999983:Int)≠0 by decide)
   have h1:=Int.emod_lt_of_pos (x1*x1+40503*x1) (show(0:Int)<999983 by decide)
   omega
  have cm1:CMul 1009 (t:Int):=.inl (by omega)
  have cm2:CMul x1 x1:=.inl (by omega)
  have cm3:CMul 40503 x1:=.inl (by omega)
  have cm4:CMul x2 x2:=.inl (by omega)
  have cm5:CMul 7 (t:Int):=.inl (by omega)
  obtain⟨v,hv,ev⟩:=fin ((x2*x2+7*(t:Int))%999961/11)
  refine⟨v,hv,?_⟩
  rw[ZI (s1:=[some (.int c),some (.int (t:Int)),some (.int (m:Int)),some (.int x1),none]) (by simp[cm1,hx1]),ZI (s1:=[some (.int c),some (.int (t:Int)),some (.int (m:Int)),some (.int x2),none]) (by simp[cm2,cm3,hx2])]
  simp[cm4,cm5,P8,hm,ev]
def Q0(M:List (List Int))(a b:Nat)(t:Int):List (List Int):=UY (UY M a b t) b a t
theorem Q1{n:Nat}{M:List (List Int)}{a b:Nat}{t:Int}(ok:MatOk n M)(ha:a<n)(hb:b<n)(i j:Nat):Yl (Q0 M a b t) i j=if b=i/\a=j then t else if a=i/\b=j then t else Yl M i j:=by
 obtain⟨l1,r1⟩:=WA (t:=t) (b:=b) ok.len ok.row ha
 unfold Q0;rw[Pk l1 r1 hb ha,Pk ok.len ok.row ha hb]
theorem L7{n:Nat}{M:List (List Int)}{a b:Nat}{t:Int}(ok:MatOk n M)(ha:a<n)(hb:b<n)(hab:a≠b)(h1:0<=t)(h9:t<=9):MatOk n (Q0 M a b t):=by
 obtain⟨l1,r1⟩:=WA (t:=t) (b:=b) ok.len ok.row ha
 obtain⟨l2,r2⟩:=WA (t:=t) (b:=a) l1 r1 hb
 have E:=Q1 (t:=t) ok ha hb
 refine⟨l2,r2,fun i j hi hj=>?_,fun i j hi hj=>?_,fun i j hi hj=>?_,fun i hi=>?_⟩
 ·have:=ok.lo i j hi hj
  rw[E];split<;>(try split)<;>omega
 ·have:=ok.hi i j hi hj
  rw[E];split<;>(try split)<;>omega
 ·have:=ok.sym i j hi hj
  rw[E,E]
  by_cases p:b=i/\a=j
  ·rw[if_pos p]
   by_cases p2:b=j/\a=i
   ·rw[if_pos p2]
   ·rw[if_neg p2,if_pos ⟨p.2,p.1⟩]
  ·rw[if_neg p]
   by_cases p2:a=i/\b=j
   ·rw[if_pos p2,if_pos ⟨p2.2,p2.1⟩]
   ·rw[if_neg p2,if_neg (fun z=>p2 ⟨z.2,z.1⟩),if_neg (fun z=>p ⟨z.2,z.1⟩)];exact this
 ·rw[E,if_neg (fun z=>hab (by omega)),if_neg (fun z=>hab (by omega))];exact ok.dia i hi
theorem PH{n:Nat}{M:List (List Int)}{a b:Nat}{k:Int}(ok:MatOk n M)(ha:a<n)(hb:b<n):WP [.lst (rL M),.int (a:Int),.int (b:Int),.int k]=some (.lst (rL (Q0 M a b (if Yl M a b+k<9 then Yl M a b+k else 9)))):=by
 have lenM:(rL M).length=n:=by unfold rL;rw[List.length_map];exact ok.len
 generalize ht:(if Yl M a b+k<9 then Yl M a b+k else 9)=t
 have i1:UN (rL M) (a:Int)=some (.lst (iL (ZO M a))):=Ua (O1 (by rw[ok.len];exact ha))
 have i2:UN (iL (ZO M a)) (b:Int)=some (.int (Yl M a b)):=Y1 (by rw[ok.row a ha];exact hb)
 have sh:=WA (t:=t) (b:=b) ok.len ok.row ha
 have lenM2:(rL (UY M a b t)).length=n:=by unfold rL;rw[List.length_map];exact sh.1
 have e1:Zr 4 (eP (Ze Pn [(eC (.int 9)),(Zi Yu (Zi ZQ (Zi ZQ (Za 0) (Za 1)) (Za 2)) (Za 3))])) [some (.lst (rL M)),some (.int (a:Int)),some (.int (b:Int)),some (.int k),none]=some (.nx [some (.lst (rL M)),some (.int (a:Int)),some (.int (b:Int)),some (.int k),some (.int t)]):=by
  simp[i1,i2,ht]
 have e2:WH 0 (Za 1) (Za 2) (Za 4) [some (.lst (rL M)),some (.int (a:Int)),some (.int (b:Int)),some (.int k),some (.int t)]=some (.nx [some (.lst (rL (UY M a b t))),some (.int (a:Int)),some (.int (b:Int)),some (.int k),some (.int t)]):=by
  rw[SK (l:=.int t) (a:=(a:Int)) (b:=(b:Int)) (j:=a) (c:=b) (m:=rL M) (n:=iL (ZO M a)) rfl rfl rfl rfl (WM (by rw[lenM];exact ha)) (O1 (by rw[ok.len];exact ha)) (Y7 _) rfl (WM (by rw[List.length_map,ok.row a ha];exact hb)),LY]
  rfl
 have e3:WH 0 (Za 2) (Za 1) (Za 4) [some (.lst (rL (UY M a b t))),some (.int (a:Int)),some (.int (b:Int)),some (.int k),some (.int t)]=some (.nx [some (.lst (rL (Q0 M a b t))),some (.int (a:Int)),some (.int (b:Int)),some (.int k),some (.int t)]):=by
  rw[SK (l:=.int t) (a:=(b:Int)) (b:=(a:Int)) (j:=b) (c:=a) (m:=rL (UY M a b t)) (n:=iL (ZO (UY M a b t) b)) rfl rfl rfl rfl (WM (by rw[lenM2];exact hb)) (O1 (by rw[sh.1];exact hb)) (Y7 _) rfl (WM (by rw[List.length_map,sh.2 b hb];exact ha)),LY]
  rfl
 show Hx 5 T9 _=_
 unfold Hx;rw[if_pos (by rfl)];unfold T9
 show(Zp _ _ [some (.lst (rL M)),some (.int (a:Int)),some (.int (b:Int)),some (.int k),none]).bind Gu=_
 rw[ZI e1,ZI e2,e3];rfl
theorem NI{i:Nat}{D:List PV->Option PV}{fs:List XE}{s:ZU}{l0 l':PV}{ls:List PV}(h0:s[i]?=some (some l0))(h1:TY fs s=some ls)(hp:ZX ls=true)(h2:D (l0::ls)=some l'):Pz i D fs s=some (.nx (s.set i (some l'))):=by
 unfold Pz;rw[h0];simp only[h1,Option.bind_some,hp,if_true,h2,Option.map_some]
theorem MA{s:ZU}{n:Nat}(h:s[3]?=some (some (.int (n:Int))))(hn:n<=7):Zs 1 [3] (ZS [Za 3]) (.one 0) Zz (Zi Lo (VQ [eC (.int 0)]) (Za 1)) s=some (.lst (rL (List.replicate n (List.replicate n 0)))):=by
 rw[Z1 (List.range n) (fun(i:Nat)=>.int (i:Int)) (fun _=>.lst (iL (List.replicate n 0))) (Yp (by simp[h]) (by omega)) (by simp;omega) (fun i _=>⟨_,rfl,rfl,?_⟩)]
 ·unfold rL
  rw[List.map_const',List.length_range,List.map_replicate]
 ·have e:Lo (.lst [.int 0]) (.int (n:Int))=some (.lst (iL (List.replicate n 0))):=by
   show(if ZX [PV.int 0]=true/\(-1000000:Int)<=(n:Int)/\(n:Int)<=1000000/\[PV.int 0].length*((n:Int)).toNat<=10000 then some (PV.lst (List.replicate ((n:Int)).toNat [PV.int 0]).flatten) else none)=_
   rw[if_pos ⟨rfl,by omega,by omega,by simp;omega⟩,Int.toNat_natCast,M3]
   simp
  simp[ZL,h,e]
def Grown(M:List (List Int))(l:List Int)(k:Nat):Prop:=∀j,1<=j->j<k->∃j',j'<j/\0<Yl M (Zq l j).toNat (Zq l j').toNat
theorem Grown.mono{M M':List (List Int)}{l:List Int}{k:Nat}(h:Grown M l k)(g:∀i j,0<Yl M i j->0<Yl M' i j):Grown M' l k:=fun j h1 h2=>by
 obtain⟨j',a,b⟩:=h j h1 h2
 exact⟨j',a,g _ _ b⟩
theorem Grown.conn{M:List (List Int)}{l:List Int}{n:Nat}(h:Grown M l n)(hl:M.length=n)(nk:NamesOk n l):Tq M:=by
 intro P hP i j hi hj
 rw[hl] at hi hj
 have h0:0<n:=by omega
 have lt:∀x,x<n->(Zq l x).toNat<M.length:=fun x hx=>by have:=nk.at hx;omega
 have all:∀k,k<n->(P (Zq l k).toNat↔P (Zq l 0).toNat):=by
  intro k
  induction k using Nat.strongRecOn with
  | ind k ih=>
   intro hk
   by_cases q:k=0
   ·subst q;exact Iff.rfl
   ·obtain⟨j',a,b⟩:=h k (by omega) hk
    exact(hP _ _ (lt k hk) (lt j' (by omega)) b).trans (ih j' a (by omega))
 have at':∀i,i<n->∃x,x<n/\(Zq l x).toNat=i:=fun i hi=>by
  have:=Fc (n:=n) nk.nd (fun x hx=>⟨x.toNat,by have:=nk.hi x hx;have:=nk.lo x hx;omega,by have:=nk.lo x hx;omega⟩) nk.len hi
  obtain⟨x,hx,e⟩:=QZ this
  exact⟨x,by rw[<-nk.len];exact hx,by rw[e];rfl⟩
 obtain⟨x,hx,rfl⟩:=at' i hi
 obtain⟨y,hy,rfl⟩:=at' j hj
 exact(all x hx).trans (all y hy).symm
theorem NJ{n:Nat}{M:List (List Int)}{a b:Nat}{t:Int}(ok:MatOk n M)(ha:a<n)(hb:b<n)(ht:0<t):(∀i j,0<Yl M i j->0<Yl (Q0 M a b t) i j)/\0<Yl (Q0 M a b t) a b:=by
 refine⟨fun i j h=>?_,?_⟩
 ·rw[Q1 ok ha hb];split
  ·exact ht
  ·split
   ·exact ht
   ·exact h
 ·rw[Q1 ok ha hb];split
  ·exact ht
  ·rw[if_pos ⟨rfl,rfl⟩];exact ht
def X6(ns:List Int)(mo n:Nat)(M:List (List Int))(sp:List Int)(x6 x7 x8 x9:Option PV):ZU:=[some (.cst (iL ns)),some (.int (mo:Int)),some (.int (Z9 ns 0)),some (.int (n:Int)),some (.lst (rL M)),some (.lst (iL sp)),x6,x7,x8,x9]
noncomputable abbrev GI:XS:=WG 5 (Ze Zn [(Ze ZF [(Za 0),(Zi Yu (eC (.int 6)) (Za 6))]),(eC (.int 10)),(Zi Yu (Za 6) (eC (.int 1)))]) (Za 6)
noncomputable abbrev GJ:XS:=Zp (Zr 7 (Ze ZF [(Za 0),(Za 6)]))
  (Pz 4 WP [(Zi ZQ (Za 5) (Za 6)),(Zi ZQ (Za 5) (Ze Zn [(Za 7),(eC (.int 1)),(Za 6)])),(Zi Yu (eC (.int 1)) (Ze Zn [(Za 7),(eC (.int 2)),(eC (.int 3))]))])
noncomputable abbrev GK:XS:=(Zp (Zr 7 (Ze ZF [(Za 0),(Zi Yu (eC (.int 7)) (Za 6))]))
  (Zp (Zr 8 (Ze Zn [(Za 7),(eC (.int 4)),(Za 3)]))
  (Zp (Zr 9 (eP (Zi Xz (Zi Yu (Zi Yu (Za 8) (eC (.int 1))) (Ze Zn [(Za 7),(eC (.int 5)),(Zi YT (Za 3) (eC (.int 1)))])) (Za 3))))
  (Pz 4 WP [(Za 8),(Za 9),(Zi Yu (eC (.int 1)) (Ze Zn [(Za 7),(eC (.int 6)),(eC (.int 2))]))]))))
theorem Hh{ns:List Int}{mo n:Nat}{M:List (List Int)}{sp:List Int}{x7 x8 x9:Option PV}{i:Nat}(hns:ns.length<=63)(hi:i<7)(nk:NamesOk i sp) :
  ∃sp',NamesOk (i+1) sp'/\GI (X6 ns mo n M sp (some (.int (i:Int))) x7 x8 x9)=some (.nx (X6 ns mo n M sp' (some (.int (i:Int))) x7 x8 x9)):=by
 obtain⟨v,hv,ev⟩:=Y5 (Z9 ns (6+i)) (t:=10) (m:=i+1) (by omega) (by omega)
 have ec:=Xv hns (k:=6+i) (by omega)
 refine⟨sp.take v++(i:Int)::sp.drop v,nk.ins v,?_⟩
 unfold GI
 rw[SJ (k:=(v:Int)) (l:=.int (i:Int)) (m:=iL sp) ?_ rfl rfl (Y7 sp) rfl (by omega) (by omega) (by rw[List.length_map,nk.len];omega),Int.toNat_natCast,LZ]
 ·rfl
 ·have h1:((6+i:Nat):Int)=6+(i:Int):=by omega
  have h2:((i+1:Nat):Int)=(i:Int)+1:=by omega
  rw[h1] at ec;rw[h2] at ev;simp[X6,ec];exact ev
theorem Hi{ns:List Int}{mo n:Nat}{M:List (List Int)}{sp:List Int}{x7 x8 x9:Option PV}{k:Nat}(hns:ns.length<=63)(hn:n<=7)(h1:1<=k)(hk:k<n)(nk:NamesOk n sp)(ok:MatOk n M)(gr:Grown M sp k) :
  ∃M' y7,MatOk n M'/\Grown M' sp (k+1)/\GJ (X6 ns mo n M sp (some (.int (k:Int))) x7 x8 x9)=some (.nx (X6 ns mo n M' sp (some (.int (k:Int))) y7 x8 x9)):=by
 obtain⟨v,hv,ev⟩:=Y5 (Z9 ns k) (t:=1) (m:=k) (by omega) (by omega)
 obtain⟨w,hw,ew⟩:=Y5 (Z9 ns k) (t:=2) (m:=3) (by omega) (by omega)
 have ec:=Xv hns (k:=k) (by omega)
 have na:=nk.at (x:=k) hk
 have nb:=nk.at (x:=v) (by omega)
 have ne:=nk.ne (x:=k) (y:=v) hk (by omega) (by omega)
 obtain⟨a,ea⟩:∃a:Nat,Zq sp k=(a:Int):=⟨(Zq sp k).toNat,by omega⟩
 obtain⟨b,eb⟩:∃b:Nat,Zq sp v=(b:Int):=⟨(Zq sp v).toNat,by omega⟩
 have ha:a<n:=by omega
 have hb:b<n:=by omega
 have et:=PH (k:=1+(w:Int)) ok ha hb
 have lo:=ok.lo a b ha hb
 generalize ht:(if Yl M a b+(1+(w:Int))<9 then Yl M a b+(1+(w:Int)) else 9)=t at et
 have t0:0<t/\t<=9:=by rw[<-ht];split<;>omega
 have ia:=Y1 (l:=sp) (k:=k) (by rw[nk.len];exact hk)
 have ib:=Y1 (l:=sp) (k:=v) (by rw[nk.len];omega)
 rw[ea] at ia;rw[eb] at ib
 obtain⟨g1,g2⟩:=NJ ok ha hb t0.1
 refine⟨Q0 M a b t,some (.int (Z9 ns k)),L7 ok ha hb (by omega) (by omega) t0.2,fun j h1 h2=>?_,?_⟩
 ·by_cases q:j<k
  ·exact(gr.mono g1) j h1 q
  ·have:j=k:=by omega
   subst this
   exact⟨v,hv,by rw[ea,eb];exact g2⟩
 ·have e1:Zr 7 (Ze ZF [(Za 0),(Za 6)]) (X6 ns mo n M sp (some (.int (k:Int))) x7 x8 x9)=some (.nx (X6 ns mo n M sp (some (.int (k:Int))) (some (.int (Z9 ns k))) x8 x9)):=by
   simp[X6,ec]
  unfold GJ
  rw[ZI e1,NI (i:=4) (l0:=.lst (rL M)) (ls:=[.int (a:Int),.int (b:Int),.int (1+(w:Int))]) rfl ?_ rfl et]
  ·rfl
  ·have ev':Zn [PV.int (Z9 ns k),PV.int 1,PV.int (k:Int)]=some (.int (v:Int)):=ev
   have ew':Zn [PV.int (Z9 ns k),PV.int 2,PV.int 3]=some (.int (w:Int)):=ew
   simp[X6,ia,ib,ev',ew']
theorem Hj{ns:List Int}{mo n:Nat}{M:List (List Int)}{sp:List Int}{x7 x8 x9:Option PV}{i:Nat}(hns:ns.length<=63)(hn:n<=7)(h2:2<=n)(hi:i<6)(ok:MatOk n M) :
  ∃M' y7 y8 y9,MatOk n M'/\(∀i j,0<Yl M i j->0<Yl M' i j)/\GK (X6 ns mo n M sp (some (.int (i:Int))) x7 x8 x9)=some (.nx (X6 ns mo n M' sp (some (.int (i:Int))) y7 y8 y9)):=by
 generalize hc:Z9 ns (7+i)=c
 obtain⟨a,ha,ea⟩:=Y5 c (t:=4) (m:=n) (by omega) (by omega)
 obtain⟨d,hd,ed⟩:=Y5 c (t:=5) (m:=n-1) (by omega) (by omega)
 obtain⟨w,hw,ew⟩:=Y5 c (t:=6) (m:=2) (by omega) (by omega)
 have ec:=Xv hns (k:=7+i) (by omega)
 rw[hc] at ec
 obtain⟨b,hb,hab,eb⟩:∃b:Nat,b<n/\a≠b/\((a:Int)+1+(d:Int))%(n:Int)=(b:Int):=by
  refine⟨(a+1+d)%n,Nat.mod_lt _ (by omega),?_,?_⟩
  ·by_cases q:a+1+d<n
   ·rw[Nat.mod_eq_of_lt q];omega
   ·rw[Nat.mod_eq_sub_mod (by omega),Nat.mod_eq_of_lt (by omega)];omega
  ·have:((a:Int)+1+(d:Int))=((a+1+d:Nat):Int):=by omega
   rw[this];exact(Int.natCast_emod _ _).symm
 have et:=PH (k:=1+(w:Int)) ok ha hb
 have lo:=ok.lo a b ha hb
 generalize ht:(if Yl M a b+(1+(w:Int))<9 then Yl M a b+(1+(w:Int)) else 9)=t at et
 have t0:0<t/\t<=9:=by rw[<-ht];split<;>omega
 obtain⟨g1,g2⟩:=NJ ok ha hb t0.1
 refine⟨Q0 M a b t,some (.int c),some (.int (a:Int)),some (.int (b:Int)),L7 ok ha hb hab (by omega) t0.2,g1,?_⟩
 have h1:((7+i:Nat):Int)=7+(i:Int):=by omega
 rw[h1] at ec
 have e1:Zr 7 (Ze ZF [(Za 0),(Zi Yu (eC (.int 7)) (Za 6))]) (X6 ns mo n M sp (some (.int (i:Int))) x7 x8 x9)=some (.nx (X6 ns mo n M sp (some (.int (i:Int))) (some (.int c)) x8 x9)):=by
  simp[X6,ec]
 have ea':Zn [PV.int c,PV.int 4,PV.int (n:Int)]=some (.int (a:Int)):=ea
 have e2:Zr 8 (Ze Zn [(Za 7),(eC (.int 4)),(Za 3)]) (X6 ns mo n M sp (some (.int (i:Int))) (some (.int c)) x8 x9)=some (.nx (X6 ns mo n M sp (some (.int (i:Int))) (some (.int c)) (some (.int (a:Int))) x9)):=by
  simp[X6,ea']
 have hn1:((n-1:Nat):Int)=(n:Int)-1:=by omega
 rw[hn1] at ed
 have ed':Zn [PV.int c,PV.int 5,PV.int ((n:Int)-1)]=some (.int (d:Int)):=ed
 have n0:0<n:=by omega
 have e3:Zr 9 (eP (Zi Xz (Zi Yu (Zi Yu (Za 8) (eC (.int 1))) (Ze Zn [(Za 7),(eC (.int 5)),(Zi YT (Za 3) (eC (.int 1)))])) (Za 3))) (X6 ns mo n M sp (some (.int (i:Int))) (some (.int c)) (some (.int (a:Int))) x9)=some (.nx (X6 ns mo n M sp (some (.int (i:Int))) (some (.int c)) (some (.int (a:Int))) (some (.int (b:Int))))):=by
  simp[X6,ed',n0,eb]
 have ew':Zn [PV.int c,PV.int 6,PV.int 2]=some (.int (w:Int)):=ew
 unfold GK
 rw[ZI e1,ZI e2,ZI e3,NI (i:=4) (l0:=.lst (rL M)) (ls:=[.int (a:Int),.int (b:Int),.int (1+(w:Int))]) rfl ?_ rfl et]
 ·rfl
 ·simp[X6,ew']
theorem L8{ns:List Int}(hns:ns.length<=63){mo:Nat}(h1:1<=mo)(h7:mo<=7):∃W,Vz [.cst (iL ns),.int (mo:Int)]=some (wP W)/\Yk W/\Tq W/\W.length<=mo:=by
 obtain⟨p0,hp0,ep0⟩:=Y5 (Z9 ns 0) (t:=0) (m:=mo) (by omega) (by omega)
 have ep0':Zn [PV.int (Z9 ns 0),PV.int 0,PV.int (mo:Int)]=some (.int (p0:Int)):=ep0
 have ec0:=Xv hns (k:=0) (by omega)
 have ec0':ZF [PV.cst (iL ns),PV.int 0]=some (.int (Z9 ns 0)):=ec0
 obtain⟨n,hn⟩:∃n:Nat,n=1+p0:=⟨_,rfl⟩
 have hn':(1:Int)+(p0:Int)=(n:Int):=by omega
 let Z:=List.replicate n (List.replicate n (0:Int))
 have e1:Zr 2 (Ze ZF [(Za 0),(eC (.int 0))]) [some (.cst (iL ns)),some (.int (mo:Int)),none,none,none,none,none,none,none,none]=some (.nx [some (.cst (iL ns)),some (.int (mo:Int)),some (.int (Z9 ns 0)),none,none,none,none,none,none,none]):=by simp[ec0']
 have e2:Zr 3 (eP (Zi Yu (eC (.int 1)) (Ze Zn [(Za 2),(eC (.int 0)),(Za 1)]))) [some (.cst (iL ns)),some (.int (mo:Int)),some (.int (Z9 ns 0)),none,none,none,none,none,none,none]=some (.nx [some (.cst (iL ns)),some (.int (mo:Int)),some (.int (Z9 ns 0)),some (.int (n:Int)),none,none,none,none,none,none]):=by simp[ep0',hn']
 have e3:Zr 4 (Zs 1 [3] (ZS [(Za 3)]) (.one 0) Zz (Zi Lo (VQ [(eC (.int 0))]) (Za 1))) [some (.cst (iL ns)),some (.int (mo:Int)),some (.int (Z9 ns 0)),some (.int (n:Int)),none,none,none,none,none,none]=some (.nx [some (.cst (iL ns)),some (.int (mo:Int)),some (.int (Z9 ns 0)),some (.int (n:Int)),some (.lst (rL Z)),none,none,none,none,none]):=by
  rw[ZD,MA (n:=n) rfl (by omega)];rfl
 have e4:Zr 5 (VQ []) [some (.cst (iL ns)),some (.int (mo:Int)),some (.int (Z9 ns 0)),some (.int (n:Int)),some (.lst (rL Z)),none,none,none,none,none]=some (.nx (X6 ns mo n Z [] none none none none)):=by simp[X6]
 -- the houses' order
 obtain⟨s5,f5,sp,x6,hs5,nk⟩:=Xh (T:=.one 6) (fb:=GI) (ls:=W9 n) (s:=X6 ns mo n Z [] none none none none)
  (fun i st=>∃sp x6,st=X6 ns mo n Z sp x6 none none none/\NamesOk i sp) ⟨[],none,rfl,NamesOk.nil⟩ (by
   rintro i l st hl ⟨sp,x6,rfl,nk⟩
   obtain⟨hi,rfl⟩:=Vf hl
   obtain⟨sp',nk',e⟩:=Hh (mo:=mo) (n:=n) (M:=Z) (x7:=none) (x8:=none) (x9:=none) hns (by omega) nk
   exact⟨_,_,rfl,e,sp',_,rfl,nk'⟩)
 subst hs5;rw[SG] at nk
 have e5:Wa [4,5] (ZS [(Za 3)]) (.one 6) GI (X6 ns mo n Z [] none none none none)=some (.nx (X6 ns mo n Z sp x6 none none none)):=by
  show(ZS [Za 3] (YB [4,5] (X6 ns mo n Z [] none none none none))).bind _=_
  rw[Yp (n:=n) (by simp[X6,YB]) (by omega)];exact f5
 -- each to one ahead
 obtain⟨s6,f6,M,y6,y7,hs6,okM,gr⟩:=Xh (T:=.one 6) (fb:=GJ) (ls:=V5 1 (n-1)) (s:=X6 ns mo n Z sp x6 none none none)
  (fun i st=>∃M y6 y7,st=X6 ns mo n M sp y6 y7 none none/\MatOk n M/\Grown M sp (i+1)) ⟨Z,x6,none,rfl,MatOk.zero n,fun j h1 h2=>by omega⟩ (by
   rintro i l st hl ⟨M,y6,y7,rfl,okM,gr⟩
   obtain⟨hi,rfl⟩:=Pw hl
   have hk:(1:Int)+(i:Int)=((i+1:Nat):Int):=by omega
   rw[hk]
   obtain⟨M',z7,ok',gr',e⟩:=Hi (mo:=mo) (x7:=y7) (x8:=none) (x9:=none) (k:=i+1) hns (by omega) (by omega) (by omega) nk okM gr
   exact⟨_,_,rfl,e,M',_,z7,rfl,ok',gr'⟩)
 subst hs6;rw[Ly] at gr
 have e6:Wa [4,5] (Va [(eC (.int 1)),(Za 3)]) (.one 6) GJ (X6 ns mo n Z sp x6 none none none)=some (.nx (X6 ns mo n M sp y6 y7 none none)):=by
  show(Va [eC (.int 1),Za 3] (YB [4,5] (X6 ns mo n Z sp x6 none none none))).bind _=_
  rw[R6 (i:=1) (j:=(n:Int)) rfl (by simp[X6,YB]) (by omega) (by omega)]
  have:((n:Int)-1).toNat=n-1:=by omega
  rw[this];exact f6
 have gr0:Grown M sp n:=fun j h1 h2=>gr j h1 (by omega)
 -- more ties
 obtain⟨p3,hp3,ep3⟩:=Y5 (Z9 ns 0) (t:=3) (m:=6) (by omega) (by omega)
 have ep3':Zn [PV.int (Z9 ns 0),PV.int 3,PV.int 6]=some (.int (p3:Int)):=ep3
 have e7:∃M' z6 z7 z8 z9,MatOk n M'/\Grown M' sp n/\Wo (xB (Zi Np (Za 3) (eC (.int 1)))) (Wa [4,5] (ZS [(Ze Zn [(Za 2),(eC (.int 3)),(eC (.int 6))])]) (.one 6) GK) ZY (X6 ns mo n M sp y6 y7 none none)=some (.nx (X6 ns mo n M' sp z6 z7 z8 z9)):=by
  by_cases q:1<n
  ·obtain⟨s7,f7,M',z6,z7,z8,z9,hs7,ok',gr'⟩:=Xh (T:=.one 6) (fb:=GK) (ls:=W9 p3) (s:=X6 ns mo n M sp y6 y7 none none)
    (fun i st=>∃M' z6 z7 z8 z9,st=X6 ns mo n M' sp z6 z7 z8 z9/\MatOk n M'/\Grown M' sp n) ⟨M,y6,y7,none,none,rfl,okM,gr0⟩ (by
     rintro i l st hl ⟨M',z6,z7,z8,z9,rfl,ok',gr'⟩
     obtain⟨hi,rfl⟩:=Vf hl
     obtain⟨M2,u7,u8,u9,ok2,g2,e⟩:=Hj (mo:=mo) (sp:=sp) (x7:=z7) (x8:=z8) (x9:=z9) (i:=i) hns (by omega) (by omega) (by omega) ok'
     exact⟨_,_,rfl,e,M2,_,u7,u8,u9,rfl,ok2,gr'.mono g2⟩)
   subst hs7
   refine⟨M',z6,z7,z8,z9,ok',gr',?_⟩
   have c:xB (Zi Np (Za 3) (eC (.int 1))) (X6 ns mo n M sp y6 y7 none none)=some true:=by
    have q':(1:Int)<(n:Int):=by omega
    simp[X6,q,q']
   rw[Yd,c];simp only[Option.bind_some,if_true]
   show(ZS [Ze Zn [Za 2,eC (.int 3),eC (.int 6)]] (YB [4,5] (X6 ns mo n M sp y6 y7 none none))).bind _=_
   rw[Yp (n:=p3) (by simp[X6,YB,ep3']) (by omega)];exact f7
  ·refine⟨M,y6,y7,none,none,okM,gr0,?_⟩
   have c:xB (Zi Np (Za 3) (eC (.int 1))) (X6 ns mo n M sp y6 y7 none none)=some false:=by
    have q':¬(1:Int)<(n:Int):=by omega
    simp[X6,q']
   rw[Yd,c];rfl
 obtain⟨M',z6,z7,z8,z9,ok',gr',e7⟩:=e7
 refine⟨M',?_,ok'.web (by omega) (by omega),gr'.conn ok'.len nk,by rw[ok'.len];omega⟩
 have hc2:Zs 1 [] (Xp (Za 4)) (.one 0) Zz (Ze Yh [Za 0]) (X6 ns mo n M' sp z6 z7 z8 z9)=some (.lst (M'.map pP)):=by
  rw[Z1 M' (fun r=>.lst (iL r)) pP (by simp[X6,rL]) (by rw[ok'.len];omega) (fun r _=>⟨_,rfl,rfl,by simp[ZL]⟩)]
 show YO 10 Sa _=_
 unfold Sa
 show(Zp _ _ [some (.cst (iL ns)),some (.int (mo:Int)),none,none,none,none,none,none,none,none]).bind Xr=_
 rw[ZI e1,ZI e2,ZI e3,ZI e4,ZI e5,ZI e6,ZI e7,W4 (v:=wP M')]
 ·rfl
 ·rw[Xs,Z0,ZJ,hc2]
  simp
def UF(c:Int):Int:=if c%5=4 then c*c%(2*10^29)-10^29 else if c%5=3 then c.fdiv 5%2001-1000 else c.fdiv 5%13-6
theorem Qb{z:Int}(h:z.natAbs<2^1000):z.natAbs.log2<67108863:=by
 by_cases h0:z.natAbs=0
 ·rw[h0];decide +kernel
 ·have:=(Nat.log2_lt h0).mpr h
  omega
theorem O3{c:Int}(h:c.natAbs.log2<=1048576):Wr [.int c]=some (.int (UF c)):=by
 have c1:CMulW c c:=⟨by omega,by omega⟩
 have c2:CMulW 2 (10^29):=⟨Qb (by decide),Qb (by decide)⟩
 have c3:TD c 5:=⟨by decide,by decide +kernel⟩
 have p:∀s:ZU,Zi TM (eC (.int 10)) (eC (.int 29)) s=some (.int (10^29)):=fun s=>vC (a:=10) (b:=29) (C:=Pa) (op:=fun i j=>i^j.toNat) rfl rfl (by decide)
 show YO 1 VB _=_
 unfold VB UF
 show(Zp _ _ [some (.int c)]).bind Xr=_
 by_cases h4:c%5=4
 ·rw[if_pos h4,O2 (v:=.int (c*c%(2*10^29)-10^29))]
  ·rfl
  ·have t:xB (Zi (Yr false) (Zi Xz (Za 0) (eC (.int 5))) (eC (.int 4))) [some (.int c)]=some true:=by simp[h4]
   rw[Yd,t];simp only[Option.bind_some,if_true]
   exact W4 (vP (vI (vC (vC rfl rfl c1) (vC rfl (p _) c2) (by decide)) (p _)))
 ·have t:xB (Zi (Yr false) (Zi Xz (Za 0) (eC (.int 5))) (eC (.int 4))) [some (.int c)]=some false:=by simp[h4]
  rw[if_neg h4,ZI (s1:=[some (.int c)]) (by rw[Yd,t];rfl)]
  by_cases h3:c%5=3
  ·rw[if_pos h3,O2 (v:=.int (c.fdiv 5%2001-1000))]
   ·rfl
   ·have t:xB (Zi (Yr false) (Zi Xz (Za 0) (eC (.int 5))) (eC (.int 3))) [some (.int c)]=some true:=by simp[h3]
    rw[Yd,t];simp only[Option.bind_some,if_true]
    exact W4 (vP (vI (vC (vC rfl rfl c3) rfl (by decide)) rfl))
  ·have t:xB (Zi (Yr false) (Zi Xz (Za 0) (eC (.int 5))) (eC (.int 3))) [some (.int c)]=some false:=by simp[h3]
   rw[if_neg h3,ZI (s1:=[some (.int c)]) (by rw[Yd,t];rfl),W4 (vP (vI (vC (vC rfl rfl c3) rfl (by decide)) rfl))]
   rfl
theorem S6(c:Int) : -(10^29)<=UF c/\UF c<=10^29:=by
 unfold UF
 split
 ·have h0:=Int.emod_nonneg (c*c) (show(2*10^29:Int)≠0 by decide)
  have h1:=Int.emod_lt_of_pos (c*c) (show(0:Int)<2*10^29 by decide)
  constructor<;>omega
 ·split
  ·have h0:=Int.emod_nonneg (c.fdiv 5) (show(2001:Int)≠0 by decide)
   have h1:=Int.emod_lt_of_pos (c.fdiv 5) (show(0:Int)<2001 by decide)
   constructor<;>omega
  ·have h0:=Int.emod_nonneg (c.fdiv 5) (show(13:Int)≠0 by decide)
   have h1:=Int.emod_lt_of_pos (c.fdiv 5) (show(0:Int)<13 by decide)
   constructor<;>omega
def X7(ns:List Int)(a n:Nat):List Int:=(List.range n).map fun k=>UF (Z9 ns (a+k))
theorem Qc(ns:List Int)(a n:Nat):(X7 ns a n).length=n:=by simp[X7]
theorem S7{ns:List Int}(hns:ns.length<=63)(hb:∀n∈ns,n.natAbs.log2<=1048576){a n:Nat}(ha:a<=60)(hn:n<=7):Yg [.cst (iL ns),.int (a:Int),.int (n:Int)]=some (pP (X7 ns a n)):=by
 have hc:Zs 1 [0,1] (ZS [Za 2]) (.one 0) Zz (Ze Wr [Ze ZF [Za 1,Zi Yu (Za 2) (Za 0)]]) [some (.cst (iL ns)),some (.int (a:Int)),some (.int (n:Int))]=some (.lst (iL (X7 ns a n))):=by
  rw[Tr (fun i=>UF (Z9 ns (a+i))) (Yp (n:=n) (by simp) (by omega)) (by omega) fun i hi=>⟨_,rfl,rfl,?_⟩]
  ·rfl
  ·have e1:=Xv hns (k:=a+i) (by omega)
   have h1:((a+i:Nat):Int)=(a:Int)+(i:Int):=by omega
   rw[h1] at e1;simp[ZL,e1,O3 (L6 hb (a+i))]
 simp[Yg,Te,YO,Yf,hc]
def nL(l:List Nat):List Int:=l.map fun(i:Nat)=>(i:Int)
theorem L9{y:Nat}{l:List Nat}:(y:Int)∈nL l↔y∈l:=by
 unfold nL;rw[List.mem_map]
 exact⟨fun⟨a,h,e⟩=>by rw[show y=a by omega];exact h,fun h=>⟨y,h,rfl⟩⟩
def YV(W:List (List Int))(h:Nat)(F:List Nat):Int:=(F.map fun o=>Yl W h o).sum
theorem S8{W:List (List Int)}{h i j k:Nat}{F:List Nat}{s:ZU}(ok:Yk W)(hh:h<W.length)(hF:∀x∈F,x<W.length)(hl:F.length<=100)(e0:s[i]?=some (some (wP W)))(e1:s[j]?=some (some (.int (h:Int))))(e2:s[k]?=some (some (.lst (iL (nL F))))) :
  Ze X0 [(Zs 1 [i,j] (Xp (Za k)) (.one 0) Zz (Zi ZQ (Zi ZQ (Za 1) (Za 2)) (Za 0)))] s=some (.int (YV W h F)):=by
 have hc:Zs 1 [i,j] (Xp (Za k)) (.one 0) Zz (Zi ZQ (Zi ZQ (Za 1) (Za 2)) (Za 0)) s=some (.lst (iL (F.map fun o=>Yl W h o))):=by
  rw[Z1 F (fun(o:Nat)=>.int (o:Int)) (fun o=>.int (Yl W h o)) (by simp[e2,nL]) (by omega) (fun o ho=>⟨_,rfl,rfl,?_⟩)]
  ·simp
  ·have hr:=ok.sq h hh
   have:=Y1 (l:=ZO W h) (k:=o) (by rw[hr];exact hF o ho)
   simp[ZL,e0,e1,Ur hh,this];rfl
 simp only[Z0,ZJ,Up,hc,Option.bind_some,Option.map_some]
 exact OA _
theorem O4{W:List (List Int)}{h:Nat}{F:List Nat}(ok:Yk W)(hh:h<W.length)(hF:∀x∈F,x<W.length)(hl:F.length<=100):Ws [wP W,.int (h:Int),.lst (iL (nL F))]=some (.int (YV W h F)):=by
 show YO 3 VC _=_
 unfold VC
 show(ZK _ [some (wP W),some (.int (h:Int)),some (.lst (iL (nL F)))]).bind Xr=_
 rw[W4 (vP (S8 (i:=0) (j:=1) (k:=2) ok hh hF hl rfl rfl rfl))];rfl
theorem Tt{α:Type}{T:Tgt}{fb:XS}{q g:α->PV}{c:α->Bool}(S:ZU->Prop):∀{ls:List α}{s:ZU},(∀a∈ls,∀s,S s->∃s1,X1 T (q a) s=some s1/\((c a=true->fb s1=some (.rt (g a)))/\(c a=false->∃s2,fb s1=some (.nx s2)/\S s2)))->S s->
  match ls.find? c with | some a=>W3 T fb (ls.map q) s=some (.rt (g a)) | none=>∃s',W3 T fb (ls.map q) s=some (.nx s')/\S s'
 | [],s,_,h0=>⟨s,rfl,h0⟩
 | a::r,s,h,h0=>by
  obtain⟨s1,e1,ht,hf⟩:=h a List.mem_cons_self s h0
  rw[List.find?_cons]
  cases ca:c a with
  | true=>
   show W3 T fb (q a::r.map q) s=_
   unfold W3;rw[e1];simp only[Option.bind_some,ht ca]
  | false=>
   obtain⟨s2,e2,h2⟩:=hf ca
   have ih:=Tt S (ls:=r) (s:=s2) (fun b hb=>h b (List.mem_cons_of_mem _ hb)) h2
   have e:W3 T fb ((a::r).map q) s=W3 T fb (r.map q) s2:=by
    show W3 T fb (q a::r.map q) s=_
    unfold W3;rw[e1];simp only[Option.bind_some,e2]
    cases r.map q<;>rfl
   rw[e];exact ih
def YW(W:List (List Int))(D:List Int)(F:List Nat):Option Nat:=(List.range W.length).find? fun h=>!decide (h∈F)&&decide (Zq D h<YV W h F)
def V7:Option Nat->PV
 | none=>.non
 | some h=>.int (h:Int)
theorem Tu(y:Nat)(l:List Nat):P3 true (.int (y:Int)) (.lst (iL (nL l)))=some (.bl (!decide (y∈l))):=by
 rw[JX]
 have:=L9 (y:=y) (l:=l)
 simp[this]
theorem Jt(y:Nat)(l:List Nat):P3 false (.int (y:Int)) (.lst (iL (nL l)))=some (.bl (decide (y∈l))):=by
 rw[JX]
 have:=L9 (y:=y) (l:=l)
 simp[this]
theorem Tv{W:List (List Int)}{D:List Int}{F:List Nat}(ok:Yk W)(hd:D.length=W.length)(hF:∀x∈F,x<W.length)(hl:F.length<=100):ZW [wP W,pP D,.lst (iL (nL F))]=some (V7 (YW W D F)):=by
 have hf:=ok.few
 have key:=Tt (T:=.many [3,4]) (fb:=Wo (U0 (xB (Zi (P3 true) (Za 3) (Za 2))) (xB (Zi MJ (Za 4) (Ze Ws [(Za 0),(Za 3),(Za 2)])))) (ZK (eP (Za 3))) ZY) (q:=fun(i:Nat)=>.tup [.int (i:Int),.int (Zq D i)]) (g:=fun(i:Nat)=>.int (i:Int)) (c:=fun h=>!decide (h∈F)&&decide (Zq D h<YV W h F))
  (fun st=>∃x y,st=[some (wP W),some (pP D),some (.lst (iL (nL F))),x,y]) (ls:=List.range W.length) (s:=[some (wP W),some (pP D),some (.lst (iL (nL F))),none,none]) (by
   rintro h hh st ⟨x,y,rfl⟩
   have hh:=List.mem_range.mp hh;have et:=O4 ok hh hF hl
   refine⟨_,rfl,fun hc=>?_,fun hc=>?_⟩
   ·simp only[Bool.and_eq_true,Bool.not_eq_true',decide_eq_false_iff_not,decide_eq_true_eq] at hc
    simp[setAll,Tu,hc.1,et,hc.2]
   ·refine⟨[some (wP W),some (pP D),some (.lst (iL (nL F))),some (.int (h:Int)),some (.int (Zq D h))],?_,_,_,rfl⟩
    by_cases q:h∈F
    ·simp[setAll,Tu,q]
    ·have:¬Zq D h<YV W h F:=fun z=>by simp[q,z] at hc
     simp[setAll,Tu,q,et,this]) ⟨_,_,rfl⟩
 have en:Y9 false [Za 1] [some (wP W),some (pP D),some (.lst (iL (nL F))),none,none]=some ((List.range W.length).map fun(i:Nat)=>.tup [.int (i:Int),.int (Zq D i)]):=by
  have:=Sd D
  rw[hd] at this;simp[this]
 show YO 5 Y4 _=_
 unfold Y4
 show(Zp (Wa [] _ _ _) _ [some (wP W),some (pP D),some (.lst (iL (nL F))),none,none]).bind Xr=_
 unfold YW
 cases q:(List.range W.length).find? fun h=>!decide (h∈F)&&decide (Zq D h<YV W h F) with
 | some h=>
  rw[q] at key;rw[O2 (v:=.int (h:Int))]
  ·rfl
  ·show(Y9 false [Za 1] [some (wP W),some (pP D),some (.lst (iL (nL F))),none,none]).bind _=_
   rw[en];exact key
 | none=>
  rw[q] at key
  obtain⟨s',k1,x,y,rfl⟩:=key
  rw[ZI (s1:=[some (wP W),some (pP D),some (.lst (iL (nL F))),x,y])]
  ·rfl
  ·show(Y9 false [Za 1] [some (wP W),some (pP D),some (.lst (iL (nL F))),none,none]).bind _=_
   rw[en];exact k1
theorem Qd{W:List (List Int)}{D:List Int}{F:List Nat}(ok:Yk W)(hd:D.length=W.length)(hF:∀x∈F,x<W.length)(hl:F.length<=100):Xi [wP W,pP D,.lst (iL (nL F))]=some (V7 (YW W D F)):=by
 have hf:=ok.few
 have key:=Tt (T:=.one 3) (fb:=Zp (Zr 4 (eP (Ze X0 [(Zs 1 [0,3] (Xp (Za 2)) (.one 0) Zz (Zi ZQ (Zi ZQ (Za 1) (Za 2)) (Za 0)))])))
  (Wo (U0 (xB (Zi (P3 true) (Za 3) (Za 2))) (xB (Zi MJ (Zi ZQ (Za 1) (Za 3)) (Za 4)))) (ZK (eP (Za 3))) ZY)) (q:=fun(i:Nat)=>.int (i:Int)) (g:=fun(i:Nat)=>.int (i:Int)) (c:=fun h=>!decide (h∈F)&&decide (Zq D h<YV W h F))
  (fun st=>∃x y,st=[some (wP W),some (pP D),some (.lst (iL (nL F))),x,y]) (ls:=List.range W.length) (s:=[some (wP W),some (pP D),some (.lst (iL (nL F))),none,none]) (by
   rintro h hh st ⟨x,y,rfl⟩
   have hh:=List.mem_range.mp hh
   have e1:Zr 4 (eP (Ze X0 [(Zs 1 [0,3] (Xp (Za 2)) (.one 0) Zz (Zi ZQ (Zi ZQ (Za 1) (Za 2)) (Za 0)))])) [some (wP W),some (pP D),some (.lst (iL (nL F))),some (.int (h:Int)),y]=some (.nx [some (wP W),some (pP D),some (.lst (iL (nL F))),some (.int (h:Int)),some (.int (YV W h F))]):=by
    rw[ZD,vP (S8 (i:=0) (j:=3) (k:=2) ok hh hF hl rfl rfl rfl)];rfl
   have ix:=Y1 (l:=D) (k:=h) (by omega)
   refine⟨_,rfl,fun hc=>?_,fun hc=>?_⟩
   ·simp only[Bool.and_eq_true,Bool.not_eq_true',decide_eq_false_iff_not,decide_eq_true_eq] at hc
    show Zp _ _ [some (wP W),some (pP D),some (.lst (iL (nL F))),some (.int (h:Int)),y]=_
    rw[ZI e1];simp[Tu,hc.1,ix,hc.2]
   ·refine⟨[some (wP W),some (pP D),some (.lst (iL (nL F))),some (.int (h:Int)),some (.int (YV W h F))],?_,_,_,rfl⟩
    show Zp _ _ [some (wP W),some (pP D),some (.lst (iL (nL F))),some (.int (h:Int)),y]=_
    rw[ZI e1]
    by_cases q:h∈F
    ·simp[Tu,q]
    ·have:¬Zq D h<YV W h F:=fun z=>by simp[q,z] at hc
     simp[Tu,q,ix,this]) ⟨_,_,rfl⟩
 have en:ZS [Ze ZZ [Za 0]] [some (wP W),some (pP D),some (.lst (iL (nL F))),none,none]=some ((List.range W.length).map fun(i:Nat)=>.int (i:Int)):=Yp (by simp) (by omega)
 show YO 5 UA _=_
 unfold UA
 show(Zp (Wa [] _ _ _) _ [some (wP W),some (pP D),some (.lst (iL (nL F))),none,none]).bind Xr=_
 unfold YW
 cases q:(List.range W.length).find? fun h=>!decide (h∈F)&&decide (Zq D h<YV W h F) with
 | some h=>
  rw[q] at key;rw[O2 (v:=.int (h:Int))]
  ·rfl
  ·show(ZS [Ze ZZ [Za 0]] [some (wP W),some (pP D),some (.lst (iL (nL F))),none,none]).bind _=_
   rw[en];exact key
 | none=>
  rw[q] at key
  obtain⟨s',k1,x,y,rfl⟩:=key
  rw[ZI (s1:=[some (wP W),some (pP D),some (.lst (iL (nL F))),x,y])]
  ·rfl
  ·show(ZS [Ze ZZ [Za 0]] [some (wP W),some (pP D),some (.lst (iL (nL F))),none,none]).bind _=_
   rw[en];exact k1
theorem Hk{c:XT}{fb:XS}(Jv:ZU->Prop)(μ:ZU->Nat)(step:∀st,Jv st->c st=some false\/(c st=some true/\∃s2,fb st=some (.nx s2)/\Jv s2/\μ s2<μ st)){s:ZU}(h0:Jv s) :
  ∃s',Vd c fb s=some (.nx s')/\Jv s'/\c s'=some false:=by
 have gen:∀(k:Nat)(st:ZU),μ st<k->Jv st->∃s',YC c fb k st=some (.nx s')/\Jv s'/\c s'=some false:=by
  intro k
  induction k with
  | zero=>intro st h;omega
  | succ k ih=>
   intro st hk hJ
   rcases step st hJ with hc | ⟨hc,s2,e,hJ2,hm⟩
   ·exact⟨st,by unfold YC;rw[hc];rfl,hJ,hc⟩
   ·obtain⟨s',a,b,d⟩:=ih s2 (by omega) hJ2
    refine⟨s',?_,b,d⟩
    unfold YC;rw[hc];simp only[Option.bind_some,if_true,e];exact a
 obtain⟨s',a,b,d⟩:=gen (μ s+1) s (by omega) h0
 exact⟨s',R0 a,b,d⟩
structure Burn(W:List (List Int))(D:List Int)(b:Nat)(F:List Nat):Prop where
 nd:F.Nodup
 lt:∀x∈F,x<W.length
 hd:F[0]?=some b
 st:∀k,1<=k->k<F.length->YW W D (F.take k)=F[k]?
theorem Burn.len{W:List (List Int)}{D:List Int}{b:Nat}{F:List Nat}(h:Burn W D b F):F.length<=W.length:=by
 have nd:(nL F).Nodup:=List.Pairwise.map _ (fun a b z=>by omega) h.nd
 have:=S4 (l:=nL F) (m:=nL (List.range W.length)) nd fun y hy=>by
  obtain⟨a,ha,rfl⟩:=List.mem_map.mp hy
  exact List.mem_map.mpr ⟨a,List.mem_range.mpr (h.lt a ha),rfl⟩
 simpa [nL] using this
theorem Burn.pos{W:List (List Int)}{D:List Int}{b:Nat}{F:List Nat}(h:Burn W D b F):1<=F.length:=(List.getElem?_eq_some_iff.mp h.hd).1
theorem Burn.one{W:List (List Int)}{D:List Int}{b:Nat}(hb:b<W.length):Burn W D b [b]:=⟨by simp,fun x hx=>by rw[List.mem_singleton.mp hx];exact hb,rfl,fun k h1 h2=>by simp at h2;omega⟩
theorem S9{W:List (List Int)}{D:List Int}{F:List Nat}{h:Nat}(e:YW W D F=some h):h<W.length/\h∉F/\Zq D h<YV W h F:=by
 have h1:=List.find?_some e
 have h2:=List.mem_of_find?_eq_some e
 simp only[Bool.and_eq_true,Bool.not_eq_true',decide_eq_false_iff_not,decide_eq_true_eq] at h1
 exact⟨List.mem_range.mp h2,h1⟩
theorem O5{W:List (List Int)}{D:List Int}{F:List Nat}(e:YW W D F=none){h:Nat}(hh:h<W.length)(hF:h∉F):YV W h F<=Zq D h:=by
 have:=List.find?_eq_none.mp e h (List.mem_range.mpr hh)
 simp[hF] at this;exact this
theorem Burn.add{W:List (List Int)}{D:List Int}{b h:Nat}{F:List Nat}(B:Burn W D b F)(e:YW W D F=some h):Burn W D b (F++[h]):=by
 obtain⟨h1,h2,_⟩:=S9 e
 have hp:=B.pos
 refine⟨?_,fun x hx=>?_,?_,fun k k1 k2=>?_⟩
 ·rw[List.nodup_append]
  exact⟨B.nd,by simp,fun a ha c hc z=>by rw[List.mem_singleton.mp hc] at z;exact h2 (z▸ha)⟩
 ·rcases List.mem_append.mp hx with hx | hx
  ·exact B.lt x hx
  ·rw[List.mem_singleton.mp hx];exact h1
 ·rw[List.getElem?_append_left (by omega)];exact B.hd
 ·rw[List.length_append,List.length_singleton] at k2
  by_cases q:k<F.length
  ·rw[List.take_append_of_le_length (by omega),List.getElem?_append_left q];exact B.st k k1 q
  ·have:k=F.length:=by omega
   subst this;rw[List.take_left',e,List.getElem?_append_right (by omega)]
   ·simp
   ·rfl
theorem Ka{W:List (List Int)}{D:List Int}{b:Nat}(ok:Yk W)(hd:D.length=W.length)(hb:b<W.length):∃F,Uy [wP W,pP D,.int (b:Int)]=some (.lst (iL (nL F)))/\Burn W D b F/\YW W D F=none:=by
 have hf:=ok.few
 have hn:∀F:List Nat,Burn W D b F->ZW [wP W,pP D,.lst (iL (nL F))]=some (V7 (YW W D F)):=fun F B=>Tv ok hd B.lt (by have:=B.len;omega)
 obtain⟨s',q1,⟨F,rfl,B⟩,q3⟩:=Hk (c:=xB (WY true (Za 4))) (fb:=Zp (Wc 3 (eP (Za 4))) (Zr 4 (Ze ZW [(Za 0),(Za 1),(Za 3)])))
  (fun st=>∃F,st=[some (wP W),some (pP D),some (.int (b:Int)),some (.lst (iL (nL F))),some (V7 (YW W D F))]/\Burn W D b F)
  (fun st=>match st[3]? with | some (some (PV.lst l))=>8-l.length | _=>0) (by
   rintro st ⟨F,rfl,B⟩
   cases e:YW W D F with
   | none=>exact .inl (by simp[Mf,V7])
   | some h=>
    have B':=B.add e;have hl:=B'.len;rw[List.length_append,List.length_singleton] at hl
    refine .inr ⟨by simp[Mf,V7],[some (wP W),some (pP D),some (.int (b:Int)),some (.lst (iL (nL (F++[h])))),some (V7 (YW W D (F++[h])))],?_,⟨F++[h],rfl,B'⟩,?_⟩
    ·have e1:Wc 3 (eP (Za 4)) [some (wP W),some (pP D),some (.int (b:Int)),some (.lst (iL (nL F))),some (V7 (some h))]=some (.nx [some (wP W),some (pP D),some (.int (b:Int)),some (.lst (iL (nL (F++[h])))),some (V7 (some h))]):=by
      rw[SI (m:=iL (nL F)) (l:=.int (h:Int)) rfl rfl (by simp[nL];omega)]
      simp[nL]
     have e2:Zr 4 (Ze ZW [(Za 0),(Za 1),(Za 3)]) [some (wP W),some (pP D),some (.int (b:Int)),some (.lst (iL (nL (F++[h])))),some (V7 (some h))]=some (.nx [some (wP W),some (pP D),some (.int (b:Int)),some (.lst (iL (nL (F++[h])))),some (V7 (YW W D (F++[h])))]):=by
      have:=hn _ B'
      generalize hh:iL (nL (F++[h]))=z at this ⊢
      simp[this]
     rw[ZI e1,e2]
    ·show 8-(iL (nL (F++[h]))).length<8-(iL (nL F)).length
     simp[nL];omega) (s:=[some (wP W),some (pP D),some (.int (b:Int)),some (.lst (iL (nL [b]))),some (V7 (YW W D [b]))]) ⟨[b],rfl,Burn.one hb⟩
 have en:YW W D F=none:=by
  cases e:YW W D F with
  | none=>rfl
  | some h=>rw[e] at q3;simp[Mf,V7] at q3
 refine⟨F,?_,B,en⟩
 have e1:Zr 3 (VQ [(eP (Za 2))]) [some (wP W),some (pP D),some (.int (b:Int)),none,none]=some (.nx [some (wP W),some (pP D),some (.int (b:Int)),some (.lst (iL (nL [b]))),none]):=by simp[nL]
 have e2:Zr 4 (Ze ZW [(Za 0),(Za 1),(Za 3)]) [some (wP W),some (pP D),some (.int (b:Int)),some (.lst (iL (nL [b]))),none]=some (.nx [some (wP W),some (pP D),some (.int (b:Int)),some (.lst (iL (nL [b]))),some (V7 (YW W D [b]))]):=by
  have:=hn _ (Burn.one hb)
  generalize hh:iL (nL [b])=z at this ⊢
  simp[this]
 show YO 5 Sb _=_
 unfold Sb
 show(Zp _ _ [some (wP W),some (pP D),some (.int (b:Int)),none,none]).bind Xr=_
 rw[ZI e1,ZI e2,ZI q1];rfl
theorem Burn.uniq{W:List (List Int)}{D:List Int}{b:Nat}{F G:List Nat}(hF:Burn W D b F)(hG:Burn W D b G)(eF:YW W D F=none)(eG:YW W D G=none):F=G:=by
 have pF:=hF.pos;have pG:=hG.pos
 have pre:∀k,k<=F.length->k<=G.length->F.take k=G.take k:=by
  intro k
  induction k with
  | zero=>intros;simp
  | succ k ih=>
   intro h1 h2
   have e:=ih (by omega) (by omega)
   rw[List.take_succ,List.take_succ,e]
   congr 1
   by_cases q:k=0
   ·subst q;rw[hF.hd,hG.hd]
   ·rw[<-hF.st k (by omega) (by omega),<-hG.st k (by omega) (by omega),e]
 rcases Nat.lt_trichotomy F.length G.length with h | h | h
 ·have:=pre F.length (by omega) (by omega)
  rw[List.take_length] at this
  have h3:=hG.st F.length (by omega) h
  rw[<-this,eF,List.getElem?_eq_getElem h] at h3;cases h3
 ·have:=pre F.length (by omega) (by omega)
  rw[List.take_length,h,List.take_length] at this;exact this
 ·have:=pre G.length (by omega) (by omega)
  rw[List.take_length] at this
  have h3:=hF.st G.length (by omega) h
  rw[this,eG,List.getElem?_eq_getElem h] at h3;cases h3
theorem Hl{F:List Nat}{k x:Nat}(h:F[k]?=some x):UN (iL (nL F)) (k:Int)=some (.int (x:Int)):=Ua (by unfold nL;rw[List.getElem?_map,List.getElem?_map,h];rfl)
theorem NK(F:List Nat)(k:Nat):WZ (iL (nL F)) none (some (k:Int))=iL (nL (F.take k)):=by
 rw[L4];unfold nL;rw[<-List.map_take]
theorem O6{W:List (List Int)}{D:List Int}{b:Nat}{F:List Nat}(ok:Yk W)(hd:D.length=W.length)(B:Burn W D b F)(en:YW W D F=none):XW [wP W,pP D,.int (b:Int),.lst (iL (nL F))]=some (.bl true):=by
 have hf:=ok.few;have hl:=B.len;have hp:=B.pos
 have t1:F.take 1=[b]:=by
  have:=B.hd
  cases F with
  | nil=>simp at this
  | cons x r=>simp at this;subst this;simp
 have e1:Wo (xB (Zi (Yr true) (T3 VU (Za 3) Q4 (UO (eC (.int 1)))) (VQ [(Za 2)]))) (ZK (eP (eC (.bl false)))) ZY [some (wP W),some (pP D),some (.int (b:Int)),some (.lst (iL (nL F))),none]=some (.nx [some (wP W),some (pP D),some (.int (b:Int)),some (.lst (iL (nL F))),none]):=by
  have c:xB (Zi (Yr true) (T3 VU (Za 3) Q4 (UO (eC (.int 1)))) (VQ [(Za 2)])) [some (wP W),some (pP D),some (.int (b:Int)),some (.lst (iL (nL F))),none]=some false:=by
   have h1:T3 VU (Za 3) Q4 (UO (eC (.int 1))) [some (wP W),some (pP D),some (.int (b:Int)),some (.lst (iL (nL F))),none]=some (.lst (iL (nL [b]))):=by
    have:=NK F 1
    rw[t1] at this
    show some (PV.lst (WZ (iL (nL F)) none (some ((1:Nat):Int))))=_
    rw[this]
   have h2:VQ [(Za 2)] [some (wP W),some (pP D),some (.int (b:Int)),some (.lst (iL (nL F))),none]=some (.lst (iL (nL [b]))):=by simp[nL]
   rw[Yn,YY,h1,h2]
   simp
  rw[Yd,c];rfl
 obtain⟨s',f1,x,hs⟩:=Xh (T:=.one 4) (fb:=Wo (xB (Zi (Yr true) (Ze Xi [(Za 0),(Za 1),(T3 VU (Za 3) Q4 (UO (Za 4)))]) (Zi ZQ (Za 3) (Za 4)))) (ZK (eP (eC (.bl false)))) ZY) (ls:=V5 1 (F.length-1)) (s:=[some (wP W),some (pP D),some (.int (b:Int)),some (.lst (iL (nL F))),none])
  (fun i st=>∃x,st=[some (wP W),some (pP D),some (.int (b:Int)),some (.lst (iL (nL F))),x]) ⟨none,rfl⟩ (by
   rintro i l st hl' ⟨x,rfl⟩
   obtain⟨hi,rfl⟩:=Pw hl'
   have hk:(1:Int)+(i:Int)=((i+1:Nat):Int):=by omega
   rw[hk]
   refine⟨_,_,rfl,?_,some (.int ((i+1:Nat):Int)),rfl⟩
   show Wo _ _ _ [some (wP W),some (pP D),some (.int (b:Int)),some (.lst (iL (nL F))),some (.int ((i+1:Nat):Int))]=_
   have c:xB (Zi (Yr true) (Ze Xi [(Za 0),(Za 1),(T3 VU (Za 3) Q4 (UO (Za 4)))]) (Zi ZQ (Za 3) (Za 4))) [some (wP W),some (pP D),some (.int (b:Int)),some (.lst (iL (nL F))),some (.int ((i+1:Nat):Int))]=some false:=by
    obtain⟨x,hx⟩:∃x,F[i+1]?=some x:=⟨_,List.getElem?_eq_getElem (by omega)⟩
    have st:=B.st (i+1) (by omega) (by omega)
    rw[hx] at st
    have h1:T3 VU (Za 3) Q4 (UO (Za 4)) [some (wP W),some (pP D),some (.int (b:Int)),some (.lst (iL (nL F))),some (.int ((i+1:Nat):Int))]=some (.lst (iL (nL (F.take (i+1))))):=by
     show some (PV.lst (WZ (iL (nL F)) none (some ((i+1:Nat):Int))))=_
     rw[NK]
    have h2:=Qd (F:=F.take (i+1)) ok hd (fun x hx=>B.lt x (List.mem_of_mem_take hx)) (by rw[List.length_take];omega)
    rw[st] at h2
    have h3:Ze Xi [(Za 0),(Za 1),(T3 VU (Za 3) Q4 (UO (Za 4)))] [some (wP W),some (pP D),some (.int (b:Int)),some (.lst (iL (nL F))),some (.int ((i+1:Nat):Int))]=some (.int (x:Int)):=by
     rw[Z0,ZJ,ZJ,ZJ,h1];exact h2
    have h4:Zi ZQ (Za 3) (Za 4) [some (wP W),some (pP D),some (.int (b:Int)),some (.lst (iL (nL F))),some (.int ((i+1:Nat):Int))]=some (.int (x:Int)):=Hl hx
    rw[Yn,YY,h3,h4]
    simp
   rw[Yd,c];rfl)
 subst hs
 have e2:Wa [] (Va [(eC (.int 1)),(Ze ZZ [(Za 3)])]) (.one 4) (Wo (xB (Zi (Yr true) (Ze Xi [(Za 0),(Za 1),(T3 VU (Za 3) Q4 (UO (Za 4)))]) (Zi ZQ (Za 3) (Za 4)))) (ZK (eP (eC (.bl false)))) ZY) [some (wP W),some (pP D),some (.int (b:Int)),some (.lst (iL (nL F))),none]=some (.nx [some (wP W),some (pP D),some (.int (b:Int)),some (.lst (iL (nL F))),x]):=by
  show(Va [eC (.int 1),Ze ZZ [Za 3]] [some (wP W),some (pP D),some (.int (b:Int)),some (.lst (iL (nL F))),none]).bind _=_
  rw[R6 (i:=1) (j:=(F.length:Int)) rfl (by simp[nL]) (by omega) (by omega)]
  have:((F.length:Int)-1).toNat=F.length-1:=by omega
  rw[this];exact f1
 have h2:=Qd (F:=F) ok hd B.lt (by omega)
 rw[en] at h2
 show YO 5 VD _=_
 unfold VD
 show(Zp _ _ [some (wP W),some (pP D),some (.int (b:Int)),some (.lst (iL (nL F))),none]).bind Xr=_
 rw[ZI e1,ZI e2]
 generalize iL (nL F)=z at h2 ⊢
 simp[h2,V7,Mf]
theorem MB{n:Nat}{F:List Nat}(hl:F.length<=n)(hn:n<=7)(hF:∀x∈F,x<n):X4 [.lst (iL (nL F)),.int (n:Int)]=some (.bl true):=by
 have hc:Zs 1 [1] (Xp (Za 0)) (.one 0) Zz (U2 (Ze YD [(Za 0)]) (Hv Fa MJ (eC (.int 0)) (Za 0) (Za 1))) [some (.lst (iL (nL F))),some (.int (n:Int))]=some (.lst ((F.map fun _=>true).map PV.bl)):=by
  rw[Z1 F (fun(o:Nat)=>.int (o:Int)) (fun _=>.bl true) (by simp[nL]) (by omega) (fun o ho=>⟨_,rfl,rfl,?_⟩)]
  ·simp
  ·have:=hF o ho
   simp[ZL,PB,Hv,this]
 have e1:Wo (TW (X9 (xB (Ze Wb [(Za 0),(eC (.ty "list"))]))) (xB (Zi Np (Ze ZZ [(Za 0)]) (Za 1)))) (ZK (eP (eC (.bl false)))) ZY [some (.lst (iL (nL F))),some (.int (n:Int))]=some (.nx [some (.lst (iL (nL F))),some (.int (n:Int))]):=by
  have:¬n<F.length:=by omega
  simp[nL,this]
 show YO 2 Uz _=_
 unfold Uz
 show(Zp _ _ [some (.lst (iL (nL F))),some (.int (n:Int))]).bind Xr=_
 rw[ZI e1]
 have e2:Ze Sz [(Zs 1 [1] (Xp (Za 0)) (.one 0) Zz (U2 (Ze YD [(Za 0)]) (Hv Fa MJ (eC (.int 0)) (Za 0) (Za 1))))] [some (.lst (iL (nL F))),some (.int (n:Int))]=some (.bl true):=by
  simp only[Z0,ZJ,Up,hc,Option.bind_some,Option.map_some];rw[OB]
  simp
 rw[W4 (v:=.bl true) (by rw[Xs,e2];rfl)]
 rfl
def Xb(D:List Int)(b:Nat):List Nat:=(List.range D.length).filter fun h=>!decide (h=b)&&decide (Zq D h<0)
theorem Ra{D:List Int}{b:Nat}(hl:D.length<=1000):YM [pP D,.int (b:Int)]=some (.lst (iL (nL (Xb D b)))):=by
 have en:Y9 false [Za 0] [some (pP D),some (.int (b:Int))]=some ((List.range D.length).map fun(i:Nat)=>.tup [.int (i:Int),.int (Zq D i)]):=by
  have:=Sd D
  simp[this]
 have hc:Zs 2 [1] (Y9 false [(Za 0)]) (.many [0,1]) (U0 (xB (Zi (Yr true) (Za 0) (Za 2))) (xB (Zi MJ (Za 1) (eC (.int 0))))) (eP (Za 0)) [some (pP D),some (.int (b:Int))]=some (.lst (iL (nL (Xb D b)))):=by
  rw[WK (List.range D.length) (fun(i:Nat)=>.tup [.int (i:Int),.int (Zq D i)]) (fun(i:Nat)=>.int (i:Int)) (fun h=>!decide (h=b)&&decide (Zq D h<0)) en (by simp;omega) fun y hy=>⟨[some (.int (y:Int)),some (.int (Zq D y)),some (.int (b:Int))],by simp[ZL,Ml],?_,fun _=>by simp⟩]
  ·unfold nL Xb iL
   rw[List.map_map];rfl
  ·by_cases q:y=b
   ·subst q;simp
   ·have q':¬(y:Int)=(b:Int):=by omega
    simp[q,q']
 show YO 2 VF _=_
 unfold VF
 show(ZK _ [some (pP D),some (.int (b:Int))]).bind Xr=_
 rw[W4 hc];rfl
theorem debt_nil{D:List Int}{b:Nat}:Xb D b=[]↔∀h,h<D.length->h≠b->0<=Zq D h:=by
 unfold Xb;rw[List.filter_eq_nil_iff];constructor
 ·intro h x hx hb
  have:=h x (List.mem_range.mpr hx)
  simp[hb] at this;exact this
 ·intro h x hx
  by_cases q:x=b
  ·simp[q]
  ·have:=h x (List.mem_range.mp hx) q
   simp[q];omega
theorem Kb{D:List Int}{b h:Nat}:h∈Xb D b↔h<D.length/\h≠b/\Zq D h<0:=by
 unfold Xb;rw[List.mem_filter,List.mem_range]
 simp
end PW
namespace PW
def sN:Nat->(Nat->Int)->Int
 | 0,_=>0
 | n+1,f=>sN n f+f n
theorem Zv{f g:Nat->Int}:∀{n:Nat},(∀i,i<n->f i=g i)->sN n f=sN n g
 | 0,_=>rfl
 | n+1,h=>by
  show sN n f+f n=sN n g+g n
  rw[Zv fun i hi=>h i (by omega),h n (by omega)]
theorem UG{f:Nat->Int}{n:Nat}(h:∀i,i<n->f i=0):sN n f=0:=by
 rw[Zv (g:=fun _=>0) h]
 clear h
 induction n with
 | zero=>rfl
 | succ n ih=>show sN n _+0=0;rw[ih];rfl
theorem Y6(f g:Nat->Int):∀n,sN n (fun i=>f i+g i)=sN n f+sN n g
 | 0=>rfl
 | n+1=>by
  show sN n _+(f n+g n)=(sN n f+f n)+(sN n g+g n)
  rw[Y6 f g n];omega
theorem Yb(c:Int)(f:Nat->Int):∀n,sN n (fun i=>c*f i)=c*sN n f
 | 0=>by show(0:Int)=c*0;simp
 | n+1=>by
  show sN n _+c*f n=c*(sN n f+f n)
  rw[Yb c f n,Int.mul_add]
theorem Sf(f:Nat->Nat->Int)(m:Nat):∀n,sN n (fun i=>sN m (f i))=sN m (fun j=>sN n fun i=>f i j)
 | 0=>by
  show(0:Int)=sN m fun _=>0
  rw[UG (fun _ _=>rfl)]
 | n+1=>by
  show sN n (fun i=>sN m (f i))+sN m (f n)=sN m (fun j=>(sN n fun i=>f i j)+f n j)
  rw[Y6,Sf f m n]
theorem Xl{f:Nat->Int}{k:Nat}:∀{n:Nat},k<n->(∀i,i<n->i≠k->f i=0)->sN n f=f k
 | 0,h,_=>by omega
 | n+1,h,z=>by
  show sN n f+f n=f k
  by_cases q:k=n
  ·subst q
   rw[UG fun i hi=>z i (by omega) (by omega)];omega
  ·rw[Xl (n:=n) (by omega) fun i hi=>z i (by omega),z n (by omega) (by omega)];omega
theorem Kc{f:Nat->Int}{k:Nat}:∀{n:Nat},k+1<n->(∀i,i<n->i≠k->i≠k+1->f i=0)->sN n f=f k+f (k+1)
 | 0,h,_=>by omega
 | n+1,h,z=>by
  show sN n f+f n=_
  by_cases q:k+1=n
  ·subst q
   rw[Xl (k:=k) (by omega) fun i hi hk=>z i (by omega) hk (by omega)]
  ·rw[Kc (n:=n) (by omega) fun i hi=>z i (by omega),z n (by omega) (by omega) (by omega)];omega
theorem UH(f:Nat->Int)(n:Nat):((List.range n).map f).sum=sN n f:=by
 induction n with
 | zero=>rfl
 | succ n ih=>rw[List.range_succ,List.map_append,List.sum_append,ih];simp[sN]
abbrev Mt:=Nat->Nat->Int
def TU(i:Nat)(A:Mt):Mt:=fun r c=>A (if r<i then r else r+1) (c+1)
def sg:Nat->Int
 | 0=>1
 | n+1=>- sg n
def X8:Nat->Mt->Int
 | 0,_=>1
 | n+1,A=>sN (n+1) fun i=>sg i*A i 0*X8 n (TU i A)
theorem XC(n:Nat)(A:Mt):X8 (n+1) A=sN (n+1) fun i=>sg i*A i 0*X8 n (TU i A):=rfl
theorem XX:∀{n:Nat}{A B:Mt},(∀r c,r<n->c<n->A r c=B r c)->X8 n A=X8 n B
 | 0,_,_,_=>rfl
 | n+1,A,B,h=>by
  rw[XC,XC]
  refine Zv fun i hi=>?_
  rw[h i 0 hi (by omega),XX (n:=n) (A:=TU i A) (B:=TU i B) fun r c hr hc=>?_];unfold TU
  exact h _ _ (by split<;>omega) (by omega)
theorem NL:∀{n:Nat}{A B C:Mt}{k:Nat}{x y:Int},k<n->(∀r c,r<n->c<n->r≠k->A r c=C r c/\B r c=C r c)->(∀c,c<n->C k c=x*A k c+y*B k c)->X8 n C=x*X8 n A+y*X8 n B
 | 0,_,_,_,k,_,_,h,_,_=>by omega
 | n+1,A,B,C,k,x,y,hk,h1,h2=>by
  rw[XC,XC,XC,<-Yb,<-Yb,<-Y6]
  refine Zv fun i hi=>?_
  by_cases q:i=k
  ·subst q
   have e1:X8 n (TU i A)=X8 n (TU i C):=XX fun r c hr hc=>by
    unfold TU
    exact(h1 _ _ (by split<;>omega) (by omega) (by split<;>omega)).1
   have e2:X8 n (TU i B)=X8 n (TU i C):=XX fun r c hr hc=>by
    unfold TU
    exact(h1 _ _ (by split<;>omega) (by omega) (by split<;>omega)).2
   rw[e1,e2,h2 0 (by omega),Int.mul_add,Int.add_mul];simp only[Int.mul_assoc,Int.mul_left_comm]
  ·obtain⟨a1,a2⟩:=h1 i 0 hi (by omega) q
   have e:X8 n (TU i C)=x*X8 n (TU i A)+y*X8 n (TU i B):=NL (k:=if k<i then k else k-1) (by split<;>omega) (fun r c hr hc hrk=>by
    unfold TU
    exact h1 _ _ (by split<;>omega) (by omega) (by split at hrk<;>split<;>omega)) (fun c hc=>by
    have e:(if(if k<i then k else k-1)<i then(if k<i then k else k-1) else(if k<i then k else k-1)+1)=k:=by split<;>(try split)<;>omega
    unfold TU;rw[e]
    exact h2 (c+1) (by omega))
   rw[a1,a2,e,Int.mul_add];simp only[Int.mul_assoc,Int.mul_left_comm]
theorem Sg:∀{n:Nat}{A:Mt}{k:Nat},k+1<n->(∀c,c<n->A k c=A (k+1) c)->X8 n A=0
 | 0,_,k,h,_=>by omega
 | n+1,A,k,hk,he=>by
  rw[XC,Kc hk]
  ·have e:X8 n (TU k A)=X8 n (TU (k+1) A):=XX fun r c hr hc=>by
    unfold TU
    by_cases q:r<k
    ·rw[if_pos q,if_pos (by omega)]
    ·rw[if_neg q]
     by_cases q2:r=k
     ·subst q2
      rw[if_pos (by omega)]
      exact(he (c+1) (by omega)).symm
     ·rw[if_neg (by omega)]
   rw[e,he 0 (by omega)]
   show sg k*_*_ + - sg k*_*_=0
   rw[Int.neg_mul,Int.neg_mul];omega
  ·intro i hi h1 h2
   rw[Sg (n:=n) (A:=TU i A) (k:=if k+1<i then k else k-1) (by split<;>omega) fun c hc=>?_,Int.mul_zero]
   have e1:(if(if k+1<i then k else k-1)<i then(if k+1<i then k else k-1) else(if k+1<i then k else k-1)+1)=k:=by split<;>(try split)<;>omega
   have e2:(if(if k+1<i then k else k-1)+1<i then(if k+1<i then k else k-1)+1 else(if k+1<i then k else k-1)+1+1)=k+1:=by split<;>(try split)<;>omega
   unfold TU;rw[e1,e2]
   exact he (c+1) (by omega)
def W5(k:Nat)(v:Nat->Int)(A:Mt):Mt:=fun r=>if r=k then v else A r
theorem YL(k:Nat)(v:Nat->Int)(A:Mt):W5 k v A k=v:=by unfold W5;rw[if_pos rfl]
theorem Wl{k r:Nat}(v:Nat->Int)(A:Mt)(h:r≠k):W5 k v A r=A r:=by unfold W5;rw[if_neg h]
theorem UI{n k:Nat}{A:Mt}{u v:Nat->Int}{x y:Int}(hk:k<n):X8 n (W5 k (fun c=>x*u c+y*v c) A)=x*X8 n (W5 k u A)+y*X8 n (W5 k v A):=
 NL hk (fun r c _ _ h=>by rw[Wl _ _ h,Wl _ _ h,Wl _ _ h];exact⟨rfl,rfl⟩) (fun c _=>by rw[YL,YL,YL])
def GL(k:Nat)(A:Mt):Mt:=W5 k (A (k+1)) (W5 (k+1) (A k) A)
theorem Ju{n k:Nat}{A:Mt}(hk:k+1<n):X8 n (GL k A) = - X8 n A:=by
 have two:∀u v:Nat->Int,X8 n (W5 k (fun c=>1*u c+1*v c) (W5 (k+1) (fun c=>1*u c+1*v c) A))=0:=fun u v=>Sg hk fun c _=>by
  rw[YL,Wl _ _ (by omega),YL]
 have same:∀u:Nat->Int,X8 n (W5 k u (W5 (k+1) u A))=0:=fun u=>Sg hk fun c _=>by
  rw[YL,Wl _ _ (by omega),YL]
 have comm:∀u v:Nat->Int,W5 k u (W5 (k+1) v A)=W5 (k+1) v (W5 k u A):=fun u v=>by
  funext r
  unfold W5
  by_cases q:r=k
  ·rw[if_pos q,if_neg (by omega),if_pos q]
  ·rw[if_neg q]
   by_cases q2:r=k+1
   ·rw[if_pos q2,if_pos q2]
   ·rw[if_neg q2,if_neg q2,if_neg q]
 have h:=two (A k) (A (k+1))
 rw[UI (by omega),comm,UI hk,comm,UI hk,<-comm,<-comm,<-comm,<-comm,same,same] at h
 have e:W5 k (A k) (W5 (k+1) (A (k+1)) A)=A:=by
  funext r
  unfold W5
  by_cases q:r=k
  ·rw[if_pos q,q]
  ·rw[if_neg q]
   by_cases q2:r=k+1
   ·rw[if_pos q2,q2]
   ·rw[if_neg q2]
 rw[e] at h;unfold GL;omega
theorem Vq:∀(d:Nat){n i:Nat}{A:Mt},i+1+d<n->(∀c,c<n->A i c=A (i+1+d) c)->X8 n A=0
 | 0,n,i,A,h,e=>Sg h e
 | d+1,n,i,A,h,e=>by
  have h1:X8 n (GL (i+1+d) A)=0:=Vq d (n:=n) (i:=i) (by omega) fun c hc=>by
   unfold GL;rw[Wl _ _ (by omega),Wl _ _ (by omega),YL]
   exact e c hc
  rw[Ju (by omega)] at h1;omega
theorem PJ{n i j:Nat}{A:Mt}(hi:i<n)(hj:j<n)(hij:i≠j)(e:∀c,c<n->A i c=A j c):X8 n A=0:=by
 rcases Nat.lt_or_gt_of_ne hij with h | h
 ·exact Vq (j-i-1) (i:=i) (by omega) fun c hc=>by rw[show i+1+(j-i-1)=j by omega];exact e c hc
 ·exact Vq (i-j-1) (i:=j) (by omega) fun c hc=>by rw[show j+1+(i-j-1)=i by omega];exact(e c hc).symm
theorem PK:∀{n:Nat}{A:Mt},(∀c,c<n->A n c=0)->X8 (n+1) A=A n n*X8 n A
 | 0,A,_=>by
  show 0+1*A 0 0*1=A 0 0*1
  omega
 | n+1,A,h=>by
  rw[XC (n+1)]
  show sN (n+1) _+sg (n+1)*A (n+1) 0*_=_
  rw[h 0 (by omega),Int.mul_zero,Int.zero_mul,Int.add_zero,XC n,<-Yb]
  refine Zv fun i hi=>?_
  rw[PK (n:=n) (A:=TU i A) fun c hc=>?_]
  ·have e:TU i A n n=A (n+1) (n+1):=by unfold TU;rw[if_neg (by omega)]
   rw[e];simp only[Int.mul_assoc,Int.mul_left_comm]
  ·unfold TU;rw[if_neg (by omega)];exact h (c+1) (by omega)
theorem Rc{n j:Nat}{A:Mt}{a:Nat->Int}{v:Nat->Nat->Int}(hj:j<n):∀m,X8 n (W5 j (fun c=>sN m fun k=>a k*v k c) A)=sN m fun k=>a k*X8 n (W5 j (v k) A)
 | 0=>by
  have:X8 n (W5 j (fun c=>0*(0:Int)+0*(0:Int)) A)=0*X8 n (W5 j (fun _=>0) A)+0*X8 n (W5 j (fun _=>0) A):=UI (u:=fun _=>0) (v:=fun _=>0) hj
  simp only[Int.zero_mul,Int.add_zero] at this;exact this
 | m+1=>by
  have:=UI (n:=n) (A:=A) (u:=fun c=>sN m fun k=>a k*v k c) (v:=v m) (x:=1) (y:=a m) hj
  simp only[Int.one_mul] at this
  show X8 n (W5 j (fun c=>(sN m fun k=>a k*v k c)+a m*v m c) A)=_
  rw[this,Rc hj m];rfl
theorem Jw{n j:Nat}{A:Mt}{a:Nat->Int}(hj:j<n):X8 n (W5 j (fun c=>sN n fun k=>a k*A k c) A)=a j*X8 n A:=by
 rw[Rc hj n,Xl (k:=j) hj]
 ·have:W5 j (A j) A=A:=by funext r;unfold W5;split<;>simp_all
  rw[this]
 ·intro i hi hij
  rw[PJ (i:=i) (j:=j) hi hj hij fun c _=>by rw[Wl _ _ hij,YL],Int.mul_zero]
def PL(n:Nat)(A:Mt)(i j:Nat):Int:=X8 n (W5 j (fun c=>if c=i then 1 else 0) A)
theorem Jx{n:Nat}{A:Mt}{j:Nat}(hj:j<n)(v:Nat->Int):sN n (fun i=>v i*PL n A i j)=X8 n (W5 j v A):=by
 unfold PL;rw[<-Rc (v:=fun i c=>if c=i then 1 else 0) hj n]
 refine XX fun r c hr hc=>?_
 unfold W5
 split
 ·show sN n (fun k=>v k*if c=k then 1 else 0)=v c
  rw[Xl (k:=c) hc]
  ·simp
  ·intro i hi hic
   rw[if_neg (fun z=>hic z.symm),Int.mul_zero]
 ·rfl
theorem NM{n:Nat}{A:Mt}{k j:Nat}(hk:k<n)(hj:j<n):sN n (fun i=>A k i*PL n A i j)=if k=j then X8 n A else 0:=by
 rw[Jx hj]
 split
 ·rename_i h
  subst h
  have:W5 k (A k) A=A:=by funext r;unfold W5;split<;>simp_all
  rw[this]
 ·rename_i h
  exact PJ (i:=k) (j:=j) hk hj h fun c _=>by rw[Wl _ _ h,YL]
theorem Tw{f:Nat->Int}{q:Nat}:∀{m:Nat},q<=m->(∀k,q<=k->k<m->f k=0)->sN m f=sN q f
 | 0,h,_=>by rw[show q=0 by omega]
 | m+1,h,z=>by
  by_cases e:q=m+1
  ·rw[e]
  ·show sN m f+f m=_
   rw[Tw (m:=m) (by omega) (fun k h1 h2=>z k h1 (by omega)),z m (by omega) (by omega)];omega
theorem NN{f:Nat->Int}{q i:Nat}:∀{m:Nat},q<=i->i<m->(∀k,q<=k->k<m->k≠i->f k=0)->sN m f=sN q f+f i
 | 0,_,h,_=>by omega
 | m+1,hq,hi,z=>by
  show sN m f+f m=_
  by_cases e:i=m
  ·subst e
   rw[Tw (q:=q) (by omega) fun k h1 h2=>z k h1 (by omega) (by omega)]
  ·rw[NN (m:=m) hq (by omega) (fun k h1 h2=>z k h1 (by omega)),z m (by omega) (by omega) (fun q=>e q.symm)];omega
def Xd(m:Nat)(X:Mt):Nat->Mt×Int
 | 0=>(X,1)
 | p+1=>(fun i j=>if i=p then(Xd m X p).1 i j else((Xd m X p).1 p p*(Xd m X p).1 i j-(Xd m X p).1 i p*(Xd m X p).1 p j).fdiv (Xd m X p).2,(Xd m X p).1 p p)
structure Hm(m:Nat)(A X:Mt):Prop where
 sym:∀i j,i<m->j<m->A i j=A j i
 inj:∀p,p<=m->∀z:Nat->Int,(∀j,j<p->sN p (fun k=>z k*A k j)=0)->∀k,k<p->z k=0
 ext:∀i j,i<m->j<m->X i j=A i j
structure Fd(m p:Nat)(X:Mt)(E:Mt)(d:Int)(i:Nat)(a:Nat->Int):Prop where
 off:∀k,k<m->p<=k->k≠i->a k=0
 on:p<=i->a i=d
 val:∀j,j<=m->E i j=sN m (fun k=>a k*X k j)
 uni:∀j,j<p->E i j=if i=j then d else 0
structure Hn(m:Nat)(A X:Mt)(p:Nat)(E:Mt)(d:Int):Prop where
 de:d=X8 p A
 nz:d≠0
 row:∀i,i<m->∃a,Fd m p X E d i a
theorem Rf{m:Nat}{A X:Mt}{p:Nat}{E:Mt}{d:Int}(ok:Hm m A X)(hp:p<m)(I:Hn m A X p E d) :
  Hn m A X (p+1) (fun i j=>if i=p then E i j else(E p p*E i j-E i p*E p j).fdiv d) (E p p)/\∀i j,i<m->j<=m->i≠p->∃q,E p p*E i j-E i p*E p j=d*q:=by
 obtain⟨ap,Rp⟩:=I.row p hp
 have hd:=I.nz
 -- the pivot's row
 have rowp:∀j,j<m->E p j=sN (p+1) (fun k=>ap k*A k j):=fun j hj=>by
  rw[Rp.val j (by omega),Tw (q:=p+1) (by omega) fun k h1 h2=>by rw[Rp.off k h2 (by omega) (by omega),Int.zero_mul]]
  exact Zv fun k hk=>by rw[ok.ext k j (by omega) hj]
 have pd:E p p=X8 (p+1) A:=by
  have h1:=Jw (n:=p+1) (j:=p) (A:=A) (a:=ap) (by omega)
  have h2:=PK (n:=p) (A:=W5 p (fun c=>sN (p+1) fun k=>ap k*A k c) A) fun c hc=>by
   rw[YL]
   show sN (p+1) (fun k=>ap k*A k c)=0
   rw[<-rowp c (by omega),Rp.uni c hc,if_neg (by omega)]
  have h3:X8 p (W5 p (fun c=>sN (p+1) fun k=>ap k*A k c) A)=X8 p A:=XX fun r c hr hc=>by rw[Wl _ _ (by omega)]
  rw[YL,h3,h1,Rp.on (Nat.le_refl p),<-I.de] at h2
  have h4:d*X8 (p+1) A=E p p*d:=by
   rw[h2]
   show sN (p+1) (fun k=>ap k*A k p)*d=_
   rw[<-rowp p hp]
  have h5:d*(X8 (p+1) A)=d*E p p:=by rw[h4,Int.mul_comm]
  exact(Int.eq_of_mul_eq_mul_left hd h5).symm
 have pz:E p p≠0:=fun z=>by
  have:=ok.inj (p+1) (by omega) ap (fun j hj=>by
   rw[<-rowp j (by omega)]
   by_cases q:j=p
   ·rw[q];exact z
   ·rw[Rp.uni j (by omega),if_neg (by omega)]) p (by omega)
  rw[Rp.on (Nat.le_refl p)] at this
  exact hd this
 -- the other rows
 have other:∀i,i<m->i≠p->∃b:Nat->Int,(∀k,k<m->p+1<=k->k≠i->b k=0)/\(p+1<=i->b i=E p p)/\(∀l,l<p+1->sN m (fun k=>b k*A k l)=if i=l then E p p else 0)/\∀j,j<=m->E p p*E i j-E i p*E p j=d*sN m (fun k=>b k*X k j):=by
  intro i hi hip
  obtain⟨b,b1,b2,b3⟩:∃b:Nat->Int,(∀k,k<m->p+1<=k->k≠i->b k=0)/\(p+1<=i->b i=E p p)/\(∀l,l<p+1->sN m (fun k=>b k*A k l)=if i=l then E p p else 0):=by
   have cm:∀j l,j<p+1->l<p+1->sN (p+1) (fun k=>PL (p+1) A k j*A k l)=if l=j then E p p else 0:=fun j l hj hl=>by
    rw[pd,<-NM (A:=A) hl hj]
    exact Zv fun k hk=>by rw[ok.sym l k (by omega) (by omega),Int.mul_comm]
   by_cases q:i<p
   ·obtain⟨b,hb⟩:∃b:Nat->Int,∀k,b k=if k<p+1 then PL (p+1) A k i else 0:=⟨_,fun _=>rfl⟩
    refine⟨b,fun k hk h1 _=>by rw[hb,if_neg (by omega)],fun h=>by omega,fun l hl=>?_⟩
    rw[Tw (q:=p+1) (by omega) fun k h1 h2=>by rw[hb,if_neg (by omega),Int.zero_mul]]
    rw[Zv (g:=fun k=>PL (p+1) A k i*A k l) fun k hk=>by rw[hb,if_pos hk],cm i l (by omega) hl]
    by_cases e:i=l
    ·rw[if_pos e,if_pos e.symm]
    ·rw[if_neg e,if_neg (fun z=>e z.symm)]
   ·obtain⟨b,hb⟩:∃b:Nat->Int,∀k,b k=if k<p+1 then-sN (p+1) (fun j=>A i j*PL (p+1) A k j) else if k=i then E p p else 0:=⟨_,fun _=>rfl⟩
    have hbi:b i=E p p:=by rw[hb,if_neg (by omega),if_pos rfl]
    refine⟨b,fun k hk h1 h2=>by rw[hb,if_neg (by omega),if_neg h2],fun h=>hbi,fun l hl=>?_⟩
    rw[NN (q:=p+1) (i:=i) (by omega) hi fun k h1 h2 h3=>by rw[hb,if_neg (by omega),if_neg h3,Int.zero_mul]]
    rw[hbi,if_neg (show ¬i=l by omega)]
    have e1:sN (p+1) (fun k=>b k*A k l)=sN (p+1) (fun k=>(-1)*sN (p+1) (fun j=>A i j*(PL (p+1) A k j*A k l))):=Zv fun k hk=>by
     rw[hb,if_pos hk,Int.neg_mul,Int.mul_comm _ (A k l),<-Yb,Int.neg_mul,Int.one_mul]
     congr 1
     exact Zv fun j _=>by rw[Int.mul_comm (A k l),Int.mul_assoc]
    rw[e1,Yb,Sf]
    have e2:(sN (p+1) fun j=>sN (p+1) fun k=>A i j*(PL (p+1) A k j*A k l))=A i l*E p p:=by
     rw[Zv (g:=fun j=>A i j*(if l=j then E p p else 0)) fun j hj=>by rw[Yb,cm j l hj hl]]
     rw[Xl (k:=l) hl fun j _ hjl=>by rw[if_neg (fun z=>hjl z.symm),Int.mul_zero],if_pos rfl]
    rw[e2,Int.mul_comm (E p p)];omega
  refine⟨b,b1,b2,b3,?_⟩
  obtain⟨ai,Ri⟩:=I.row i hi
  have hw:∀k,k<m->E p p*ai k-E i p*ap k-d*b k=0:=by
   have hi2:∀k,k<m->p+1<=k->E p p*ai k-E i p*ap k-d*b k=0:=fun k hk h1=>by
    have zp:=Rp.off k hk (by omega) (by omega)
    by_cases q:k=i
    ·subst q
     rw[Ri.on (by omega),zp,b2 h1,Int.mul_comm d];omega
    ·rw[Ri.off k hk (by omega) q,zp,b1 k hk h1 q];omega
   intro k hk
   by_cases q:k<p+1
   ·refine ok.inj (p+1) (by omega) (fun k=>E p p*ai k-E i p*ap k-d*b k) (fun l hl=>?_) k q
    rw[<-Tw (q:=p+1) (m:=m) (by omega) fun k h1 h2=>by rw[hi2 k h2 h1,Int.zero_mul]]
    have e1:sN m (fun k=>(E p p*ai k-E i p*ap k-d*b k)*A k l)=E p p*sN m (fun k=>ai k*A k l)+((- E i p)*sN m (fun k=>ap k*A k l)+(- d)*sN m (fun k=>b k*A k l)):=by
     rw[<-Yb,<-Yb,<-Yb,<-Y6,<-Y6]
     exact Zv fun k _=>by
      rw[Int.sub_mul,Int.sub_mul];simp only[Int.mul_assoc,Int.neg_mul];omega
    have eX:∀a:Nat->Int,sN m (fun k=>a k*X k l)=sN m (fun k=>a k*A k l):=fun a=>Zv fun k hk=>by rw[ok.ext k l hk (by omega)]
    rw[e1,b3 l hl,<-eX,<-eX,<-Ri.val l (by omega),<-Rp.val l (by omega)]
    by_cases q2:l=p
    ·subst q2
     rw[if_neg hip,Int.mul_comm (E l l),Int.neg_mul];omega
    ·rw[Ri.uni l (by omega),Rp.uni l (by omega),if_neg (show ¬p=l by omega)]
     by_cases q3:i=l
     ·rw[if_pos q3,if_pos q3,Int.neg_mul d,Int.mul_comm d];omega
     ·rw[if_neg q3,if_neg q3];omega
   ·exact hi2 k hk (by omega)
  intro j hj;rw[Ri.val j hj,Rp.val j hj,<-Yb,<-Yb,<-Yb]
  have:sN m (fun k=>E p p*(ai k*X k j))=sN m (fun k=>d*(b k*X k j))+sN m (fun k=>E i p*(ap k*X k j)):=by
   rw[<-Y6]
   refine Zv fun k hk=>?_
   have:=hw k hk
   rw[<-Int.mul_assoc,<-Int.mul_assoc,<-Int.mul_assoc,<-Int.add_mul]
   congr 1
   omega
  omega
 refine⟨⟨pd,pz,fun i hi=>?_⟩,fun i j hi hj hip=>?_⟩
 ·by_cases hip:i=p
  ·subst hip
   refine⟨ap,fun k hk h1 h2=>Rp.off k hk (by omega) h2,fun h=>by omega,fun j hj=>by rw[if_pos rfl];exact Rp.val j hj,fun j hj=>?_⟩
   rw[if_pos rfl]
   by_cases q:i=j
   ·subst q;rw[if_pos rfl]
   ·rw[if_neg q,Rp.uni j (by omega),if_neg q]
  ·obtain⟨b,b1,b2,b3,b4⟩:=other i hi hip
   have hv:∀j,j<=m->(E p p*E i j-E i p*E p j).fdiv d=sN m (fun k=>b k*X k j):=fun j hj=>by rw[b4 j hj,Int.mul_fdiv_cancel_left _ hd]
   refine⟨b,b1,b2,fun j hj=>by rw[if_neg hip];exact hv j hj,fun j hj=>?_⟩
   rw[if_neg hip,hv j (by omega),<-b3 j hj]
   exact Zv fun k hk=>by rw[ok.ext k j hk (by omega)]
 ·obtain⟨b,b1,b2,b3,b4⟩:=other i hi hip
  exact⟨_,b4 j hj⟩
theorem Xw{m:Nat}{A X:Mt}(ok:Hm m A X):∀{p:Nat},p<=m->Hn m A X p (Xd m X p).1 (Xd m X p).2
 | 0,_=>⟨rfl,(show(1:Int)≠0 by decide),fun i hi=>⟨fun k=>if k=i then 1 else 0,fun k _ _ h=>if_neg h,fun _=>if_pos rfl,fun j hj=>by
   rw[Xl (k:=i) hi fun k _ hk=>by rw[if_neg hk,Int.zero_mul],if_pos rfl,Int.one_mul];rfl,fun j hj=>by omega⟩⟩
 | p+1,h=>(Rf ok (by omega) (Xw ok (p:=p) (by omega))).1
theorem MC{m:Nat}{A X:Mt}(ok:Hm m A X){k:Nat}(hk:k<m):sN m (fun i=>A k i*(Xd m X m).1 i m)=(Xd m X m).2*X k m:=by
 have I:=Xw ok (Nat.le_refl m)
 generalize hE:(Xd m X m).1=E at I ⊢
 generalize hd:(Xd m X m).2=d at I ⊢
 have nz:=I.nz
 have hr:∀k,k<m->sN m (fun i=>A k i*sN m (fun j=>PL m A i j*X j m))=d*X k m:=fun k hk=>by
  rw[Zv (g:=fun i=>sN m (fun j=>A k i*(PL m A i j*X j m))) fun i _=>by rw[Yb]]
  rw[Sf,Zv (g:=fun j=>(if k=j then d else 0)*X j m) fun j hj=>by
   rw[I.de,<-NM (A:=A) hk hj,Int.mul_comm _ (X j m),<-Yb]
   exact Zv fun i _=>by rw[Int.mul_comm (X j m),Int.mul_assoc]]
  rw[Xl (k:=k) hk fun j _ h=>by rw[if_neg (fun z=>h z.symm),Int.zero_mul],if_pos rfl]
 have he:∀i,i<m->E i m=sN m (fun j=>PL m A i j*X j m):=fun i hi=>by
  obtain⟨a,R⟩:=I.row i hi
  refine Int.eq_of_mul_eq_mul_left nz ?_
  rw[R.val m (Nat.le_refl m),<-Yb]
  have e1:sN m (fun k=>d*(a k*X k m))=sN m (fun k=>a k*sN m (fun l=>A k l*sN m (fun j=>PL m A l j*X j m))):=Zv fun k hk=>by rw[hr k hk,Int.mul_left_comm]
  rw[e1,Zv (g:=fun k=>sN m (fun l=>a k*A k l*sN m (fun j=>PL m A l j*X j m))) fun k _=>by
   rw[<-Yb];exact Zv fun l _=>by rw[Int.mul_assoc]]
  rw[Sf,Zv (g:=fun l=>(if i=l then d else 0)*sN m (fun j=>PL m A l j*X j m)) fun l hl=>by
   rw[<-R.uni l hl,R.val l (by omega),Int.mul_comm _ (sN m fun j=>PL m A l j*X j m),<-Yb]
   exact Zv fun k hk=>by rw[ok.ext k l hk hl,Int.mul_comm]]
  rw[Xl (k:=i) hi fun l _ h=>by rw[if_neg (fun z=>h z.symm),Int.zero_mul],if_pos rfl]
 rw[Zv (g:=fun i=>A k i*sN m (fun j=>PL m A i j*X j m)) fun i hi=>by rw[he i hi]]
 exact hr k hk
open L2 VL
theorem Kd{z:Int}(h:z.natAbs<2^1000):z.natAbs.log2<1000:=by
 by_cases h0:z.natAbs=0
 ·rw[h0];decide +kernel
 ·exact(Nat.log2_lt h0).mpr h
theorem NO{a b:Int}(h:a.natAbs<2^1000)(h':b.natAbs<2^1000):CMulW a b:=⟨by have:=Kd h;omega,by have:=Kd h';omega⟩
theorem NP{a b:Int}(h0:b≠0)(h:b.natAbs<2^1000):TD a b:=⟨h0,by have:=Kd h;omega⟩
def Mb:Nat->Nat
 | 0=>2^7
 | p+1=>2*Mb p*Mb p
def Nb:Nat->Nat
 | 0=>2^208
 | p+1=>2*Mb p*Nb p
theorem Gv{p:Nat}(h:p<=6):Mb p<2^1000:=by
 have:p=0\/p=1\/p=2\/p=3\/p=4\/p=5\/p=6:=by omega
 rcases this with rfl | rfl | rfl | rfl | rfl | rfl | rfl<;>decide +kernel
theorem Fe{p:Nat}(h:p<=6):Nb p<2^1000:=by
 have:p=0\/p=1\/p=2\/p=3\/p=4\/p=5\/p=6:=by omega
 rcases this with rfl | rfl | rfl | rfl | rfl | rfl | rfl<;>decide +kernel
theorem NQ{a b c d:Int}{M N:Nat}(ha:a.natAbs<=M)(hb:b.natAbs<=N)(hc:c.natAbs<=M)(hd:d.natAbs<=N):(a*b-c*d).natAbs<=2*M*N:=by
 have h1:(a*b).natAbs<=M*N:=by rw[Int.natAbs_mul];exact Nat.mul_le_mul ha hb
 have h2:(c*d).natAbs<=M*N:=by rw[Int.natAbs_mul];exact Nat.mul_le_mul hc hd
 have h3:(a*b-c*d).natAbs<=(a*b).natAbs+(c*d).natAbs:=by omega
 have h4:2*M*N=M*N+M*N:=by rw[Nat.mul_assoc];omega
 omega
theorem PM{x d q:Int}(hd:d≠0)(e:x=d*q):(x.fdiv d).natAbs<=x.natAbs:=by
 rw[e,Int.mul_fdiv_cancel_left _ hd,Int.natAbs_mul]
 have:1<=d.natAbs:=by omega
 calc q.natAbs=1*q.natAbs:=by omega
  _<=d.natAbs*q.natAbs:=Nat.mul_le_mul_right _ this
theorem Jy(p:Nat):Mb p<=Mb (p+1):=by
 have h:∀p,1<=Mb p:=fun p=>by
  induction p with
  | zero=>decide
  | succ p ih=>show 1<=2*Mb p*Mb p;exact Nat.mul_le_mul (show 1<=2*Mb p by omega) ih
 show Mb p<=2*Mb p*Mb p
 calc Mb p=1*Mb p:=by omega
  _<=2*Mb p*Mb p:=Nat.mul_le_mul_right _ (by have:=h p;omega)
theorem Jz(p:Nat):Nb p<=Nb (p+1):=by
 have h:∀p,1<=Mb p:=fun p=>by
  induction p with
  | zero=>decide
  | succ p ih=>show 1<=2*Mb p*Mb p;exact Nat.mul_le_mul (show 1<=2*Mb p by omega) ih
 show Nb p<=2*Mb p*Nb p
 calc Nb p=1*Nb p:=by omega
  _<=2*Mb p*Nb p:=Nat.mul_le_mul_right _ (by have:=h p;omega)
theorem Tx{m:Nat}{A X:Mt}(ok:Hm m A X)(h0:∀i j,i<m->j<m->(X i j).natAbs<=2^7)(h1:∀i,i<m->(X i m).natAbs<=2^208):∀{p:Nat},p<=m->(∀i j,i<m->j<m->((Xd m X p).1 i j).natAbs<=Mb p)/\∀i,i<m->((Xd m X p).1 i m).natAbs<=Nb p
 | 0,_=>⟨h0,h1⟩
 | p+1,hp=>by
  obtain⟨b1,b2⟩:=Tx ok h0 h1 (p:=p) (by omega)
  have I:=Xw ok (p:=p) (by omega)
  have ex:=(Rf ok (by omega) I).2
  refine⟨fun i j hi hj=>?_,fun i hi=>?_⟩
  ·show(if i=p then(Xd m X p).1 i j else _).natAbs<=_
   split
   ·exact Nat.le_trans (b1 i j hi hj) (Jy p)
   ·rename_i hip
    obtain⟨q,e⟩:=ex i j hi (by omega) hip
    exact Nat.le_trans (PM I.nz e) (NQ (b1 p p (by omega) (by omega)) (b1 i j hi hj) (b1 i p hi (by omega)) (b1 p j (by omega) hj))
  ·show(if i=p then(Xd m X p).1 i m else _).natAbs<=_
   split
   ·exact Nat.le_trans (b2 i hi) (Jz p)
   ·rename_i hip
    obtain⟨q,e⟩:=ex i m hi (by omega) hip
    exact Nat.le_trans (PM I.nz e) (NQ (b1 p p (by omega) (by omega)) (b2 i hi) (b1 i p hi (by omega)) (b2 p (by omega)))
def Z7(w:Nat)(f:Nat->Int):List Int:=(List.range w).map f
theorem Xm(w:Nat)(f:Nat->Int):(Z7 w f).length=w:=by simp[Z7]
theorem Vr{w:Nat}{f:Nat->Int}{j:Nat}(h:j<w):Zq (Z7 w f) j=f j:=ZN h
theorem Gw{l:List Int}:(Option.bind ((Option.bind (some (PV.lst (iL l))) fun x=>(TY [] s).map (x::·)).bind Yh) fun l=>if Z6 l=true then some l else none)=some (pP l):=by
 show(if Z6 (pP l)=true then some (pP l) else none)=_
 rw[if_pos (by simp)]
theorem O7{w p:Nat}{f g:Nat->Int}{d:Int}(hw:w<=100)(hp:p<w)(hf:∀j,j<w->(f j).natAbs<2^1000)(hg:∀j,j<w->(g j).natAbs<2^1000)(hd:d≠0)(hdb:d.natAbs<2^1000) :
  Xa [pP (Z7 w f),pP (Z7 w g),.int (p:Int),.int d]=some (pP (Z7 w fun j=>(g p*f j-f p*g j).fdiv d)):=by
 have hz:V6 (iL (Z7 w f)) (iL (Z7 w g))=(List.range w).map fun(j:Nat)=>.tup [.int (f j),.int (g j)]:=by
  rw[WL _ _ (by simp[Xm]),List.length_map,Xm]
  apply List.map_congr_left
  intro i hi;have hi:=List.mem_range.mp hi
  rw[Wd _ i (by rw[Xm];exact hi),Wd _ i (by rw[Xm];exact hi),Vr hi,Vr hi]
 have hx:VR false false [Za 0,Za 1] [some (pP (Z7 w f)),some (pP (Z7 w g)),some (.int (p:Int)),some (.int d)]=some ((List.range w).map fun(j:Nat)=>.tup [.int (f j),.int (g j)]):=by
  show some (V6 (iL (Z7 w f)) (iL (Z7 w g)))=_
  rw[hz]
 have hc:Zs 2 [3,1,2,0] (VR false false [(Za 0),(Za 1)]) (.many [0,1]) Zz (Zi SR (Zi YT (Zi SQ (Zi ZQ (Za 3) (Za 4)) (Za 0)) (Zi SQ (Zi ZQ (Za 5) (Za 4)) (Za 1))) (Za 2)) [some (pP (Z7 w f)),some (pP (Z7 w g)),some (.int (p:Int)),some (.int d)]=some (.lst (iL (Z7 w fun j=>(g p*f j-f p*g j).fdiv d))):=by
  rw[Z1 (List.range w) (fun(j:Nat)=>.tup [.int (f j),.int (g j)]) (fun j=>.int ((g p*f j-f p*g j).fdiv d)) hx (by simp;omega) (fun j hj=>⟨[some (.int (f j)),some (.int (g j)),some (.int d),some (pP (Z7 w g)),some (.int (p:Int)),some (pP (Z7 w f))],rfl,rfl,?_⟩)]
  ·simp[Z7]
  ·have hj:=List.mem_range.mp hj
   have i1:=Y1 (l:=Z7 w g) (k:=p) (by rw[Xm];exact hp)
   have i2:=Y1 (l:=Z7 w f) (k:=p) (by rw[Xm];exact hp)
   rw[Vr hp] at i1 i2
   exact(vC (C:=TD) (op:=Int.fdiv) (vI (vC (C:=CMulW) (op:=(· * ·)) (a:=g p) (b:=f j) i1 rfl (NO (hg p hp) (hf j hj))) (vC (C:=CMulW) (op:=(· * ·)) (a:=f p) (b:=g j) i2 rfl (NO (hf p hp) (hg j hj)))) rfl (NP hd hdb))
 show YO 4 VG _=_
 unfold VG
 show(ZK _ [some (pP (Z7 w f)),some (pP (Z7 w g)),some (.int (p:Int)),some (.int d)]).bind Xr=_
 rw[W4 (v:=pP (Z7 w fun j=>(g p*f j-f p*g j).fdiv d)) (by rw[Xs,Z0,ZJ,hc];exact Gw)]
 rfl
def Wm(m w:Nat)(E:Mt):List (List Int):=(List.range m).map fun i=>Z7 w (E i)
theorem JA(m w:Nat)(E:Mt):(Wm m w E).length=m:=by simp[Wm]
def tL(M:List (List Int)):List PV:=M.map pP
theorem Rh(m w:Nat)(E:Mt):tL (Wm m w E)=(List.range m).map fun i=>pP (Z7 w (E i)):=by
 unfold tL Wm;rw[List.map_map];rfl
theorem Rj(m w:Nat)(E:Mt):(tL (Wm m w E)).length=m:=by simp[tL,JA]
theorem O8{m w:Nat}{E:Mt}{i:Nat}(h:i<m):(tL (Wm m w E))[i]?=some (pP (Z7 w (E i))):=by
 rw[Rh,List.getElem?_map,List.getElem?_range h];rfl
theorem NR(M:List (List Int)):ZX (tL M)=true:=Pv M
theorem MD{m w:Nat}{A X:Mt}(hm:m<=6)(hw:m<=w)(hw1:w<=m+1)(ok:Hm m A X)(h0:∀i j,i<m->j<m->(X i j).natAbs<=2^7)(h1:∀i,i<m->(X i m).natAbs<=2^208){R:PV}(hR:R = .lst (tL (Wm m w X))\/R = .tup (tL (Wm m w X))) :
  Wt [R]=some (.tup [.int (Xd m X m).2,.lst (tL (Wm m w (Xd m X m).1))]):=by
 have bd:∀{p:Nat},p<=m->∀i j,i<m->j<m+1->((Xd m X p).1 i j).natAbs<2^1000:=fun{p} hp i j hi hj=>by
  obtain⟨b1,b2⟩:=Tx ok h0 h1 hp
  by_cases q:j<m
  ·exact Nat.lt_of_le_of_lt (b1 i j hi q) (Gv (by omega))
  ·rw[show j=m by omega];exact Nat.lt_of_le_of_lt (b2 i hi) (Fe (by omega))
 have db:∀{p:Nat},p<=m->(Xd m X p).2.natAbs<2^1000:=fun{p} hp=>by
  cases p with
  | zero=>show(1:Int).natAbs<_;decide +kernel
  | succ p=>exact bd (p:=p) (by omega) p p (by omega) (by omega)
 let st:Nat->Option PV->Option PV->ZU:=fun p x3 x4=>[some R,some (.lst (tL (Wm m w (Xd m X p).1))),some (.int (Xd m X p).2),x3,x4]
 have e1:Zr 1 (Ze Xo [(Za 0)]) [some R,none,none,none,none]=some (.nx [some R,some (.lst (tL (Wm m w X))),none,none,none]):=by
  have:Ze Xo [(Za 0)] [some R,none,none,none,none]=some (.lst (tL (Wm m w X))):=by
   show Xo [R]=_
   rcases hR with rfl | rfl
   ·rw[Lw,if_pos (NR _)]
   ·rw[Lv,if_pos (NR _)]
  rw[ZD,this];rfl
 have e2:Zr 2 (eP (eC (.int 1))) [some R,some (.lst (tL (Wm m w X))),none,none,none]=some (.nx (st 0 none none)):=by
  rw[ZD,vP (a:=1) rfl];rfl
 let fb:XS:=(Zp (Zr 4 (eP (Zi ZQ (Za 1) (Za 3))))
  (Zp (Zr 1 (Zs 2 [3,4,2] (Y9 true [(Za 1)]) (.many [0,1]) Zz (eP (Me (xB (Zi (Yr false) (Za 0) (Za 2))) (Za 1) (Ze Xa [(Za 1),(Za 3),(Za 2),(Za 4)])))))
  (Zr 2 (eP (Zi ZQ (Za 4) (Za 3))))))
 obtain⟨s',f1,x3,x4,hs⟩:=Xh (T:=.one 3) (fb:=fb) (ls:=W9 m) (s:=st 0 none none) (fun p s=>∃x3 x4,s=st p x3 x4) ⟨none,none,rfl⟩ (by
  rintro p l s hl ⟨x3,x4,rfl⟩
  obtain⟨hp,rfl⟩:=Vf hl
  generalize hE:(Xd m X p).1=E
  generalize hd:(Xd m X p).2=d
  have I:=Xw ok (p:=p) (by omega)
  have bE:∀i j,i<m->j<w->(E i j).natAbs<2^1000:=by rw[<-hE];exact fun i j hi hj=>bd (by omega) i j hi (by omega)
  have bD:d.natAbs<2^1000:=by rw[<-hd];exact db (by omega)
  rw[hE,hd] at I
  let E':Mt:=fun i j=>if i=p then E i j else(E p p*E i j-E i p*E p j).fdiv d
  have hs1:(Xd m X (p+1)).1=E':=by
   show(fun i j=>if i=p then(Xd m X p).1 i j else((Xd m X p).1 p p*(Xd m X p).1 i j-(Xd m X p).1 i p*(Xd m X p).1 p j).fdiv (Xd m X p).2)=E'
   rw[hE,hd]
  have hs2:(Xd m X (p+1)).2=E p p:=by rw[<-hE];rfl
  have q0:st p (some (.int (p:Int))) x4=[some R,some (.lst (tL (Wm m w E))),some (.int d),some (.int (p:Int)),x4]:=by rw[<-hE,<-hd]
  have q1:Zr 4 (eP (Zi ZQ (Za 1) (Za 3))) [some R,some (.lst (tL (Wm m w E))),some (.int d),some (.int (p:Int)),x4]=some (.nx [some R,some (.lst (tL (Wm m w E))),some (.int d),some (.int (p:Int)),some (pP (Z7 w (E p)))]):=by
   have:UN (tL (Wm m w E)) (p:Int)=some (pP (Z7 w (E p))):=Ua (O8 hp)
   have:eP (Zi ZQ (Za 1) (Za 3)) [some R,some (.lst (tL (Wm m w E))),some (.int d),some (.int (p:Int)),x4]=some (pP (Z7 w (E p))):=by
    show(Option.bind (UN (tL (Wm m w E)) (p:Int)) fun l=>if Z6 l=true then some l else none)=_
    rw[this]
    show(if Z6 (pP (Z7 w (E p)))=true then _ else _)=_
    rw[if_pos (by simp)]
   rw[ZD,this];rfl
  have q2:Zr 1 (Zs 2 [3,4,2] (Y9 true [(Za 1)]) (.many [0,1]) Zz (eP (Me (xB (Zi (Yr false) (Za 0) (Za 2))) (Za 1) (Ze Xa [(Za 1),(Za 3),(Za 2),(Za 4)])))) [some R,some (.lst (tL (Wm m w E))),some (.int d),some (.int (p:Int)),some (pP (Z7 w (E p)))]=some (.nx [some R,some (.lst (tL (Wm m w E'))),some (.int d),some (.int (p:Int)),some (pP (Z7 w (E p)))]):=by
   have hx:Y9 true [Za 1] [some R,some (.lst (tL (Wm m w E))),some (.int d),some (.int (p:Int)),some (pP (Z7 w (E p)))]=some ((List.range m).map fun(i:Nat)=>.tup [.int (i:Int),pP (Z7 w (E i))]):=by
    show some (Vb (tL (Wm m w E)))=_
    rw[TC,Rj]
    congr 1
    apply List.map_congr_left
    intro i hi;have hi:=List.mem_range.mp hi
    rw[List.getD_eq_getElem?_getD,O8 hi];rfl
   have hc:Zs 2 [3,4,2] (Y9 true [(Za 1)]) (.many [0,1]) Zz (eP (Me (xB (Zi (Yr false) (Za 0) (Za 2))) (Za 1) (Ze Xa [(Za 1),(Za 3),(Za 2),(Za 4)]))) [some R,some (.lst (tL (Wm m w E))),some (.int d),some (.int (p:Int)),some (pP (Z7 w (E p)))]=some (.lst (tL (Wm m w E'))):=by
    rw[Z1 (List.range m) (fun(i:Nat)=>.tup [.int (i:Int),pP (Z7 w (E i))]) (fun i=>pP (Z7 w (E' i))) hx (by simp;omega) (fun i hi=>⟨[some (.int (i:Int)),some (pP (Z7 w (E i))),some (.int (p:Int)),some (pP (Z7 w (E p))),some (.int d)],rfl,rfl,?_⟩),Rh]
    have hi:=List.mem_range.mp hi
    have ev:Me (xB (Zi (Yr false) (Za 0) (Za 2))) (Za 1) (Ze Xa [(Za 1),(Za 3),(Za 2),(Za 4)]) [some (.int (i:Int)),some (pP (Z7 w (E i))),some (.int (p:Int)),some (pP (Z7 w (E p))),some (.int d)]=some (pP (Z7 w (E' i))):=by
     by_cases q:i=p
     ·have t:xB (Zi (Yr false) (Za 0) (Za 2)) [some (.int (i:Int)),some (pP (Z7 w (E i))),some (.int (p:Int)),some (pP (Z7 w (E p))),some (.int d)]=some true:=by simp[q]
      rw[Uq,t]
      have:E' i=E i:=by funext j;show(if i=p then _ else _)=_;rw[if_pos q]
      rw[this];rfl
     ·have q':¬(i:Int)=(p:Int):=by omega
      have t:xB (Zi (Yr false) (Za 0) (Za 2)) [some (.int (i:Int)),some (pP (Z7 w (E i))),some (.int (p:Int)),some (pP (Z7 w (E p))),some (.int d)]=some false:=by simp[q']
      rw[Uq,t]
      have:E' i=fun j=>(E p p*E i j-E i p*E p j).fdiv d:=by funext j;show(if i=p then _ else _)=_;rw[if_neg q]
      rw[this]
      exact O7 (f:=E i) (g:=E p) (by omega) (by omega) (fun j hj=>bE i j hi hj) (fun j hj=>bE p j hp hj) I.nz bD
    rw[Xs,ev]
    show(if Z6 (pP (Z7 w (E' i)))=true then _ else _)=_
    rw[if_pos (by simp)]
   rw[ZD,hc];rfl
  have q3:Zr 2 (eP (Zi ZQ (Za 4) (Za 3))) [some R,some (.lst (tL (Wm m w E'))),some (.int d),some (.int (p:Int)),some (pP (Z7 w (E p)))]=some (.nx [some R,some (.lst (tL (Wm m w E'))),some (.int (E p p)),some (.int (p:Int)),some (pP (Z7 w (E p)))]):=by
   have:=Y1 (l:=Z7 w (E p)) (k:=p) (by rw[Xm];omega)
   rw[Vr (by omega)] at this
   rw[ZD,vP (a:=E p p) this];rfl
  refine⟨st p (some (.int (p:Int))) x4,st (p+1) (some (.int (p:Int))) (some (pP (Z7 w (E p)))),rfl,?_,_,_,rfl⟩
  rw[q0]
  show Zp _ _ _=_
  rw[ZI q1,ZI q2,q3]
  show _=some (Out.nx [some R,some (.lst (tL (Wm m w (Xd m X (p+1)).1))),some (.int (Xd m X (p+1)).2),_,_])
  rw[hs1,hs2])
 subst hs;rw[SG] at f1
 have e3:Wa [1] (ZS [(Ze ZZ [(Za 0)])]) (.one 3) fb (st 0 none none)=some (.nx (st m x3 x4)):=by
  show(ZS [(Ze ZZ [(Za 0)])] (YB [1] (st 0 none none))).bind _=_
  have:Ze ZZ [(Za 0)] (YB [1] (st 0 none none))=some (.int (m:Int)):=by
   rcases hR with rfl | rfl
   ·show some (PV.int ((tL (Wm m w X)).length:Int))=_
    rw[Rj]
   ·show some (PV.int ((tL (Wm m w X)).length:Int))=_
    rw[Rj]
  rw[Yp (n:=m) this (by omega)];exact f1
 show YO 5 UB _=_
 unfold UB
 show(Zp _ _ [some R,none,none,none,none]).bind Xr=_
 rw[ZI e1,ZI e2,ZI e3];rfl
theorem ME{m:Nat}{A X:Mt}(hm:m<=6)(ok:Hm m A X)(h0:∀i j,i<m->j<m->(X i j).natAbs<=2^7)(h1:∀i,i<m->(X i m).natAbs<=2^208) :
  YE [wP (Wm m m A),pP (Z7 m fun i=>X i m)]=some (.lst (iL (Z7 m fun i=>((Xd m X m).1 i m).fdiv (Xd m X m).2))):=by
 let R:PV:=wP (Wm m m A)
 let Cc:PV:=pP (Z7 m fun i=>X i m)
 let T:PV:=.tup [.int (Xd m X m).2,.lst (tL (Wm m (m+1) (Xd m X m).1))]
 have e1:Zr 2 (Ze Wt [(Zs 2 [] (VR false false [(Za 0),(Za 1)]) (.many [0,1]) Zz (Zi WW (Za 0) (Qt [(Za 1)])))]) [some R,some Cc,none]=some (.nx [some R,some Cc,some T]):=by
  have hz:V6 (tL (Wm m m A)) (iL (Z7 m fun i=>X i m))=(List.range m).map fun(i:Nat)=>.tup [pP (Z7 m (A i)),.int (X i m)]:=by
   rw[WL _ _ (by rw[Rj,List.length_map,Xm]),Rj]
   apply List.map_congr_left
   intro i hi;have hi:=List.mem_range.mp hi
   rw[Wd _ i (by rw[Xm];exact hi),Vr hi,List.getD_eq_getElem?_getD,O8 hi];rfl
  have hx:VR false false [Za 0,Za 1] [some R,some Cc,none]=some ((List.range m).map fun(i:Nat)=>.tup [pP (Z7 m (A i)),.int (X i m)]):=by
   show some (V6 (tL (Wm m m A)) (iL (Z7 m fun i=>X i m)))=_
   rw[hz]
  have hc:Zs 2 [] (VR false false [(Za 0),(Za 1)]) (.many [0,1]) Zz (Zi WW (Za 0) (Qt [(Za 1)])) [some R,some Cc,none]=some (.lst (tL (Wm m (m+1) X))):=by
   rw[Z1 (List.range m) (fun(i:Nat)=>.tup [pP (Z7 m (A i)),.int (X i m)]) (fun i=>pP (Z7 (m+1) (X i))) hx (by simp;omega) (fun i hi=>⟨[some (pP (Z7 m (A i))),some (.int (X i m))],rfl,rfl,?_⟩),Rh]
   have hi:=List.mem_range.mp hi
   have hl:(iL (Z7 m (A i))).length+[PV.int (X i m)].length<=10000:=by simp[Xm];omega
   have e:WW (pP (Z7 m (A i))) (.tup [.int (X i m)])=some (.tup (iL (Z7 m (A i))++[.int (X i m)])):=by
    show(if _ then _ else _)=_
    rw[if_pos hl]
   have e2:iL (Z7 m (A i))++[PV.int (X i m)]=iL (Z7 (m+1) (X i)):=by
    unfold Z7;rw[List.range_succ,List.map_append]
    simp
    exact fun j hj=>(ok.ext i j hi hj).symm
   show(Zi WW (Za 0) (Qt [(Za 1)])) [some (pP (Z7 m (A i))),some (.int (X i m))]=some (.tup (iL (Z7 (m+1) (X i))))
   rw[<-e2,<-e];rfl
  have:Ze Wt [(Zs 2 [] (VR false false [(Za 0),(Za 1)]) (.many [0,1]) Zz (Zi WW (Za 0) (Qt [(Za 1)])))] [some R,some Cc,none]=some T:=by
   rw[Z0,ZJ,hc]
   exact MD hm (by omega) (by omega) ok h0 h1 (.inl rfl)
  rw[ZD,this];rfl
 have I:=Xw ok (Nat.le_refl m)
 have bD:(Xd m X m).2.natAbs<2^1000:=by
  obtain⟨b1,b2⟩:=Tx ok h0 h1 (p:=m-1) (by omega)
  by_cases q:m=0
  ·rw[q];show(1:Int).natAbs<_;decide +kernel
  ·have:(Xd m X m).2=(Xd m X (m-1)).1 (m-1) (m-1):=by
    obtain⟨k,rfl⟩:∃k,m=k+1:=⟨m-1,by omega⟩
    rfl
   rw[this]
   exact Nat.lt_of_le_of_lt (b1 _ _ (by omega) (by omega)) (Gv (by omega))
 have hc:Zs 1 [2] (Xp (Zi ZQ (Za 2) (eC (.int 1)))) (.one 0) Zz (eP (Zi SR (Zi ZQ (Za 0) (Oo Rz (eC (.int 1)))) (Zi ZQ (Za 1) (eC (.int 0))))) [some R,some Cc,some T]=some (.lst (iL (Z7 m fun i=>((Xd m X m).1 i m).fdiv (Xd m X m).2))):=by
  have hx:Xp (Zi ZQ (Za 2) (eC (.int 1))) [some R,some Cc,some T]=some ((List.range m).map fun i=>pP (Z7 (m+1) ((Xd m X m).1 i))):=by
   show some (tL (Wm m (m+1) (Xd m X m).1))=_
   rw[Rh]
  rw[Z1 (List.range m) (fun i=>pP (Z7 (m+1) ((Xd m X m).1 i))) (fun i=>.int (((Xd m X m).1 i m).fdiv (Xd m X m).2)) hx (by simp;omega) (fun i hi=>⟨[some (pP (Z7 (m+1) ((Xd m X m).1 i))),some T],rfl,rfl,?_⟩)]
  ·simp[Z7]
  ·have hi:=List.mem_range.mp hi
   have ix:UN (iL (Z7 (m+1) ((Xd m X m).1 i))) (-1)=some (.int ((Xd m X m).1 i m)):=by
    have:Q3 (iL (Z7 (m+1) ((Xd m X m).1 i))).length (-1)=some m:=by
     rw[List.length_map,Xm];unfold Q3;rw[if_neg (by omega),if_pos (by omega)]
     congr 1
     omega
    unfold UN;rw[this]
    show(iL (Z7 (m+1) ((Xd m X m).1 i)))[m]?=_
    rw[Oz (by rw[Xm];omega),Vr (by omega)]
   exact vP (vC (C:=TD) (op:=Int.fdiv) ix rfl (NP I.nz bD))
 show YO 3 Xj _=_
 unfold Xj
 show(Zp _ _ [some R,some Cc,none]).bind Xr=_
 rw[ZI e1,W4 hc];rfl
def Wh(b i:Nat):Nat:=if i<b then i else i+1
def NS(b h:Nat):Nat:=if h<b then h else h-1
theorem Ke(b i:Nat):Wh b i≠b:=by unfold Wh;split<;>omega
theorem WR{b i m:Nat}(h:i<m):Wh b i<m+1:=by unfold Wh;split<;>omega
theorem NT(b i:Nat):NS b (Wh b i)=i:=by unfold NS Wh;split<;>(try split)<;>omega
theorem Sh{b h:Nat}(q:h≠b):Wh b (NS b h)=h:=by unfold NS Wh;split<;>(try split)<;>omega
theorem O9{b h m:Nat}(hb:b<m+1)(hh:h<m+1)(q:h≠b):NS b h<m:=by unfold NS;split<;>omega
theorem PN{n b:Nat}(hn:n<=7)(hb:b<n):(List.range n).filter (fun h=>!decide (h=b))=(List.range (n-1)).map (Wh b):=by
 have:∀n,n<8->∀b,b<8->b<n->(List.range n).filter (fun h=>!decide (h=b))=(List.range (n-1)).map (Wh b):=by decide
 exact this n (by omega) b (by omega) hb
theorem Kf{f:Nat->Int}{b:Nat}(h0:f b=0):∀{m:Nat},b<m+1->sN (m+1) f=sN m (fun i=>f (Wh b i))
 | 0,h=>by
  have:b=0:=by omega
  subst this
  show 0+f 0=0
  rw[h0];rfl
 | m+1,h=>by
  by_cases q:b=m+1
  ·subst q
   show sN (m+1) f+f (m+1)=_
   rw[h0,Int.add_zero]
   exact Zv fun i hi=>by unfold Wh;rw[if_pos hi]
  ·show sN (m+1) f+f (m+1)=sN m (fun i=>f (Wh b i))+f (Wh b m)
   rw[Kf h0 (m:=m) (by omega),show Wh b m=m+1 by unfold Wh;rw[if_neg (by omega)]]
theorem Vs{f:Nat->Int}:∀{n:Nat},(∀i,i<n->0<=f i)->sN n f<=0->∀i,i<n->f i=0
 | 0,_,_,i,h=>by omega
 | n+1,h,s,i,hi=>by
  have s:sN n f+f n<=0:=s
  have h1:0<=sN n f:=by
   have:∀k,k<=n->0<=sN k f:=by
    intro k
    induction k with
    | zero=>intro _;exact Int.le_refl 0
    | succ k ih=>intro hk;have:=ih (by omega);have:=h k (by omega);show 0<=sN k f+f k;omega
   exact this n (Nat.le_refl n)
  have h2:=h n (by omega)
  by_cases q:i=n
  ·subst q;omega
  ·exact Vs (n:=n) (fun i hi=>h i (by omega)) (by omega) i (by omega)
theorem Xc{f:Nat->Int}:∀{n:Nat},(∀i,i<n->0<=f i)->0<=sN n f
 | 0,_=>Int.le_refl 0
 | n+1,h=>by
  have:=Xc (n:=n) fun i hi=>h i (by omega)
  have:=h n (by omega)
  show 0<=sN n f+f n
  omega
theorem Rk(Y:Nat->Int):∀{n:Nat},0<n->∃h,h<n/\∀g,g<n->Y h<=Y g
 | 0,h=>by omega
 | 1,_=>⟨0,by omega,fun g hg=>by rw[show g=0 by omega];exact Int.le_refl _⟩
 | n+2,_=>by
  obtain⟨h,h1,h2⟩:=Rk Y (n:=n+1) (by omega)
  by_cases q:Y h<=Y (n+1)
  ·exact⟨h,by omega,fun g hg=>by
    by_cases e:g=n+1
    ·rw[e];exact q
    ·exact h2 g (by omega)⟩
  ·exact⟨n+1,by omega,fun g hg=>by
    by_cases e:g=n+1
    ·rw[e];exact Int.le_refl _
    ·have:=h2 g (by omega);omega⟩
def gN(W:List (List Int))(Y:Nat->Int)(h:Nat):Int:=sN W.length (fun g=>Yl W h g*(Y g-Y h))
theorem JB{W:List (List Int)}(ok:Yk W)(cn:Tq W){Y:Nat->Int}{b:Nat}(hb:b<W.length)(hyp:∀h,h<W.length->h≠b->Y h<Y b->gN W Y h<=0):∀h,h<W.length->Y b<=Y h:=by
 intro h hh
 refine Int.not_lt.mp fun hlt=>?_
 obtain⟨h0,l0,m0⟩:=Rk Y (n:=W.length) (by omega)
 have lt0:Y h0<Y b:=by have:=m0 h hh;omega
 have step:∀a c,a<W.length->c<W.length->0<Yl W a c->Y a=Y h0->Y c=Y h0:=fun a c ha hc hp ea=>by
  have s:=hyp a ha (fun z=>by rw[z] at ea;omega) (by omega)
  have t:=Vs (f:=fun g=>Yl W a g*(Y g-Y a)) (fun g hg=>Int.mul_nonneg (ok.lo a g ha hg) (by have:=m0 g hg;omega)) s c hc
  have:Y c-Y a=0:=by
   rcases Int.mul_eq_zero.mp t with z | z
   ·omega
   ·exact z
  omega
 have:=(cn (fun x=>Y x=Y h0) (fun a c ha hc hp=>⟨step a c ha hc hp,step c a hc ha (by rw[ok.sym c a hc ha];exact hp)⟩) h0 b l0 hb).mp rfl
 omega
theorem V8{W:List (List Int)}(Y Z:Nat->Int)(h:Nat):gN W (fun x=>Y x+Z x) h=gN W Y h+gN W Z h:=by
 unfold gN;rw[<-Y6]
 exact Zv fun g _=>by
  show Yl W h g*(Y g+Z g-(Y h+Z h))=_
  rw[<-Int.mul_add];congr 1;omega
theorem XI{W:List (List Int)}(c:Int)(Y:Nat->Int)(h:Nat):gN W (fun x=>c*Y x) h=c*gN W Y h:=by
 unfold gN;rw[<-Yb]
 exact Zv fun g _=>by
  show Yl W h g*(c*Y g-c*Y h)=_
  rw[<-Int.mul_sub,Int.mul_left_comm]
theorem UJ{W:List (List Int)}{Y Z:Nat->Int}{h:Nat}(hh:h<W.length)(e:∀g,g<W.length->Y g=Z g):gN W Y h=gN W Z h:=Zv fun g hg=>by rw[e g hg,e h hh]
theorem NU(W:List (List Int))(S:List Int)(h:Nat):XJ W S h=gN W (Zq S) h:=by
 unfold XJ gN;rw[UH]
def W6(W:List (List Int))(b:Nat):Mt:=fun i j=>if Wh b j=Wh b i then(ZO W (Wh b i)).sum else-Yl W (Wh b i) (Wh b j)
def XD(W:List (List Int))(b:Nat)(c:Nat->Int):Mt:=fun i j=>if j<W.length-1 then W6 W b i j else c (Wh b i)
theorem Kg{W:List (List Int)}(ok:Yk W){b:Nat}(hb:b<W.length){Y:Nat->Int}(h0:Y b=0){k:Nat}(hk:k<W.length-1):gN W Y (Wh b k) = - sN (W.length-1) (fun i=>W6 W b k i*Y (Wh b i)):=by
 have hp:=ok.pos
 obtain⟨m,hm⟩:∃m,W.length=m+1:=⟨W.length-1,by omega⟩
 have hm1:W.length-1=m:=by omega
 rw[hm1] at hk ⊢
 generalize hh:Wh b k=h
 have hhn:h<W.length:=by rw[hm,<-hh];exact WR hk
 have e1:sN m (fun i=>W6 W b k i*Y (Wh b i))=sN (m+1) (fun g=>(if g=h then(ZO W h).sum else-Yl W h g)*Y g):=by
  rw[Kf (b:=b) (f:=fun g=>(if g=h then(ZO W h).sum else-Yl W h g)*Y g) (by rw[h0,Int.mul_zero]) (by omega)]
  exact Zv fun i _=>by unfold W6;rw[hh]
 have e2:sN (m+1) (fun g=>(if g=h then(ZO W h).sum else-Yl W h g)*Y g)=(-1)*sN (m+1) (fun g=>Yl W h g*Y g)+(ZO W h).sum*Y h:=by
  have:sN (m+1) (fun g=>if g=h then(ZO W h).sum*Y h else 0)=(ZO W h).sum*Y h:=by
   rw[Xl (k:=h) (by omega) fun i _ hi=>if_neg hi,if_pos rfl]
  rw[<-this,<-Yb,<-Y6]
  refine Zv fun g hg=>?_
  by_cases q:g=h
  ·subst q
   rw[if_pos rfl,if_pos rfl,ok.dia g hhn];omega
  ·rw[if_neg q,if_neg q,Int.neg_mul,Int.neg_mul,Int.one_mul];omega
 have e3:(ZO W h).sum=sN (m+1) (fun g=>Yl W h g):=by rw[NG ok hhn,UH,hm]
 have e4:gN W Y h=sN (m+1) (fun g=>Yl W h g*Y g)+(- Y h)*sN (m+1) (fun g=>Yl W h g):=by
  unfold gN;rw[hm,<-Yb,<-Y6]
  exact Zv fun g _=>by rw[Int.mul_sub,Int.mul_comm (- Y h),Int.mul_neg];omega
 rw[e4,e1,e2,e3,Int.mul_comm (sN (m+1) fun g=>Yl W h g) (Y h),Int.neg_mul];omega
theorem Na{W:List (List Int)}(ok:Yk W)(cn:Tq W){b:Nat}(hb:b<W.length)(c:Nat->Int):Hm (W.length-1) (W6 W b) (XD W b c):=by
 have hp:=ok.pos
 obtain⟨m,hm⟩:∃m,W.length=m+1:=⟨W.length-1,by omega⟩
 have hm1:W.length-1=m:=by omega
 have sym:∀i j,i<m->j<m->W6 W b i j=W6 W b j i:=fun i j hi hj=>by
  unfold W6
  by_cases q:Wh b j=Wh b i
  ·rw[if_pos q,if_pos q.symm,q]
  ·rw[if_neg q,if_neg (fun z=>q z.symm),ok.sym _ _ (by rw[hm];exact WR hi) (by rw[hm];exact WR hj)]
 rw[hm1]
 refine⟨sym,fun p hp' z hz k hk=>?_,fun i j hi hj=>by unfold XD;rw[hm1,if_pos hj]⟩
 obtain⟨Z,hZ⟩:∃Z:Nat->Int,∀h,Z h=if h=b then 0 else if NS b h<p then z (NS b h) else 0:=⟨_,fun _=>rfl⟩
 have Zb:Z b=0:=by rw[hZ,if_pos rfl]
 have Zo:∀i,Z (Wh b i)=if i<p then z i else 0:=fun i=>by rw[hZ,if_neg (Ke b i),NT]
 have flat:∀j,j<p->gN W Z (Wh b j)=0:=fun j hj=>by
  rw[Kg ok hb Zb (by omega),hm1]
  have e:sN m (fun i=>W6 W b j i*Z (Wh b i))=sN p (fun k=>z k*W6 W b k j):=by
   rw[Tw (q:=p) hp' fun k h1 h2=>by rw[Zo,if_neg (by omega),Int.mul_zero]]
   exact Zv fun k hk=>by rw[Zo,if_pos hk,sym j k (by omega) (by omega),Int.mul_comm]
  rw[e,hz j hj];rfl
 have off:∀h,h<W.length->Z h≠0->gN W Z h=0:=fun h hh ne=>by
  have hb':h≠b:=fun z=>ne (by rw[z];exact Zb)
  have hi:NS b h<p:=by
   refine Nat.not_le.mp fun q=>ne ?_
   rw[hZ,if_neg hb',if_neg (by omega)]
  have:=flat _ hi
  rw[Sh hb'] at this;exact this
 have up:=JB ok cn (Y:=Z) hb (fun h hh _ hlt=>by rw[off h hh (by rw[Zb] at hlt;omega)];exact Int.le_refl _)
 have dn:=JB ok cn (Y:=fun x=>(-1)*Z x) hb (fun h hh _ hlt=>by
  simp only[Zb] at hlt
  rw[XI,off h hh (by omega)];decide)
 have h1:=up (Wh b k) (by rw[hm];exact WR (by omega))
 have h2:=dn (Wh b k) (by rw[hm];exact WR (by omega))
 simp only[Zb,Zo,if_pos hk] at h1 h2
 omega
theorem Qe{W:List (List Int)}(ok:Yk W)(cn:Tq W){b:Nat}(hb:b<W.length)(c:Nat->Int) :
  ∃R:Nat->Int,R b=0/\(∀i,i<W.length-1->R (Wh b i)=(Xd (W.length-1) (XD W b c) (W.length-1)).1 i (W.length-1))/\∀h,h<W.length->h≠b->gN W R h = - ((Xd (W.length-1) (XD W b c) (W.length-1)).2*c h):=by
 have hp:=ok.pos;have bk:=Na ok cn hb c
 obtain⟨R,hR⟩:∃R:Nat->Int,∀h,R h=if h=b then 0 else(Xd (W.length-1) (XD W b c) (W.length-1)).1 (NS b h) (W.length-1):=⟨_,fun _=>rfl⟩
 have Rb:R b=0:=by rw[hR,if_pos rfl]
 have Ro:∀i,R (Wh b i)=(Xd (W.length-1) (XD W b c) (W.length-1)).1 i (W.length-1):=fun i=>by rw[hR,if_neg (Ke b i),NT]
 refine⟨R,Rb,fun i _=>Ro i,fun h hh hne=>?_⟩
 have hk:NS b h<W.length-1:=O9 (m:=W.length-1) (by omega) (by omega) hne
 have e:=Kg ok hb Rb hk;rw[Sh hne] at e;have s:=MC bk hk
 have x:XD W b c (NS b h) (W.length-1)=c h:=by unfold XD;rw[if_neg (by omega),Sh hne]
 rw[x] at s;rw[e,<-s]
 congr 1
 exact Zv fun i _=>by rw[Ro]
theorem Vt(l:List Int)(g:Int->Int):l.map g=(List.range l.length).map fun i=>g (Zq l i):=by
 refine XU (by simp) fun i hi=>?_
 rw[List.length_map] at hi;rw[ZN (by omega)];simp[Zq,List.getD_eq_getElem?_getD,List.getElem?_eq_getElem hi]
theorem WS{n:Nat}{ix:List Nat}{fi:XL}{ft:XT}{fe:XE}{s:ZU}{l:List Int}(g:Int->Int)(hfi:fi s=some (iL l))(hl:l.length<=1000)(h:∀x∈l,∃s1,X1 (.one 0) (.int x) (ZL n ix s)=some s1/\ft s1=some true/\fe s1=some (.int (g x))) :
  Zs n ix fi (.one 0) ft fe s=some (.lst (iL (l.map g))):=by
 rw[Z1 l (fun(x:Int)=>.int x) (fun x=>.int (g x)) hfi (by omega) (fun x hx=>h x hx)]
 simp
theorem Rl{l:List Int}(hp:0<l.length)(hl:l.length<=1000):XR [pP l]=some (pP (ZC l)):=by
 have hc:Zs 1 [1] (Wq (Za 0)) (.one 0) Zz (Zi YT (Za 0) (Za 1)) [some (pP l),some (.int (YH l))]=some (.lst (iL (ZC l))):=by
  rw[show ZC l=l.map fun x=>x-YH l from(Vt l fun x=>x-YH l).symm]
  exact WS (fun x=>x-YH l) (SH rfl) hl fun x hx=>⟨_,rfl,rfl,by simp[ZL]⟩
 have hm:=QE YH (l:=l) (List.length_pos_iff.mp hp)
 simp[XR,QK,YO,Yf,hm,hc]
theorem MF{W:List (List Int)}{h m:Nat}{f:Nat->Nat}(ok:Yk W)(hh:h<W.length)(hm:m<=6)(hf:∀i,i<m->f i<W.length) :
  Vk [wP W,.int (h:Int),.lst (iL (nL ((List.range m).map f)))]=some (pP (Z7 m fun j=>if f j=h then(ZO W h).sum else-Yl W h (f j))):=by
 have hc:Zs 1 [1,0] (Xp (Za 2)) (.one 0) Zz (Me (xB (Zi (Yr false) (Za 0) (Za 1))) (Ze XV [(Za 2),(Za 1)]) (Oo Rz (Zi ZQ (Zi ZQ (Za 2) (Za 1)) (Za 0)))) [some (wP W),some (.int (h:Int)),some (.lst (iL (nL ((List.range m).map f))))]=some (.lst (iL (Z7 m fun j=>if f j=h then(ZO W h).sum else-Yl W h (f j)))):=by
  rw[Z1 (List.range m) (fun(j:Nat)=>.int ((f j:Nat):Int)) (fun j=>.int (if f j=h then(ZO W h).sum else-Yl W h (f j))) (by simp[nL]) (by simp;omega) (fun j hj=>⟨[some (.int ((f j:Nat):Int)),some (.int (h:Int)),some (wP W)],rfl,rfl,?_⟩)]
  ·simp[Z7]
  ·have hj:=List.mem_range.mp hj
   have hfj:=hf j hj
   by_cases q:f j=h
   ·have t:xB (Zi (Yr false) (Za 0) (Za 1)) [some (.int ((f j:Nat):Int)),some (.int (h:Int)),some (wP W)]=some true:=by simp[q]
    rw[if_pos q];rw[Uq,t]
    exact O0 hh
   ·have q':¬((f j:Nat):Int)=(h:Int):=by omega
    have t:xB (Zi (Yr false) (Za 0) (Za 1)) [some (.int ((f j:Nat):Int)),some (.int (h:Int)),some (wP W)]=some false:=by simp[q']
    rw[if_neg q];rw[Uq,t]
    have:=Y1 (l:=ZO W h) (k:=f j) (by rw[ok.sq h hh];exact hfj)
    simp[Ur hh,this,Rz];rfl
 show YO 3 UC _=_
 unfold UC
 show(ZK _ [some (wP W),some (.int (h:Int)),some (.lst (iL (nL ((List.range m).map f))))]).bind Xr=_
 rw[W4 (v:=pP (Z7 m fun j=>if f j=h then(ZO W h).sum else-Yl W h (f j))) (by rw[Xs,Z0,ZJ,hc];exact Gw)]
 rfl
theorem UK{W:List (List Int)}{b:Nat}(ok:Yk W)(hb:b<W.length) :
  Ya [wP W,.int (b:Int)]=some (wP (Wm (W.length-1) (W.length-1) (W6 W b))):=by
 have hp:=ok.pos;have hf:=ok.few
 obtain⟨m,hm⟩:∃m,W.length=m+1:=⟨W.length-1,by omega⟩
 have hm1:W.length-1=m:=by omega
 rw[hm1]
 let os:=(List.range m).map (Wh b)
 have fo:∀i,i<m->Wh b i<W.length:=fun i hi=>by rw[hm];exact WR hi
 have e1:Zr 2 (Zs 1 [1] (ZS [(Ze ZZ [(Za 0)])]) (.one 0) (xB (Zi (Yr true) (Za 0) (Za 1))) (eP (Za 0))) [some (wP W),some (.int (b:Int)),none]=some (.nx [some (wP W),some (.int (b:Int)),some (.lst (iL (nL os)))]):=by
  have hc:Zs 1 [1] (ZS [(Ze ZZ [(Za 0)])]) (.one 0) (xB (Zi (Yr true) (Za 0) (Za 1))) (eP (Za 0)) [some (wP W),some (.int (b:Int)),none]=some (.lst (iL (nL os))):=by
   rw[WK (List.range W.length) (fun(i:Nat)=>.int (i:Int)) (fun(i:Nat)=>.int (i:Int)) (fun h=>!decide (h=b)) (Yp (n:=W.length) (by simp) (by omega)) (by simp;omega) fun y hy=>⟨[some (.int (y:Int)),some (.int (b:Int))],rfl,?_,fun _=>by simp⟩]
   ·rw[PN hf hb,hm1]
    simp[nL,os]
   ·by_cases q:y=b
    ·simp[q]
    ·have q':¬(y:Int)=(b:Int):=by omega
     simp[q,q']
  rw[ZD,hc];rfl
 have hc:Zs 1 [0,2] (Xp (Za 2)) (.one 0) Zz (Ze Vk [(Za 1),(Za 0),(Za 2)]) [some (wP W),some (.int (b:Int)),some (.lst (iL (nL os)))]=some (.lst (tL (Wm m m (W6 W b)))):=by
  rw[Z1 (List.range m) (fun(i:Nat)=>.int ((Wh b i:Nat):Int)) (fun i=>pP (Z7 m (W6 W b i))) (by simp[nL,os]) (by simp;omega) (fun i hi=>⟨[some (.int ((Wh b i:Nat):Int)),some (wP W),some (.lst (iL (nL os)))],rfl,rfl,?_⟩),Rh]
  exact MF (f:=Wh b) ok (fo i (List.mem_range.mp hi)) (by omega) fo
 show YO 3 YZ _=_
 unfold YZ
 show(Zp _ _ [some (wP W),some (.int (b:Int)),none]).bind Xr=_
 rw[ZI e1,W4 (v:=wP (Wm m m (W6 W b))) (by
  rw[Xs,Z0,ZJ,hc]
  show(if Z6 (wP (Wm m m (W6 W b)))=true then some (wP (Wm m m (W6 W b))) else none)=_
  rw[if_pos (by rw[Mj];exact Pv _)])]
 rfl
theorem NV{l:List Int}{b h:Nat}{x:Int}(hb:b<=l.length)(hh:h<l.length+1):Zq (l.take b++x::l.drop b) h=if h=b then x else Zq l (NS b h):=by
 unfold Zq NS;rw[List.getD_eq_getElem?_getD,List.getD_eq_getElem?_getD]
 by_cases q:h<b
 ·rw[if_neg (by omega),if_pos q,List.getElem?_append_left (by rw[List.length_take];omega),List.getElem?_take_of_lt q]
 ·rw[List.getElem?_append_right (by rw[List.length_take];omega),List.length_take,Nat.min_eq_left hb]
  by_cases q2:h=b
  ·rw[if_pos q2,q2,Nat.sub_self];rfl
  ·rw[if_neg q2,if_neg q,show h-b=(h-b-1)+1 by omega,List.getElem?_cons_succ,List.getElem?_drop,show b+(h-b-1)=h-1 by omega]
theorem NW{f:Nat->Int}:∀{n:Nat},(∀i,i<n->0<=f i/\f i<=9)->0<=sN n f/\sN n f<=9*n
 | 0,_=>⟨Int.le_refl _,by show(0:Int)<=_;omega⟩
 | n+1,h=>by
  obtain⟨a,b⟩:=NW (n:=n) fun i hi=>h i (by omega)
  have:=h n (by omega)
  refine⟨?_,?_⟩
  ·show 0<=sN n f+f n;omega
  ·show sN n f+f n<=_;omega
theorem MG{W:List (List Int)}(ok:Yk W){b:Nat}{c:Nat->Int}{i j:Nat}(hi:i<W.length-1)(hj:j<W.length-1):(XD W b c i j).natAbs<=2^7:=by
 have hp:=ok.pos;have hf:=ok.few
 have h1:Wh b i<W.length:=by have:=WR (b:=b) hi;omega
 have h2:Wh b j<W.length:=by have:=WR (b:=b) hj;omega
 unfold XD W6;rw[if_pos hj]
 split
 ·rw[NG ok h1,UH]
  obtain⟨a,b⟩:=NW (f:=fun j=>Yl W (Wh b i) j) (n:=W.length) fun j hj=>⟨ok.lo _ j h1 hj,ok.hi _ j h1 hj⟩
  omega
 ·have:=ok.lo _ _ h1 h2
  have:=ok.hi _ _ h1 h2
  omega
theorem Nc{W:List (List Int)}{D:List Int}{b:Nat}(ok:Yk W)(cn:Tq W)(hd:D.length=W.length)(hb:b<W.length)(hD:∀h,h<W.length->(Zq D h).natAbs<=2^208) :
  ∃(S0:List Int) (d:Int) (R:Nat->Int),Xt [wP W,pP D,.int (b:Int)]=some (pP S0)/\S0.length=W.length/\0<d/\R b=0/\Zq S0 b=0/\(∀h,h<W.length->d*Zq S0 h<=R h/\R h<d*Zq S0 h+d)/\∀h,h<W.length->h≠b->gN W R h = - (d*Zq D h):=by
 have hp:=ok.pos;have hf:=ok.few
 obtain⟨m,hm⟩:∃m,W.length=m+1:=⟨W.length-1,by omega⟩
 have hm1:W.length-1=m:=by omega
 obtain⟨R,Rb,Ro,Rg⟩:=Qe ok cn hb (Zq D)
 have bk:=Na ok cn hb (Zq D)
 have I:=Xw bk (Nat.le_refl _)
 have se:=ME (m:=W.length-1) (by omega) bk (fun i j hi hj=>MG ok hi hj) (fun i hi=>by
  show(XD W b (Zq D) i (W.length-1)).natAbs<=_
  unfold XD;rw[if_neg (by omega)]
  exact hD _ (by have:=WR (b:=b) hi;omega))
 generalize hE:(Xd (W.length-1) (XD W b (Zq D)) (W.length-1)).1=E at Ro I se
 generalize hdd:(Xd (W.length-1) (XD W b (Zq D)) (W.length-1)).2=d at Rg I se
 rw[hm1] at Ro se I
 have nz:=I.nz
 have cc:D.take b++D.drop (b+1)=Z7 m fun i=>XD W b (Zq D) i m:=by
  refine XU (by rw[List.length_append,List.length_take,List.length_drop,Xm];omega) fun i hi=>?_
  have hi:i<m:=by rw[List.length_append,List.length_take,List.length_drop] at hi;omega
  rw[Vr hi];unfold XD;rw[hm1,if_neg (by omega)];unfold Wh Zq;rw[List.getD_eq_getElem?_getD,List.getD_eq_getElem?_getD]
  by_cases q:i<b
  ·rw[if_pos q,List.getElem?_append_left (by rw[List.length_take];omega),List.getElem?_take_of_lt q]
  ·rw[if_neg q,List.getElem?_append_right (by rw[List.length_take];omega),List.length_take,Nat.min_eq_left (by omega),List.getElem?_drop]
   congr 2
   omega
 have e1:Zr 3 (eP (Zi WW (T3 TQ (Za 1) Q4 (UO (Za 2))) (T3 TQ (Za 1) (UO (Zi Yu (Za 2) (eC (.int 1)))) Q4))) [some (wP W),some (pP D),some (.int (b:Int)),none,none]=some (.nx [some (wP W),some (pP D),some (.int (b:Int)),some (pP (Z7 m fun i=>XD W b (Zq D) i m)),none]):=by
  have s1:TQ (pP D) none (some (b:Int))=some (pP (D.take b)):=by
   show(if HT.sIx (iL D).length 0 none=0/\HT.sIx (iL D).length (iL D).length (some (b:Int))=(iL D).length then none else some (PV.tup (WZ (iL D) none (some (b:Int)))))=_
   rw[if_neg (by rw[HT.sIx_nat,List.length_map,hd];omega),L4]
  have s2:TQ (pP D) (some ((b:Int)+1)) none=some (pP (D.drop (b+1))):=by
   show(if HT.sIx (iL D).length 0 (some ((b:Int)+1))=0/\HT.sIx (iL D).length (iL D).length none=(iL D).length then none else some (PV.tup (WZ (iL D) (some ((b:Int)+1)) none)))=_
   rw[show((b:Int)+1)=((b+1:Nat):Int) by omega,if_neg (by rw[HT.sIx_nat,List.length_map,hd];omega),Hg]
  have s3:WW (pP (D.take b)) (pP (D.drop (b+1)))=some (pP (Z7 m fun i=>XD W b (Zq D) i m)):=by
   show(if(iL (D.take b)).length+(iL (D.drop (b+1))).length<=10000 then some (PV.tup (iL (D.take b)++iL (D.drop (b+1)))) else none)=_
   rw[if_pos (by rw[List.length_map,List.length_map,List.length_take,List.length_drop];omega),<-List.map_append,cc]
  have:Zi WW (T3 TQ (Za 1) Q4 (UO (Za 2))) (T3 TQ (Za 1) (UO (Zi Yu (Za 2) (eC (.int 1)))) Q4) [some (wP W),some (pP D),some (.int (b:Int)),none,none]=some (pP (Z7 m fun i=>XD W b (Zq D) i m)):=by
   show(Option.bind (TQ (pP D) none (some (b:Int))) fun x=>Option.bind (TQ (pP D) (some ((b:Int)+1)) none) fun y=>WW x y)=_
   rw[s1,s2];exact s3
  rw[ZD,Xs,this]
  show Option.map _ (if Z6 (pP (Z7 m fun i=>XD W b (Zq D) i m))=true then _ else _)=_
  rw[if_pos (by simp)];rfl
 have e3:Zr 4 (Ze YE [(Ze Ya [(Za 0),(Za 2)]),(Za 3)]) [some (wP W),some (pP D),some (.int (b:Int)),some (pP (Z7 m fun i=>XD W b (Zq D) i m)),none]=some (.nx [some (wP W),some (pP D),some (.int (b:Int)),some (pP (Z7 m fun i=>XD W b (Zq D) i m)),some (.lst (iL (Z7 m fun i=>(E i m).fdiv d)))]):=by
  have sq:=UK ok hb;rw[hm1] at sq
  have:Ze YE [(Ze Ya [(Za 0),(Za 2)]),(Za 3)] [some (wP W),some (pP D),some (.int (b:Int)),some (pP (Z7 m fun i=>XD W b (Zq D) i m)),none]=some (.lst (iL (Z7 m fun i=>(E i m).fdiv d))):=by
   have c1:Ze Ya [(Za 0),(Za 2)] [some (wP W),some (pP D),some (.int (b:Int)),some (pP (Z7 m fun i=>XD W b (Zq D) i m)),none]=some (wP (Wm m m (W6 W b))):=sq
   rw[Z0,ZJ,c1];exact se
  rw[ZD,this];rfl
 generalize hl:Z7 m (fun i=>(E i m).fdiv d)=l at e3
 have ll:l.length=m:=by rw[<-hl,Xm]
 generalize pP (Z7 m fun i=>XD W b (Zq D) i m)=col at e1 e3
 have e4:WG 4 (Za 2) (eC (.int 0)) [some (wP W),some (pP D),some (.int (b:Int)),some col,some (.lst (iL l))]=some (.nx [some (wP W),some (pP D),some (.int (b:Int)),some col,some (.lst (iL (l.take b++0::l.drop b)))]):=by
  rw[SJ (k:=(b:Int)) (l:=.int 0) (m:=iL l) rfl rfl rfl (Y7 l) rfl (by omega) (by omega) (by rw[List.length_map,ll];omega),Int.toNat_natCast,LZ]
  rfl
 have S0at:∀h,h<W.length->Zq (l.take b++0::l.drop b) h=(R h).fdiv d:=fun h hh=>by
  rw[NV (by omega) (by omega)]
  by_cases q:h=b
  ·rw[if_pos q,q,Rb];simp
  ·rw[if_neg q,<-hl,Vr (O9 (m:=m) (by omega) (by omega) q),<-Ro _ (O9 (m:=m) (by omega) (by omega) q),Sh q]
 have run:Xt [wP W,pP D,.int (b:Int)]=some (pP (l.take b++0::l.drop b)):=by
  show YO 5 VH _=_
  unfold VH
  show(Zp _ _ [some (wP W),some (pP D),some (.int (b:Int)),none,none]).bind Xr=_
  rw[ZI e1,ZI e3,ZI e4]
  generalize l.take b++0::l.drop b=z
  simp
 have len:(l.take b++0::l.drop b).length=W.length:=by
  rw[List.length_append,List.length_take,List.length_cons,List.length_drop,ll];omega
 have S0b:Zq (l.take b++0::l.drop b) b=0:=by rw[NV (by omega) (by omega),if_pos rfl]
 rcases Int.lt_or_gt_of_ne nz with neg | pos
 ·refine⟨_,- d,fun h=>- R h,run,len,by omega,by show-R b=0;rw[Rb];rfl,S0b,fun h hh=>?_,fun h hh hne=>?_⟩
  ·have e:(R h).fdiv d=(- R h)/(- d):=by rw[<-Int.neg_fdiv_neg,Int.fdiv_eq_ediv_of_nonneg _ (by omega)]
   rw[S0at h hh,e]
   exact⟨Int.mul_ediv_self_le (by omega),Int.lt_mul_ediv_self_add (by omega)⟩
  ·have:=XI (W:=W) (-1) R h
   rw[Rg h hh hne] at this
   rw[UJ (Z:=fun x=>(-1)*R x) hh (fun g _=>by show-R g=(-1)*R g;omega),this,Int.neg_mul d];omega
 ·refine⟨_,d,R,run,len,pos,Rb,S0b,fun h hh=>?_,Rg⟩
  rw[S0at h hh,Int.fdiv_eq_ediv_of_nonneg _ (by omega)]
  exact⟨Int.mul_ediv_self_le (by omega),Int.lt_mul_ediv_self_add pos⟩
theorem Ho{c:XT}{fb:XS}(Jv:Nat->ZU->Prop)(step:∀k st,Jv k st->c st=some false\/(c st=some true/\∃s2 k',fb st=some (.nx s2)/\k'<k/\Jv k' s2)){k:Nat}{s:ZU}(h0:Jv k s) :
  ∃s' k',Vd c fb s=some (.nx s')/\Jv k' s'/\c s'=some false:=by
 have gen:∀(n k:Nat)(st:ZU),k<n->Jv k st->∃s' k',YC c fb n st=some (.nx s')/\Jv k' s'/\c s'=some false:=by
  intro n
  induction n with
  | zero=>intro k st h;omega
  | succ n ih=>
   intro k st hk hJ
   rcases step k st hJ with hc | ⟨hc,s2,k',e,hm,hJ2⟩
   ·exact⟨st,k,by unfold YC;rw[hc];rfl,hJ,hc⟩
   ·obtain⟨s',k2,a,b,d⟩:=ih k' s2 (by omega) hJ2
    refine⟨s',k2,?_,b,d⟩
    unfold YC;rw[hc];simp only[Option.bind_some,if_true,e];exact a
 obtain⟨s',k',a,b,d⟩:=gen (k+1) k s (by omega) h0
 exact⟨s',k',R0 a,b,d⟩
def Wn(n:Nat)(L:List Nat):List Int:=(List.range n).map fun h=>if h∈L then -1 else 0
theorem Q2{W:List (List Int)}{L:List Nat}(hf:W.length<=7):YU [wP W,.lst (iL (nL L))]=some (pP (Wn W.length L)):=by
 have hc:Zs 1 [1] (ZS [(Ze ZZ [(Za 0)])]) (.one 0) Zz (Me (xB (Zi (P3 false) (Za 0) (Za 1))) (Oo Rz (eC (.int 1))) (eC (.int 0))) [some (wP W),some (.lst (iL (nL L)))]=some (.lst (iL (Wn W.length L))):=by
  rw[Tr (fun h=>if h∈L then -1 else 0) (Yp (n:=W.length) (by simp) (by omega)) (by omega) fun i hi=>⟨[some (.int (i:Int)),some (.lst (iL (nL L)))],rfl,rfl,?_⟩]
  ·rfl
  ·have g:=Jt i L
   have t:xB (Zi (P3 false) (Za 0) (Za 1)) [some (.int (i:Int)),some (.lst (iL (nL L)))]=some (decide (i∈L)):=by
    rw[Yn]
    show(P3 false (.int (i:Int)) (.lst (iL (nL L)))).bind IU=_
    rw[g];rfl
   rw[Uq,t]
   by_cases q:i∈L
   ·rw[if_pos q,decide_eq_true q];rfl
   ·rw[if_neg q,decide_eq_false q];rfl
 show YO 2 We _=_
 unfold We
 show(ZK _ [some (wP W),some (.lst (iL (nL L)))]).bind Xr=_
 have:Ze Yh [(Zs 1 [1] (ZS [(Ze ZZ [(Za 0)])]) (.one 0) Zz (Me (xB (Zi (P3 false) (Za 0) (Za 1))) (Oo Rz (eC (.int 1))) (eC (.int 0))))] [some (wP W),some (.lst (iL (nL L)))]=some (pP (Wn W.length L)):=by
  simp only[Z0,ZJ,Up,hc,Option.bind_some,Option.map_some,Lu]
 rw[W4 (v:=pP (Wn W.length L)) (by rw[Xs,this];simp)]
 rfl
theorem JC{n:Nat}{L:List Nat}{h:Nat}(hh:h<n):Zq (Wn n L) h=if h∈L then -1 else 0:=ZN hh
theorem WT{W:List (List Int)}{D S:List Int}{h:Nat}(hh:h<D.length):Zq (ZH W D S) h=Zq D h+gN W (Zq S) h:=by rw[XB hh,NU]
structure PP(W:List (List Int))(b:Nat)(n0:Nat->Int)(B:Nat->Int):Prop where
 pos:∀h,h<W.length->0<=B h
 base:B b=0
 free:∀h,h<W.length->h≠b->0<=n0 h-gN W B h
theorem JD{W:List (List Int)}(ok:Yk W)(cn:Tq W){b:Nat}(hb:b<W.length)(n0:Nat->Int):∃B,PP W b n0 B:=by
 obtain⟨z,zb,_,zg⟩:=Qe ok cn hb (fun _=>1)
 have nz:=(Xw (Na ok cn hb (fun _=>1)) (Nat.le_refl _)).nz
 generalize (Xd (W.length-1) (XD W b fun _=>1) (W.length-1)).2=d at zg nz
 obtain⟨y,yb,yg⟩:∃y:Nat->Int,y b=0/\∀h,h<W.length->h≠b->gN W y h<=-1:=by
  rcases Int.lt_or_gt_of_ne nz with neg | pos
  ·exact⟨fun x=>(-1)*z x,by show(-1)*z b=0;rw[zb];rfl,fun h hh hne=>by rw[XI,zg h hh hne];omega⟩
  ·exact⟨z,zb,fun h hh hne=>by rw[zg h hh hne];omega⟩
 have yp:=JB ok cn (Y:=y) hb (fun h hh hne _=>by have:=yg h hh hne;omega)
 rw[yb] at yp
 obtain⟨K,hK⟩:∃K:Int,K=sN W.length (fun h=>((n0 h).natAbs:Int)):=⟨_,rfl⟩
 have K0:0<=K:=by rw[hK];exact Xc fun i _=>by omega
 have Kge:∀h,h<W.length->- n0 h<=K:=fun h hh=>by
  have:∀n,h<n->- n0 h<=sN n (fun h=>((n0 h).natAbs:Int)):=by
   intro n
   induction n with
   | zero=>intro q;omega
   | succ n ih=>
    intro q
    show _<=sN n (fun h=>((n0 h).natAbs:Int))+((n0 n).natAbs:Int)
    by_cases e:h=n
    ·subst e
     have:=Xc (f:=fun h=>((n0 h).natAbs:Int)) (n:=h) fun i _=>by omega
     omega
    ·have:=ih (by omega);omega
  rw[hK];exact this _ hh
 refine⟨fun x=>K*y x,fun h hh=>Int.mul_nonneg K0 (yp h hh),by show K*y b=0;rw[yb,Int.mul_zero],fun h hh hne=>?_⟩
 rw[XI];have h1:=yg h hh hne
 have h2:K*gN W y h<=K*(-1):=Int.mul_le_mul_of_nonneg_left h1 K0
 have h3:=Kge h hh;omega
theorem MH{W:List (List Int)}(ok:Yk W){b:Nat}{n0 B B':Nat->Int}(f:PP W b n0 B')(le:∀h,h<W.length->B h<=B' h){h:Nat}(hh:h<W.length)(hne:h≠b)(debt:n0 h-gN W B h<0):B h<B' h:=by
 refine Int.lt_iff_le_and_ne.mpr ⟨le h hh,fun e=>?_⟩
 have h1:=f.free h hh hne
 have h2:gN W B h<=gN W B' h:=by
  have:0<=sN W.length (fun g=>Yl W h g*(B' g-B' h)+(-1)*(Yl W h g*(B g-B h))):=Xc fun g hg=>by
   have e1:Yl W h g*(B' g-B' h)+(-1)*(Yl W h g*(B g-B h))=Yl W h g*(B' g-B g):=by
    rw[e,Int.neg_mul,Int.one_mul,<-Int.sub_eq_add_neg,<-Int.mul_sub];congr 1;omega
   rw[e1]
   exact Int.mul_nonneg (ok.lo h g hh hg) (by have:=le g hg;omega)
  rw[Y6,Yb] at this;unfold gN;omega
 omega
structure UL(W:List (List Int))(b:Nat)(N:List Int)(F:List Nat):Prop where
 free:∀h,h<W.length->h≠b->0<=Zq N h
 burn:Burn W N b F
 stop:YW W N F=none
 all:∀h,h<W.length->h∈F
theorem Kh{W:List (List Int)}{N:List Int}(ok:Yk W)(cn:Tq W){b:Nat}(hb:b<W.length){n0 B R:Nat->Int}{d:Int}(hd0:0<d)(Rb:R b=0)(Re:∀h,h<W.length->0<=R h/\R h<d)(Rn:∀h,h<W.length->h≠b->gN W R h = - (d*n0 h))
  (hN:∀h,h<W.length->Zq N h=n0 h-gN W B h) (f:PP W b n0 B) (least:∀B',PP W b n0 B'->∀h,h<W.length->B h<=B' h) {F:List Nat} (Bu:Burn W N b F) (st:YW W N F=none):∀h,h<W.length->h∈F:=by
 intro x hx
 refine Classical.byContradiction fun hxF=>?_
 have bF:b∈F:=List.mem_of_getElem? Bu.hd
 obtain⟨T,hT⟩:∃T:Nat->Int,∀h,T h=if h∈F then 0 else 1:=⟨_,fun _=>rfl⟩
 have Tb:T b=0:=by rw[hT,if_pos bF]
 have T01:∀h,0<=T h/\T h<=1:=fun h=>by rw[hT];split<;>omega
 -- what the houses outside lend to those that burn
 have tie:∀h,h<W.length->h∉F->gN W T h = - YV W h F:=fun h hh hF=>by
  have e1:gN W T h=(-1)*sN W.length (fun g=>if g∈F then Yl W h g else 0):=by
   unfold gN;rw[<-Yb]
   refine Zv fun g hg=>?_
   rw[hT,hT,if_neg hF]
   split
   ·rw[Int.zero_sub,Int.mul_neg,Int.mul_one];omega
   ·simp
  have e2:sN W.length (fun g=>if g∈F then Yl W h g else 0)=YV W h F:=by
   have gen:∀l:List Nat,l.Nodup->(∀x∈l,x<W.length)->sN W.length (fun g=>if g∈l then Yl W h g else 0)=(l.map fun o=>Yl W h o).sum:=by
    intro l
    induction l with
    | nil=>intro _ _;rw[UG fun i _=>by simp];rfl
    | cons a r ih=>
     intro nd lt;rw[List.nodup_cons] at nd;rw[List.map_cons,List.sum_cons,<-ih nd.2 fun x hx=>lt x (List.mem_cons_of_mem _ hx)]
     have:Yl W h a=sN W.length (fun g=>if g=a then Yl W h a else 0):=by
      rw[Xl (k:=a) (lt a List.mem_cons_self) fun i _ hi=>if_neg hi,if_pos rfl]
     rw[this,<-Y6]
     refine Zv fun g hg=>?_
     by_cases q:g=a
     ·subst q
      rw[if_pos List.mem_cons_self,if_pos rfl,if_neg nd.1];omega
     ·by_cases q2:g∈r
      ·rw[if_pos (List.mem_cons_of_mem _ q2),if_neg q,if_pos q2];omega
      ·rw[if_neg (fun z=>(List.mem_cons.mp z).elim q q2),if_neg q,if_neg q2];rfl
   exact gen F Bu.nd Bu.lt
  rw[e1,e2];omega
 have tie':∀h,h<W.length->h∈F->0<=gN W T h:=fun h hh hF=>Xc fun g hg=>by
  rw[show T h=0 by rw[hT,if_pos hF]]
  exact Int.mul_nonneg (ok.lo h g hh hg) (by have:=(T01 g).1;omega)
 have sub:∀h,gN W (fun x=>B x+(-1)*T x) h=gN W B h-gN W T h:=fun h=>by rw[V8,XI];omega
 have free:∀h,h<W.length->h≠b->0<=n0 h-gN W (fun x=>B x+(-1)*T x) h:=fun h hh hne=>by
  rw[sub]
  by_cases q:h∈F
  ·have:=tie' h hh q
   have:=f.free h hh hne
   omega
  ·have h1:=tie h hh q
   have h2:=O5 st hh q;rw[hN h hh] at h2;omega
 have f2:PP W b n0 (fun x=>B x+(-1)*T x):=by
  refine⟨fun h hh=>?_,by show B b+(-1)*T b=0;rw[f.base,Tb];rfl,free⟩
  have up:=JB ok cn (Y:=fun x=>R x+d*(B x+(-1)*T x)) hb (fun h hh hne _=>by
   rw[V8 R (fun x=>d*(B x+(-1)*T x)),XI,Rn h hh hne]
   have:=free h hh hne
   have h3:0<=d*(n0 h-gN W (fun x=>B x+(-1)*T x) h):=Int.mul_nonneg (by omega) this
   rw[Int.mul_sub] at h3
   omega) h hh
  have up:R b+d*(B b+(-1)*T b)<=R h+d*(B h+(-1)*T h):=up
  rw[Rb,f.base,Tb] at up
  have:=(Re h hh).2
  refine Int.not_lt.mp fun neg=>?_
  have h4:B h+(-1)*T h<=-1:=by
   have neg:B h+(-1)*T h<0:=neg
   omega
  have h5:d*(B h+(-1)*T h)<=d*(-1):=Int.mul_le_mul_of_nonneg_left h4 (by omega)
  omega
 have h1:=least _ f2 x hx
 have h1:B x<=B x+(-1)*T x:=h1
 rw[show T x=1 by rw[hT,if_neg hxF]] at h1
 omega
theorem XY{W:List (List Int)}{D:List Int}{b:Nat}(ok:Yk W)(cn:Tq W)(hd:D.length=W.length)(hb:b<W.length)(hD:∀h,h<W.length->(Zq D h).natAbs<=2^208) :
  ∃(S N:List Int) (F:List Nat),ZM [wP W,pP D,.int (b:Int)]=some (.tup [pP (ZC S),pP N,.lst (iL (nL F))])/\S.length=W.length/\N=ZH W D S/\UL W b N F:=by
 have hp:=ok.pos;have hf:=ok.few
 obtain⟨S0,d,R,en,l0,d0,Rb,S0b,Rs,Rg⟩:=Nc ok cn hd hb hD
 obtain⟨n0,hn0⟩:∃n0:Nat->Int,∀h,n0 h=Zq D h+gN W (Zq S0) h:=⟨_,fun _=>rfl⟩
 obtain⟨Bs,fs⟩:=JD ok cn hb n0
 have rl:∀S:List Int,(ZH W D S).length=W.length:=fun S=>by rw[Z8,hd]
 let st:List Int->Option PV->ZU:=fun S x6=>[some (wP W),some (pP D),some (.int (b:Int)),some (pP S),some (pP (ZH W D S)),some (.lst (iL (nL (Xb (ZH W D S) b)))),x6]
 have near:∀(S:List Int)(B:Nat->Int),(∀h,h<W.length->Zq S h=Zq S0 h-B h)->∀h,h<W.length->Zq (ZH W D S) h=n0 h-gN W B h:=fun S B e h hh=>by
  rw[WT (by omega),hn0,UJ (Z:=fun x=>Zq S0 x+(-1)*B x) hh (fun g hg=>by rw[e g hg];omega),V8,XI];omega
 let J:Nat->ZU->Prop:=fun k s=>∃(S:List Int) (B:Nat->Int) (x6:Option PV),s=st S x6/\S.length=W.length/\(∀h,h<W.length->Zq S h=Zq S0 h-B h)/\(∀h,h<W.length->0<=B h)/\B b=0/\(∀B',PP W b n0 B'->∀h,h<W.length->B h<=B' h)/\k=(sN W.length (fun h=>Bs h-B h)).toNat
 have j0:J (sN W.length (fun h=>Bs h-0)).toNat (st S0 none):=⟨S0,fun _=>0,none,rfl,l0,fun h _=>by(show Zq S0 h=Zq S0 h-0);omega,fun h _=>Int.le_refl 0,rfl,fun B' f h hh=>f.pos h hh,rfl⟩
 obtain⟨s',k',w1,⟨S,B,x6,rfl,lS,eS,B0,Bb,Bl,_⟩,w3⟩:=Ho (c:=xB (Zi Np (Ze ZZ [(Za 5)]) (eC (.int 0)))) (fb:=(Zp (Zr 6 (Ze YU [(Za 0),(Za 5)]))
  (Zp (Zr 3 (Ze Vh [(Za 3),(Za 6)]))
  (Zp (Zr 4 (Ze Vg [(Za 0),(Za 4),(Za 6)]))
  (Zr 5 (Ze YM [(Za 4),(Za 2)])))))) J (by
   rintro k s ⟨S,B,x6,rfl,lS,eS,B0,Bb,Bl,rfl⟩
   have cv:xB (Zi Np (Ze ZZ [(Za 5)]) (eC (.int 0))) (st S x6)=some (decide ((0:Int)<((Xb (ZH W D S) b).length:Int))):=by
    show some (decide ((0:Int)<((iL (nL (Xb (ZH W D S) b))).length:Int)))=_
    simp[nL]
   by_cases q:Xb (ZH W D S) b=[]
   ·left
    rw[cv,q];rfl
   ·right
    have ql:0<(Xb (ZH W D S) b).length:=List.length_pos_iff.mpr q
    refine⟨by rw[cv,decide_eq_true (by omega)],?_⟩
    generalize hL:Xb (ZH W D S) b=L at *
    have memL:∀h,h∈L↔h<W.length/\h≠b/\Zq (ZH W D S) h<0:=fun h=>by rw[<-hL,Kb,rl]
    let S':=PD S (Wn W.length L)
    have lb:(Wn W.length L).length=W.length:=by simp[Wn]
    have lS':S'.length=W.length:=by rw[PF];exact lS
    have e1:Zr 6 (Ze YU [(Za 0),(Za 5)]) [some (wP W),some (pP D),some (.int (b:Int)),some (pP S),some (pP (ZH W D S)),some (.lst (iL (nL L))),x6]=some (.nx [some (wP W),some (pP D),some (.int (b:Int)),some (pP S),some (pP (ZH W D S)),some (.lst (iL (nL L))),some (pP (Wn W.length L))]):=by
     have:Ze YU [(Za 0),(Za 5)] [some (wP W),some (pP D),some (.int (b:Int)),some (pP S),some (pP (ZH W D S)),some (.lst (iL (nL L))),x6]=some (pP (Wn W.length L)):=Q2 hf
     rw[ZD,this];rfl
    have e2:Zr 3 (Ze Vh [(Za 3),(Za 6)]) [some (wP W),some (pP D),some (.int (b:Int)),some (pP S),some (pP (ZH W D S)),some (.lst (iL (nL L))),some (pP (Wn W.length L))]=some (.nx [some (wP W),some (pP D),some (.int (b:Int)),some (pP S'),some (pP (ZH W D S)),some (.lst (iL (nL L))),some (pP (Wn W.length L))]):=by
     have:Ze Vh [(Za 3),(Za 6)] [some (wP W),some (pP D),some (.int (b:Int)),some (pP S),some (pP (ZH W D S)),some (.lst (iL (nL L))),some (pP (Wn W.length L))]=some (pP S'):=Jr (by omega) (by omega)
     rw[ZD,this];rfl
    have rr:ZH W (ZH W D S) (Wn W.length L)=ZH W D S':=Se hd fun i hi=>S5 (by omega)
    have e3:Zr 4 (Ze Vg [(Za 0),(Za 4),(Za 6)]) [some (wP W),some (pP D),some (.int (b:Int)),some (pP S'),some (pP (ZH W D S)),some (.lst (iL (nL L))),some (pP (Wn W.length L))]=some (.nx [some (wP W),some (pP D),some (.int (b:Int)),some (pP S'),some (pP (ZH W D S')),some (.lst (iL (nL L))),some (pP (Wn W.length L))]):=by
     have:Ze Vg [(Za 0),(Za 4),(Za 6)] [some (wP W),some (pP D),some (.int (b:Int)),some (pP S'),some (pP (ZH W D S)),some (.lst (iL (nL L))),some (pP (Wn W.length L))]=some (pP (ZH W D S')):=by
      rw[<-rr];exact LW ok (rl S) lb
     rw[ZD,this];rfl
    have e4:Zr 5 (Ze YM [(Za 4),(Za 2)]) [some (wP W),some (pP D),some (.int (b:Int)),some (pP S'),some (pP (ZH W D S')),some (.lst (iL (nL L))),some (pP (Wn W.length L))]=some (.nx (st S' (some (pP (Wn W.length L))))):=by
     have:Ze YM [(Za 4),(Za 2)] [some (wP W),some (pP D),some (.int (b:Int)),some (pP S'),some (pP (ZH W D S')),some (.lst (iL (nL L))),some (pP (Wn W.length L))]=some (.lst (iL (nL (Xb (ZH W D S') b)))):=Ra (by rw[rl];omega)
     rw[ZD,this];rfl
    obtain⟨B',hB'⟩:∃B':Nat->Int,∀h,B' h=B h+(if h∈L then 1 else 0):=⟨_,fun _=>rfl⟩
    have less:∀C,PP W b n0 C->∀h,h<W.length->B' h<=C h:=fun C fc h hh=>by
     rw[hB']
     by_cases z:h∈L
     ·rw[if_pos z]
      obtain⟨_,z2,z3⟩:=(memL h).mp z
      rw[near S B eS h hh] at z3
      have:=MH ok fc (fun g hg=>Bl C fc g hg) hh z2 z3
      omega
     ·rw[if_neg z]
      have:=Bl C fc h hh
      omega
    refine⟨st S' (some (pP (Wn W.length L))),(sN W.length (fun h=>Bs h-B' h)).toNat,?_,?_,S',B',_,rfl,lS',fun h hh=>?_,fun h hh=>?_,?_,less,rfl⟩
    ·show Zp _ _ [some (wP W),some (pP D),some (.int (b:Int)),some (pP S),some (pP (ZH W D S)),some (.lst (iL (nL (Xb (ZH W D S) b)))),x6]=_
     rw[hL,ZI e1,ZI e2,ZI e3,e4]
    ·have p1:0<=sN W.length (fun h=>Bs h-B' h):=Xc fun h hh=>by have:=less Bs fs h hh;omega
     have p2:sN W.length (fun h=>Bs h-B h)=sN W.length (fun h=>Bs h-B' h)+sN W.length (fun h=>if h∈L then 1 else 0):=by
      rw[<-Y6]
      exact Zv fun h _=>by rw[hB'];omega
     have p3:0<sN W.length (fun h=>if h∈L then(1:Int) else 0):=by
      refine Int.not_le.mp fun z=>?_
      obtain⟨x,hx⟩:=List.exists_mem_of_length_pos ql
      have:=Vs (f:=fun h=>if h∈L then(1:Int) else 0) (fun i _=>by split<;>omega) z x ((memL x).mp hx).1
      rw[if_pos hx] at this;omega
     omega
    ·rw[S5 (by omega),JC hh,eS h hh,hB']
     split<;>omega
    ·have:=B0 h hh
     rw[hB'];split<;>omega
    ·rw[hB',if_neg (fun z=>((memL b).mp z).2.1 rfl),Bb];rfl) j0
 have hnil:Xb (ZH W D S) b=[]:=by
  refine Classical.byContradiction fun q=>?_
  have ql:0<(Xb (ZH W D S) b).length:=List.length_pos_iff.mpr q
  have cv:xB (Zi Np (Ze ZZ [(Za 5)]) (eC (.int 0))) (st S x6)=some (decide ((0:Int)<((Xb (ZH W D S) b).length:Int))):=by
   show some (decide ((0:Int)<((iL (nL (Xb (ZH W D S) b))).length:Int)))=_
   simp[nL]
  rw[cv,decide_eq_true (by omega)] at w3;cases w3
 have free:=debt_nil.mp hnil;rw[rl] at free;have nr:=near S B eS
 have fB:PP W b n0 B:=⟨B0,Bb,fun h hh hne=>by rw[<-nr h hh];exact free h hh hne⟩
 obtain⟨F,eF,Bu,stp⟩:=Ka (D:=ZH W D S) ok (rl S) hb
 -- what the rounding left
 have all:=Kh (N:=ZH W D S) ok cn hb (n0:=n0) (B:=B) (R:=fun h=>R h+(- d)*Zq S0 h) d0 (by show R b+(- d)*Zq S0 b=0;rw[Rb,S0b,Int.mul_zero];rfl)
  (fun h hh=>by
   have:=Rs h hh
   show 0<=R h+(- d)*Zq S0 h/\R h+(- d)*Zq S0 h<d
   rw[Int.neg_mul]
   omega)
  (fun h hh hne=>by rw[V8 R (fun x=>(- d)*Zq S0 x),XI,Rg h hh hne,hn0,Int.mul_add,Int.neg_mul];omega) nr fB Bl Bu stp
 refine⟨S,ZH W D S,F,?_,lS,rfl,free,Bu,stp,all⟩
 have e1:Zr 3 (Ze Xt [(Za 0),(Za 1),(Za 2)]) [some (wP W),some (pP D),some (.int (b:Int)),none,none,none,none]=some (.nx [some (wP W),some (pP D),some (.int (b:Int)),some (pP S0),none,none,none]):=by
  have:Ze Xt [(Za 0),(Za 1),(Za 2)] [some (wP W),some (pP D),some (.int (b:Int)),none,none,none,none]=some (pP S0):=en
  rw[ZD,this];rfl
 have e2:Zr 4 (Ze Vg [(Za 0),(Za 1),(Za 3)]) [some (wP W),some (pP D),some (.int (b:Int)),some (pP S0),none,none,none]=some (.nx [some (wP W),some (pP D),some (.int (b:Int)),some (pP S0),some (pP (ZH W D S0)),none,none]):=by
  have:Ze Vg [(Za 0),(Za 1),(Za 3)] [some (wP W),some (pP D),some (.int (b:Int)),some (pP S0),none,none,none]=some (pP (ZH W D S0)):=LW ok hd l0
  rw[ZD,this];rfl
 have e3:Zr 5 (Ze YM [(Za 4),(Za 2)]) [some (wP W),some (pP D),some (.int (b:Int)),some (pP S0),some (pP (ZH W D S0)),none,none]=some (.nx (st S0 none)):=by
  have:Ze YM [(Za 4),(Za 2)] [some (wP W),some (pP D),some (.int (b:Int)),some (pP S0),some (pP (ZH W D S0)),none,none]=some (.lst (iL (nL (Xb (ZH W D S0) b)))):=Ra (by rw[rl];omega)
  rw[ZD,this];rfl
 show YO 7 UD _=_
 unfold UD
 show(Zp _ _ [some (wP W),some (pP D),some (.int (b:Int)),none,none,none,none]).bind Xr=_
 rw[ZI e1,ZI e2,ZI e3,ZI w1]
 have g1:Ze XR [(Za 3)] (st S x6)=some (pP (ZC S)):=Rl (by omega) (by omega)
 have g2:eP (Za 4) (st S x6)=some (pP (ZH W D S)):=by
  show(some (pP (ZH W D S))).bind (fun l=>if Z6 l=true then some l else none)=_
  simp
 have g3:Ze Uy [(Za 0),(Za 4),(Za 2)] (st S x6)=some (.lst (iL (nL F))):=eF
 rw[W4 (v:=.tup [pP (ZC S),pP (ZH W D S),.lst (iL (nL F))]) (by rw[Lq,ZJ,ZJ,ZJ,g1,g2,g3];rfl)]
 rfl
theorem PQ{W:List (List Int)}{D S:List Int}{X Y:PV}(ok:Yk W)(hd:D.length=W.length)(hx:∀k:Nat,k<W.length->ZQ X (.int (k:Int))=some (.int (Zq D k)))(hy:∀k:Nat,k<W.length->ZQ Y (.int (k:Int))=some (.int (Zq S k))) :
  YQ [wP W,X,Y]=some (pP (ZH W D S)):=by
 have hf:=ok.few
 let fb:XS:=(Zp (Zr 5 (eP (Ze X0 [(Zs 1 [0,4,2] (ZS [(Ze ZZ [(Za 0)])]) (.one 0) Zz (Zi VP (Zi ZQ (Zi ZQ (Za 1) (Za 2)) (Za 0)) (Zi YT (Zi ZQ (Za 3) (Za 2)) (Zi ZQ (Za 3) (Za 0)))))])))
  (Wc 3 (eP (Zi YT (Zi ZQ (Za 1) (Za 4)) (Za 5)))))
 obtain⟨s',f1,x4,x5,hs⟩:=Xh (T:=.one 4) (fb:=fb) (ls:=W9 W.length) (s:=[some (wP W),some X,some Y,some (.lst (iL [])),none,none])
  (fun i st=>∃x4 x5,st=[some (wP W),some X,some Y,some (.lst (iL ((ZH W D S).take i))),x4,x5]) ⟨none,none,by simp⟩ (by
   rintro k l st hl ⟨x4,x5,rfl⟩
   obtain⟨hk,rfl⟩:=Vf hl
   have hc:Zs 1 [0,4,2] (ZS [(Ze ZZ [(Za 0)])]) (.one 0) Zz (Zi VP (Zi ZQ (Zi ZQ (Za 1) (Za 2)) (Za 0)) (Zi YT (Zi ZQ (Za 3) (Za 2)) (Zi ZQ (Za 3) (Za 0)))) [some (wP W),some X,some Y,some (.lst (iL ((ZH W D S).take k))),some (.int (k:Int)),x5]=some (.lst (iL ((List.range W.length).map fun j=>Yl W k j*(Zq S k-Zq S j)))):=by
    refine Tr (fun j=>Yl W k j*(Zq S k-Zq S j)) (Yp (n:=W.length) (by simp) (by omega)) (by omega) fun j hj=>⟨[some (.int (j:Int)),some (wP W),some (.int (k:Int)),some Y],rfl,rfl,?_⟩
    have i1:Zi ZQ (Zi ZQ (Za 1) (Za 2)) (Za 0) [some (.int (j:Int)),some (wP W),some (.int (k:Int)),some Y]=some (.int (Yl W k j)):=by
     have h1:=Ur (W:=W) hk
     have h2:=Y1 (l:=ZO W k) (k:=j) (by rw[ok.sq k hk];exact hj)
     have h3:Zi ZQ (Za 1) (Za 2) [some (.int (j:Int)),some (wP W),some (.int (k:Int)),some Y]=some (pP (ZO W k)):=h1
     rw[YY,h3];exact h2
    have i2:Zi ZQ (Za 3) (Za 2) [some (.int (j:Int)),some (wP W),some (.int (k:Int)),some Y]=some (.int (Zq S k)):=hy k hk
    have i3:Zi ZQ (Za 3) (Za 0) [some (.int (j:Int)),some (wP W),some (.int (k:Int)),some Y]=some (.int (Zq S j)):=hy j hj
    have lo:=ok.lo k j hk hj;have hi:=ok.hi k j hk hj
    exact vC (C:=CMul) (op:=(· * ·)) i1 (vI i2 i3) (OC (by omega) (by omega))
   have hsum:Ze X0 [(Zs 1 [0,4,2] (ZS [(Ze ZZ [(Za 0)])]) (.one 0) Zz (Zi VP (Zi ZQ (Zi ZQ (Za 1) (Za 2)) (Za 0)) (Zi YT (Zi ZQ (Za 3) (Za 2)) (Zi ZQ (Za 3) (Za 0)))))] [some (wP W),some X,some Y,some (.lst (iL ((ZH W D S).take k))),some (.int (k:Int)),x5]=some (.int (((List.range W.length).map fun j=>Yl W k j*(Zq S k-Zq S j)).sum)):=by
    simp only[Z0,ZJ,Up,hc,Option.bind_some,Option.map_some]
    exact OA _
   generalize ho:((List.range W.length).map fun j=>Yl W k j*(Zq S k-Zq S j)).sum=o at hsum
   have hval:Zq D k-o=Zq (ZH W D S) k:=by
    rw[XB (by omega),<-ho,UH,NU];unfold gN
    have:sN W.length (fun j=>Yl W k j*(Zq S k-Zq S j))=(-1)*sN W.length (fun g=>Yl W k g*(Zq S g-Zq S k)):=by
     rw[<-Yb]
     exact Zv fun j _=>by rw[Int.mul_left_comm];congr 1;omega
    rw[this];omega
   have e1:Zr 5 (eP (Ze X0 [(Zs 1 [0,4,2] (ZS [(Ze ZZ [(Za 0)])]) (.one 0) Zz (Zi VP (Zi ZQ (Zi ZQ (Za 1) (Za 2)) (Za 0)) (Zi YT (Zi ZQ (Za 3) (Za 2)) (Zi ZQ (Za 3) (Za 0)))))])) [some (wP W),some X,some Y,some (.lst (iL ((ZH W D S).take k))),some (.int (k:Int)),x5]=some (.nx [some (wP W),some X,some Y,some (.lst (iL ((ZH W D S).take k))),some (.int (k:Int)),some (.int o)]):=by
    rw[ZD,vP hsum];rfl
   have hpx:Zi ZQ (Za 1) (Za 4) [some (wP W),some X,some Y,some (.lst (iL ((ZH W D S).take k))),some (.int (k:Int)),some (.int o)]=some (.int (Zq D k)):=hx k hk
   have hap:=vP (vI (op:=(· - ·)) hpx (show(Za 5:XE) [some (wP W),some X,some Y,some (.lst (iL ((ZH W D S).take k))),some (.int (k:Int)),some (.int o)]=some (.int o) from rfl))
   rw[hval] at hap
   refine⟨_,_,rfl,?_,some (.int (k:Int)),some (.int o),rfl⟩
   show Zp _ _ [some (wP W),some X,some Y,some (.lst (iL ((ZH W D S).take k))),some (.int (k:Int)),x5]=_
   rw[ZI e1,SI (m:=iL ((ZH W D S).take k)) (l:=.int (Zq (ZH W D S) k)) hap rfl (by simp;omega)]
   have hkl:k<(ZH W D S).length:=by rw[Z8];omega
   have:(ZH W D S).take (k+1)=(ZH W D S).take k++[Zq (ZH W D S) k]:=by
    rw[List.take_succ_eq_append_getElem hkl];simp[Zq,List.getD_eq_getElem?_getD,List.getElem?_eq_getElem hkl]
   rw[this]
   simp)
 subst hs
 rw[SG,List.take_of_length_le (by rw[Z8];omega)] at f1
 have e1:Zr 3 (VQ []) [some (wP W),some X,some Y,none,none,none]=some (.nx [some (wP W),some X,some Y,some (.lst (iL [])),none,none]):=rfl
 have e2:Wa [3] (ZS [(Ze ZZ [(Za 0)])]) (.one 4) fb [some (wP W),some X,some Y,some (.lst (iL [])),none,none]=some (.nx [some (wP W),some X,some Y,some (.lst (iL (ZH W D S))),x4,x5]):=by
  show(ZS [(Ze ZZ [(Za 0)])] (YB [3] [some (wP W),some X,some Y,some (.lst (iL [])),none,none])).bind _=_
  rw[Yp (n:=W.length) (by simp[YB]) (by omega)];exact f1
 show YO 6 Sc _=_
 unfold Sc
 show(Zp _ _ [some (wP W),some X,some Y,none,none,none]).bind Xr=_
 rw[ZI e1,ZI e2]
 generalize ZH W D S=z
 simp
theorem PR{n:Nat}{l:List Int}(h:l.length=n):∀k:Nat,k<n->ZQ (pP l) (.int (k:Int))=some (.int (Zq l k)):=fun k hk=>Y1 (by omega)
theorem Ki{n:Nat}{l:List Int}(h:l.length=n):∀k:Nat,k<n->ZQ (.lst (iL l)) (.int (k:Int))=some (.int (Zq l k)):=fun k hk=>Y1 (by omega)
theorem Rq{l:List Int}{n:Nat}(h:l.length=n)(hl:n<=1000):Yy [pP l,.int (n:Int)]=some (.bl true):=by
 subst h;exact LX hl
theorem Ty{l:List Int}(hp:0<l.length):YH (ZC l)=0:=by
 rw[Qa (- YH l) (Z4 l) hp fun i hi=>by rw[YI hi];omega];omega
theorem Kj{n:Nat}{F:List Nat}(nd:F.Nodup)(lt:∀x∈F,x<n)(all:∀x,x<n->x∈F):Uu (nL F)=nL (List.range n):=by
 refine(Py ?_ ?_).symm
 ·have nd1:(nL (List.range n)).Nodup:=List.Pairwise.map _ (fun a b z=>by omega) List.nodup_range
  have nd2:(nL F).Nodup:=List.Pairwise.map _ (fun a b z=>by omega) nd
  rw[List.perm_iff_count];intro a;rw[nd1.count,nd2.count]
  congr 1
  refine propext ⟨fun h=>?_,fun h=>?_⟩
  ·obtain⟨i,hi,rfl⟩:=List.mem_map.mp h
   exact List.mem_map.mpr ⟨i,all i (List.mem_range.mp hi),rfl⟩
  ·obtain⟨i,hi,rfl⟩:=List.mem_map.mp h
   exact List.mem_map.mpr ⟨i,List.mem_range.mpr (lt i hi),rfl⟩
 ·refine List.Pairwise.map _ (fun a b h=>?_) (List.pairwise_lt_range (n:=n))
  omega
theorem PU{n:Nat}{F:List Nat}(hn:n<=7)(hl:F.length<=n)(nd:F.Nodup)(lt:∀x∈F,x<n)(all:∀x,x<n->x∈F):WO [.lst (iL (nL F))]=some (.lst (iL (nL (List.range n)))):=by
 show(XF (iL (nL F))).bind _=_
 rw[Y8];simp only[Option.bind_some]
 rw[if_pos (by simp[nL];omega),Kj nd lt all]
theorem UM{W:List (List Int)}{D L N:List Int}{b:Nat}{F:List Nat}{X:PV}(ok:Yk W)(hd:D.length=W.length)(hb:b<W.length)(hl:L.length=W.length)(h0:YH L=0)(hN:N=ZH W D L)(hx:∀k:Nat,k<W.length->ZQ X (.int (k:Int))=some (.int (Zq D k)))(st:UL W b N F) :
  Ys [wP W,X,.int (b:Int),.tup [pP L,pP N,.lst (iL (nL F))]]=some (.bl true):=by
 have hf:=ok.few;have hp:=ok.pos
 have ln:N.length=W.length:=by rw[hN,Z8,hd]
 have lF:=st.burn.len
 let T:PV:=.tup [pP L,pP N,.lst (iL (nL F))]
 let s1:ZU:=[some (wP W),some X,some (.int (b:Int)),some T,some (pP L),some (pP N),some (.lst (iL (nL F)))]
 have e1:Wo (TW (X9 (xB (Ze Wb [(Za 3),(eC (.ty "tuple"))]))) (xB (Zi (Yr true) (Ze ZZ [(Za 3)]) (eC (.int 3))))) (ZK (eP (eC (.bl false)))) ZY [some (wP W),some X,some (.int (b:Int)),some T,none,none,none]=some (.nx [some (wP W),some X,some (.int (b:Int)),some T,none,none,none]):=by
  simp[T]
 have e2:OG [] (.many [4,5,6]) (Za 3) [some (wP W),some X,some (.int (b:Int)),some T,none,none,none]=some (.nx s1):=rfl
 have r1:=Rq hl (by omega)
 have r2:=Rq ln (by omega)
 have r3:=MB (n:=W.length) lF hf st.burn.lt
 have e3:Wo (TW (X9 (xB (Ze Yy [(Za 4),(Ze ZZ [(Za 0)])]))) (TW (X9 (xB (Ze Yy [(Za 5),(Ze ZZ [(Za 0)])]))) (X9 (xB (Ze X4 [(Za 6),(Ze ZZ [(Za 0)])]))))) (ZK (eP (eC (.bl false)))) ZY s1=some (.nx s1):=by
  have c1:Ze Yy [(Za 4),(Ze ZZ [(Za 0)])] s1=some (.bl true):=by
   rw[Z0,ZJ,ZJ]
   show Yy [pP L,.int ((W.map pP).length:Int)]=_
   rw[List.length_map];exact r1
  have c2:Ze Yy [(Za 5),(Ze ZZ [(Za 0)])] s1=some (.bl true):=by
   show Yy [pP N,.int ((W.map pP).length:Int)]=_
   rw[List.length_map];exact r2
  have c3:Ze X4 [(Za 6),(Ze ZZ [(Za 0)])] s1=some (.bl true):=by
   show X4 [.lst (iL (nL F)),.int ((W.map pP).length:Int)]=_
   rw[List.length_map];exact r3
  rw[Yd,WI,X3,Yn,c1];simp only[Option.bind_some,U6,Option.map_some,Bool.not_true,Bool.false_eq_true,if_false];rw[WI,X3,Yn,c2];simp only[Option.bind_some,U6,Option.map_some,Bool.not_true,Bool.false_eq_true,if_false];rw[X3,Yn,c3];rfl
 have e4:Wo (TW (xB (Zi (Yr true) (Ze WX [(Za 4)]) (eC (.int 0)))) (TW (xB (Zi (Yr true) (Ze YQ [(Za 0),(Za 1),(Za 4)]) (Za 5))) (xB (Zi (Yr true) (Ze WO [(Za 6)]) (Oo Vi (Ze ZZ [(Za 0)])))))) (ZK (eP (eC (.bl false)))) ZY s1=some (.nx s1):=by
  have c1:xB (Zi (Yr true) (Ze WX [(Za 4)]) (eC (.int 0))) s1=some false:=by
   have hm:Ze WX [(Za 4)] s1=some (.int (YH L)):=QE YH (l:=L) (List.length_pos_iff.mp (by omega))
   rw[Yn,YY,hm,h0]
   simp
  have c2:xB (Zi (Yr true) (Ze YQ [(Za 0),(Za 1),(Za 4)]) (Za 5)) s1=some false:=by
   have hm:Ze YQ [(Za 0),(Za 1),(Za 4)] s1=some (pP N):=by
    rw[hN];exact PQ ok hd hx (PR hl)
   rw[Yn,YY,hm]
   show((some (pP N)).bind fun y=>Yr true (pP N) y).bind IU=_
   rw[Option.bind_some,U7]
   simp
  have c3:xB (Zi (Yr true) (Ze WO [(Za 6)]) (Oo Vi (Ze ZZ [(Za 0)]))) s1=some false:=by
   have hm:Ze WO [(Za 6)] s1=some (.lst (iL (nL (List.range W.length)))):=PU hf lF st.burn.nd st.burn.lt st.all
   have hr:Oo Vi (Ze ZZ [(Za 0)]) s1=some (.lst (iL (nL (List.range W.length)))):=by
    show Vi (.int ((W.map pP).length:Int))=_
    rw[List.length_map];unfold Vi;simp only[];rw[if_pos (by omega)];simp[nL,W9]
   rw[Yn,YY,hm,hr]
   simp
  rw[Yd,WI,c1];simp only[Option.bind_some,Bool.false_eq_true,if_false];rw[WI,c2];simp only[Option.bind_some,Bool.false_eq_true,if_false];rw[c3];rfl
 have e5:Wo (X9 (xB (Ze XW [(Za 0),(Za 5),(Za 2),(Za 6)]))) (ZK (eP (eC (.bl false)))) ZY s1=some (.nx s1):=by
  have hm:Ze XW [(Za 0),(Za 5),(Za 2),(Za 6)] s1=some (.bl true):=O6 ok ln st.burn st.stop
  rw[Yd,X3,Yn,hm];rfl
 have hc:Zs 1 [5,2] (ZS [(Ze ZZ [(Za 0)])]) (.one 0) (xB (Zi (Yr true) (Za 0) (Za 2))) (Zi GE (Zi ZQ (Za 1) (Za 0)) (eC (.int 0))) s1=some (.lst ((((List.range W.length).filter fun h=>!decide (h=b)).map fun _=>true).map PV.bl)):=by
  rw[WK (List.range W.length) (fun(i:Nat)=>.int (i:Int)) (fun _=>.bl true) (fun h=>!decide (h=b)) (Yp (n:=W.length) (by simp[s1]) (by omega)) (by simp;omega) fun y hy=>⟨[some (.int (y:Int)),some (pP N),some (.int (b:Int))],rfl,?_,fun hq=>?_⟩]
  ·simp
  ·by_cases q:y=b
   ·simp[q]
   ·have q':¬(y:Int)=(b:Int):=by omega
    simp[q,q']
  ·have hy:=List.mem_range.mp hy
   have q:y≠b:=by simpa using hq
   have fr:=st.free y hy q
   have ix:=Y1 (l:=N) (k:=y) (by omega)
   simp[ix,fr]
 show YO 7 Wf _=_
 unfold Wf
 show(Zp _ _ [some (wP W),some X,some (.int (b:Int)),some T,none,none,none]).bind Xr=_
 rw[ZI e1,ZI e2,ZI e3,ZI e4,ZI e5]
 have e6:Ze Sz [(Zs 1 [5,2] (ZS [(Ze ZZ [(Za 0)])]) (.one 0) (xB (Zi (Yr true) (Za 0) (Za 2))) (Zi GE (Zi ZQ (Za 1) (Za 0)) (eC (.int 0))))] s1=some (.bl true):=by
  simp only[Z0,ZJ,Up,hc,Option.bind_some,Option.map_some];rw[OB]
  simp
 rw[W4 (v:=.bl true) (by rw[Xs,e6];rfl)]
 rfl
theorem JE(Y:Nat->Int){n:Nat}(h:0<n):∃h,h<n/\∀g,g<n->Y g<=Y h:=by
 obtain⟨x,h1,h2⟩:=Rk (fun i=>- Y i) h
 exact⟨x,h1,fun g hg=>by have:=h2 g hg;have : - Y x<=- Y g:=this;omega⟩
theorem JF{W:List (List Int)}(ok:Yk W){h:Nat}(hh:h<W.length){P:Nat->Prop}[DecidablePred P]:∀{l:List Nat},l.Nodup->(∀x∈l,x<W.length/\¬P x)->YV W h l<=sN W.length (fun g=>if P g then 0 else Yl W h g):=by
 intro l nd hl
 have gen:∀l:List Nat,l.Nodup->(∀x∈l,x<W.length)->sN W.length (fun g=>if g∈l then Yl W h g else 0)=(l.map fun o=>Yl W h o).sum:=by
  intro l
  induction l with
  | nil=>intro _ _;rw[UG fun i _=>by simp];rfl
  | cons a r ih=>
   intro nd lt;rw[List.nodup_cons] at nd;rw[List.map_cons,List.sum_cons,<-ih nd.2 fun x hx=>lt x (List.mem_cons_of_mem _ hx)]
   have:Yl W h a=sN W.length (fun g=>if g=a then Yl W h a else 0):=by
    rw[Xl (k:=a) (lt a List.mem_cons_self) fun i _ hi=>if_neg hi,if_pos rfl]
   rw[this,<-Y6]
   refine Zv fun g hg=>?_
   by_cases q:g=a
   ·subst q
    rw[if_pos List.mem_cons_self,if_pos rfl,if_neg nd.1];omega
   ·by_cases q2:g∈r
    ·rw[if_pos (List.mem_cons_of_mem _ q2),if_neg q,if_pos q2];omega
    ·rw[if_neg (fun z=>(List.mem_cons.mp z).elim q q2),if_neg q,if_neg q2];rfl
 unfold YV;rw[<-gen l nd fun x hx=>(hl x hx).1]
 have:0<=sN W.length (fun g=>(if P g then 0 else Yl W h g)+(-1)*(if g∈l then Yl W h g else 0)):=Xc fun g hg=>by
  have:=ok.lo h g hh hg
  by_cases q:g∈l
  ·rw[if_pos q,if_neg (hl g q).2];omega
  ·rw[if_neg q];split<;>omega
 rw[Y6,Yb] at this;omega
theorem NX{W:List (List Int)}{N M:List Int}{b:Nat}{F:List Nat}(ok:Yk W)(hb:b<W.length){T:Nat->Int}(B:Burn W N b F)(all:∀h,h<W.length->h∈F)(hM:∀h,h<W.length->Zq M h=Zq N h+gN W T h)(fr:∀h,h<W.length->h≠b->0<=Zq M h):∀h,h<W.length->T h<=T b:=by
 intro x hx
 refine Int.not_lt.mp fun hlt=>?_
 obtain⟨m,lm,mm⟩:=JE T (n:=W.length) (by omega)
 have hmb:T b<T m:=by have:=mm x hx;omega
 -- the first of the greatest that burns
 have ex:∀k:Nat,(∃j,j<k/\∃h,F[j]?=some h/\T h=T m)\/∀j,j<k->∀h,F[j]?=some h->T h≠T m:=by
  intro k
  by_cases q:∃j,j<k/\∃h,F[j]?=some h/\T h=T m
  ·exact .inl q
  ·exact .inr fun j hj h hh e=>q ⟨j,hj,h,hh,e⟩
 have first:∀k:Nat,(∃h,F[k]?=some h/\T h=T m)->∃k h:Nat,F[k]?=some h/\T h=T m/\∀j,j<k->∀h,F[j]?=some h->T h≠T m:=by
  intro k
  induction k using Nat.strongRecOn with
  | ind k ih=>
   rintro⟨h,e,t⟩
   rcases ex k with⟨j,hj,q⟩ | q
   ·exact ih j hj q
   ·exact⟨k,h,e,t,q⟩
 obtain⟨k0,hk0,e0⟩:=List.getElem_of_mem (all m lm)
 obtain⟨k,h,ek,et,hfst⟩:=first k0 ⟨m,by rw[List.getElem?_eq_getElem hk0,e0],rfl⟩
 have kp:1<=k:=by
  refine Nat.not_lt.mp fun q=>?_
  have:k=0:=by omega
  subst this;rw[B.hd] at ek;cases ek;omega
 have kl:=(List.getElem?_eq_some_iff.mp ek).1
 have hh:h<W.length:=B.lt h (List.mem_of_getElem? ek)
 have st:=B.st k kp kl;rw[ek] at st
 obtain⟨_,_,lt⟩:=S9 st
 have hb':h≠b:=fun z=>by rw[z] at et;omega
 have nd:(F.take k).Nodup:=B.nd.sublist (List.take_sublist _ _)
 have tl:=JF (h:=h) ok hh (P:=fun g=>T g=T m) nd fun y hy=>by
  refine⟨B.lt y (List.mem_of_mem_take hy),fun z=>?_⟩
  obtain⟨j,hj,e⟩:=List.getElem_of_mem hy
  rw[List.length_take] at hj
  exact hfst j (by omega) y (by rw[<-List.getElem?_take_of_lt (show j<k by omega),List.getElem?_eq_getElem (by rw[List.length_take];exact hj),e]) z
 have g1:gN W T h<=- sN W.length (fun g=>if T g=T m then 0 else Yl W h g):=by
  have:0<=sN W.length (fun g=>(-1)*(if T g=T m then 0 else Yl W h g)+(-1)*(Yl W h g*(T g-T h))):=Xc fun g hg=>by
   have lo:=ok.lo h g hh hg;have mg:=mm g hg;rw[et]
   by_cases q:T g=T m
   ·rw[if_pos q,q];simp
   ·rw[if_neg q]
    have:0<=Yl W h g*(T m-T g-1):=Int.mul_nonneg lo (by omega)
    have e:Yl W h g*(T m-T g-1)=(-1)*Yl W h g+(-1)*(Yl W h g*(T g-T m)):=by
     rw[Int.mul_sub,Int.mul_sub,Int.mul_one,Int.mul_sub];omega
    omega
  rw[Y6,Yb,Yb] at this;unfold gN;omega
 have f:=fr h hh hb';rw[hM h hh] at f;omega
theorem PX{W:List (List Int)}{N M:List Int}{b:Nat}{F G:List Nat}(ok:Yk W)(hb:b<W.length){T:Nat->Int}(s1:UL W b N F)(s2:UL W b M G)(hM:∀h,h<W.length->Zq M h=Zq N h+gN W T h):∀h,h<W.length->T h=T b:=by
 intro h hh;have h1:=NX ok hb s1.burn s1.all hM s2.free h hh
 have h2:=NX (T:=fun x=>(-1)*T x) ok hb s2.burn s2.all (fun x hx=>by rw[hM x hx,XI];omega) s1.free h hh
 have h2:(-1)*T h<=(-1)*T b:=h2
 omega
theorem Kk{W:List (List Int)}{T:Nat->Int}{c:Int}(e:∀h,h<W.length->T h=c){h:Nat}(hh:h<W.length):gN W T h=0:=UG fun g hg=>by rw[e g hg,e h hh];simp
theorem Qf{W:List (List Int)}{D S N:List Int}{b:Nat}{F:List Nat}(ok:Yk W)(cn:Tq W)(hd:D.length=W.length)(hb:b<W.length)(hD:∀h,h<W.length->(Zq D h).natAbs<=2^208)
  (lS:S.length=W.length) (hN:N=ZH W D S) (st:UL W b N F):ZM [wP W,pP D,.int (b:Int)]=some (.tup [pP (ZC S),pP N,.lst (iL (nL F))]):=by
 have hp:=ok.pos
 obtain⟨S',N',F',e,lS',hN',st'⟩:=XY ok cn hd hb hD
 have ln:N.length=W.length:=by rw[hN,Z8,hd]
 have ln':N'.length=W.length:=by rw[hN',Z8,hd]
 have key:∀h,h<W.length->Zq N h=Zq N' h+gN W (fun x=>Zq S x+(-1)*Zq S' x) h:=fun h hh=>by
  rw[hN,hN',WT (by omega),WT (by omega),V8 (Zq S) (fun x=>(-1)*Zq S' x),XI];omega
 have co:=PX ok hb st' st key
 obtain⟨c,hc⟩:∃c,c=Zq S b+(-1)*Zq S' b:=⟨_,rfl⟩
 have co:∀h,h<W.length->Zq S h+(-1)*Zq S' h=c:=fun h hh=>by rw[hc];exact co h hh
 have eN:N=N':=XU (by omega) fun i hi=>by rw[key i (by omega),Kk (c:=c) co (by omega)];omega
 have eL:ZC S=ZC S':=Vp c (by omega) (by omega) fun i hi=>by
  have:=co i (by omega)
  omega
 have eF:F=F':=by
  have b1:=st.burn;have b2:=st.stop
  rw[eN] at b1 b2
  exact Burn.uniq b1 st'.burn b2 st'.stop
 rw[e,eL,eN,eF]
theorem Kl{f:Nat->Int}{M:Nat}:∀{n:Nat},(∀i,i<n->(f i).natAbs<=M)->(sN n f).natAbs<=n*M
 | 0,_=>by show(0:Int).natAbs<=_;simp
 | n+1,h=>by
  have h1:=Kl (n:=n) fun i hi=>h i (by omega)
  have h2:=h n (by omega)
  show(sN n f+f n).natAbs<=_
  rw[Nat.add_mul,Nat.one_mul];omega
theorem Hq(l:List Int):l.sum=sN l.length (Zq l):=by rw[<-UH,Nn]
theorem JG{ns:List Int}(hns:ns.length<=63)(hbd:∀n∈ns,n.natAbs.log2<=1048576):∃(W:List (List Int)) (D:List Int),Vz [PV.cst (iL ns),PV.int 7]=some (wP W)/\Yk W/\Tq W/\D=X7 ns 13 W.length/\Yg [PV.cst (iL ns),PV.int 13,PV.int (W.length:Int)]=some (pP D)/\D.length=W.length/\∀h,h<W.length->(Zq D h).natAbs<=10^29:=by
 obtain⟨W,eW,ok,cn,hm⟩:=L8 hns (mo:=7) (by omega) (by omega)
 have hf:=ok.few
 exact⟨W,X7 ns 13 W.length,eW,ok,cn,rfl,S7 hns hbd (a:=13) (n:=W.length) (by omega) (by omega),Qc _ _ _,fun h hh=>by
  rw[show Zq (X7 ns 13 W.length) h=UF (Z9 ns (13+h)) from ZN hh]
  have:=S6 (Z9 ns (13+h))
  omega⟩
theorem Km{l:List Int}(hp:0<l.length)(hl:l.length<=1000):Wg [.lst (iL l)]=some (pP (ZC l)):=by
 have hc:Zs 1 [1] (Xp (Za 0)) (.one 0) Zz (Zi YT (Za 0) (Za 1)) [some (.lst (iL l)),some (.int (YH l))]=some (.lst (iL (ZC l))):=by
  rw[show ZC l=l.map fun x=>x-YH l from(Vt l fun x=>x-YH l).symm]
  exact WS (fun x=>x-YH l) rfl hl fun x hx=>⟨_,rfl,rfl,by simp[ZL]⟩
 have hm:=Jj YH (l:=l) (List.length_pos_iff.mp hp)
 simp[Wg,QL,YO,Yf,hm,hc]
theorem MI{ns:List Int}(hns:ns.length<=63)(lo hi:Nat):∃cs:List Int,WZ (iL ns) (some (lo:Int)) (some (hi:Int))=iL cs/\cs.length<=63:=by
 obtain⟨m,e,l⟩:=L5 ns (some (lo:Int)) (some (hi:Int))
 exact⟨m,e,by omega⟩
theorem PY{W:List (List Int)}{D E O:List Int}(ok:Yk W)(cn:Tq W)(hd:D.length=W.length)(bD:∀h,h<W.length->(Zq D h).natAbs<=2^208)(bE:∀h,h<W.length->(Zq E h).natAbs<=2^208)(lO:O.length=W.length)(hE:E=ZH W D O):YR [wP W,pP D,pP E]=some (pP (ZC O)):=by
 have hp:=ok.pos;have hf:=ok.few
 have lE:E.length=W.length:=by rw[hE,Z8,hd]
 obtain⟨S,N,F,eS,lS,hN,st⟩:=XY ok cn hd (b:=0) (by omega) bD
 have ln:N.length=W.length:=by rw[hN,Z8,hd]
 have e2:=Qf (D:=E) (S:=WQ S O) (N:=N) (F:=F) ok cn lE (b:=0) (by omega) bE (by rw[Xk];exact lS) (by
  rw[hN,hE]
  exact(Se hd fun i hi=>by rw[Vo (by omega)];omega).symm) st
 have e3:=LV (a:=ZC S) (b:=ZC (WQ S O)) (by rw[Z4,Z4,Xk]) (by rw[Z4];omega)
 have e4:=Rl (l:=WQ (ZC S) (ZC (WQ S O))) (by rw[Xk,Z4];omega) (by rw[Xk,Z4];omega)
 have e5:ZC (WQ (ZC S) (ZC (WQ S O)))=ZC O:=Vp (YH (WQ S O)-YH S) (by rw[Xk,Z4];omega) (by omega) fun i hi=>by
  rw[Vo (by rw[Z4];omega),YI (by omega),YI (by rw[Xk];omega),Vo (by omega)];omega
 rw[e5] at e4
 let T:PV:=.tup [pP (ZC S),pP N,.lst (iL (nL F))]
 let T2:PV:=.tup [pP (ZC (WQ S O)),pP N,.lst (iL (nL F))]
 have g1:Zr 3 (Ze ZM [(Za 0),(Za 1),(eC (.int 0))]) [some (wP W),some (pP D),some (pP E),none,none]=some (.nx [some (wP W),some (pP D),some (pP E),some T,none]):=by
  have:Ze ZM [(Za 0),(Za 1),(eC (.int 0))] [some (wP W),some (pP D),some (pP E),none,none]=some T:=eS
  rw[ZD,this];rfl
 have g2:Zr 4 (Ze ZM [(Za 0),(Za 2),(eC (.int 0))]) [some (wP W),some (pP D),some (pP E),some T,none]=some (.nx [some (wP W),some (pP D),some (pP E),some T,some T2]):=by
  have:Ze ZM [(Za 0),(Za 2),(eC (.int 0))] [some (wP W),some (pP D),some (pP E),some T,none]=some T2:=e2
  rw[ZD,this];rfl
 have g3:Wo (xB (Zi (Yr true) (Zi ZQ (Za 3) (eC (.int 1))) (Zi ZQ (Za 4) (eC (.int 1))))) (ZK (eP (eC .non))) ZY [some (wP W),some (pP D),some (pP E),some T,some T2]=some (.nx [some (wP W),some (pP D),some (pP E),some T,some T2]):=by
  have:Zi (Yr true) (Zi ZQ (Za 3) (eC (.int 1))) (Zi ZQ (Za 4) (eC (.int 1))) [some (wP W),some (pP D),some (pP E),some T,some T2]=some (.bl false):=by
   show Yr true (pP N) (pP N)=_
   rw[U7];simp
  rw[Yd,Yn,this];rfl
 show YO 5 VJ _=_
 unfold VJ
 show(Zp _ _ [some (wP W),some (pP D),some (pP E),none,none]).bind Xr=_
 rw[ZI g1,ZI g2,ZI g3]
 have g4:Ze XR [(Ze WN [(Zi ZQ (Za 3) (eC (.int 0))),(Zi ZQ (Za 4) (eC (.int 0)))])] [some (wP W),some (pP D),some (pP E),some T,some T2]=some (pP (ZC O)):=by
  have h:Ze WN [(Zi ZQ (Za 3) (eC (.int 0))),(Zi ZQ (Za 4) (eC (.int 0)))] [some (wP W),some (pP D),some (pP E),some T,some T2]=some (pP (WQ (ZC S) (ZC (WQ S O)))):=e3
  rw[Z0,ZJ,h];exact e4
 rw[W4 g4];rfl
theorem Qg{W:List (List Int)}{D E S N S' N':List Int}{F F':List Nat}(ok:Yk W)(cn:Tq W)(hd:D.length=W.length)(lE:E.length=W.length)(eS:ZM [wP W,pP D,.int ((0:Nat):Int)]=some (.tup [pP S,pP N,.lst (iL (nL F))]))(eS':ZM [wP W,pP E,.int ((0:Nat):Int)]=some (.tup [pP S',pP N',.lst (iL (nL F'))]))(ne:N≠N'):YR [wP W,pP D,pP E]=some .non:=by
 let T:PV:=.tup [pP S,pP N,.lst (iL (nL F))]
 let T2:PV:=.tup [pP S',pP N',.lst (iL (nL F'))]
 have g1:Zr 3 (Ze ZM [(Za 0),(Za 1),(eC (.int 0))]) [some (wP W),some (pP D),some (pP E),none,none]=some (.nx [some (wP W),some (pP D),some (pP E),some T,none]):=by
  have:Ze ZM [(Za 0),(Za 1),(eC (.int 0))] [some (wP W),some (pP D),some (pP E),none,none]=some T:=eS
  rw[ZD,this];rfl
 have g2:Zr 4 (Ze ZM [(Za 0),(Za 2),(eC (.int 0))]) [some (wP W),some (pP D),some (pP E),some T,none]=some (.nx [some (wP W),some (pP D),some (pP E),some T,some T2]):=by
  have:Ze ZM [(Za 0),(Za 2),(eC (.int 0))] [some (wP W),some (pP D),some (pP E),some T,none]=some T2:=eS'
  rw[ZD,this];rfl
 have g3:Wo (xB (Zi (Yr true) (Zi ZQ (Za 3) (eC (.int 1))) (Zi ZQ (Za 4) (eC (.int 1))))) (ZK (eP (eC .non))) ZY [some (wP W),some (pP D),some (pP E),some T,some T2]=some (.rt .non):=by
  have:Zi (Yr true) (Zi ZQ (Za 3) (eC (.int 1))) (Zi ZQ (Za 4) (eC (.int 1))) [some (wP W),some (pP D),some (pP E),some T,some T2]=some (.bl true):=by
   show Yr true (pP N) (pP N')=_
   rw[U7];simp[ne]
  rw[Yd,Yn,this];rfl
 show YO 5 VJ _=_
 unfold VJ
 show(Zp _ _ [some (wP W),some (pP D),some (pP E),none,none]).bind Xr=_
 rw[ZI g1,ZI g2,O2 g3];rfl
theorem NY{l:List Int}{M:Nat}(h:∀i,i<l.length->(Zq l i).natAbs<=M):(l.sum).natAbs<=l.length*M:=by
 rw[Hq];exact Kl h
theorem Kn{ns:List Int}(hns:ns.length<=63)(hbd:∀n∈ns,n.natAbs.log2<=1048576){D:List Int}{n:Nat}(hn1:1<=n)(hn:n<=7)(ld:D.length=n)(bD:∀h,h<n->(Zq D h).natAbs<=10^28) :
  ∃E,Wu [.cst (iL ns),pP D]=some (pP E)/\E.length=n/\∀h,h<n->(Zq E h).natAbs<=10^31:=by
 have epu:Yg [PV.cst (iL ns),PV.int 20,PV.int (n:Int)]=some (pP (X7 ns 20 n)):=S7 hns hbd (a:=20) (by omega) hn
 have lC:=Qc ns 20 n
 have bC:∀h,h<n->(Zq (X7 ns 20 n) h).natAbs<=10^29:=fun h hh=>by
  rw[show Zq (X7 ns 20 n) h=UF (Z9 ns (20+h)) from ZN hh]
  have:=S6 (Z9 ns (20+h))
  omega
 generalize X7 ns 20 n=C at epu lC bC
 have ec:ZF [PV.cst (iL ns),PV.int 12]=some (.int (Z9 ns 12)):=Xv hns (k:=12) (by omega)
 obtain⟨u,hu,eu⟩:=Y5 (Z9 ns 12) (t:=9) (m:=2) (by omega) (by omega)
 have eu':Zn [PV.int (Z9 ns 12),PV.int 9,PV.int 2]=some (.int (u:Int)):=eu
 obtain⟨v,hv⟩:∃v,v=Zq C 0+D.sum-C.sum:=⟨_,rfl⟩
 have bv:v.natAbs<=10^30:=by
  have h1:=NY (l:=D) (M:=10^28) fun i hi=>bD i (by omega)
  have h2:=NY (l:=C) (M:=10^29) fun i hi=>bC i (by omega)
  have h3:=bC 0 (by omega)
  have h4:D.length*10^28<=7*10^28:=Nat.mul_le_mul_right _ (by omega)
  have h5:C.length*10^29<=7*10^29:=Nat.mul_le_mul_right _ (by omega)
  omega
 let st:List Int->Option PV->Option PV->Option PV->ZU:=fun L x y z=>[some (.cst (iL ns)),some (pP D),some (.int (n:Int)),some (.lst (iL L)),x,y,z]
 have e1:Zr 2 (eP (Ze ZZ [(Za 1)])) [some (.cst (iL ns)),some (pP D),none,none,none,none,none]=some (.nx [some (.cst (iL ns)),some (pP D),some (.int (n:Int)),none,none,none,none]):=by simp[ld]
 have e2:Zr 3 (Ze Xo [(Ze Yg [(Za 0),(eC (.int 20)),(Za 2)])]) [some (.cst (iL ns)),some (pP D),some (.int (n:Int)),none,none,none,none]=some (.nx (st C none none none)):=by simp[epu,st]
 have setL:∀(L:List Int)(k:Nat)(w:Int),(iL L).set k (PV.int w)=iL (L.set k w):=fun L k w=>by unfold iL;rw[List.map_set]
 have e3:Xq 3 (eC (.int 0)) (Zi YT (Zi Yu (Zi ZQ (Za 3) (eC (.int 0))) (Ze X0 [(Za 1)])) (Ze X0 [(Za 3)])) (st C none none none)=some (.nx (st (C.set 0 v) none none none)):=by
  have h1:Zi ZQ (Za 3) (eC (.int 0)) (st C none none none)=some (.int (Zq C 0)):=Ki lC 0 (by omega)
  have h2:Ze X0 [(Za 1)] (st C none none none)=some (.int D.sum):=IZ D
  have h3:Ze X0 [(Za 3)] (st C none none none)=some (.int C.sum):=OA C
  have h4:=vI (op:=(· - ·)) (vI (op:=(· + ·)) h1 h2) h3
  rw[U8 (l:=.int v) (k:=0) (j:=0) (m:=iL C) (by rw[hv];exact h4) rfl rfl (Y7 C) rfl (WM (n:=(iL C).length) (k:=0) (by rw[List.length_map];omega)),setL]
  rfl
 have e4:∃E x y z,Wo (xB (Zi (Yr false) (Ze Zn [(Ze ZF [(Za 0),(eC (.int 12))]),(eC (.int 9)),(eC (.int 2))]) (eC (.int 0)))) (Zp (Zr 3 (Ze Xo [(Za 1)]))
  (Wa [3] (Xp (T3 VU (Za 0) (UO (eC (.int 20))) (UO (eC (.int 62))))) (.one 4) (Zp (Zr 5 (Ze Zn [(Za 4),(eC (.int 8)),(Za 2)]))
  (Zp (Zr 6 (Ze Zn [(Za 4),(eC (.int 9)),(Za 2)]))
  (Zp (Xq 3 (Za 5) (Zi YT (Zi ZQ (Za 3) (Za 5)) (eC (.int 1))))
  (Xq 3 (Za 6) (Zi Yu (Zi ZQ (Za 3) (Za 6)) (eC (.int 1))))))))) ZY (st (C.set 0 v) none none none)=some (.nx (st E x y z))/\E.length=n/\∀h,h<n->(Zq E h).natAbs<=10^31:=by
  have hcell:Ze ZF [(Za 0),(eC (.int 12))] (st (C.set 0 v) none none none)=some (.int (Z9 ns 12)):=ec
  have hpart:Ze Zn [(Ze ZF [(Za 0),(eC (.int 12))]),(eC (.int 9)),(eC (.int 2))] (st (C.set 0 v) none none none)=some (.int (u:Int)):=by
   rw[Z0,ZJ,hcell];exact eu'
  by_cases q:u=0
  ·have hq:Zi (Yr false) (Ze Zn [(Ze ZF [(Za 0),(eC (.int 12))]),(eC (.int 9)),(eC (.int 2))]) (eC (.int 0)) (st (C.set 0 v) none none none)=some (.bl true):=by
    rw[YY,hpart,q];simp
   obtain⟨cs,ecs,lcs⟩:=MI hns 20 62
   let fb:XS:=(Zp (Zr 5 (Ze Zn [(Za 4),(eC (.int 8)),(Za 2)]))
    (Zp (Zr 6 (Ze Zn [(Za 4),(eC (.int 9)),(Za 2)]))
    (Zp (Xq 3 (Za 5) (Zi YT (Zi ZQ (Za 3) (Za 5)) (eC (.int 1))))
    (Xq 3 (Za 6) (Zi Yu (Zi ZQ (Za 3) (Za 6)) (eC (.int 1)))))))
   obtain⟨s',f1,E,x,y,z,hs,lE,bE⟩:=Xh (T:=.one 4) (fb:=fb) (ls:=iL cs) (s:=st D none none none)
    (fun i s=>∃E x y z,s=st E x y z/\E.length=n/\∀h,h<n->(Zq E h).natAbs<=10^28+2*i) ⟨D,none,none,none,rfl,ld,fun h hh=>by have:=bD h hh;omega⟩ (by
     rintro i l s hl ⟨E,x,y,z,rfl,lE,bE⟩
     obtain⟨c,rfl⟩:∃c,l = .int c:=by
      rw[List.getElem?_map] at hl
      cases q:cs[i]? with
      | none=>rw[q] at hl;cases hl
      | some c=>rw[q] at hl;cases hl;exact⟨c,rfl⟩
     obtain⟨p,hp,ep⟩:=Y5 c (t:=8) (m:=n) (by omega) (by omega)
     have ep':Zn [PV.int c,PV.int 8,PV.int (n:Int)]=some (.int (p:Int)):=ep
     obtain⟨r,hr,er⟩:=Y5 c (t:=9) (m:=n) (by omega) (by omega)
     have er':Zn [PV.int c,PV.int 9,PV.int (n:Int)]=some (.int (r:Int)):=er
     obtain⟨E1,hE1⟩:∃E1,E1=E.set p (Zq E p-1):=⟨_,rfl⟩
     have lE1:E1.length=n:=by rw[hE1,List.length_set];exact lE
     have g1:Zr 5 (Ze Zn [(Za 4),(eC (.int 8)),(Za 2)]) (st E (some (.int c)) y z)=some (.nx (st E (some (.int c)) (some (.int (p:Int))) z)):=by
      have:Ze Zn [(Za 4),(eC (.int 8)),(Za 2)] (st E (some (.int c)) y z)=some (.int (p:Int)):=ep'
      rw[ZD,this];rfl
     have g2:Zr 6 (Ze Zn [(Za 4),(eC (.int 9)),(Za 2)]) (st E (some (.int c)) (some (.int (p:Int))) z)=some (.nx (st E (some (.int c)) (some (.int (p:Int))) (some (.int (r:Int))))):=by
      have:Ze Zn [(Za 4),(eC (.int 9)),(Za 2)] (st E (some (.int c)) (some (.int (p:Int))) z)=some (.int (r:Int)):=er'
      rw[ZD,this];rfl
     have g3:Xq 3 (Za 5) (Zi YT (Zi ZQ (Za 3) (Za 5)) (eC (.int 1))) (st E (some (.int c)) (some (.int (p:Int))) (some (.int (r:Int))))=some (.nx (st E1 (some (.int c)) (some (.int (p:Int))) (some (.int (r:Int))))):=by
      have h1:Zi ZQ (Za 3) (Za 5) (st E (some (.int c)) (some (.int (p:Int))) (some (.int (r:Int))))=some (.int (Zq E p)):=Ki lE p hp
      have h2:=vI (op:=(· - ·)) h1 (show eC (.int 1) (st E (some (.int c)) (some (.int (p:Int))) (some (.int (r:Int))))=some (.int 1) from rfl)
      rw[U8 (l:=.int (Zq E p-1)) (k:=(p:Int)) (j:=p) (m:=iL E) h2 rfl rfl (Y7 E) rfl (WM (by rw[List.length_map];omega)),setL,<-hE1]
      rfl
     have g4:Xq 3 (Za 6) (Zi Yu (Zi ZQ (Za 3) (Za 6)) (eC (.int 1))) (st E1 (some (.int c)) (some (.int (p:Int))) (some (.int (r:Int))))=some (.nx (st (E1.set r (Zq E1 r+1)) (some (.int c)) (some (.int (p:Int))) (some (.int (r:Int))))):=by
      have h1:Zi ZQ (Za 3) (Za 6) (st E1 (some (.int c)) (some (.int (p:Int))) (some (.int (r:Int))))=some (.int (Zq E1 r)):=Ki lE1 r hr
      have h2:=vI (op:=(· + ·)) h1 (show eC (.int 1) (st E1 (some (.int c)) (some (.int (p:Int))) (some (.int (r:Int))))=some (.int 1) from rfl)
      rw[U8 (l:=.int (Zq E1 r+1)) (k:=(r:Int)) (j:=r) (m:=iL E1) h2 rfl rfl (Y7 E1) rfl (WM (by rw[List.length_map];omega)),setL]
      rfl
     refine⟨st E (some (.int c)) y z,_,rfl,?_,E1.set r (Zq E1 r+1),some (.int c),some (.int (p:Int)),some (.int (r:Int)),rfl,by rw[List.length_set];exact lE1,fun h hh=>?_⟩
     ·show Zp _ _ (st E (some (.int c)) y z)=_
      rw[ZI g1,ZI g2,ZI g3,g4]
     ·have b1:∀h,h<n->(Zq E1 h).natAbs<=10^28+2*i+1:=fun h hh=>by
       rw[hE1,PW.nth_set (by omega)]
       have:=bE h hh
       have:=bE p hp
       split<;>omega
      rw[PW.nth_set (by omega)]
      have:=b1 h hh
      have:=b1 r hr
      split<;>omega)
   subst hs
   refine⟨E,x,y,z,?_,lE,fun h hh=>by have:=bE h hh;rw[List.length_map] at this;omega⟩
   rw[Yd,Yn,hq];simp only[Option.bind_some,U6,if_true]
   have g0:Zr 3 (Ze Xo [(Za 1)]) (st (C.set 0 v) none none none)=some (.nx (st D none none none)):=by simp[st]
   rw[ZI g0]
   show(Xp (T3 VU (Za 0) (UO (eC (.int 20))) (UO (eC (.int 62)))) (YB [3] (st D none none none))).bind _=_
   have:Xp (T3 VU (Za 0) (UO (eC (.int 20))) (UO (eC (.int 62)))) (YB [3] (st D none none none))=some (iL cs):=by
    have h1:T3 VU (Za 0) (UO (eC (.int 20))) (UO (eC (.int 62))) (YB [3] (st D none none none))=some (.lst (iL cs)):=by
     show some (PV.lst (WZ (iL ns) (some ((20:Nat):Int)) (some ((62:Nat):Int))))=_
     rw[ecs]
    unfold Xp
    rw[h1];rfl
   rw[this];exact f1
  ·have hq:Zi (Yr false) (Ze Zn [(Ze ZF [(Za 0),(eC (.int 12))]),(eC (.int 9)),(eC (.int 2))]) (eC (.int 0)) (st (C.set 0 v) none none none)=some (.bl false):=by
    have q':¬(u:Int)=0:=by omega
    rw[YY,hpart];simp[q'];omega
   refine⟨C.set 0 v,none,none,none,?_,by rw[List.length_set];exact lC,fun h hh=>?_⟩
   ·rw[Yd,Yn,hq];rfl
   ·rw[PW.nth_set (by omega)]
    have:=bC h hh
    split<;>omega
 obtain⟨E,x,y,z,e4,lE,bE⟩:=e4
 refine⟨E,?_,lE,bE⟩
 show YO 7 VN _=_
 unfold VN
 show(Zp _ _ [some (.cst (iL ns)),some (pP D),none,none,none,none,none]).bind Xr=_
 rw[ZI e1,ZI e2,ZI e3,ZI e4];simp[st]
theorem law_true(ns:List Int)(hns:ns.length<=63)(hbd:∀n∈ns,n.natAbs.log2<=1048576):D_law [.cst (iL ns)]=some (.bl true):=by
 obtain⟨W,D0,eW,ok,cn,hD,eD,hd0,bD0⟩:=JG hns hbd
 have hf:=ok.few;have hp:=ok.pos
 obtain⟨D,hDD⟩:∃D:List Int,D=D0.map fun x=>x%10^28:=⟨_,rfl⟩
 have hd:D.length=W.length:=by rw[hDD,List.length_map];exact hd0
 have bD:∀h,h<W.length->(Zq D h).natAbs<=10^28:=fun h hh=>by
  rw[hDD,Vt,ZN (by omega)]
  have h0:=Int.emod_nonneg (Zq D0 h) (show(10^28:Int)≠0 by decide)
  have h1:=Int.emod_lt_of_pos (Zq D0 h) (show(0:Int)<10^28 by decide)
  omega
 obtain⟨E,eE,lE,bE⟩:=Kn hns hbd hp hf hd bD
 have ec:ZF [PV.cst (iL ns),PV.int 12]=some (.int (Z9 ns 12)):=Xv hns (k:=12) (by omega)
 obtain⟨b,hbn,eb⟩:=Y5 (Z9 ns 12) (t:=7) (m:=W.length) (by omega) (by omega)
 have eb':Zn [PV.int (Z9 ns 12),PV.int 7,PV.int (W.length:Int)]=some (.int (b:Int)):=eb
 have bD2:∀h,h<W.length->(Zq D h).natAbs<=2^208:=fun h hh=>by have:=bD h hh;omega
 have bE2:∀h,h<W.length->(Zq E h).natAbs<=2^208:=fun h hh=>by have:=bE h hh;omega
 obtain⟨S,N,F,eS,lS,hN,st⟩:=XY ok cn hd (b:=0) (by omega) bD2
 obtain⟨S',N',F',eS',lS',hN',st'⟩:=XY ok cn lE (b:=0) (by omega) bE2
 let s5:Option PV->Option PV->Option PV->Option PV->ZU:=fun x y z w=>[some (.cst (iL ns)),some (wP W),some (.int (W.length:Int)),some (pP D),some (pP E),some (.int (b:Int)),x,y,z,w]
 have e1:Zr 1 (Ze Vz [(Za 0),(eC (.int 7))]) [some (.cst (iL ns)),none,none,none,none,none,none,none,none,none]=some (.nx [some (.cst (iL ns)),some (wP W),none,none,none,none,none,none,none,none]):=by simp[eW]
 have e2:Zr 2 (eP (Ze ZZ [(Za 1)])) [some (.cst (iL ns)),some (wP W),none,none,none,none,none,none,none,none]=some (.nx [some (.cst (iL ns)),some (wP W),some (.int (W.length:Int)),none,none,none,none,none,none,none]):=by simp
 have e3:Zr 3 (eP (Ze Yh [(Zs 1 [] (Wq (Ze Yg [(Za 0),(eC (.int 13)),(Za 2)])) (.one 0) Zz (Zi Xz (Za 0) (Zi TM (eC (.int 10)) (eC (.int 28)))))])) [some (.cst (iL ns)),some (wP W),some (.int (W.length:Int)),none,none,none,none,none,none,none]=some (.nx [some (.cst (iL ns)),some (wP W),some (.int (W.length:Int)),some (pP D),none,none,none,none,none,none]):=by
  have hx:Wq (Ze Yg [(Za 0),(eC (.int 13)),(Za 2)]) [some (.cst (iL ns)),some (wP W),some (.int (W.length:Int)),none,none,none,none,none,none,none]=some (iL D0):=SH eD
  have hc:Zs 1 [] (Wq (Ze Yg [(Za 0),(eC (.int 13)),(Za 2)])) (.one 0) Zz (Zi Xz (Za 0) (Zi TM (eC (.int 10)) (eC (.int 28)))) [some (.cst (iL ns)),some (wP W),some (.int (W.length:Int)),none,none,none,none,none,none,none]=some (.lst (iL D)):=by
   rw[hDD]
   refine WS (fun x=>x%10^28) hx (by omega) fun x hx=>⟨[some (.int x)],rfl,rfl,?_⟩
   have h3:Zi TM (eC (.int 10)) (eC (.int 28)) [some (.int x)]=some (.int (10^28)):=vC (a:=10) (b:=28) (C:=Pa) (op:=fun i j=>i^j.toNat) rfl rfl (by decide)
   exact vC (C:=fun _ j=>0<j) (op:=(· % ·)) rfl h3 (by decide)
  have ht:Ze Yh [(Zs 1 [] (Wq (Ze Yg [(Za 0),(eC (.int 13)),(Za 2)])) (.one 0) Zz (Zi Xz (Za 0) (Zi TM (eC (.int 10)) (eC (.int 28)))))] [some (.cst (iL ns)),some (wP W),some (.int (W.length:Int)),none,none,none,none,none,none,none]=some (pP D):=by
   rw[Z0,ZJ,hc];rfl
  rw[ZD,Xs,ht]
  simp
 have e4:Zr 4 (Ze Wu [(Za 0),(Za 3)]) [some (.cst (iL ns)),some (wP W),some (.int (W.length:Int)),some (pP D),none,none,none,none,none,none]=some (.nx [some (.cst (iL ns)),some (wP W),some (.int (W.length:Int)),some (pP D),some (pP E),none,none,none,none,none]):=by simp[eE]
 have e5:Zr 5 (Ze Zn [(Ze ZF [(Za 0),(eC (.int 12))]),(eC (.int 7)),(Za 2)]) [some (.cst (iL ns)),some (wP W),some (.int (W.length:Int)),some (pP D),some (pP E),none,none,none,none,none]=some (.nx (s5 none none none none)):=by simp[ec,eb',s5]
 show YO 10 NF _=_
 unfold NF
 show(Zp _ _ [some (.cst (iL ns)),none,none,none,none,none,none,none,none,none]).bind Xr=_
 rw[ZI e1,ZI e2,ZI e3,ZI e4,ZI e5]
 by_cases q:N=N'
 ·-- alike
  obtain⟨O,hO⟩:∃O,O=WQ S S':=⟨_,rfl⟩
  have lO:O.length=W.length:=by rw[hO,Xk];exact lS
  have hE:E=ZH W D O:=XU (by rw[lE,Z8,hd]) fun i hi=>by
   have h1:Zq N i=Zq D i+gN W (Zq S) i:=by rw[hN];exact WT (by omega)
   have h2:Zq N' i=Zq E i+gN W (Zq S') i:=by rw[hN'];exact WT (by omega)
   rw[<-q,h1] at h2
   rw[WT (by omega),UJ (Z:=fun x=>Zq S x+(-1)*Zq S' x) (by omega) (fun g hg=>by rw[hO,Vo (by omega)];omega),V8 (Zq S) (fun x=>(-1)*Zq S' x),XI]
   omega
  obtain⟨M,hM⟩:∃M:List Int,M=O.map fun x=>0-x:=⟨_,rfl⟩
  have lM:M.length=W.length:=by rw[hM,List.length_map];exact lO
  have atM:∀i,i<W.length->Zq M i=0-Zq O i:=fun i hi=>by rw[hM,Vt,ZN (by omega)]
  have a1:=PY ok cn hd bD2 bE2 lO hE
  have a2:=PY (D:=E) (E:=D) (O:=M) ok cn lE bE2 bD2 lM (by
   rw[hE,Se (T:=List.replicate W.length 0) hd fun i hi=>by rw[NH 0 hi,atM i hi];omega]
   exact(L3 hd fun i hi=>NH 0 hi).symm)
  have lL:(ZC O).length=W.length:=by rw[Z4];exact lO
  have r1:=Rq (l:=ZC O) lL (by omega)
  have m1:=QE YH (l:=ZC O) (List.length_pos_iff.mp (by omega))
  rw[Ty (by omega)] at m1
  have u1:YQ [wP W,pP D,pP (ZC O)]=some (pP E):=by
   have hsh:ZH W D (ZC O)=ZH W D O:=Ts (- YH O) hd fun i hi=>by rw[YI (l:=O) (by omega)];omega
   rw[hE,<-hsh]
   exact PQ ok hd (PR hd) (PR lL)
  obtain⟨M2,hM2⟩:∃M2:List Int,M2=(ZC O).map fun x=>0-x:=⟨_,rfl⟩
  have lM2:M2.length=W.length:=by rw[hM2,List.length_map];exact lL
  have lo2:=Km (l:=M2) (by omega) (by omega)
  have eM:ZC M2=ZC M:=Vp (YH O) (by omega) (by omega) fun i hi=>by
   rw[atM i (by omega),hM2,Vt,ZN (show i<(ZC O).length by omega),YI (l:=O) (by omega)];omega
  rw[eM] at lo2
  generalize ZC M=L2 at a2 lo2
  generalize hLL:ZC O=L at a1 r1 m1 u1 lL hM2
  have e6:Zr 6 (Ze YR [(Za 1),(Za 3),(Za 4)]) (s5 none none none none)=some (.nx (s5 (some (pP L)) none none none)):=by
   have:Ze YR [(Za 1),(Za 3),(Za 4)] (s5 none none none none)=some (pP L):=a1
   rw[ZD,this];rfl
  have e7:Zr 7 (Ze YR [(Za 1),(Za 4),(Za 3)]) (s5 (some (pP L)) none none none)=some (.nx (s5 (some (pP L)) (some (pP L2)) none none)):=by
   have:Ze YR [(Za 1),(Za 4),(Za 3)] (s5 (some (pP L)) none none none)=some (pP L2):=a2
   rw[ZD,this];rfl
  have s7:∃x,x=s5 (some (pP L)) (some (pP L2)) none none:=⟨_,rfl⟩
  have e8:Wo (xB (WY true (Za 6))) (Zp (Wo (TW (X9 (xB (Ze Yy [(Za 6),(Za 2)]))) (TW (xB (Zi (Yr true) (Ze WX [(Za 6)]) (eC (.int 0)))) (xB (Zi (Yr true) (Ze YQ [(Za 1),(Za 3),(Za 6)]) (Za 4))))) (ZK (eP (eC (.bl false)))) ZY)
    (ZK (eP (Zi (Yr false) (Za 7) (Ze Wg [(Zs 1 [] (Wq (Za 6)) (.one 0) Zz (Zi YT (eC (.int 0)) (Za 0)))]))))) ZY (s5 (some (pP L)) (some (pP L2)) none none)=some (.rt (.bl true)):=by
   have c0:xB (WY true (Za 6)) (s5 (some (pP L)) (some (pP L2)) none none)=some true:=by rw[Yn];rfl
   have c1:Ze Yy [(Za 6),(Za 2)] (s5 (some (pP L)) (some (pP L2)) none none)=some (.bl true):=r1
   have c2:Zi (Yr true) (Ze WX [(Za 6)]) (eC (.int 0)) (s5 (some (pP L)) (some (pP L2)) none none)=some (.bl false):=by
    have:Ze WX [(Za 6)] (s5 (some (pP L)) (some (pP L2)) none none)=some (.int 0):=m1
    rw[YY,this];simp
   have c3:Zi (Yr true) (Ze YQ [(Za 1),(Za 3),(Za 6)]) (Za 4) (s5 (some (pP L)) (some (pP L2)) none none)=some (.bl false):=by
    have:Ze YQ [(Za 1),(Za 3),(Za 6)] (s5 (some (pP L)) (some (pP L2)) none none)=some (pP E):=u1
    rw[YY,this]
    show Yr true (pP E) (pP E)=_
    rw[U7];simp
   have i1:Wo (TW (X9 (xB (Ze Yy [(Za 6),(Za 2)]))) (TW (xB (Zi (Yr true) (Ze WX [(Za 6)]) (eC (.int 0)))) (xB (Zi (Yr true) (Ze YQ [(Za 1),(Za 3),(Za 6)]) (Za 4))))) (ZK (eP (eC (.bl false)))) ZY (s5 (some (pP L)) (some (pP L2)) none none)=some (.nx (s5 (some (pP L)) (some (pP L2)) none none)):=by
    rw[Yd,WI,X3,Yn,c1];simp only[Option.bind_some,U6,Option.map_some,Bool.not_true,Bool.false_eq_true,if_false];rw[WI,Yn,c2];simp only[Option.bind_some,U6,Bool.false_eq_true,if_false]
    rw[Yn,c3];rfl
   have hc:Zs 1 [] (Wq (Za 6)) (.one 0) Zz (Zi YT (eC (.int 0)) (Za 0)) (s5 (some (pP L)) (some (pP L2)) none none)=some (.lst (iL M2)):=by
    rw[hM2];exact WS (fun x=>0-x) rfl (by omega) fun x hx=>⟨[some (.int x)],rfl,rfl,rfl⟩
   have c4:Ze Wg [(Zs 1 [] (Wq (Za 6)) (.one 0) Zz (Zi YT (eC (.int 0)) (Za 0)))] (s5 (some (pP L)) (some (pP L2)) none none)=some (pP L2):=by
    rw[Z0,ZJ,hc];exact lo2
   have c5:Zi (Yr false) (Za 7) (Ze Wg [(Zs 1 [] (Wq (Za 6)) (.one 0) Zz (Zi YT (eC (.int 0)) (Za 0)))]) (s5 (some (pP L)) (some (pP L2)) none none)=some (.bl true):=by
    rw[YY,c4]
    show Yr false (pP L2) (pP L2)=_
    rw[U7];simp
   rw[Yd,c0];simp only[Option.bind_some,if_true];rw[ZI i1]
   exact W4 (by rw[Xs,c5];rfl)
  rw[ZI e6,ZI e7,O2 e8];rfl
 ·-- not alike
  have a1:=Qg ok cn hd lE eS eS' q
  have a2:=Qg ok cn lE hd eS' eS (fun z=>q z.symm)
  obtain⟨S1,N1,F1,eS1,lS1,hN1,st1⟩:=XY ok cn hd hbn bD2
  obtain⟨S2,N2,F2,eS2,lS2,hN2,st2⟩:=XY ok cn lE hbn bE2
  have ne:N1≠N2:=fun z=>q (by
   have h1:E=ZH W D (WQ S1 S2):=XU (by rw[lE,Z8,hd]) fun i hi=>by
    have h1:Zq N1 i=Zq D i+gN W (Zq S1) i:=by rw[hN1];exact WT (by omega)
    have h2:Zq N2 i=Zq E i+gN W (Zq S2) i:=by rw[hN2];exact WT (by omega)
    rw[<-z,h1] at h2
    rw[WT (by omega),UJ (Z:=fun x=>Zq S1 x+(-1)*Zq S2 x) (by omega) (fun g hg=>by rw[Vo (by omega)];omega),V8 (Zq S1) (fun x=>(-1)*Zq S2 x),XI]
    omega
   have h2:=Qf (D:=D) (S:=PD (WQ S1 S2) S') (N:=N') (F:=F') ok cn hd (b:=0) (by omega) bD2 (by rw[PF,Xk];exact lS1) (by
    rw[hN',h1];exact Se hd fun i hi=>S5 (by rw[Xk];omega)) st'
   rw[eS] at h2
   have h3:=PV.tup.inj (Option.some.inj h2)
   have h4:=(List.cons.inj (List.cons.inj h3).2).1
   exact pP_inj.mp h4)
  have f1:N1=ZH W D (ZC S1):=by
   rw[hN1];exact(Ts (- YH S1) hd fun i hi=>by rw[YI (by omega)];omega).symm
  have f2:N2=ZH W E (ZC S2):=by
   rw[hN2];exact(Ts (- YH S2) lE fun i hi=>by rw[YI (by omega)];omega).symm
  have t1:=UM (X:=pP D) (L:=ZC S1) ok hd hbn (by rw[Z4];exact lS1) (Ty (by omega)) f1 (PR hd) st1
  have t2:=UM (X:=pP E) (L:=ZC S2) ok lE hbn (by rw[Z4];exact lS2) (Ty (by omega)) f2 (PR lE) st2
  generalize ZC S1=L1 at eS1 t1
  generalize ZC S2=L2 at eS2 t2
  let T1:PV:=.tup [pP L1,pP N1,.lst (iL (nL F1))]
  let T2:PV:=.tup [pP L2,pP N2,.lst (iL (nL F2))]
  have e6:Zr 6 (Ze YR [(Za 1),(Za 3),(Za 4)]) (s5 none none none none)=some (.nx (s5 (some .non) none none none)):=by
   have:Ze YR [(Za 1),(Za 3),(Za 4)] (s5 none none none none)=some .non:=a1
   rw[ZD,this];rfl
  have e7:Zr 7 (Ze YR [(Za 1),(Za 4),(Za 3)]) (s5 (some .non) none none none)=some (.nx (s5 (some .non) (some .non) none none)):=by
   have:Ze YR [(Za 1),(Za 4),(Za 3)] (s5 (some .non) none none none)=some .non:=a2
   rw[ZD,this];rfl
  have e8:∀f:XS,Wo (xB (WY true (Za 6))) f ZY (s5 (some .non) (some .non) none none)=some (.nx (s5 (some .non) (some .non) none none)):=fun f=>by
   have c0:xB (WY true (Za 6)) (s5 (some .non) (some .non) none none)=some false:=by rw[Yn];rfl
   rw[Yd,c0];rfl
  have e9:Zr 8 (Ze ZM [(Za 1),(Za 3),(Za 5)]) (s5 (some .non) (some .non) none none)=some (.nx (s5 (some .non) (some .non) (some T1) none)):=by
   have:Ze ZM [(Za 1),(Za 3),(Za 5)] (s5 (some .non) (some .non) none none)=some T1:=eS1
   rw[ZD,this];rfl
  have e10:Zr 9 (Ze ZM [(Za 1),(Za 4),(Za 5)]) (s5 (some .non) (some .non) (some T1) none)=some (.nx (s5 (some .non) (some .non) (some T1) (some T2))):=by
   have:Ze ZM [(Za 1),(Za 4),(Za 5)] (s5 (some .non) (some .non) (some T1) none)=some T2:=eS2
   rw[ZD,this];rfl
  have e11:Wo (TW (X9 (xB (Ze Ys [(Za 1),(Za 3),(Za 5),(Za 8)]))) (X9 (xB (Ze Ys [(Za 1),(Za 4),(Za 5),(Za 9)])))) (ZK (eP (eC (.bl false)))) ZY (s5 (some .non) (some .non) (some T1) (some T2))=some (.nx (s5 (some .non) (some .non) (some T1) (some T2))):=by
   have c1:Ze Ys [(Za 1),(Za 3),(Za 5),(Za 8)] (s5 (some .non) (some .non) (some T1) (some T2))=some (.bl true):=t1
   have c2:Ze Ys [(Za 1),(Za 4),(Za 5),(Za 9)] (s5 (some .non) (some .non) (some T1) (some T2))=some (.bl true):=t2
   rw[Yd,WI,X3,Yn,c1];simp only[Option.bind_some,U6,Option.map_some,Bool.not_true,Bool.false_eq_true,if_false]
   rw[X3,Yn,c2];rfl
  rw[ZI e6,ZI e7,ZI (e8 _),ZI e9,ZI e10,ZI e11]
  have e12:U2 (WY false (Za 7)) (Zi (Yr true) (Zi ZQ (Za 8) (eC (.int 1))) (Zi ZQ (Za 9) (eC (.int 1)))) (s5 (some .non) (some .non) (some T1) (some T2))=some (.bl true):=by
   have c1:WY false (Za 7) (s5 (some .non) (some .non) (some T1) (some T2))=some (.bl true):=rfl
   have c2:Zi (Yr true) (Zi ZQ (Za 8) (eC (.int 1))) (Zi ZQ (Za 9) (eC (.int 1))) (s5 (some .non) (some .non) (some T1) (some T2))=some (.bl true):=by
    show Yr true (pP N1) (pP N2)=_
    rw[U7];simp[ne]
   rw[Lr,Yn,c1];exact c2
  rw[W4 (v:=.bl true) (by rw[Xs,e12];rfl)]
  rfl
end PW
namespace PW
open PySem L2 VL
theorem all_mk{P:Program}{w:World}{K:PySem.W.Frag}{mg:Str->Option Value}{fa:Addr}(hfa:mg "law" = some (.ref fa))(B:W7 mg)
  (d0:Def K mg "_law_cell" SU)
  (d1:Def K mg "_law_part" SV)
  (d2:Def K mg "_law_tie" QM)
  (d3:Def K mg "_law_web" QN)
  (d4:Def K mg "_law_coins" Tf)
  (d5:Def K mg "_law_purse" Tg)
  (d6:Def K mg "_law_other" Th)
  (d7:Def K mg "reduced" Ti)
  (d8:Def K mg "evened" SW)
  (d9:Def K mg "solved_below" X5)
  (d10:Def K mg "ties_at" Tj)
  (d11:Def K mg "row_of" SX)
  (d12:Def K mg "square_without" Xu)
  (d13:Def K mg "nearing" Tk)
  (d14:Def K mg "gain" OR)
  (d15:Def K mg "run" LK)
  (d16:Def K mg "in_debt" Tl)
  (d17:Def K mg "borrowing" Vm)
  (d18:Def K mg "plus" OU)
  (d19:Def K mg "least" QQ)
  (d20:Def K mg "ties_to" Tm)
  (d21:Def K mg "house_to_burn" XH)
  (d22:Def K mg "burnt" QR)
  (d23:Def K mg "settle" SY)
  (d24:Def K mg "minus" QS)
  (d25:Def K mg "alike" QT)
  (d26:Def K mg "_law_low" QU)
  (d27:Def K mg "_law_next" SZ)
  (d28:Def K mg "_law_burns" To)
  (d29:Def K mg "_law_whole" Tp)
  (d30:Def K mg "_law_row" QV)
  (d31:Def K mg "_law_fire" S3)
  (d32:Def K mg "_law_run" QW)
  (d33:Def K mg "_law_settled" Vn)
  (d34:Def K mg "law" LU)
  : ∃fd:FuncData,(∀(s:Shared)(u:Value),BindsTo s fd ⟨[u],[]⟩ [("_law_script_here",u)])/\∀base:Heap,K.In base->base.Ns mainGlobals mg->TF P w K mg base Nl 7 fa fd ["_law_script_here"] (Yt K D_law 1):=by
 refine Lp d34 hfa (fun _ _ _ _ _ _ _=>rfl) fun base f fd _ _ F=>?_
 have C_m_cell:=Mn (P:=P) (w:=w) (base:=base) d0 B
 have C_l_part:=Mo (P:=P) (w:=w) (base:=base) d1 B
 have C_l_tie:=LI (P:=P) (w:=w) (base:=base) d2 B
 have C_l_web:=LJ (P:=P) (w:=w) (base:=base) d3 B C_m_cell C_l_part C_l_tie
 have C_m_coins:=OI (P:=P) (w:=w) (base:=base) d4 B
 have C_l_purse:=OK (P:=P) (w:=w) (base:=base) d5 B C_m_coins C_m_cell
 have C_l_other:=OL (P:=P) (w:=w) (base:=base) d6 B C_l_purse C_l_part C_m_cell
 have C_reduced:=ON (P:=P) (w:=w) (base:=base) d7 B
 have C_evened:=Mp (P:=P) (w:=w) (base:=base) d8 B C_reduced
 have C_solved_below:=TR (P:=P) (w:=w) (base:=base) d9 B C_evened
 have C_ties_at:=OP (P:=P) (w:=w) (base:=base) d10 B
 have C_row_of:=Mr (P:=P) (w:=w) (base:=base) d11 B C_ties_at
 have C_square_without:=UE (P:=P) (w:=w) (base:=base) d12 B C_row_of
 have C_nearing:=OQ (P:=P) (w:=w) (base:=base) d13 B C_solved_below C_square_without
 have C_gain:=Jo (P:=P) (w:=w) (base:=base) d14 B
 have C_run:=He (P:=P) (w:=w) (base:=base) d15 B C_gain
 have C_in_debt:=OT (P:=P) (w:=w) (base:=base) d16 B
 have C_borrowing:=QP (P:=P) (w:=w) (base:=base) d17 B
 have C_plus:=Jq (P:=P) (w:=w) (base:=base) d18 B
 have C_least:=LL (P:=P) (w:=w) (base:=base) d19 B
 have C_ties_to:=OW (P:=P) (w:=w) (base:=base) d20 B
 have C_house_to_burn:=Tn (P:=P) (w:=w) (base:=base) d21 B C_ties_to
 have C_burnt:=LM (P:=P) (w:=w) (base:=base) d22 B C_house_to_burn
 have C_settle:=Ms (P:=P) (w:=w) (base:=base) d23 B C_nearing C_run C_in_debt C_borrowing C_plus C_burnt C_least
 have C_minus:=LO (P:=P) (w:=w) (base:=base) d24 B
 have C_alike:=LP (P:=P) (w:=w) (base:=base) d25 B C_settle C_least C_minus
 have C_l_low:=LQ (P:=P) (w:=w) (base:=base) d26 B
 have C_l_next:=Mu (P:=P) (w:=w) (base:=base) d27 B
 have C_l_burns:=OX (P:=P) (w:=w) (base:=base) d28 B C_l_next
 have C_l_whole:=OZ (P:=P) (w:=w) (base:=base) d29 B
 have C_l_row:=LS (P:=P) (w:=w) (base:=base) d30 B C_l_whole
 have C_l_fire:=Mw (P:=P) (w:=w) (base:=base) d31 B C_l_whole
 have C_l_run:=LT (P:=P) (w:=w) (base:=base) d32 B
 have C_l_settled:=QX (P:=P) (w:=w) (base:=base) d33 B C_l_fire C_l_row C_l_run C_l_burns
 exact Hf F B C_l_web C_l_purse C_l_other C_l_part C_m_cell C_alike C_l_run C_l_row C_l_low C_settle C_l_settled
end PW
def PySem.W.Fast.tw3444528961318174415:Unit:=()
def PySem.W.Fast.tw7545809177532718594:Unit:=()
def PySem.W.Fast.tw12415654280036305944:Unit:=()
def PySem.W.Fast.tw17479498406830034826:Unit:=()
def PySem.W.Fast.tw16419090639234460708:Unit:=()
def PySem.W.Fast.tw8061799150199828626:Unit:=()
def PySem.W.Fast.tw7780816394917273509:Unit:=()
def PySem.W.Fast.tw10246049262331912867:Unit:=()
def PySem.W.Fast.tw3981454897310071438:Unit:=()
open PySem PySem.W PyProof.Rows
set_option maxRecDepth 100000 in
set_option maxHeartbeats 0 in
theorem PySem.Challenge.cw_purseweb_k33_whole_alike_or_two_settled_holds : PySem.Challenge.rw_purseweb_k33_whole_alike_or_two_settled.Holds := by
 w_on;o_law;k_head;(case hw=>w_witness2)
 k_fill
 refine VL.law_walkB (l:=PySem.Challenge.rw_purseweb_k33_whole_alike_or_two_settled) (D:=PW.D_law) (x:="_law_script_here") 7 rfl rfl ⟨rfl,by decide,by decide,rfl⟩ PW.law_true (fun w h Y=>PySem.W.kIn_of Y) ?F
 case F=>
  intro w mg fa h KX G hmg
  refine' PW.all_mk hmg ?B ?d0 ?d1 ?d2 ?d3 ?d4 ?d5 ?d6 ?d7 ?d8 ?d9 ?d10 ?d11 ?d12 ?d13 ?d14 ?d15 ?d16 ?d17 ?d18 ?d19 ?d20 ?d21 ?d22 ?d23 ?d24 ?d25 ?d26 ?d27 ?d28 ?d29 ?d30 ?d31 ?d32 ?d33 ?d34
  case B=>constructor<;>(refine PySem.W.mg_none_of KX G ?_;k_is)
  case d0 | d1 | d2 | d3 | d4 | d5 | d6 | d7 | d8 | d9 | d10 | d11 | d12 | d13 | d14 | d15 | d16 | d17 | d18 | d19 | d20 | d21 | d22 | d23 | d24 | d25 | d26 | d27 | d28 | d29 | d30 | d31 | d32 | d33 | d34=>(refine' L2.def_mk KX G ?a ?l ?c ?k;(case a=>k_is);(case l=>k_is);(case c=>k_is);(case k=>k_is))
