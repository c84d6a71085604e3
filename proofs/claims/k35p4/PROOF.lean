import PyProof.Rows.All
import Wide.All
import OpenK.AllK
import Wide.FinOn
import Lean
import PyProof.EqAt
import PyProof.EqKinds
import PyProof.TupleCall
import PyProof.NeKinds
import PyProof.ListMulRoad
import PyProof.WalkInts
import PyProof.ListRange
import KE.KRevIter
import PySem.Challenge.RW_purseweb_k35_whole_free_or_never
set_option Elab.async false
set_option linter.all false
set_option maxRecDepth 100000
namespace L2
open PySem PySem.Spec PyProof.Rows
abbrev Tc:=Sum Int Str
def KS:Tc->Value->Bool
 | .inl k,v=>Value.isInt k v
 | .inr x,v=>Value.isStrOf x v
def HR(w:World):Tc->Int
 | .inl k=>hashInt k
 | .inr x=>hashStr w x
theorem Yp:∀{k:Tc}{v:Value},KS k v=true->(∃i t,k=Sum.inl i/\v=Value.int i t)\/(∃x t,k=Sum.inr x/\v=Value.str x t)
 | .inl i,v,h=>by
  obtain⟨t,e⟩:=Value.isInt_shape (k:=i) (v:=v) h
  exact .inl ⟨i,t,rfl,e⟩
 | .inr x,v,h=>by
  obtain⟨t,e⟩:=Value.isStrOf_shape (x:=x) (v:=v) h
  exact .inr ⟨x,t,rfl,e⟩
theorem Jf(a b:Int):decide ((Sum.inl a:Tc)=Sum.inl b)=(a==b):=by
 by_cases e:a=b
 ·subst e;simp
 ·have h:¬(Sum.inl a:Tc)=Sum.inl b:=fun q=>e (Sum.inl.inj q)
  rw[decide_eq_false h]
  exact(beq_eq_false_iff_ne.mpr e).symm
theorem Jg(a b:Str):decide ((Sum.inr a:Tc)=Sum.inr b)=decide (a=b):=by
 by_cases e:a=b
 ·subst e;simp
 ·have h:¬(Sum.inr a:Tc)=Sum.inr b:=fun q=>e (Sum.inr.inj q)
  rw[decide_eq_false h,decide_eq_false e]
theorem Jh(a:Int)(b:Str):decide ((Sum.inl a:Tc)=Sum.inr b)=false:=decide_eq_false (fun q=>nomatch q)
theorem Ji(a:Str)(b:Int):decide ((Sum.inr a:Tc)=Sum.inl b)=false:=decide_eq_false (fun q=>nomatch q)
def Rh(prog:Program)(w:World):PySem.KeyKind prog w Tc where
 is:=KS
 hash:=HR w
 inj:=fun v a b ha hb=>by
  rcases Yp ha with⟨i,t,rfl,rfl⟩ | ⟨x,t,rfl,rfl⟩
  ·rcases Yp hb with⟨j,u,rfl,e⟩ | ⟨y,u,rfl,e⟩
   ·injection e with e1 _;rw[e1]
   ·exact nomatch e
  ·rcases Yp hb with⟨j,u,rfl,e⟩ | ⟨y,u,rfl,e⟩
   ·exact nomatch e
   ·injection e with e1 _;rw[e1]
 byValue:=fun k v h=>by
  rcases Yp h with⟨i,t,rfl,rfl⟩ | ⟨x,t,rfl,rfl⟩<;>rfl
 pyHash:=fun hv h=>by
  rcases Yp hv with⟨i,t,rfl,rfl⟩ | ⟨x,t,rfl,rfl⟩
  ·exact wpAny_pyHash_int h
  ·exact wpAny_pyHash_str h
 eqBool:=fun hu hv h=>by
  rcases Yp hu with⟨i,t,rfl,rfl⟩ | ⟨x,t,rfl,rfl⟩
  ·rcases Yp hv with⟨j,u,rfl,rfl⟩ | ⟨y,u,rfl,rfl⟩
   ·rw[Jf] at h;exact wpAny_eqBool_int h
   ·rw[Jh] at h;exact SeqAt.EqAt.int_str i t y u _ _ _ _ h
  ·rcases Yp hv with⟨j,u,rfl,rfl⟩ | ⟨y,u,rfl,rfl⟩
   ·rw[Ji] at h;exact SeqAt.EqAt.str_int x t j u _ _ _ _ h
   ·rw[Jg] at h;exact wpAny_eqBool_str h
 «strs»:=fun k x t v h=>by
  rcases Yp h with⟨i,u,rfl,e⟩ | ⟨y,u,rfl,e⟩
  ·exact nomatch e
  ·injection e with e1 _
   subst e1
   cases v<;>rfl
inductive V where
 | non | bl (b:Bool) | int (i:Int) | str (x:Str) | byt (b:Array UInt8) | flt (b:UInt64) | ref (a:Addr) | ty (n:String)
 deriving DecidableEq
def RelV:V->Value->Prop
 | .non,u=>u=Value.none
 | .bl b,u=>u=Value.bool b
 | .int i,u=>∃t,u=Value.int i t
 | .str x,u=>∃t,u=Value.str x t
 | .byt b,u=>∃t,u=Value.bytes b t
 | .flt b,u=>∃t,u=Value.float b t
 | .ref a,u=>u=Value.ref a
 | .ty n,u=>u=Value.type n
abbrev Vals:List V->List Value->Prop:=Paired RelV
theorem Vals.length{xs:List V}{us:List Value}(r:Vals xs us):xs.length=us.length:=Paired.length r
theorem Vals.get:∀{xs:List V}{us:List Value}{i:Nat}{x:V},Vals xs us->xs[i]?=some x->∃u,us[i]?=some u/\RelV x u
 | _,_,_,_,.nil,e=>by simp at e
 | _,_,0,_,.cons r _,e=>by simp at e;subst e;exact⟨_,rfl,r⟩
 | _,_,i+1,x,.cons _ t,e=>by
  obtain⟨u,h1,h2⟩:=Vals.get (i:=i) (x:=x) t (by simpa using e)
  exact⟨u,by simpa using h1,h2⟩
theorem Vals.set{x:V}{u:Value}(r:RelV x u):∀{xs:List V}{us:List Value}(i:Nat),Vals xs us->Vals (xs.set i x) (us.set i u)
 | _,_,_,.nil=>.nil
 | _,_,0,.cons _ t=>.cons r t
 | _,_,i+1,.cons q t=>.cons q (Vals.set r i t)
theorem Vals.append:∀{xs ys:List V}{us ws:List Value},Vals xs us->Vals ys ws->Vals (xs++ys) (us++ws)
 | _,_,_,_,.nil,s=>s
 | _,_,_,_,.cons r t,s=>.cons r (Vals.append t s)
theorem Vals.take:∀{xs:List V}{us:List Value}(n:Nat),Vals xs us->Vals (xs.take n) (us.take n)
 | _,_,0,_=>.nil
 | _,_,_+1,.nil=>.nil
 | _,_,n+1,.cons r t=>.cons r (Vals.take n t)
theorem Vals.drop:∀{xs:List V}{us:List Value}(n:Nat),Vals xs us->Vals (xs.drop n) (us.drop n)
 | _,_,0,r=>r
 | _,_,_+1,.nil=>.nil
 | _,_,n+1,.cons _ t=>Vals.drop n t
def Jj:Option V->Option Value->Prop
 | some v,some u=>RelV v u
 | none,none=>True
 | _,_=>False
def KV{κ:Type}:List (κ×V)->List (κ×Value)->Prop:=Paired fun(p:κ×V) (q:κ×Value)=>p.1=q.1/\RelV p.2 q.2
def kV:Tc->V
 | .inl i=>.int i
 | .inr x=>.str x
inductive HO where
 /-- a list -/
 | lst (xs:List V)
 /-- a tuple (never changes) -/
 | tup (xs:List V)
 /-- a dict whose keys are ints and texts;one whose keys are tuples of ints and texts (the empty one is both) -/
 | dK (kvs:List (Tc×V)) | dT (kvs:List (List Tc×V))
 /-- a set of ints: its members,its size -/
 | set (S:Int->Bool) (n:Nat)
 /-- an instance of the class at C,its dict at dx,its attributes -/
 | ins (C dx:Addr) (fs:List (Str×V))
 /-- the dict of the instance at x -/
 | own (x:Addr)
 /-- the dict of an exception -/
 | xd (fs:List (Str×V))
 /-- a bound method,f of x -/
 | met (f x:Addr)
 /-- a range object lo,lo+1,.. below hi -/
 | rng (lo hi:Int)
 /-- a thing that is known to the object (the script;a dict while a loop walks it): read,never written while it is so -/
 | frz (o:Obj) (u:HO)
 /-- a code object's table -/
 | tbl (ps:Array Value)
 /-- any other thing,by what is true of its one object (a def of one's own: SetO a S n:=HO.ext fun h=>..) -/
 | ext (φ:Heap->Prop)
abbrev Hp:=Addr->Option HO
def upd(H:Hp)(a:Addr)(o:HO):Hp:=fun b=>if b=a then some o else H b
theorem Zw{H:Hp}{a:Addr}{o:HO}:upd H a o a=some o:=by unfold upd;rw[if_pos rfl]
theorem upd_ne{H:Hp}{a b:Addr}{o:HO}(h:b≠a):upd H a o b=H b:=by unfold upd;rw[if_neg h]
theorem Zz{H:Hp}{a b:Addr}{o:HO}(h:H a=some o)(h':H b=none):a≠b:=by
 intro e;subst e;rw[h] at h';cases h'
section
variable (P:Program) (w:World)
def ObjOk(H:Hp)(h:Heap)(a:Addr):HO->Prop
 | .lst xs=>xs.length<=sizeLine/\∃(its:List Value) (n:Nat),Vals xs its/\h.get? a=some { cls:=.type "list",data:=.seq its.toArray n }
 | .tup xs=>xs.length<=sizeLine/\∃its:List Value,Vals xs its/\IsTup h a its.toArray
 | .dK kvs=>kvs.length<=sizeLine/\(a==sysModules)=false/\∃vs,KV kvs vs/\h.DictOf (Rh P w) a vs
 | .dT kvs=>kvs.length<=sizeLine/\(a==sysModules)=false/\∃xs:List (List Tc×Addr×Value),
   Paired (fun(p:List Tc×V) (q:List Tc×Addr×Value)=>p.1=q.1/\H q.2.1=some (.tup (p.1.map kV))/\RelV p.2 q.2.2) kvs xs/\
   ∃o es ep,h.get? a=some o/\o.ExactDict/\o.data = .dict es ep/\es.toList=xs.map (entryOfKey (tupleKind (Rh P w)))/\(xs.map (·.1)).Nodup
 | .set S n=>h.SetOf (intKind P w) a S n
 | .ins C dx fs=>H dx=some (.own a)/\fs.length<=1000/\dx≠a/\h.get? a=some (PySem.W.instObj C dx)/\
   ∃mA,h.Ns1 dx mA/\(∀f,Jj (fs.lookup f) (mA f))/\PySem.Within mA (fs.map (·.1))
 | .own _=>∃o,h.get? a=some o
 | .xd fs=>∃mA,h.Ns1 a mA/\∀f,Jj (fs.lookup f) (mA f)
 | .rng lo hi=>∃t u v,h.get? a=some { cls:=.type "range",data:=.fields #[.int lo t,.int hi u,.int 1 v] }
 | .frz o u=>h.get? a=some o/\ObjOk H h a u
 | .tbl ps=>h.get? a=some { cls:=.none,data:=.fields ps }
 | .met f x=>h.get? a=some (PySem.W.methodObj (.ref f) (.ref x))
 | .ext φ=>φ h/\(∃o,h.get? a=some o)/\∀h1 h2:Heap,φ h1->(∀o,h1.get? a=some o->h2.get? a=some o)->φ h2
def HOk(H:Hp)(h:Heap):Prop:=∀a o,H a=some o->ObjOk P w H h a o
end
section
variable {P:Program} {w:World} {H H':Hp} {h h':Heap} {a:Addr} {o:HO}
theorem ObjOk.lt(x:ObjOk P w H h a o):a<h.objs.size:=by
 cases o with
 | lst xs=>obtain⟨_,_,_,_,e⟩:=x;exact Heap.lt_size e
 | tup xs=>obtain⟨_,_,_,p⟩:=x;exact p.lt
 | dK kvs=>obtain⟨_,_,_,_,o,_,_,e,_⟩:=x;exact Heap.lt_size e
 | dT kvs=>obtain⟨_,_,_,_,o,_,_,e,_⟩:=x;exact Heap.lt_size e
 | set S n=>obtain⟨o,_,_,_,e,_⟩:=x;exact Heap.lt_size e
 | ins C dx fs=>obtain⟨_,_,_,e,_⟩:=x;exact Heap.lt_size e
 | own y=>obtain⟨_,e⟩:=x;exact Heap.lt_size e
 | xd fs=>obtain⟨_,⟨_,_,_,e,_⟩,_⟩:=x;exact Heap.lt_size e
 | rng lo hi=>obtain⟨_,_,_,e⟩:=x;exact Heap.lt_size e
 | frz ob u=>obtain⟨e,_⟩:=x;exact Heap.lt_size e
 | tbl ps=>exact Heap.lt_size (show h.get? a=some _ from x)
 | met f y=>exact Heap.lt_size (show h.get? a=some _ from x)
 | ext φ=>obtain⟨_,⟨_,e⟩,_⟩:=x;exact Heap.lt_size e
theorem Paired.mapP{α β:Type}{F G:α->β->Prop}:∀{l₁:List α}{l₂:List β},Paired F l₁ l₂->(∀a b,F a b->G a b)->Paired G l₁ l₂
 | _,_,.nil,_=>.nil
 | _,_,.cons r t,f=>.cons (f _ _ r) (Paired.mapP t f)
theorem ObjOk.stay(x:ObjOk P w H h a o)(k:∀b u,(b=a\/H b=some (.own a))->h.get? b=some u->h'.get? b=some u)
  (ho:∀b,H b=some (.own a)->H' b=some (.own a)) (ht:∀b xs,H b=some (.tup xs)->H' b=some (.tup xs)):ObjOk P w H' h' a o:=by
 induction o with
 | lst xs=>obtain⟨z,its,n,r,e⟩:=x;exact⟨z,its,n,r,k _ _ (.inl rfl) e⟩
 | tup xs=>obtain⟨z,its,r,ob,e,c⟩:=x;exact⟨z,its,r,ob,k _ _ (.inl rfl) e,c⟩
 | dK kvs=>obtain⟨z,y,vs,r,ob,es,ep,e,c⟩:=x;exact⟨z,y,vs,r,ob,es,ep,k _ _ (.inl rfl) e,c⟩
 | dT kvs=>
  obtain⟨z,y,xs,r,ob,es,ep,e,c⟩:=x
  exact⟨z,y,xs,Paired.mapP r fun p q z=>⟨z.1,ht _ _ z.2.1,z.2.2⟩,ob,es,ep,k _ _ (.inl rfl) e,c⟩
 | set S n=>obtain⟨ob,es,ep,t,e,c⟩:=x;exact⟨ob,es,ep,t,k _ _ (.inl rfl) e,c⟩
 | ins C dx fs=>
  obtain⟨d,z,ne,e,mA,⟨od,es,ep,e2,c⟩,r⟩:=x
  exact⟨ho _ d,z,ne,k _ _ (.inl rfl) e,mA,⟨od,es,ep,k _ _ (.inr d) e2,c⟩,r⟩
 | own y=>obtain⟨ob,e⟩:=x;exact⟨ob,k _ _ (.inl rfl) e⟩
 | xd fs=>obtain⟨mA,⟨od,es,ep,e,c⟩,r⟩:=x;exact⟨mA,⟨od,es,ep,k _ _ (.inl rfl) e,c⟩,r⟩
 | rng lo hi=>obtain⟨t,u,v,e⟩:=x;exact⟨t,u,v,k _ _ (.inl rfl) e⟩
 | frz ob u ih=>obtain⟨e,q⟩:=x;exact⟨k _ _ (.inl rfl) e,ih q⟩
 | tbl ps=>
  have e:h.get? a=some { cls:=.none,data:=.fields ps }:=x
  show h'.get? a=some { cls:=.none,data:=.fields ps }
  exact k a _ (.inl rfl) e
 | met f y=>
  have e:h.get? a=some (PySem.W.methodObj (.ref f) (.ref y)):=x
  show h'.get? a=some (PySem.W.methodObj (.ref f) (.ref y))
  exact k a _ (.inl rfl) e
 | ext φ=>obtain⟨p,⟨o,e⟩,st⟩:=x;exact⟨st _ _ p fun o q=>k _ _ (.inl rfl) q,⟨o,k _ _ (.inl rfl) e⟩,st⟩
theorem HOk.lt(x:HOk P w H h)(e:H a=some o):a<h.objs.size:=(x a o e).lt
theorem HOk.fresh(x:HOk P w H h)(e:h.objs.size<=a):H a=none:=by
 cases q:H a with
 | none=>rfl
 | some u=>exact absurd (Nat.lt_of_lt_of_le (x.lt q) e) (Nat.lt_irrefl _)
theorem HOk.kept(x:HOk P w H h)(k:∀b u,h.get? b=some u->h'.get? b=some u):HOk P w H h':=fun a o e=>
 (x a o e).stay (fun b u _ q=>k b u q) (fun _ q=>q) fun _ _ q=>q
theorem HOk.laid(x:HOk P w H h)(k:∀b u,h.get? b=some u->h'.get? b=some u)(hp:h.objs.size<=a)(new:ObjOk P w (upd H a o) h' a o):HOk P w (upd H a o) h':=fun b u e=>by
 have hn:=x.fresh hp
 by_cases hb:b=a
 ·subst hb;rw[Zw] at e;cases e;exact new
 ·rw[upd_ne hb] at e
  exact(x b u e).stay (fun c v _ q=>k c v q) (fun c q=>by rw[upd_ne (Zz q hn)];exact q) fun c xs q=>by rw[upd_ne (Zz q hn)];exact q
end
def Rd(H:Hp)(a:Addr)(u:HO):Prop:=H a=some u\/∃o,H a=some (.frz o u)
theorem Rd.ok{P:Program}{w:World}{H:Hp}{h:Heap}{a:Addr}{u:HO}(r:Rd H a u)(x:HOk P w H h):ObjOk P w H h a u:=by
 rcases r with r | ⟨o,r⟩
 ·exact x a u r
 ·obtain⟨_,q⟩:=x a _ r
  exact q
def Wc:Option HO->Prop
 | some (.lst _)=>True
 | some (.dK _)=>True
 | some (.dT _)=>True
 | some (.set _ _)=>True
 | some (.ins _ _ _)=>True
 | some (.ext _)=>True
 | _=>False
section
variable {P:Program} {w:World} {H:Hp} {h h':Heap} {x e:Addr} {o':HO}
theorem HOk.write(ok:HOk P w H h)(mu:Wc (H x))(he:e=x\/H e=some (.own x))(k:∀b u,b≠e->h.get? b=some u->h'.get? b=some u)(heo:∃u,h'.get? e=some u)
  (new:ObjOk P w (upd H x o') h' x o'):HOk P w (upd H x o') h':=fun b u q=>by
 have nown:∀c y,H c=some (.own y)->c≠x:=fun c y r z=>by subst z;rw[r] at mu;exact mu
 have ntup:∀c xs,H c=some (.tup xs)->c≠x:=fun c xs r z=>by subst z;rw[r] at mu;exact mu
 by_cases hb:b=x
 ·subst hb;rw[Zw] at q;cases q;exact new
 ·rw[upd_ne hb] at q
  by_cases hbe:b=e
  ·have q':H b=some (.own x):=by
    rcases he with z | z
    ·exact absurd (hbe.trans z) hb
    ·rw[hbe];exact z
   rw[q] at q';cases q'
   obtain⟨v,hv⟩:=heo
   exact⟨v,by rw[hbe];exact hv⟩
  ·refine(ok b u q).stay (fun c v hc r=>k c v ?_ r) (fun c r=>by rw[upd_ne (nown c b r)];exact r) fun c xs r=>by rw[upd_ne (ntup c xs r)];exact r
   rcases hc with rfl | hc
   ·exact hbe
   ·rintro rfl
    rcases he with z | z
    ·exact nown c b hc z
    ·rw[hc] at z;cases z;exact hb rfl
end
structure Un(fs ex:List Addr)(H H':Hp)(h h':Heap):Prop where
 keep:∀b o,h.get? b=some o->H b=none->b∉fs->b∉ex->h'.get? b=some o
 slot:∀b o,h.get? b=some o->H b=none->b∈fs->b∉ex->∃sl,h'.get? b=some { o with slots:=sl }
 free:∀b o,h.get? b=some o->H b=none->b∉ex->H' b=none
 there:∀b o,h.get? b=some o->b∉ex->∃o',h'.get? b=some o'
 tups:∀b xs,H b=some (.tup xs)->H' b=some (.tup xs)
 frzs:∀b o u,H b=some (.frz o u)->H' b=some (.frz o u)
 tbls:∀b ps,H b=some (.tbl ps)->∃more,H' b=some (.tbl (ps++more))
section
variable {fs fs' ex ex':List Addr} {H H1 H2:Hp} {h h1 h2 h':Heap} {a x e:Addr} {o:HO}
theorem Un.any(u:Un fs ex H H1 h h1){b:Addr}{ob:Obj}(q:h.get? b=some ob)(n:H b=none)(hx:b∉ex):∃sl,h1.get? b=some { ob with slots:=sl }:=by
 by_cases hb:b∈fs
 ·exact u.slot b ob q n hb hx
 ·exact⟨ob.slots,u.keep b ob q n hb hx⟩
theorem Un.kept(k:∀b u,h.get? b=some u->h'.get? b=some u):Un fs ex H H h h':=
 ⟨fun b ob q _ _ _=>k b ob q,fun b ob q _ _ _=>⟨ob.slots,k b ob q⟩,fun _ _ _ n _=>n,fun b ob q _=>⟨ob,k b ob q⟩,fun _ _ q=>q,fun _ _ _ q=>q,fun _ ps q=>⟨#[],by rw[q];simp⟩⟩
theorem Un.refl:Un fs ex H H h h:=Un.kept fun _ _ q=>q
theorem Un.laid(k:∀b u,h.get? b=some u->h'.get? b=some u)(hp:h.objs.size<=a)(hn:H a=none):Un fs ex H (upd H a o) h h' where
 keep:=fun b u q _ _ _=>k b u q
 slot:=fun b u q _ _ _=>⟨u.slots,k b u q⟩
 free:=fun b u q n _=>by rw[upd_ne (Nat.ne_of_lt (Nat.lt_of_lt_of_le (Heap.lt_size q) hp))];exact n
 there:=fun b u q _=>⟨u,k b u q⟩
 tups:=fun b xs q=>by rw[upd_ne (Zz q hn)];exact q
 frzs:=fun b u xs q=>by rw[upd_ne (Zz q hn)];exact q
 tbls:=fun b ps q=>⟨#[],by rw[upd_ne (Zz q hn),q];simp⟩
theorem Un.write(mu:Wc (H x))(he:e=x\/H e=some (.own x))(k:∀b u,b≠e->h.get? b=some u->h'.get? b=some u)(heo:∃u,h'.get? e=some u):Un fs ex H (upd H x o) h h':=by
 have hx:∀b,H b=none->b≠x:=fun b n z=>by subst z;rw[n] at mu;exact mu
 have hb:∀b,H b=none->b≠e:=fun b n z=>by
  subst z
  rcases he with r | r
  ·exact hx b n r
  ·rw[n] at r;cases r
 have hm:∀b u,H b=some u->¬Wc (some u)->b≠x:=fun b u q nm z=>by subst z;rw[q] at mu;exact nm mu
 refine⟨fun b u q n _ _=>k b u (hb b n) q,fun b u q n _ _=>⟨u.slots,k b u (hb b n) q⟩,fun b u q n _=>by rw[upd_ne (hx b n)];exact n,fun b u q _=>?_,
  fun b xs q=>by rw[upd_ne (hm b _ q fun z=>z)];exact q,fun b u xs q=>by rw[upd_ne (hm b _ q fun z=>z)];exact q,fun b ps q=>⟨#[],by rw[upd_ne (hm b _ q fun z=>z),q];simp⟩⟩
 by_cases hbe:b=e
 ·subst hbe;exact heo
 ·exact⟨u,k b u hbe q⟩
end
def HB(h:Heap)(H:Hp):List Addr:=(List.range h.objs.size).filter fun a=>(H a).isSome
def Rj(h:Heap)(H:Hp):Heap:=PySem.W.hideAll h (HB h H)
theorem OV(h:Heap)(H:Hp):(Rj h H).objs.size=h.objs.size:=PySem.W.hideAll_size _ _
theorem NX{h:Heap}{H:Hp}{b:Addr}{o:Obj}(e:h.get? b=some o)(n:H b=none):(Rj h H).get? b=some o:=
 PySem.W.hideAll_get _ e fun hm=>by
  have q:(H b).isSome=true:=(List.mem_filter.mp hm).2
  rw[n] at q;simp at q
theorem LA{h:Heap}{H:Hp}{b:Addr}{o:Obj}(e:(Rj h H).get? b=some o):h.get? b=some o/\H b=none:=by
 have e':h.get? b=some o:=PySem.W.of_hideAll (HB h H) e
 refine⟨e',?_⟩
 cases q:H b with
 | none=>rfl
 | some x=>
  have hm:b∈HB h H:=List.mem_filter.mpr ⟨List.mem_range.mpr (Heap.lt_size e'),by simp[q]⟩
  have z:(Rj h H).get? b=none:=PySem.W.hideAll_none (HB h H) hm
  rw[z] at e;cases e
def LB(g h:Heap)(L:Addr):List (Addr×Obj):=(List.range h.objs.size).filterMap fun a=>if a=L\/(g.get? a).isSome=true then none else(h.get? a).map fun o=>(a,o)
def Ym(g h:Heap)(L d:Addr):List (Addr×Obj):=(LB g h L).filter fun p=>decide (p.1≠d)
structure Mod(K:PySem.W.Frag)(mg:Str->Option Value)(base:Heap):Prop where
 kin:K.In base
 glob:base.Ns mainGlobals mg
 blt:∃mb,base.Ns builtinsNs mb/\∀x:Str,x≠"__name__"->mb x=bootBuiltins x
 nolimit:base.NoLimit
structure Cx where
 prog:Program
 w:World
 K:PySem.W.Frag
 mg:Str->Option Value
 base:Heap
 A:Around
 N:List Str
 s₀:Shared
 H₀:Hp
 env:Env
 outer:List Env
 stack:List Env
 ex:List Addr
 fn:Str->Bool
 calm:Bool
 pn:List (Addr×Obj)
 xe:Value->Shared->Prop
def QJ(l:List Env):List Addr:=l.filterMap (·.frame)
abbrev Cx.fs(X:Cx):List Addr:=QJ X.outer
def HS(sc:Scope)(x:Str):Prop:=sc.names.lookup x=some .local\/sc.names.lookup x=some .cell\/sc.names.lookup x=some .free
def IE(sc:Scope)(x:Str):Prop:=sc.names.lookup x=some .local\/sc.names.lookup x=some .cell
def HU(env:Env)(h:Heap)(m:Str->Option Value)(x:Str)(u:Value):Prop:=
 (env.kindOf x=some .local/\m x=some u)\/((env.kindOf x=some .cell\/env.kindOf x=some .free)/\∃c,env.cells.lookup x=some c/\h.IsCell c (some u))
structure Cx.Ok(X:Cx):Prop where
 mod:Mod X.K X.mg X.base
 kind:X.env.scope.kind = .function
 glob:X.env.globals=mainGlobals
 blt:X.env.builtins=builtinsNs
 above:X.s₀.heap.objs.size<=X.env.locals
 inj:∀x y c,X.env.cells.lookup x=some c->X.env.cells.lookup y=some c->x=y
 has:∀x,(X.env.kindOf x=some .cell\/X.env.kindOf x=some .free)->∃c,X.env.cells.lookup x=some c
 cab:∀x c,X.fn x=true->X.env.cells.lookup x=some c->X.s₀.heap.objs.size<=c
 hd:X.calm=true->X.A.handled=none
 frames:X.A.frames=some X.stack
 stk:X.stack=X.outer\/(X.stack=X.env::X.outer/\X.env.frame=some X.env.locals)
 exf:∀b∈X.ex,b≠X.env.locals/\∀x c,X.env.cells.lookup x=some c->c≠b
 bs:∀b o,X.base.get? b=some o->X.s₀.heap.get? b=some o/\X.H₀ b=none
 bsz:X.base.objs.size<=X.s₀.heap.objs.size
 noex:∀b o,X.base.get? b=some o->b∉X.ex
 exfs:∀b∈X.ex,b∉X.fs
 funs:X.s₀.heap.FunFrames X.base X.outer
 frf:∀b∈X.fs,X.H₀ b=none
structure Inv(X:Cx)(pins:List (Addr×Obj))(σ:List (Option V))(H:Hp)(s:Shared):Prop where
 ok:X.Ok
 os:s.os=X.s₀.os
 bare:AllBare s.gens
 base:Un X.fs X.ex X.H₀ H X.s₀.heap s.heap
 loc:∃m,s.heap.Ns X.env.locals m/\∀(i:Nat)(x:Str)(v:V),X.N[i]?=some x->σ[i]?=some (some v)->HS X.env.scope x->∃u,RelV v u/\HU X.env s.heap m x u
 cell:∀x c,X.env.cells.lookup x=some c->∃v,s.heap.IsCell c v
 free:H X.env.locals=none
 freeC:∀x c,X.env.cells.lookup x=some c->H c=none
 pin:∀p∈X.pn++pins,s.heap.get? p.1=some p.2/\H p.1=none/\p.1≠X.env.locals/\p.1∉X.fs/\∀v,p.2.data≠.cell v
 hok:HOk X.prog X.w H s.heap
 len:σ.length=X.N.length
section
variable {X:Cx} {pins:List (Addr×Obj)} {σ:List (Option V)} {H H':Hp} {s:Shared} {h':Heap}
theorem Cx.Ok.nofr(ok:X.Ok){b:Addr}{o:Obj}(e:X.base.get? b=some o):b∉X.fs:=fun hb=>by
 have:=(ok.funs.mem hb).1
 rw[e] at this;cases this
theorem Inv.bs(I:Inv X pins σ H s):∀b o,X.base.get? b=some o->s.heap.get? b=some o/\H b=none:=fun b o e=>
 ⟨I.base.keep b o (I.ok.bs b o e).1 (I.ok.bs b o e).2 (I.ok.nofr e) (I.ok.noex b o e),I.base.free b o (I.ok.bs b o e).1 (I.ok.bs b o e).2 (I.ok.noex b o e)⟩
theorem Inv.bk(I:Inv X pins σ H s):∀b o,X.base.get? b=some o->s.heap.get? b=some o:=fun b o e=>(I.bs b o e).1
theorem Inv.mod(I:Inv X pins σ H s):Mod X.K X.mg X.base:=I.ok.mod
theorem Inv.kIn(I:Inv X pins σ H s):X.K.In s.heap:=I.ok.mod.kin.keeps I.bk
theorem Inv.fr(I:Inv X pins σ H s):∃m,Fr X.base X.env.locals s.heap m:=
 let⟨m,hn,_⟩:=I.loc
 ⟨m,hn,I.bk,Nat.le_trans I.ok.bsz I.ok.above⟩
theorem Inv.lt(I:Inv X pins σ H s):X.env.locals<s.heap.objs.size:=let⟨_,hn,_⟩:=I.loc;hn.lt
theorem Inv.sz(I:Inv X pins σ H s):X.s₀.heap.objs.size<=s.heap.objs.size:=Nat.le_trans I.ok.above (Nat.le_of_lt I.lt)
theorem Inv.nofs(I:Inv X pins σ H s){a:Addr}(h:s.heap.objs.size<=a):a∉X.fs:=fun hb=>by
 obtain⟨_,o,ho,_⟩:=I.ok.funs.mem hb
 exact absurd (Nat.lt_of_lt_of_le (Heap.lt_size ho) (Nat.le_trans I.sz h)) (Nat.lt_irrefl _)
theorem Inv.cne(I:Inv X pins σ H s):∀x c,X.env.cells.lookup x=some c->c≠X.env.locals:=fun x c e z=>by
 obtain⟨v,o,ho,hd⟩:=I.cell x c e
 obtain⟨m,⟨o',es,ep,ho',hd',_⟩,_⟩:=I.loc
 rw[z,ho'] at ho;cases ho;rw[hd'] at hd;cases hd
theorem Inv.funs(I:Inv X pins σ H s):s.heap.FunFrames X.base X.outer:=by
 have all:∀(l:List Env),(∀b∈QJ l,b∈X.fs)->X.s₀.heap.FunFrames X.base l->s.heap.FunFrames X.base l:=by
  intro l
  induction l with
  | nil=>intro _ _;trivial
  | cons env r ih=>
   intro hs hl
   obtain⟨hk,⟨L,o,hf,hn,ho,hd⟩,hr⟩:=hl
   have hL:L∈X.fs:=hs L (by unfold QJ;rw[List.filterMap_cons,hf];exact List.mem_cons_self)
   obtain⟨sl,e⟩:=I.base.slot L o ho (I.ok.frf L hL) hL fun z=>I.ok.exfs L z hL
   exact⟨hk,⟨L,_,hf,hn,e,hd⟩,ih (fun b hb=>hs b (by unfold QJ;rw[List.filterMap_cons,hf];exact List.mem_cons_of_mem _ hb)) hr⟩
 exact all X.outer (fun _ hb=>hb) I.ok.funs
theorem Inv.stack(I:Inv X pins σ H s):s.heap.FunFrames X.base X.stack:=by
 rcases I.ok.stk with e | ⟨e,hf⟩
 ·rw[e];exact I.funs
 ·rw[e]
  obtain⟨m,hn,_⟩:=I.loc
  refine .cons (by rw[I.ok.kind];decide) hf hn ?_ I.funs
  exact Heap.get?_none_of_le (Nat.le_trans I.ok.bsz I.ok.above)
theorem Inv.stkSub(I:Inv X pins σ H s):∀b∈QJ X.stack,b∈X.env.locals::X.fs:=fun b hb=>by
 rcases I.ok.stk with e | ⟨e,hf⟩
 ·rw[e] at hb;exact List.mem_cons_of_mem _ hb
 ·rw[e] at hb
  unfold QJ at hb;rw[List.filterMap_cons,hf] at hb;exact hb
theorem Inv.stkFree(I:Inv X pins σ H s):∀b∈QJ X.stack,H b=none:=fun b hb=>by
 rcases List.mem_cons.mp (I.stkSub b hb) with e | hb
 ·rw[e];exact I.free
 ·obtain⟨_,o,ho,_⟩:=I.ok.funs.mem hb
  exact I.base.free b o ho (I.ok.frf b hb) fun z=>I.ok.exfs b z hb
theorem Inv.step{g':Array GenState}{t':Nat}{d':Drawn}{ch:List Addr}(I:Inv X pins σ H s)
  (hch:∀b∈ch,(b∈X.ex\/X.s₀.heap.objs.size<=b)/\b≠X.env.locals/\(∀x c,X.env.cells.lookup x=some c->c≠b)/\∀p∈X.pn++pins,p.1≠b)
  (keep:∀b o,b≠X.env.locals->b∉X.fs->b∉ch->s.heap.get? b=some o->H b=none->h'.get? b=some o)
  (slot:∀b o,b≠X.env.locals->b∈X.fs->b∉ch->s.heap.get? b=some o->H b=none->∃sl,h'.get? b=some { o with slots:=sl }) (free:∀b o,b∉ch->s.heap.get? b=some o->H b=none->H' b=none)
  (there:∀b o,b∉ch->s.heap.get? b=some o->∃o',h'.get? b=some o')
  (tups:∀b xs,H b=some (.tup xs)->H' b=some (.tup xs)) (frzs:∀b o u,H b=some (.frz o u)->H' b=some (.frz o u)) (tbls:∀b ps,H b=some (.tbl ps)->∃more,H' b=some (.tbl (ps++more)))
  (ns:∀m,s.heap.Ns X.env.locals m->h'.Ns X.env.locals m) (hok:HOk X.prog X.w H' h') (hg:AllBare g') :
  Inv X pins σ H' { s with heap:=h',gens:=g',drawn:=d',toks:=t' }:=by
 have neL:∀b o,X.s₀.heap.get? b=some o->b≠X.env.locals:=fun b o e=>Nat.ne_of_lt (Nat.lt_of_lt_of_le (Heap.lt_size e) I.ok.above)
 have neC:∀b o,X.s₀.heap.get? b=some o->b∉X.ex->b∉ch:=fun b o e hx hb=>by
  rcases(hch b hb).1 with z | z
  ·exact hx z
  ·exact absurd (Nat.lt_of_lt_of_le (Heap.lt_size e) z) (Nat.lt_irrefl _)
 have cellK:∀x c,X.env.cells.lookup x=some c->∀v,s.heap.IsCell c v->h'.IsCell c v:=fun x c e v ⟨o,ho,hd⟩=>by
  have nch:c∉ch:=fun z=>(hch c z).2.2.1 x c e rfl
  by_cases hc:c∈X.fs
  ·obtain⟨sl,q⟩:=slot c o (I.cne x c e) hc nch ho (I.freeC x c e)
   exact⟨_,q,hd⟩
  ·exact⟨o,keep c o (I.cne x c e) hc nch ho (I.freeC x c e),hd⟩
 refine⟨I.ok,I.os,hg,⟨fun b o e n hb hx=>?_,fun b o e n hb hx=>?_,fun b o e n hx=>?_,fun b o e hx=>?_,fun b xs e=>tups b xs (I.base.tups b xs e),fun b o xs e=>frzs b o xs (I.base.frzs b o xs e),fun b ps e=>?_⟩,?_,fun x c e=>?_,?_,fun x c e=>?_,fun p hp=>?_,hok,I.len⟩
 ·exact keep b o (neL b o e) hb (neC b o e hx) (I.base.keep b o e n hb hx) (I.base.free b o e n hx)
 ·obtain⟨sl,e1⟩:=I.base.slot b o e n hb hx
  obtain⟨sl',e2⟩:=slot b _ (neL b o e) hb (neC b o e hx) e1 (I.base.free b o e n hx)
  exact⟨sl',e2⟩
 ·obtain⟨o',e1⟩:=I.base.there b o e hx
  exact free b o' (neC b o e hx) e1 (I.base.free b o e n hx)
 ·obtain⟨o',e1⟩:=I.base.there b o e hx
  exact there b o' (neC b o e hx) e1
 ·obtain⟨m1,e1⟩:=I.base.tbls b ps e
  obtain⟨m2,e2⟩:=tbls b _ e1
  exact⟨m1++m2,by rw[e2,Array.append_assoc]⟩
 ·obtain⟨m,hn,hl⟩:=I.loc
  refine⟨m,ns m hn,fun i x v e1 e2 e3=>?_⟩
  obtain⟨u,r,l⟩:=hl i x v e1 e2 e3
  refine⟨u,r,?_⟩
  rcases l with l | ⟨k,c,e,z⟩
  ·exact .inl l
  ·exact .inr ⟨k,c,e,cellK x c e _ z⟩
 ·obtain⟨v,z⟩:=I.cell x c e
  exact⟨v,cellK x c e v z⟩
 ·obtain⟨m,⟨o,_,_,ho,_⟩,_⟩:=I.loc
  exact free _ o (fun z=>(hch _ z).2.1 rfl) ho I.free
 ·obtain⟨v,o,ho,hd⟩:=I.cell x c e
  exact free c o (fun z=>(hch c z).2.2.1 x c e rfl) ho (I.freeC x c e)
 ·obtain⟨e,n,ne,nf,d⟩:=I.pin p hp
  have nch:p.1∉ch:=fun z=>(hch p.1 z).2.2.2 p hp rfl
  exact⟨keep p.1 p.2 ne nf nch e n,free p.1 p.2 nch e n,ne,nf,d⟩
theorem Inv.un{t':Nat}(I:Inv X pins σ H s)(u:Un X.fs [] H H' s.heap h')(hok:HOk X.prog X.w H' h'):Inv X pins σ H' { s with heap:=h',toks:=t' }:=by
 obtain⟨m,⟨o,es,ep,ho,r⟩,_⟩:=id I.loc
 obtain⟨sl,hL⟩:=u.any ho I.free (by simp)
 exact I.step (g':=s.gens) (d':=s.drawn) (ch:=[]) (fun _ z=>nomatch z) (fun b o _ hb _ e n=>u.keep b o e n hb (by simp)) (fun b o _ hb _ e n=>u.slot b o e n hb (by simp)) (fun b o _ e n=>u.free b o e n (by simp)) (fun b o _ e=>u.there b o e (by simp)) u.tups u.frzs u.tbls (fun m' hm=>by
  obtain⟨o',es',ep',ho',r'⟩:=hm
  rw[ho] at ho';cases ho'
  exact⟨_,es',ep',hL,r'⟩) hok I.bare
theorem Inv.call{g':Array GenState}{t':Nat}{d':Drawn}{ch:List Addr}(I:Inv X pins σ H s)(u:Un (QJ X.stack) ch H H' s.heap h')(hok:HOk X.prog X.w H' h')(hg:AllBare g')
  (hch:∀b∈ch,(b∈X.ex\/X.s₀.heap.objs.size<=b)/\b≠X.env.locals/\(∀x c,X.env.cells.lookup x=some c->c≠b)/\∀p∈X.pn++pins,p.1≠b) :
  Inv X pins σ H' { s with heap:=h',gens:=g',drawn:=d',toks:=t' }:=by
 obtain⟨m,⟨o,es,ep,ho,r⟩,_⟩:=id I.loc
 obtain⟨sl,hL⟩:=u.any ho I.free fun z=>(hch _ z).2.1 rfl
 exact I.step (ch:=ch) hch (fun b o hL hb hc e n=>u.keep b o e n (fun z=>(List.mem_cons.mp (I.stkSub b z)).elim hL hb) hc) (fun b o _ _ hc e n=>u.any e n hc) (fun b o hc e n=>u.free b o e n hc) (fun b o hc e=>u.there b o e hc) u.tups u.frzs u.tbls (fun m' hm=>by
  obtain⟨o',es',ep',ho',r'⟩:=hm
  rw[ho] at ho';cases ho'
  exact⟨_,es',ep',hL,r'⟩) hok hg
theorem Inv.turned{t':Nat}{it:Addr}(I:Inv X pins σ H s)(k:∀b o,b≠it->s.heap.get? b=some o->h'.get? b=some o)(hn:H it=none)(hL:it≠X.env.locals)
  (h1:it∈X.ex\/X.s₀.heap.objs.size<=it) (h2:∀x c,X.env.cells.lookup x=some c->c≠it) (h3:∀p∈X.pn++pins,p.1≠it):Inv X pins σ H { s with heap:=h',toks:=t' }:=by
 have nit:∀b u,H b=some u->b≠it:=fun b u e z=>by rw[z,hn] at e;cases e
 refine I.step (g':=s.gens) (d':=s.drawn) (ch:=[it]) (fun b hb=>?_) (fun b o _ _ hc e _=>k b o (fun z=>hc (by simp[z])) e) (fun b o _ _ hc e _=>⟨o.slots,k b o (fun z=>hc (by simp[z])) e⟩) (fun _ _ _ _ n=>n)
  (fun b o hc e=>⟨o,k b o (fun z=>hc (by simp[z])) e⟩) (fun _ _ e=>e) (fun _ _ _ e=>e) (fun b ps e=>⟨#[],by rw[e];simp⟩) (fun m hm=>?_) (fun b u e=>?_) I.bare
 ·have e:b=it:=by simpa using hb
  subst e
  exact⟨h1,hL,h2,h3⟩
 ·obtain⟨o,es,ep,ho,r⟩:=hm
  exact⟨o,es,ep,k _ o (Ne.symm hL) ho,r⟩
 ·refine(I.hok b u e).stay (fun c v hc q=>k c v ?_ q) (fun _ q=>q) fun _ _ q=>q
  rcases hc with z | z
  ·rw[z];exact nit b u e
  ·exact nit c _ z
theorem Inv.tok(I:Inv X pins σ H s)(t:Nat):Inv X pins σ H { s with toks:=t }:=I.un (h':=s.heap) (t':=t) Un.refl I.hok
theorem Inv.kept{t':Nat}(I:Inv X pins σ H s)(k:∀b u,s.heap.get? b=some u->h'.get? b=some u):Inv X pins σ H { s with heap:=h',toks:=t' }:=I.un (Un.kept k) (I.hok.kept k)
theorem Inv.laid{a:Addr}{o:HO}{t':Nat}(I:Inv X pins σ H s)(k:∀b u,s.heap.get? b=some u->h'.get? b=some u)(hp:s.heap.objs.size<=a)(new:ObjOk X.prog X.w (upd H a o) h' a o) :
  Inv X pins σ (upd H a o) { s with heap:=h',toks:=t' }:=I.un (Un.laid k hp (I.hok.fresh hp)) (I.hok.laid k hp new)
theorem Inv.write{x e:Addr}{o:HO}{t':Nat}(I:Inv X pins σ H s)(mu:Wc (H x))(he:e=x\/H e=some (.own x))(k:∀b u,b≠e->s.heap.get? b=some u->h'.get? b=some u)(heo:∃u,h'.get? e=some u)
  (new:ObjOk X.prog X.w (upd H x o) h' x o):Inv X pins σ (upd H x o) { s with heap:=h',toks:=t' }:=I.un (Un.write mu he k heo) (I.hok.write mu he k heo new)
theorem Inv.weak{σ':List (Option V)}(I:Inv X pins σ H s)(hl:σ'.length=σ.length)(w:∀(i:Nat) v,σ'[i]?=some (some v)->σ[i]?=some (some v)):Inv X pins σ' H s:=
 ⟨I.ok,I.os,I.bare,I.base,let⟨m,hn,hl'⟩:=I.loc;⟨m,hn,fun i x v e1 e2 e3=>hl' i x v e1 (w i v e2) e3⟩,I.cell,I.free,I.freeC,I.pin,I.hok,hl.trans I.len⟩
theorem Inv.pins_of{pins':List (Addr×Obj)}(I:Inv X pins σ H s)(h:∀p∈pins',s.heap.get? p.1=some p.2/\H p.1=none/\p.1≠X.env.locals/\p.1∉X.fs/\∀v,p.2.data≠.cell v):Inv X pins' σ H s:=
 ⟨I.ok,I.os,I.bare,I.base,I.loc,I.cell,I.free,I.freeC,fun p hp=>(List.mem_append.mp hp).elim (fun z=>I.pin p (List.mem_append_left _ z)) (h p),I.hok,I.len⟩
theorem R7{N:List Str}(hN:N.Nodup){i j:Nat}{x:Str}(a:N[i]?=some x)(b:N[j]?=some x):i=j:=by
 obtain⟨h1,e1⟩:=List.getElem?_eq_some_iff.mp a
 obtain⟨h2,e2⟩:=List.getElem?_eq_some_iff.mp b
 exact(List.getElem_inj hN).mp (e1.trans e2.symm)
theorem OW{M:Model}{A:Around}{E:Value->Shared->Prop}{i:Nat}{x:Str}{v:V}{u:Value}{Q:Unit->Shared->Prop}(I:Inv X pins σ H s)(hN:X.N.Nodup)(hi:X.N[i]?=some x)(hx:IE X.env.scope x)(r:RelV v u)
  (h:∀s',Inv X pins (σ.set i (some v)) H s'->(∃a,Heap.SameBut a s.heap s'.heap/\(a=X.env.locals\/X.env.cells.lookup x=some a))->Q () s') (hf:X.fn x=true\/X.env.scope.names.lookup x=some .local:=by first | exact .inl rfl | exact .inr rfl | assumption):wpAny M A (storeName X.env x u) Q E s:=by
 obtain⟨m,hn,hl⟩:=id I.loc
 have hcls:(X.env.scope.kind==.class || (X.env.scope.kind==.module&&X.env.locals != X.env.globals))=false:=by rw[I.ok.kind];rfl
 have hiσ:i<σ.length:=by rw[I.len];exact(List.getElem?_eq_some_iff.mp hi).1
 have cne:=I.cne
 have tracked:∀{a:Addr}{h':Heap},(∃o,s.heap.get? a=some o/\H a=none)->Heap.SameBut a s.heap h'->HOk X.prog X.w H h':=fun{a h'} ha hs b ob e=>by
  obtain⟨_,_,hfree⟩:=ha
  refine(I.hok b ob e).stay (fun c w' hc q=>(hs.2 c ?_).trans q) (fun _ q=>q) fun _ _ q=>q
  rintro rfl
  rcases hc with rfl | hc
  ·rw[hfree] at e;cases e
  ·rw[hfree] at hc;cases hc
 rcases hx with hk | hk
 ·refine wpAny_storeName_local hk hn (fun h' hn' hs=>?_) hcls
  obtain⟨oL,_,_,hoL,_⟩:=id hn
  refine h _ ⟨I.ok,I.os,I.bare,⟨fun b o e n hb hx=>?_,fun b o e n hb hx=>?_,I.base.free,fun b o e hx=>?_,I.base.tups,I.base.frzs,I.base.tbls⟩,⟨_,hn',fun j y v' e1 e2 e3=>?_⟩,fun y c e=>?_,I.free,I.freeC,fun p hp=>?_,tracked ⟨oL,hoL,I.free⟩ hs,by simpa using I.len⟩ ⟨_,hs,.inl rfl⟩
  ·exact(hs.2 b (Nat.ne_of_lt (Nat.lt_of_lt_of_le (Heap.lt_size e) I.ok.above))).trans (I.base.keep b o e n hb hx)
  ·obtain⟨sl,e1⟩:=I.base.slot b o e n hb hx
   exact⟨sl,(hs.2 b (Nat.ne_of_lt (Nat.lt_of_lt_of_le (Heap.lt_size e) I.ok.above))).trans e1⟩
  ·obtain⟨o',e1⟩:=I.base.there b o e hx
   exact⟨o',(hs.2 b (Nat.ne_of_lt (Nat.lt_of_lt_of_le (Heap.lt_size e) I.ok.above))).trans e1⟩
  ·by_cases hj:j=i
   ·subst hj
    rw[hi] at e1;cases e1;rw[List.getElem?_set_self hiσ] at e2;cases e2
    exact⟨u,r,.inl ⟨hk,by simp⟩⟩
   ·rw[List.getElem?_set_ne (Ne.symm hj)] at e2
    obtain⟨u',r',q⟩:=hl j y v' e1 e2 e3
    refine⟨u',r',?_⟩
    rcases q with⟨k,e⟩ | ⟨k,c,e,z⟩
    ·refine .inl ⟨k,?_⟩
     have:y≠x:=fun e=>hj (R7 hN e1 (e▸hi))
     simp[this,e]
    ·exact .inr ⟨k,c,e,z.sameBut hs (cne y c e)⟩
  ·obtain⟨w',z⟩:=I.cell y c e
   exact⟨w',z.sameBut hs (cne y c e)⟩
  ·obtain⟨e,n,ne,nf,d⟩:=I.pin p hp
   exact⟨(hs.2 p.1 ne).trans e,n,ne,nf,d⟩
 ·have hfn:X.fn x=true:=by
   rcases hf with z | z
   ·exact z
   ·rw[z] at hk;cases hk
  obtain⟨c,hc⟩:=I.ok.has x (.inl hk)
  obtain⟨w',z⟩:=I.cell x c hc
  refine wpAny_storeName_cell I.ok.kind hk hc z (fun h' hc' hs=>?_)
  obtain⟨oc,hoc,hocd⟩:=id z
  refine h { s with heap:=h' } ⟨I.ok,I.os,I.bare,⟨fun b o e n hb hx=>?_,fun b o e n hb hx=>?_,I.base.free,fun b o e hx=>?_,I.base.tups,I.base.frzs,I.base.tbls⟩,⟨m,hn.sameBut hs (Ne.symm (cne x c hc)),fun j y v' e1 e2 e3=>?_⟩,fun y c' e=>?_,I.free,I.freeC,fun p hp=>?_,tracked ⟨oc,hoc,I.freeC x c hc⟩ hs,by simpa using I.len⟩ ⟨c,hs,.inr hc⟩
  ·exact(hs.2 b (Nat.ne_of_lt (Nat.lt_of_lt_of_le (Heap.lt_size e) (I.ok.cab x c hfn hc)))).trans (I.base.keep b o e n hb hx)
  ·obtain⟨sl,e1⟩:=I.base.slot b o e n hb hx
   exact⟨sl,(hs.2 b (Nat.ne_of_lt (Nat.lt_of_lt_of_le (Heap.lt_size e) (I.ok.cab x c hfn hc)))).trans e1⟩
  ·obtain⟨o',e1⟩:=I.base.there b o e hx
   exact⟨o',(hs.2 b (Nat.ne_of_lt (Nat.lt_of_lt_of_le (Heap.lt_size e) (I.ok.cab x c hfn hc)))).trans e1⟩
  ·by_cases hj:j=i
   ·subst hj
    rw[hi] at e1;cases e1;rw[List.getElem?_set_self hiσ] at e2;cases e2
    exact⟨u,r,.inr ⟨.inl hk,c,hc,hc'⟩⟩
   ·rw[List.getElem?_set_ne (Ne.symm hj)] at e2
    obtain⟨u',r',q⟩:=hl j y v' e1 e2 e3
    refine⟨u',r',?_⟩
    rcases q with q | ⟨k,c',e,z'⟩
    ·exact .inl q
    ·refine .inr ⟨k,c',e,z'.sameBut hs ?_⟩
     rintro rfl
     exact hj (R7 hN e1 (I.ok.inj _ _ _ e hc▸hi))
  ·by_cases hcc:c'=c
   ·subst hcc;exact⟨_,hc'⟩
   ·obtain⟨w2,z2⟩:=I.cell y c' e
    exact⟨w2,z2.sameBut hs hcc⟩
  ·obtain⟨e,n,ne,nf,d⟩:=I.pin p hp
   refine⟨(hs.2 p.1 ?_).trans e,n,ne,nf,d⟩
   intro q;rw[q,hoc] at e
   have q':oc=p.2:=Option.some.inj e
   exact d w' (by rw[<-q'];exact hocd)
theorem Tv{M:Model}{A:Around}{E:Value->Shared->Prop}{i:Nat}{x:Str}{v:V}{u:Value}{Q:Unit->Shared->Prop}(I:Inv X pins σ H s)(hN:X.N.Nodup)(hi:X.N[i]?=some x)(hx:IE X.env.scope x)(r:RelV v u)
  (h:∀s',Inv X pins (σ.set i (some v)) H s'->Q () s') (hf:X.fn x=true\/X.env.scope.names.lookup x=some .local:=by first | exact .inl rfl | exact .inr rfl | assumption):wpAny M A (storeName X.env x u) Q E s:=
 OW I hN hi hx r (fun s' I' _=>h s' I') hf
theorem Inv.call'{s':Shared}{ch:List Addr}(I:Inv X pins σ H s)(ho:s'.os=s.os)(u:Un (QJ X.stack) ch H H' s.heap s'.heap)(hok:HOk X.prog X.w H' s'.heap)(hg:AllBare s'.gens)
  (hch:∀b∈ch,(b∈X.ex\/X.s₀.heap.objs.size<=b)/\b≠X.env.locals/\(∀x c,X.env.cells.lookup x=some c->c≠b)/\∀p∈X.pn++pins,p.1≠b):Inv X pins σ H' s':=by
 obtain⟨h',g',d',t',o'⟩:=s'
 have e:o'=s.os:=ho
 subst e
 exact I.call (g':=g') (t':=t') (d':=d') u hok hg hch
end
abbrev XK:=Value->Option Addr->Hp->Prop
abbrev St:=List (Option V)
abbrev VK:=V->Hp->Prop
abbrev TE:=St->Hp->VK->Prop
abbrev TT:=St->Hp->(Bool->Hp->Prop)->Prop
abbrev TA:=St->Hp->(List V->Hp->Prop)->Prop
structure U0 where
 nx:St->Hp->Prop
 rt:VK
 bk:St->Hp->Prop:=fun _ _=>False
 ct:St->Hp->Prop:=fun _ _=>False
abbrev TS:=U0->St->Hp->Prop
def EP(X:Cx)(pins:List (Addr×Obj))(σ:St)(Q:VK)(u:Value)(s':Shared):Prop:=∃v H',Inv X pins σ H' s'/\RelV v u/\Q v H'
def TP(X:Cx)(pins:List (Addr×Obj))(σ:St)(Q:Bool->Hp->Prop)(b:Bool)(s':Shared):Prop:=∃H',Inv X pins σ H' s'/\Q b H'
def AP(X:Cx)(pins:List (Addr×Obj))(σ:St)(Q:List V->Hp->Prop)(us:List Value)(s':Shared):Prop:=∃vs H',Inv X pins σ H' s'/\Vals vs us/\Q vs H'
def SP(X:Cx)(pins:List (Addr×Obj))(D:U0)(f:Flow)(s':Shared):Prop:=
 match f with
 | .next=>∃σ' H',Inv X pins σ' H' s'/\D.nx σ' H'
 | .brk=>∃σ' H',Inv X pins σ' H' s'/\D.bk σ' H'
 | .cont=>∃σ' H',Inv X pins σ' H' s'/\D.ct σ' H'
 | .ret u=>∃v σ' H',Inv X pins σ' H' s'/\RelV v u/\D.rt v H'
def PE(X:Cx)(e:Expr)(t:TE):Prop:=
 ∀(pins:List (Addr×Obj))(s:Shared)(σ:St)(H:Hp)(Q:VK),Inv X pins σ H s->t σ H Q->wpAny (model X.prog X.w) X.A (eval e X.env) (EP X pins σ Q) X.xe s
def PT(X:Cx)(e:Expr)(t:TT):Prop:=
 ∀(pins:List (Addr×Obj))(s:Shared)(σ:St)(H:Hp)(Q:Bool->Hp->Prop),Inv X pins σ H s->t σ H Q->wpAny (model X.prog X.w) X.A (isTrue e X.env (eval e X.env)) (TP X pins σ Q) X.xe s
def PW(X:Cx)(e:Expr)(t:TT):Prop:=
 ∀(whole:Sem Value)(pins:List (Addr×Obj))(s:Shared)(σ:St)(H:Hp)(Q:Bool->Hp->Prop),Inv X pins σ H s->t σ H Q->wpAny (model X.prog X.w) X.A (isTrue e X.env whole) (TP X pins σ Q) X.xe s
theorem PW.pt{X:Cx}{e:Expr}{t:TT}(h:PW X e t):PT X e t:=h _
def PA(X:Cx)(es:List Expr)(t:TA):Prop:=
 ∀(pos:Pos)(pins:List (Addr×Obj))(s:Shared)(σ:St)(H:Hp)(Q:List V->Hp->Prop),Inv X pins σ H s->t σ H Q->wpAny (model X.prog X.w) X.A (spliced (backTo pos (starEach es X.env))) (AP X pins σ Q) X.xe s
def PS(X:Cx)(st:Stmt)(t:TS):Prop:=
 ∀(pins:List (Addr×Obj))(s:Shared)(σ:St)(H:Hp)(D:U0),Inv X pins σ H s->t D σ H->wpAny (model X.prog X.w) X.A (exec st X.env) (SP X pins D) X.xe s
def PSs(X:Cx)(st:List Stmt)(t:TS):Prop:=
 ∀(pins:List (Addr×Obj))(s:Shared)(σ:St)(H:Hp)(D:U0),Inv X pins σ H s->t D σ H->wpAny (model X.prog X.w) X.A (execs st X.env) (SP X pins D) X.xe s
theorem YY{α:Type}{t:Sem α}{Q Q':α->Shared->Prop}{M:Model}{A:Around}{E:Value->Shared->Prop}{s:Shared}(h:wpAny M A t Q E s)(hQ:∀a s,Q a s->Q' a s):wpAny M A t Q' E s:=wpAny_mono h hQ fun _ _ x=>x
section
variable {X:Cx}
theorem bin{a b:Expr}{ta tb:TE}(ha:PE X a ta)(hb:PE X b tb){pins:List (Addr×Obj)}{s:Shared}{σ:St}{H:Hp}{R:V->V->Hp->Prop}(I:Inv X pins σ H s)(h:ta σ H fun x H1=>tb σ H1 fun y H2=>R x y H2)
  {α:Type} {Q:α->Shared->Prop} {f:Value->Value->Sem α}
  (hf:∀v u s2 x y H2,Inv X pins σ H2 s2->RelV x v->RelV y u->R x y H2->wpAny (model X.prog X.w) X.A (f v u) Q X.xe s2) :
  wpAny (model X.prog X.w) X.A (eval a X.env) (fun v s₁=>wpAny (model X.prog X.w) X.A (eval b X.env) (fun u s₂=>wpAny (model X.prog X.w) X.A (f v u) Q X.xe s₂) X.xe s₁) X.xe s:=by
 refine YY (ha pins s σ H _ I h) fun v s1 ⟨x,H1,I1,r1,q1⟩=>?_
 refine YY (hb pins s1 σ H1 _ I1 q1) fun u s2 ⟨y,H2,I2,r2,q2⟩=>?_
 exact hf v u s2 x y H2 I2 r1 r2 q2
def U1(i:Nat):TE:=fun σ H Q=>∃v,σ[i]?=some (some v)/\Q v H
def tC(v:V):TE:=fun _ H Q=>Q v H
theorem Jk{i:Nat}{x:Str}{pos:Pos}(hN:X.N[i]?=some x)(hv:HS X.env.scope x)(hd:(x==("__debug__" : Str))=false:=by decide)(hcd:(x==("__classdict__" : Str))=false:=by decide):PE X (.Name x pos) (U1 i):=by
 intro pins s σ H Q I h
 obtain⟨v,e,h⟩:=h
 obtain⟨m,hn,hl⟩:=I.loc
 obtain⟨u,r,l⟩:=hl i x v hN e hv
 have fin:EP X pins σ Q u s:=⟨v,H,I,r,h⟩
 rcases l with⟨hk,hm⟩ | ⟨hk,c,hc,hcell⟩
 ·exact wpAny_Name (wpAny_loadName_local I.ok.kind hk hn hm fin) hd
 ·rcases hk with hk | hk
  ·exact wpAny_Name (wpAny_loadName_cell I.ok.kind hk hc hcell fin) hd
  ·exact wpAny_Name (wpAny_loadName_free I.ok.kind hk hc hcell fin hcd) hd
theorem Jl{i j pos}:PE X (.Constant (.int i) j pos) (tC (.int i)):=fun _ _ _ H _ I h=>wpAny_Constant_int ⟨.int i,H,I.tok _,⟨_,rfl⟩,h⟩
theorem IF{b j pos}:PE X (.Constant (.bool b) j pos) (tC (.bl b)):=fun _ _ _ H _ I h=>Constant_bool ⟨.bl b,H,I,rfl,h⟩
theorem Jm{j pos}:PE X (.Constant .none j pos) (tC .non):=fun _ _ _ H _ I h=>Constant_none ⟨.non,H,I,rfl,h⟩
theorem Jn{x j pos}:PE X (.Constant (.str x) j pos) (tC (.str x)):=fun _ _ _ H _ I h=>Calls.Constant_str ⟨.str x,H,I.tok _,⟨_,rfl⟩,h⟩
def Gl(X:Cx)(x:Str):Prop:=X.env.kindOf x=some .globalImplicit
theorem P5{E:Value->Shared->Prop}{pins:List (Addr×Obj)}{s:Shared}{σ:St}{H:Hp}{x:Str}{u:Value}{pos:Pos}{Q:Value->Shared->Prop}(I:Inv X pins σ H s)(hg:Gl X x)(hm:X.mg x=some u)(h:Q u s)
  (hd:(x==("__debug__" : Str))=false:=by decide):wpAny (model X.prog X.w) X.A (eval (.Name x pos) X.env) Q E s:=
 Calls.Name_function_global I.ok.kind hg (Calls.loadGlobal_global (by rw[I.ok.glob];exact I.mod.glob.keeps I.bk) hm h) hd
theorem Vr{E:Value->Shared->Prop}{pins:List (Addr×Obj)}{s:Shared}{σ:St}{H:Hp}{x:Str}{u:Value}{pos:Pos}{Q:Value->Shared->Prop}(I:Inv X pins σ H s)(hg:Gl X x)(hm:X.mg x=none)(hv:bootBuiltins x=some u)(h:Q u s)
  (hn:x≠"__name__":=by decide) (hd:(x==("__debug__" : Str))=false:=by decide):wpAny (model X.prog X.w) X.A (eval (.Name x pos) X.env) Q E s:=by
 obtain⟨mb,h1,h2⟩:=I.mod.blt
 exact Calls.Name_function_global I.ok.kind hg (Calls.loadGlobal_builtin (by rw[I.ok.glob];exact I.mod.glob.keeps I.bk) hm (by rw[I.ok.blt];exact h1.keeps I.bk) ((h2 x hn).trans hv) h) hd
theorem LC{x:Str}{v:V}{u:Value}{pos:Pos}(hg:Gl X x)(hm:X.mg x=some u)(r:RelV v u)(hd:(x==("__debug__" : Str))=false:=by decide):PE X (.Name x pos) (tC v):=
 fun _ _ _ H _ I h=>P5 I hg hm ⟨v,H,I,r,h⟩ hd
theorem LD{x:Str}{v:V}{u:Value}{pos:Pos}(hg:Gl X x)(hm:X.mg x=none)(hv:bootBuiltins x=some u)(r:RelV v u)(hn:x≠"__name__":=by decide)(hd:(x==("__debug__" : Str))=false:=by decide):PE X (.Name x pos) (tC v):=
 fun _ _ _ H _ I h=>Vr I hg hm hv ⟨v,H,I,r,h⟩ hn hd
variable {a b:Expr} {ta tb:TE} {pos:Pos}
def PC(X:Cx)(op:CmpOp)(a b:Expr)(t:TE):Prop:=
 ∀(pins:List (Addr×Obj))(s:Shared)(σ:St)(H:Hp)(Q:VK),Inv X pins σ H s->t σ H Q->
  wpAny (model X.prog X.w) X.A (eval a X.env) (fun v s₁=>wpAny (model X.prog X.w) X.A (eval b X.env) (fun u s₂=>wpAny (model X.prog X.w) X.A (compareOp op v u) (EP X pins σ Q) X.xe s₂) X.xe s₁) X.xe s
theorem NY(b:Expr){op:CmpOp}(h:op≠.In)(h2:op≠.NotIn):behindInMarks op b=false:=by
 have e1:(op==CmpOp.In)=false:=by cases op<;>first | rfl | exact absurd rfl h
 have e2:(op==CmpOp.NotIn)=false:=by cases op<;>first | rfl | exact absurd rfl h2
 cases b<;>simp[behindInMarks,e1,e2]
def KT(ta:TE):TE:=fun σ H Q=>ta σ H fun x H1=>Q (.bl (!decide (x = .non))) H1
theorem RelV.none_iff{x:V}{v:Value}(r:RelV x v):(v==Value.none)=decide (x = .non):=by
 cases x with
 | non=>cases r;rfl
 | bl _=>cases r;rfl
 | int _=>obtain⟨t,rfl⟩:=r;rfl
 | str _=>obtain⟨t,rfl⟩:=r;rfl
 | byt _=>obtain⟨t,rfl⟩:=r;rfl
 | flt _=>obtain⟨t,rfl⟩:=r;rfl
 | ref _=>cases r;rfl
 | ty _=>cases r;rfl
theorem LE{j pos'}(ha:PE X a ta):PC X .IsNot a (.Constant .none j pos') (KT ta):=by
 intro pins s σ H Q I h
 refine YY (ha pins s σ H _ I h) fun v s1 ⟨x,H1,I1,r1,q1⟩=>?_
 exact Constant_none (isnot_none_gen ⟨.bl _,H1,I1,by rw[r1.none_iff];rfl,q1⟩)
def tB(t:TE):TT:=fun σ H Q=>t σ H fun x H1=>∃c,x = .bl c/\Q c H1
theorem Jo{op:CmpOp}{t:TE}(h:PC X op a b t)(h1:behindInMarks op b=false:=by first | exact NY _ (by decide) (by decide) | rfl):PT X (.Compare a [op] [b] pos) (tB t):=by
 intro pins s σ H Q I hw
 refine wpAny_isTrue_Compare1 (YY (h pins s σ H _ I hw) fun v s1 h1=>YY h1 fun u s2 h2=>YY h2 fun c s3 ⟨x,H1,I1,r1,q1⟩=>?_) h1
 obtain⟨d,rfl,q⟩:=q1
 cases r1
 exact wpAny_truthy_bool ⟨H1,I1,q⟩
theorem Jp{e:Expr}{t:TE}(h:PE X e t)(he:∀whole,isTrue e X.env whole=(do let v <-whole;standAt e.pos;holding [v] (truthy v)):=by intro _;rfl):PT X e (tB t):=by
 intro pins s σ H Q I hw
 refine isTrue_plain (YY (h pins s σ H _ I hw) fun v s1 ⟨x,H1,I1,r1,q1⟩=>?_) (he _)
 obtain⟨d,rfl,q⟩:=q1
 cases r1
 exact wpAny_truthy_bool ⟨H1,I1,q⟩
variable {tA tB':TT} {Ym:List Expr}
def IG(t u:TT):TT:=fun σ H Q=>t σ H fun c H1=>if c=true then u σ H1 Q else Q false H1
def Gy(t u:TT):TT:=fun σ H Q=>t σ H fun c H1=>if c=true then Q true H1 else u σ H1 Q
def HV(t:TT):TT:=fun σ H Q=>t σ H fun c H1=>Q (!c) H1
theorem LF(ha:PT X a tA):PW X (.BoolOp .And [a] pos) tA:=by
 intro wh pins s σ H Q I h
 refine isTrue_and (YY (ha pins s σ H Q I h) fun c s1 e=>?_)
 cases c with
 | true=>exact isTrue_and_nil e
 | false=>exact e
theorem Jq(ha:PT X a tA):PW X (.BoolOp .Or [a] pos) tA:=by
 intro wh pins s σ H Q I h
 refine isTrue_or (YY (ha pins s σ H Q I h) fun c s1 e=>?_)
 cases c with
 | false=>exact isTrue_or_nil e
 | true=>exact e
theorem Jr(ha:PT X a tA)(hb:PW X (.BoolOp .And (b::Ym) pos) tB'):PW X (.BoolOp .And (a::b::Ym) pos) (IG tA tB'):=by
 intro wh pins s σ H Q I h
 refine isTrue_and (YY (ha pins s σ H _ I h) fun c s1 ⟨H1,I1,q1⟩=>?_)
 cases c with
 | true=>exact hb wh pins s1 σ H1 Q I1 q1
 | false=>exact⟨H1,I1,q1⟩
theorem IH(ha:PT X a tA)(hb:PW X (.BoolOp .Or (b::Ym) pos) tB'):PW X (.BoolOp .Or (a::b::Ym) pos) (Gy tA tB'):=by
 intro wh pins s σ H Q I h
 refine isTrue_or (YY (ha pins s σ H _ I h) fun c s1 ⟨H1,I1,q1⟩=>?_)
 cases c with
 | true=>exact⟨H1,I1,q1⟩
 | false=>exact hb wh pins s1 σ H1 Q I1 q1
theorem Js(ha:PT X a tA):PT X (.UnaryOp .Not a pos) (HV tA):=by
 intro pins s σ H Q I h
 exact isTrue_not (ha pins s σ H (fun c H1=>Q (!c) H1) I h)
def HW(ta tb:TE):TE:=fun σ H Q=>ta σ H fun x H1=>∃c,x = .bl c/\if c=true then Q (.bl true) H1 else tb σ H1 Q
theorem Jt{op}{t:TE}(h:PE X a t):PE X (.BoolOp op [a] pos) t:=fun pins s σ H Q I hw=>BoolOp_one (h pins s σ H Q I hw)
theorem II(ha:PE X a ta)(hb:PE X (.BoolOp .Or (b::Ym) pos) tb):PE X (.BoolOp .Or (a::b::Ym) pos) (HW ta tb):=by
 intro pins s σ H Q I h
 refine BoolOp_or (YY (ha pins s σ H _ I h) fun v s1 ⟨x,H1,I1,r1,q1⟩=>?_)
 obtain⟨c,rfl,q1⟩:=q1
 cases r1
 refine wpAny_truthy_bool ?_
 cases c with
 | false=>exact hb pins s1 σ H1 Q I1 q1
 | true=>exact⟨.bl true,H1,I1,rfl,q1⟩
def GG(t:TT)(ta tb:TE):TE:=fun σ H Q=>t σ H fun c H1=>if c=true then ta σ H1 Q else tb σ H1 Q
theorem NZ{c:Expr}(hc:PT X c tA)(ha:PE X a ta)(hb:PE X b tb):PE X (.IfExp c a b pos) (GG tA ta tb):=by
 intro pins s σ H Q I h
 refine wpAny_IfExp (YY (hc pins s σ H _ I h) fun d s1 ⟨H1,I1,q1⟩=>?_)
 cases d with
 | true=>exact ha pins s1 σ H1 Q I1 q1
 | false=>exact hb pins s1 σ H1 Q I1 q1
end
def SqL(K:PySem.W.Frag)(H:Hp)(a:Addr)(xs:List V):Prop:=
 Rd H a (.lst xs)\/
  ∃(o:Obj) (its:Array Value) (n:Nat),K.lookup a=some o/\o.cls = .type "list"/\o.dict=none/\o.data = .seq its n/\its.size<=sizeLine/\Vals xs its.toList
def SqT(K:PySem.W.Frag)(H:Hp)(a:Addr)(xs:List V):Prop:=
 Rd H a (.tup xs)\/
  ∃(o:Obj) (its:Array Value) (n:Nat),K.lookup a=some o/\o.cls = .type "tuple"/\o.data = .seq its n/\its.size<=sizeLine/\Vals xs its.toList
def HX:Value->Option V
 | .none=>some .non
 | .bool b=>some (.bl b)
 | .int i _=>some (.int i)
 | .str x _=>some (.str x)
 | .bytes b _=>some (.byt b)
 | .float b _=>some (.flt b)
 | .ref a=>some (.ref a)
 | .type n=>some (.ty n)
 | _=>none
theorem RelV.abs{x:V}{u:Value}(r:RelV x u):HX u=some x:=by
 cases x with
 | non=>cases r;rfl
 | bl _=>cases r;rfl
 | int _=>obtain⟨t,rfl⟩:=r;rfl
 | str _=>obtain⟨t,rfl⟩:=r;rfl
 | byt _=>obtain⟨t,rfl⟩:=r;rfl
 | flt _=>obtain⟨t,rfl⟩:=r;rfl
 | ref _=>cases r;rfl
 | ty _=>cases r;rfl
theorem RelV.inj{x y:V}{u:Value}(r:RelV x u)(q:RelV y u):x=y:=Option.some.inj (r.abs.symm.trans q.abs)
theorem Vals.inj:∀{xs ys:List V}{us:List Value},Vals xs us->Vals ys us->xs=ys
 | _,_,_,.nil,.nil=>rfl
 | _,_,_,.cons r t,.cons r' t'=>by rw[r.inj r',Vals.inj t t']
section
variable {X:Cx} {pins:List (Addr×Obj)} {σ:St} {H:Hp} {s:Shared} {a:Addr} {xs ys:List V}
theorem SqL.of{K:PySem.W.Frag}(h:H a=some (.lst xs)):SqL K H a xs:=.inl (.inl h)
theorem SqT.of{K:PySem.W.Frag}(h:H a=some (.tup xs)):SqT K H a xs:=.inl (.inl h)
theorem Inv.list(I:Inv X pins σ H s)(h:SqL X.K H a xs):∃its:List Value,Vals xs its/\PlainL s.heap a its.toArray/\xs.length<=sizeLine:=by
 rcases h with h | ⟨o,its,n,hk,hc,hd,hs,hz,r⟩
 ·obtain⟨z,its,n,r,e⟩:=h.ok I.hok
  exact⟨its,r,⟨_,n,e,rfl,rfl,rfl⟩,z⟩
 ·refine⟨its.toList,r,⟨o,n,I.kIn a o hk,hc,hd,by simpa using hs⟩,?_⟩
  have e:=r.length;simp only[Array.length_toList] at e;omega
theorem Inv.tuple(I:Inv X pins σ H s)(h:SqT X.K H a xs):∃its:List Value,Vals xs its/\IsTup s.heap a its.toArray/\xs.length<=sizeLine:=by
 rcases h with h | ⟨o,its,n,hk,hc,hs,hz,r⟩
 ·obtain⟨z,its,r,p⟩:=h.ok I.hok
  exact⟨its,r,p,z⟩
 ·refine⟨its.toList,r,⟨o,I.kIn a o hk,hc,n,by simpa using hs⟩,?_⟩
  have e:=r.length;simp only[Array.length_toList] at e;omega
theorem Inv.list_inj(I:Inv X pins σ H s)(h:SqL X.K H a xs)(h':SqL X.K H a ys):xs=ys:=by
 obtain⟨its,r,⟨o,n,e,_,_,d⟩,_⟩:=I.list h
 obtain⟨its',r',⟨o',n',e',_,_,d'⟩,_⟩:=I.list h'
 rw[e] at e';cases e'
 rw[d] at d'
 injection d' with d1 _
 have:its=its':=by simpa using congrArg Array.toList d1
 subst this
 exact r.inj r'
theorem Inv.tuple_inj(I:Inv X pins σ H s)(h:SqT X.K H a xs)(h':SqT X.K H a ys):xs=ys:=by
 obtain⟨its,r,⟨o,e,_,n,d⟩,_⟩:=I.tuple h
 obtain⟨its',r',⟨o',e',_,n',d'⟩,_⟩:=I.tuple h'
 rw[e] at e';cases e'
 rw[d] at d'
 injection d' with d1 _
 have:its=its':=by simpa using congrArg Array.toList d1
 subst this
 exact r.inj r'
end
abbrev Cx.wish(X:Cx)(E:Value->Shared->Prop):Cx:={ X with xe:=E }
abbrev Cx.nox(X:Cx):Cx:=X.wish fun _ _=>False
theorem Cx.Ok.wish{X:Cx}(ok:X.Ok)(E:Value->Shared->Prop):(X.wish E).Ok:=
 ⟨ok.mod,ok.kind,ok.glob,ok.blt,ok.above,ok.inj,ok.has,ok.cab,ok.hd,ok.frames,ok.stk,ok.exf,ok.bs,ok.bsz,ok.noex,ok.exfs,ok.funs,ok.frf⟩
theorem Cx.Ok.unwish{X:Cx}{E:Value->Shared->Prop}(ok:(X.wish E).Ok):X.Ok:=
 ⟨ok.mod,ok.kind,ok.glob,ok.blt,ok.above,ok.inj,ok.has,ok.cab,ok.hd,ok.frames,ok.stk,ok.exf,ok.bs,ok.bsz,ok.noex,ok.exfs,ok.funs,ok.frf⟩
section
variable {X:Cx} {pins:List (Addr×Obj)} {σ:St} {H:Hp} {s:Shared} {E:Value->Shared->Prop}
theorem Inv.wish(I:Inv X pins σ H s)(E:Value->Shared->Prop):Inv (X.wish E) pins σ H s:=⟨I.ok.wish E,I.os,I.bare,I.base,I.loc,I.cell,I.free,I.freeC,I.pin,I.hok,I.len⟩
theorem Inv.unwish(I:Inv (X.wish E) pins σ H s):Inv X pins σ H s:=⟨I.ok.unwish,I.os,I.bare,I.base,I.loc,I.cell,I.free,I.freeC,I.pin,I.hok,I.len⟩
theorem SP.unwish{D:U0}{f:Flow}{s':Shared}(h:SP (X.wish E) pins D f s'):SP X pins D f s':=by
 cases f with
 | next=>obtain⟨σ',H',I,q⟩:=h;exact⟨σ',H',I.unwish,q⟩
 | brk=>obtain⟨σ',H',I,q⟩:=h;exact⟨σ',H',I.unwish,q⟩
 | cont=>obtain⟨σ',H',I,q⟩:=h;exact⟨σ',H',I.unwish,q⟩
 | ret u=>obtain⟨v,σ',H',I,r,q⟩:=h;exact⟨v,σ',H',I.unwish,r,q⟩
theorem PSs.nox{st:List Stmt}{t:TS}(h:PSs X.nox st t):PSs X st t:=fun pins s σ H D I hw=>
 wpAny_mono (h pins s σ H D (I.wish _) hw) (fun _ _ q=>q.unwish) fun _ _ z=>False.elim z
end
section
variable {X:Cx} {st:Stmt} {Ym:List Stmt} {t u:TS} {e:Expr} {te:TE} {pos:Pos}
def KU:TS:=fun D σ H=>D.nx σ H
def HY(t u:TS):TS:=fun D σ H=>t { D with nx:=u D } σ H
theorem LG:PSs X [] KU:=fun _ _ σ H _ I h=>wpAny_execs_nil ⟨σ,H,I,h⟩
theorem Tw(h1:PS X st t)(h2:PSs X Ym u):PSs X (st::Ym) (HY t u):=by
 intro pins s σ H D I h
 refine wpAny_execs_cons (YY (h1 pins s σ H { D with nx:=u D } I h) fun f s1 q=>?_)
 cases f with
 | next=>
  obtain⟨σ',H',I',q⟩:=q
  exact h2 pins s1 σ' H' D I' q
 | ret v=>exact q
 | brk=>exact q
 | cont=>exact q
theorem P6(h1:PS X st t):PSs X [st] t:=by
 intro pins s σ H D I h
 refine wpAny_execs_cons (YY (h1 pins s σ H D I h) fun f s1 q=>?_)
 cases f with
 | next=>exact wpAny_execs_nil q
 | ret v=>exact q
 | brk=>exact q
 | cont=>exact q
theorem Inv.quiet{pins:List (Addr×Obj)}{σ:St}{H:Hp}{s:Shared}(I:Inv X pins σ H s):interactive X.env=false:=by simp[interactive,I.ok.kind]
def P7(te:TE):TS:=fun D σ H=>te σ H fun _ H1=>D.nx σ H1
theorem W6(he:PE X e te)(hs:swapsWith e none pos.line X.env=pure false:=by rfl):PS X (.Expr e pos) (P7 te):=by
 intro pins s σ H D I h
 exact wpAny_Expr_any (YY (he pins s σ H _ I h) fun v s1 ⟨x,H1,I1,r1,q1⟩=>⟨σ,H1,I1,q1⟩) I.quiet hs
def HZ(te:TE):TS:=fun D σ H=>te σ H D.rt
theorem Rk(he:PE X e te):PS X (.Return (some e) pos) (HZ te):=by
 intro pins s σ H D I h
 exact wpAny_Return_some (YY (he pins s σ H _ I h) fun v s1 ⟨x,H1,I1,r1,q1⟩=>⟨x,σ,H1,I1,r1,q1⟩)
def H9(c:TT)(t u:TS):TS:=fun D σ H=>c σ H fun b H1=>if b=true then t D σ H1 else u D σ H1
theorem IJ{c:Expr}{a b:List Stmt}{tc:TT}(hc:PT X c tc)(ha:PSs X a t)(hb:PSs X b u):PS X (.If c a b pos) (H9 tc t u):=by
 intro pins s σ H D I h
 refine wpAny_If (YY (hc pins s σ H _ I h) fun d s1 ⟨H1,I1,q1⟩=>?_)
 cases d with
 | true=>exact ha pins s1 σ H1 D I1 q1
 | false=>exact hb pins s1 σ H1 D I1 q1
end
abbrev TG:=V->St->Hp->(St->Hp->Prop)->Prop
abbrev KW:=List V->St->Hp->(St->Hp->Prop)->Prop
def PG(X:Cx)(target:Expr)(t:TG):Prop:=
 ∀(pins:List (Addr×Obj))(s:Shared)(σ:St)(H:Hp)(v:V)(u:Value)(Q:St->Hp->Prop),Inv X pins σ H s->RelV v u->t v σ H Q->
  wpAny (model X.prog X.w) X.A (assign target X.env u) (fun _ s'=>∃σ' H',Inv X pins σ' H' s'/\Q σ' H') X.xe s
def HC(X:Cx)(ts:List Expr)(t:KW):Prop:=
 ∀(pins:List (Addr×Obj))(s:Shared)(σ:St)(H:Hp)(vs:List V)(us:List Value)(Q:St->Hp->Prop),Inv X pins σ H s->Vals vs us->t vs σ H Q->
  wpAny (model X.prog X.w) X.A (assignInOrder ((assignEach ts X.env).map (·.2)) us) (fun _ s'=>∃σ' H',Inv X pins σ' H' s'/\Q σ' H') X.xe s
abbrev Ju:=V->V->V->Hp->(Hp->Prop)->Prop
def IK(X:Cx)(t:Ju):Prop:=
 ∀(pins:List (Addr×Obj))(s:Shared)(σ:St)(H:Hp)(o i v:V)(ov iv u:Value)(Q:Hp->Prop),Inv X pins σ H s->RelV o ov->RelV i iv->RelV v u->t o i v H Q->
  wpAny (model X.prog X.w) X.A (setItem ov iv u) (fun _ s'=>∃H',Inv X pins σ H' s'/\Q H') X.xe s
section
variable {X:Cx} {pos:Pos}
def US(i:Nat):TG:=fun v σ H Q=>Q (σ.set i (some v)) H
theorem Zv{i:Nat}{x:Str}(hN:X.N.Nodup)(hi:X.N[i]?=some x)(hx:IE X.env.scope x)(hf:X.fn x=true\/X.env.scope.names.lookup x=some .local:=by first | exact .inl rfl | exact .inr rfl | assumption):PG X (.Name x pos) (US i):=by
 intro pins s σ H v u Q I r h
 exact wpAny_assign_Name (Tv I hN hi hx r (fun s' I'=>⟨_,H,I',h⟩) hf)
def IL:KW:=fun vs σ H Q=>vs=[]/\Q σ H
def KY(t:TG)(u:KW):KW:=fun vs σ H Q=>∃v r,vs=v::r/\t v σ H fun σ' H'=>u r σ' H' Q
theorem XX:HC X [] IL:=by
 intro pins s σ H vs us Q I r h
 obtain⟨e,h⟩:=h
 subst e;cases r
 exact assignInOrder_nil ⟨σ,H,I,h⟩
theorem Yf{e:Expr}{es:List Expr}{t:TG}{u:KW}(h1:PG X e t)(h2:HC X es u)
  (hs:(assignEach (e::es) X.env).map (·.2)=assign e X.env::(assignEach es X.env).map (·.2):=by rfl):HC X (e::es) (KY t u):=by
 intro pins s σ H vs us Q I r h
 obtain⟨v,vr,e1,h⟩:=h
 subst e1
 cases r with
 | cons r rr=>
  rw[hs]
  refine assignInOrder_cons (YY (h1 pins s σ H _ _ _ I r h) fun _ s1 ⟨σ1,H1,I1,q1⟩=>?_)
  exact h2 pins s1 σ1 H1 _ _ Q I1 rr q1
def IM(K:PySem.W.Frag)(n:Nat)(t:KW):TG:=fun v σ H Q=>∃a xs,v = .ref a/\SqT K H a xs/\xs.length=n/\t xs σ H Q
theorem WG{es:List Expr}{k:Nat}{t:KW}{n:Nat}(hc:X.calm=true)(h:HC X es t)
  (hn:(assignEach es X.env).length=n:=by rfl) (hst:(assignEach es X.env).findIdx? (·.1)=none:=by rfl):PG X (.Tuple es k pos) (IM X.K n t):=by
 intro pins s σ H v u Q I r hw
 obtain⟨a,xs,e1,hq,hl,hw⟩:=hw
 subst e1;cases r
 obtain⟨its,rv,ht,hz⟩:=I.tuple hq
 refine assign_Tuple_tuple (I.ok.hd hc) ht (by simp[hn,<-hl,rv.length]) hst fun h' hx=>?_
 have I1:Inv X pins σ H { s with heap:=h' }:=I.kept (t':=s.toks) fun b o e=>hx b o (Nat.ne_of_lt (Heap.lt_size e)) e
 exact h pins _ σ H xs _ Q I1 (by simpa using rv) hw
def Jw(to ti:TE)(t:Ju):TG:=fun v σ H Q=>to σ H fun o H1=>ti σ H1 fun i H2=>t o i v H2 fun H3=>Q σ H3
theorem QL{o i:Expr}{to ti:TE}{t:Ju}(ho:PE X o to)(hi:PE X i ti)(hs:IK X t)
  (ha:∀v,assign (.Subscript o i pos) X.env v=(do
   let ov <-holding [v] (eval o X.env)
   let iv <-holding [v,ov] (eval i X.env)
   standAt pos
   holding [v,ov,iv] (setItem ov iv v)
   release [v,ov,iv] []):=by intro _;rfl):PG X (.Subscript o i pos) (Jw to ti t):=by
 intro pins s σ H v u Q I r h;rw[ha]
 refine wpAny_bind (wpAny_holding (YY (ho pins s σ H _ I h) fun ov s1 ⟨x,H1,I1,r1,q1⟩=>?_))
 refine wpAny_bind (wpAny_holding (YY (hi pins s1 σ H1 _ I1 q1) fun iv s2 ⟨y,H2,I2,r2,q2⟩=>?_))
 refine wpAny_bind (wpAny_standAt (wpAny_bind (wpAny_holding (YY (hs pins s2 σ H2 x y v ov iv u _ I2 r1 r2 r q2) fun _ s3 ⟨H3,I3,q3⟩=>?_))))
 exact wpAny_release ⟨σ,H3,I3,q3⟩
def QM(te:TE)(g:TG):TS:=fun D σ H=>te σ H fun x H1=>g x σ H1 D.nx
theorem QN{tg e:Expr}{te:TE}{g:TG}(he:PE X e te)(hg:PG X tg g)(hs:swapsWithSole [tg] e pos.line X.env=pure false:=by rfl)(hw:swappedStores [tg] e X.env=pure none:=by rfl)
  (h1:(assignEach [tg] X.env).map (·.2)=[assign tg X.env]:=by rfl):PS X (.Assign [tg] e pos) (QM te g):=by
 intro pins s σ H D I h
 refine wpAny_Assign_stores (YY (he pins s σ H _ I h) fun v s1 ⟨x,H1,I1,r1,q1⟩=>?_) hs hw
 rw[h1]
 exact YY (hg pins s1 σ H1 x v _ I1 r1 q1) fun _ s2 q=>q
theorem Jx{i:Nat}{x:Str}{e:Expr}{te:TE}{pos':Pos}(hN:X.N.Nodup)(hi:X.N[i]?=some x)(hx:IE X.env.scope x)(he:PE X e te)(hs:swapsWith e (some (.Name x pos')) pos.line X.env=pure false:=by rfl)(hf:X.fn x=true\/X.env.scope.names.lookup x=some .local:=by first | exact .inl rfl | exact .inr rfl | assumption) :
  PS X (.Assign [.Name x pos'] e pos) (QM te (US i)):=by
 intro pins s σ H D I h
 refine wpAny_Assign_Name (YY (he pins s σ H _ I h) fun v s1 ⟨y,H1,I1,r1,q1⟩=>?_) hs
 exact Tv I1 hN hi hx r1 (fun s2 I2=>⟨_,H1,I2,q1⟩) hf
end
section
variable {X:Cx} {pos:Pos}
def Jy(c:TT)(tb:TS):TS:=fun D σ H=>∃W:Nat->St->Hp->Prop,(∃m,W m σ H)/\∀m σ H,W m σ H->
 c σ H fun b H1=>if b=true then ∃N:St->Hp->Prop,(∀σ' H',N σ' H'->∃m',m'<m/\W m' σ' H')/\tb { D with nx:=N,ct:=N,bk:=D.nx } σ H1 else D.nx σ H1
theorem N0{c:Expr}{body:List Stmt}{tc:TT}{tb:TS}(hp:PassesOwn (model X.prog X.w) X.A X.env X.xe)(hc:PT X c tc)(hb:PSs X body tb):PS X (.While c body [] pos) (Jy tc tb):=by
 intro pins s σ H D I h
 obtain⟨W,⟨m0,w0⟩,turn⟩:=h
 refine wpAny_While (codeAny_whileLoop (fun n s'=>∃σ' H',Inv X pins σ' H' s'/\W n σ' H') ?_ m0 ⟨σ,H,I,w0⟩)
 rintro n s1 ⟨σ1,H1,I1,w1⟩
 refine wpAny_passesOwn hp (YY (hc pins s1 σ1 H1 _ I1 (turn n σ1 H1 w1)) fun b s2 ⟨H2,I2,q2⟩=>?_)
 cases b with
 | true=>
  obtain⟨N,hN,q2⟩:=q2
  rw[if_pos rfl]
  refine wpAny_passesOwn hp (YY (hb pins s2 σ1 H2 _ I2 q2) fun f s3 q3=>?_)
  cases f with
  | next=>
   obtain⟨σ3,H3,I3,n3⟩:=q3
   obtain⟨m',hm,w3⟩:=hN σ3 H3 n3
   exact⟨m',hm,σ3,H3,I3,w3⟩
  | cont=>
   obtain⟨σ3,H3,I3,n3⟩:=q3
   obtain⟨m',hm,w3⟩:=hN σ3 H3 n3
   exact⟨m',hm,σ3,H3,I3,w3⟩
  | brk=>exact q3
  | ret v=>exact q3
 | false=>
  rw[if_neg Bool.false_ne_true]
  exact wpAny_execs_nil ⟨σ1,H2,I2,q2⟩
end
structure It where
 go:Nat->Hp->Prop
 yld:Nat->Hp->V->Hp->Prop
 stop:Nat->Hp->Prop
def VF(X:Cx)(pins:List (Addr×Obj))(H:Hp)(b:Addr):Prop:=
 H b=none/\b≠X.env.locals/\b∉X.fs/\(b∈X.ex\/X.s₀.heap.objs.size<=b)/\(∀x c,X.env.cells.lookup x=some c->c≠b)/\∀p∈X.pn++pins,p.1≠b
theorem Inv.fpOk{X:Cx}{pins:List (Addr×Obj)}{σ:St}{H H':Hp}{s:Shared}{b:Addr}(I:Inv X pins σ H s)(hb:s.heap.objs.size<=b)(hn:H' b=none):VF X pins H' b:=by
 refine⟨hn,Nat.ne_of_gt (Nat.lt_of_lt_of_le I.lt hb),I.nofs hb,.inr (Nat.le_trans I.sz hb),fun x c e z=>?_,fun p hp z=>?_⟩
 ·obtain⟨v,q⟩:=I.cell x c e
  exact absurd (Nat.lt_of_lt_of_le q.lt (by rw[z];exact hb)) (Nat.lt_irrefl _)
 ·exact absurd (Nat.lt_of_lt_of_le (Heap.lt_size (I.pin p hp).1) (by rw[z];exact hb)) (Nat.lt_irrefl _)
structure QO(P:Program)(w:World)(K:PySem.W.Frag)(tg:Expr)(J:It)(fp:List Addr)(it:Addr)(tn:Nat->Heap->Prop):Prop where
 mem:it∈fp
 obj:∀i h,tn i h->∀b∈fp,∃o,h.get? b=some o/\∀v,o.data≠.cell v
 keep:∀i h h',tn i h->(∀b∈fp,∀o,h.get? b=some o->h'.get? b=some o)->tn i h'
 item:∀(X:Cx),X.prog=P->X.w=w->X.K=K->X.calm=true->∀(i:Nat)(pins:List (Addr×Obj))(s:Shared)(σ:St)(H:Hp)(E:Value->Shared->Prop),Inv X pins σ H s->(∀b∈fp,VF X pins H b)->tn i s.heap->J.go i H->
  wpAny (model P w) X.A (pyNext (.ref it)) (fun r s1=>∃u,r=some u/\
   wpAny (model P w) X.A (letOwnedTupleGo tg (.ref it) u) (fun _ s2=>∃x H',Inv X pins σ H' s2/\RelV x u/\J.yld i H x H'/\tn (i+1) s2.heap/\∀b∈fp,H' b=none) E s1) E s
 done:∀(X:Cx),X.prog=P->X.w=w->X.K=K->X.calm=true->∀(i:Nat)(pins:List (Addr×Obj))(s:Shared)(σ:St)(H:Hp)(E:Value->Shared->Prop),Inv X pins σ H s->(∀b∈fp,VF X pins H b)->tn i s.heap->J.stop i H->
  wpAny (model P w) X.A (pyNext (.ref it)) (fun r s1=>r=none/\Inv X pins σ H s1) E s
 self:∀(A:Around)(i:Nat)(s:Shared)(Q:Value->Shared->Prop)(E:Value->Shared->Prop),tn i s.heap->Q (.ref it) s->wpAny (model P w) A (pyIter (.ref it)) Q E s
abbrev TI:=St->Hp->(It->Hp->Prop)->Prop
def Gz(X:Cx)(pins:List (Addr×Obj))(σ:St)(tg:Expr)(R:It->Hp->Prop)(itv:Value)(s2:Shared):Prop:=
 ∃(it:Addr) (fp:List Addr) (tn:Nat->Heap->Prop) (J:It) (H':Hp),itv = .ref it/\Inv X pins σ H' s2/\QO X.prog X.w X.K tg J fp it tn/\tn 0 s2.heap/\(∀b∈fp,VF X pins H' b)/\R J H'
def PI(X:Cx)(tg iter:Expr)(wi:TI):Prop:=
 ∀(pins:List (Addr×Obj))(s:Shared)(σ:St)(H:Hp)(R:It->Hp->Prop),Inv X pins σ H s->wi σ H R->
  wpAny (model X.prog X.w) X.A (eval iter X.env) (fun v s1=>wpAny (model X.prog X.w) X.A (pyIter v) (Gz X pins σ tg R) X.xe s1) X.xe s
theorem N1{M:Model}{A:Around}{E:Value->Shared->Prop}{s:Shared}{tg:Expr}{it:Addr}{u:Value}{o:Obj}{n:String}{vs:Array Value}{Q:Unit->Shared->Prop}(ho:s.heap.get? it=some o)(hc:o.cls = .type n)(hd:o.data = .fields vs)
    (hn:["enumerate","zip","dict_itemiterator","dict_reverseitemiterator","odict_iterator","itertools.zip_longest","itertools.pairwise"].contains n=false) (hQ:Q () s):wpAny M A (letOwnedTupleGo tg (.ref it) u) Q E s:=by
  unfold letOwnedTupleGo
  cases tg<;>first
    | exact wpAny_pure hQ
    | (cases u<;>first
        | exact wpAny_pure hQ
        | (refine wpAny_bind (wpAny_load ho ?_)
           rw[hc,hd]
           show wpAny M A (if(["enumerate","zip","dict_itemiterator","dict_reverseitemiterator","odict_iterator","itertools.zip_longest","itertools.pairwise"].contains n&&vs[0]?==some (rawInt _))=true then _ else _) Q E s
           rw[if_neg (by intro h;rw[hn,Bool.false_and] at h;cases h)]
           exact wpAny_pure hQ))
def Ga(K:PySem.W.Frag)(a:Addr):It:=
 ⟨fun i H=>∃xs x,SqL K H a xs/\xs[i]?=some x,fun i H x H'=>H'=H/\∀xs,SqL K H a xs->xs[i]?=some x,fun i H=>∃xs,SqL K H a xs/\xs.length<=i⟩
def GA(K:PySem.W.Frag)(a:Addr):It:=
 ⟨fun i H=>∃xs x,SqT K H a xs/\xs[i]?=some x,fun i H x H'=>H'=H/\∀xs,SqT K H a xs->xs[i]?=some x,fun i H=>∃xs,SqT K H a xs/\xs.length<=i⟩
def IN(lo:Int)(n:Nat):It:=⟨fun i _=>i<n,fun i H x H'=>H'=H/\x = .int (lo+i),fun i _=>n<=i⟩
theorem OX{P:Program}{w:World}{K:PySem.W.Frag}{tg:Expr}(a it:Addr):QO P w K tg (Ga K a) [it] it (fun i h=>h.IsListIter it a i) where
 mem:=by simp
 obj:=fun i h st b hb=>by
  have e:b=it:=by simpa using hb
  subst e
  obtain⟨o,e,c,d⟩:=st
  exact⟨o,e,fun v z=>by rw[d] at z;cases z⟩
 keep:=fun i h h' st k=>st.at fun o e=>k it (by simp) o e
 item:=by
  intro X hP hw hK hc i pins s σ H E I hf st hg
  subst hP hw hK
  obtain⟨xs,x,hq,hx⟩:=hg
  obtain⟨its,rv,p,hz⟩:=I.list hq
  obtain⟨u,hu,ru⟩:=rv.get hx
  obtain⟨f0,f1,f2,f3,f4,f5⟩:=hf it (by simp)
  refine wpAny_pyNext_list_item st p.isList (x:=u) (by simpa using hu) fun h' st' sb=>?_
  have I1:Inv X pins σ H { s with heap:=h' }:=I.turned (t':=s.toks) (fun b o hb e=>(sb.2 b hb).trans e) f0 f1 f3 f4 f5
  obtain⟨o,e,c,d⟩:=id st'
  exact⟨u,rfl,N1 (s:={ s with heap:=h' }) e c d (by decide) ⟨x,H,I1,ru,⟨rfl,fun ys hy=>by rw[I.list_inj hy hq];exact hx⟩,st',fun b hb=>(hf b hb).1⟩⟩
 done:=by
  intro X hP hw hK hc i pins s σ H E I hf st hg
  subst hP hw hK
  obtain⟨xs,hq,hx⟩:=hg
  obtain⟨its,rv,p,hz⟩:=I.list hq
  obtain⟨f0,f1,f2,f3,f4,f5⟩:=hf it (by simp)
  have hl:=rv.length
  exact wpAny_pyNext_list_end (I.ok.hd hc) st p.isList (by simp;omega) fun h' eb=>⟨rfl,I.turned (t':=s.toks) (fun b o hb e=>eb b o hb e) f0 f1 f3 f4 f5⟩
 self:=fun _ _ _ _ _ st h=>wpAny_pyIter_listiter st h
theorem QP{P:Program}{w:World}{K:PySem.W.Frag}{tg:Expr}(a it:Addr):QO P w K tg (GA K a) [it] it (fun i h=>h.IsTupleIter it a i) where
 mem:=by simp
 obj:=fun i h st b hb=>by
  have e:b=it:=by simpa using hb
  subst e
  obtain⟨o,e,c,d⟩:=st
  exact⟨o,e,fun v z=>by rw[d] at z;cases z⟩
 keep:=fun i h h' st k=>st.at fun o e=>k it (by simp) o e
 item:=by
  intro X hP hw hK hc i pins s σ H E I hf st hg
  subst hP hw hK
  obtain⟨xs,x,hq,hx⟩:=hg
  obtain⟨its,rv,p,hz⟩:=I.tuple hq
  obtain⟨u,hu,ru⟩:=rv.get hx
  obtain⟨f0,f1,f2,f3,f4,f5⟩:=hf it (by simp)
  refine wpAny_pyNext_tuple_item st (show s.heap.IsTuple a its.toArray from p) (x:=u) (by simpa using hu) fun h' st' sb=>?_
  have I1:Inv X pins σ H { s with heap:=h' }:=I.turned (t':=s.toks) (fun b o hb e=>(sb.2 b hb).trans e) f0 f1 f3 f4 f5
  obtain⟨o,e,c,d⟩:=id st'
  exact⟨u,rfl,N1 (s:={ s with heap:=h' }) e c d (by decide) ⟨x,H,I1,ru,⟨rfl,fun ys hy=>by rw[I.tuple_inj hy hq];exact hx⟩,st',fun b hb=>(hf b hb).1⟩⟩
 done:=by
  intro X hP hw hK hc i pins s σ H E I hf st hg
  subst hP hw hK
  obtain⟨xs,hq,hx⟩:=hg
  obtain⟨its,rv,p,hz⟩:=I.tuple hq
  obtain⟨f0,f1,f2,f3,f4,f5⟩:=hf it (by simp)
  have hl:=rv.length
  exact wpAny_pyNext_tuple_end (I.ok.hd hc) st (show s.heap.IsTuple a its.toArray from p) (by simp;omega) fun h' eb=>⟨rfl,I.turned (t':=s.toks) (fun b o hb e=>eb b o hb e) f0 f1 f3 f4 f5⟩
 self:=fun _ _ _ _ _ st h=>wpAny_pyIter_tupleiter st h
theorem QQ{P:Program}{w:World}{K:PySem.W.Frag}{tg:Expr}(it:Addr)(lo:Int)(n:Nat):QO P w K tg (IN lo n) [it] it (fun i h=>IsRangeIter h it (lo+(i:Nat)*1) ((n:Int)-(i:Nat)) 1) where
 mem:=by simp
 obj:=fun i h st b hb=>by
  have e:b=it:=by simpa using hb
  subst e
  exact⟨_,st,fun v z=>by
   have z':Data.fields _=Data.cell v:=z
   cases z'⟩
 keep:=fun i h h' st k=>k it (by simp) _ st
 item:=by
  intro X hP hw hK hc i pins s σ H E I hf st hg
  subst hP hw hK
  obtain⟨f0,f1,f2,f3,f4,f5⟩:=hf it (by simp)
  have W:=Walks.range (prog:=X.prog) (w:=X.w) (I.ok.hd hc) it lo 1 n
  refine W.item i s _ _ hg st fun v h' tk hv st' kk=>?_
  obtain⟨t,rfl⟩:=hv
  have I1:Inv X pins σ H { s with heap:=h',toks:=tk }:=I.turned (fun b o hb e=>kk b o (by simpa using hb) e) f0 f1 f3 f4 f5
  refine⟨_,rfl,N1 (s:={ s with heap:=h',toks:=tk }) (n:="range_iterator") st' rfl rfl (by decide) ⟨.int (lo+i),H,I1,⟨t,?_⟩,⟨rfl,rfl⟩,st',fun b hb=>(hf b hb).1⟩⟩
  rw[Int.mul_one]
 done:=by
  intro X hP hw hK hc i pins s σ H E I hf st hg
  subst hP hw hK
  obtain⟨f0,f1,f2,f3,f4,f5⟩:=hf it (by simp)
  exact wpAny_pyNext_range_end (I.ok.hd hc) st (by have:n<=i:=hg;omega) fun h' eb=>⟨rfl,I.turned (t':=s.toks) (fun b o hb e=>eb b o hb e) f0 f1 f3 f4 f5⟩
 self:=fun _ _ _ _ _ st h=>wpAny_pyIter_rangeiter st h
section
variable {X:Cx} {tg:Expr}
def IP(K:PySem.W.Frag)(tl:TE):TI:=fun σ H R=>tl σ H fun x H1=>∃a,x = .ref a/\(∃xs,SqL K H1 a xs)/\R (Ga K a) H1
def Gb(K:PySem.W.Frag)(tl:TE):TI:=fun σ H R=>tl σ H fun x H1=>∃a,x = .ref a/\(∃xs,SqT K H1 a xs)/\R (GA K a) H1
theorem LH{l:Expr}{tl:TE}(hl:PE X l tl):PI X tg l (IP X.K tl):=by
 intro pins s σ H R I h
 refine YY (hl pins s σ H _ I h) fun v s1 ⟨x,H1,I1,r1,q1⟩=>?_
 obtain⟨a,e,⟨xs,hq⟩,q⟩:=q1
 subst e;cases r1
 obtain⟨its,rv,p,hz⟩:=I1.list hq
 refine wpAny_pyIter_list p.isList ?_
 refine⟨s1.heap.objs.size,[s1.heap.objs.size],_,_,H1,rfl,I1.kept (t':=s1.toks) fun b o e=>Heap.get?_push_of_some _ e,OX a _,⟨_,Heap.get?_push_size _ rfl,rfl,rfl⟩,fun b hb=>?_,q⟩
 have e:b=s1.heap.objs.size:=by simpa using hb
 subst e
 exact I1.fpOk (Nat.le_refl _) (I1.hok.fresh (Nat.le_refl _))
theorem Jz{l:Expr}{tl:TE}(hl:PE X l tl):PI X tg l (Gb X.K tl):=by
 intro pins s σ H R I h
 refine YY (hl pins s σ H _ I h) fun v s1 ⟨x,H1,I1,r1,q1⟩=>?_
 obtain⟨a,e,⟨xs,hq⟩,q⟩:=q1
 subst e;cases r1
 obtain⟨its,rv,p,hz⟩:=I1.tuple hq
 refine wpAny_pyIter_tuple (show s1.heap.IsTuple a its.toArray from p) ?_
 refine⟨s1.heap.objs.size,[s1.heap.objs.size],_,_,H1,rfl,I1.kept (t':=s1.toks) fun b o e=>Heap.get?_push_of_some _ e,QP a _,⟨_,Heap.get?_push_size _ rfl,rfl,rfl⟩,fun b hb=>?_,q⟩
 have e:b=s1.heap.objs.size:=by simpa using hb
 subst e
 exact I1.fpOk (Nat.le_refl _) (I1.hok.fresh (Nat.le_refl _))
theorem R8{pins:List (Addr×Obj)}{σ:St}{H:Hp}{s:Shared}{R:It->Hp->Prop}{E:Value->Shared->Prop}{lo hi:Int}{t u v:Tok}{tk:Nat}(I:Inv X pins σ H s)(h1 : -(2^62)<=lo)(h2:lo<2^62)(h3 : -(2^62)<=hi)(h4:hi<2^62)
  (q:R (IN lo (hi-lo).toNat) H):wpAny (model X.prog X.w) X.A (pyIter (.ref s.heap.objs.size)) (Gz X pins σ tg R) E { s with heap:=s.heap.push { cls:=.type "range",data:=.fields #[.int lo t,.int hi u,.int 1 v] },toks:=tk }:=by
 refine wpAny_pyIter_range (IsRange.new ..) (small_one h1 h2 h3 h4) ?_
 have I1:Inv X pins σ H { s with heap:=s.heap.push { cls:=.type "range",data:=.fields #[.int lo t,.int hi u,.int 1 v] },toks:=tk }:=I.kept fun b o e=>Heap.get?_push_of_some _ e
 refine⟨(s.heap.push { cls:=.type "range",data:=.fields #[.int lo t,.int hi u,.int 1 v] }).objs.size,[(s.heap.push { cls:=.type "range",data:=.fields #[.int lo t,.int hi u,.int 1 v] }).objs.size],_,_,H,rfl,
  I1.kept (t':=tk) fun b o e=>Heap.get?_push_of_some _ e,QQ _ lo (hi-lo).toNat,?_,fun b hb=>?_,q⟩
 ·have e1:lo+((0:Nat):Int)*1=lo:=by simp
  have e2:(((hi-lo).toNat:Nat):Int)-((0:Nat):Int)=Builtin.Range.rangeSize lo hi 1:=by rw[rangeSize_one];split<;>omega
  show IsRangeIter _ _ (lo+((0:Nat):Int)*1) ((((hi-lo).toNat:Nat):Int)-((0:Nat):Int)) 1
  rw[e1,e2]
  exact Heap.get?_push_size _ rfl
 ·have e:b=(s.heap.push { cls:=.type "range",data:=.fields #[.int lo t,.int hi u,.int 1 v] }).objs.size:=by simpa using hb
  subst e
  exact I1.fpOk (Nat.le_refl _) (I1.hok.fresh (Nat.le_refl _))
def IQ(ta:TA):TI:=fun σ H R=>ta σ H fun vs H1=>∃j:Int,vs=[.int j]/\-(2^62)<=j/\j<2^62/\R (IN 0 j.toNat) H1
def IR(ta:TA):TI:=fun σ H R=>ta σ H fun vs H1=>∃i j:Int,vs=[.int i,.int j]/\(-(2^62)<=i/\i<2^62/\-(2^62)<=j/\j<2^62)/\R (IN i (j-i).toNat) H1
theorem OY{a:Expr}{ta:TA}{p pos:Pos}(hg:Gl X "range")(hm:X.mg "range" = none)(ha:PA X [a] ta)(hs:starEach [a] X.env=[(false,eval a X.env)]:=by rfl):PI X tg (.Call (.Name "range" p) [a] [] pos) (IQ ta):=by
 intro pins s σ H R I h
 refine Call_ (Vr I hg hm boot_range (PyProof.Rows.callWith_type1 (YY (ha pos pins s σ H _ I h) fun us s1 ⟨vs,H1,I1,r1,q1⟩=>?_) hs rfl))
 obtain⟨j,e,q1,q2,q⟩:=q1
 subst e
 cases r1 with
 | cons r rr=>
  cases rr
  obtain⟨t,rfl⟩:=r
  exact call_range_1 (R8 I1 (by omega) (by omega) q1 q2 (by simpa using q))
theorem OZ{a b:Expr}{ta:TA}{p pos:Pos}(hg:Gl X "range")(hm:X.mg "range" = none)(ha:PA X [a,b] ta)(hs:starEach [a,b] X.env=[(false,eval a X.env),(false,eval b X.env)]:=by rfl)(hs2:starEach [b] X.env=[(false,eval b X.env)]:=by rfl) :
  PI X tg (.Call (.Name "range" p) [a,b] [] pos) (IR ta):=by
 intro pins s σ H R I h
 refine Call_ (Vr I hg hm boot_range (PyProof.Rows.callWith_type1 (YY (ha pos pins s σ H _ I h) fun us s1 ⟨vs,H1,I1,r1,q1⟩=>?_) (by rw[hs,hs2]) (by rw[hs2];rfl)))
 obtain⟨i,j,e,⟨q1,q2,q3,q4⟩,q⟩:=q1
 subst e
 cases r1 with
 | cons r rr=>
  cases rr with
  | cons r' rr=>
   cases rr
   obtain⟨t,rfl⟩:=r
   obtain⟨t',rfl⟩:=r'
   exact call_range_2 (R8 I1 q1 q2 q3 q4 q)
def Gc(wi:TI)(g:TG)(tb:TS):TS:=fun D σ H=>wi σ H fun J H1=>∃W:Nat->Nat->St->Hp->Prop,(∃m,W 0 m σ H1)/\∀i m σ H,W i m σ H->
 (J.stop i H/\D.nx σ H)\/(J.go i H/\∃N:St->Hp->Prop,(∀σ' H',N σ' H'->∃m',m'<m/\W (i+1) m' σ' H')/\∀x H',J.yld i H x H'->g x σ H' fun σ2 H2=>tb { D with nx:=N,ct:=N,bk:=D.nx } σ2 H2)
def Um(fp:List Addr)(h:Heap):List (Addr×Obj):=fp.filterMap fun b=>(h.get? b).map fun o=>(b,o)
theorem Wm{fp:List Addr}{h:Heap}{b:Addr}{o:Obj}(hb:b∈fp)(e:h.get? b=some o):(b,o)∈Um fp h:=List.mem_filterMap.mpr ⟨b,hb,by rw[e];rfl⟩
theorem O1{fp:List Addr}{h:Heap}{p:Addr×Obj}(hp:p∈Um fp h):p.1∈fp/\h.get? p.1=some p.2:=by
 obtain⟨b,hb,e⟩:=List.mem_filterMap.mp hp
 cases q:h.get? b with
 | none=>rw[q] at e;cases e
 | some o=>
  rw[q] at e
  have e':(b,o)=p:=Option.some.inj e
  subst e'
  exact⟨hb,q⟩
theorem Inv.pinned{pins:List (Addr×Obj)}{σ:St}{H:Hp}{s:Shared}{fp:List Addr}(I:Inv X pins σ H s)(hf:∀b∈fp,VF X pins H b)(ho:∀b∈fp,∃o,s.heap.get? b=some o/\∀v,o.data≠.cell v):Inv X (pins++Um fp s.heap) σ H s:=
 I.pins_of fun p hp=>(List.mem_append.mp hp).elim (fun z=>I.pin p (List.mem_append_right _ z)) fun z=>by
  obtain⟨hb,e⟩:=O1 z
  obtain⟨f0,f1,f2,_⟩:=hf p.1 hb
  obtain⟨o,e',d⟩:=ho p.1 hb
  rw[e] at e';cases e'
  exact⟨e,f0,f1,f2,d⟩
theorem Inv.unpinned{pins pl:List (Addr×Obj)}{σ:St}{H:Hp}{s:Shared}(I:Inv X (pins++pl) σ H s):Inv X pins σ H s:=I.pins_of fun p hp=>I.pin p (List.mem_append_right _ (List.mem_append_left _ hp))
theorem JA{iter:Expr}{body:List Stmt}{wi:TI}{g:TG}{tb:TS}{pos:Pos}(hp:PassesOwn (model X.prog X.w) X.A X.env X.xe)(hc:X.calm=true)(hi:PI X tg iter wi)(hg:PG X tg g)(hb:PSs X body tb)
  (hs:∀x,foldedSetIterable iter X.env x=pure x:=by intro _;rfl):PS X (.For tg iter body [] pos) (Gc wi g tb):=by
 intro pins s σ H D I h
 refine wpAny_For (YY (hi pins s σ H _ I h) fun v s1 h1=>YY h1 fun itv s2 h2=>?_) hs
 obtain⟨it,fp,tn,J,H2,e,I2,T,st2,f2,W,⟨m0,w0⟩,turn⟩:=h2
 subst e
 -- what stays true of the iterator's objects through the loop
 have stat:∀{H':Hp},(∀b∈fp,H' b=none)->∀b∈fp,VF X pins H' b:=fun hn b hb=>⟨hn b hb,(f2 b hb).2⟩
 refine codeAny_forLoop_any (fun n s'=>∃i σ' H',Inv X pins σ' H' s'/\tn i s'.heap/\(∀b∈fp,H' b=none)/\W i n σ' H') ?_ m0 ⟨0,σ,H2,I2,st2,fun b hb=>(f2 b hb).1,w0⟩
 rintro n s3 ⟨i,σ3,H3,I3,st3,fr3,w3⟩
 rcases turn i n σ3 H3 w3 with⟨stop,qn⟩ | ⟨go,N,hN,step⟩
 ·refine wpAny_passesOwn hp (YY (T.done X rfl rfl rfl hc i pins s3 σ3 H3 X.xe I3 (stat fr3) st3 stop) fun r s4 ⟨hr,I4⟩=>?_)
  subst hr
  exact wpAny_execs_nil ⟨σ3,H3,I4,qn⟩
 ·refine wpAny_passesOwn hp (YY (T.item X rfl rfl rfl hc i pins s3 σ3 H3 X.xe I3 (stat fr3) st3 go) fun r s4 ⟨u,hr,h4⟩=>?_)
  subst hr
  refine wpAny_passesOwn hp (YY h4 fun _ s5 ⟨x,H5,I5,r5,y5,st5,fr5⟩=>?_)
  have I5':=I5.pinned (stat fr5) (T.obj _ _ st5)
  refine wpAny_passesOwn hp (YY (hg _ s5 σ3 H5 x u _ I5' r5 (step x H5 y5)) fun _ s6 ⟨σ6,H6,I6,q6⟩=>?_)
  refine wpAny_passesOwn hp (YY (hb _ s6 σ6 H6 _ I6 q6) fun f s7 q7=>?_)
  have again:∀{σ7:St}{H7:Hp},Inv X (pins++Um fp s5.heap) σ7 H7 s7->N σ7 H7->∃m,m<n/\∃i σ' H',Inv X pins σ' H' s7/\tn i s7.heap/\(∀b∈fp,H' b=none)/\W i m σ' H':=fun{σ7 H7} I7 n7=>by
   obtain⟨m',hm,w7⟩:=hN σ7 H7 n7
   refine⟨m',hm,i+1,σ7,H7,I7.unpinned,T.keep _ _ _ st5 fun b hb o e=>(I7.pin (b,o) (List.mem_append_right _ (List.mem_append_right _ (Wm hb e)))).1,fun b hb=>?_,w7⟩
   obtain⟨o,e,d⟩:=T.obj _ _ st5 b hb
   exact(I7.pin (b,o) (List.mem_append_right _ (List.mem_append_right _ (Wm hb e)))).2.1
  cases f with
  | next=>obtain⟨σ7,H7,I7,n7⟩:=q7;exact again I7 n7
  | cont=>obtain⟨σ7,H7,I7,n7⟩:=q7;exact again I7 n7
  | brk=>obtain⟨σ7,H7,I7,q7⟩:=q7;exact⟨σ7,H7,I7.unpinned,q7⟩
  | ret v=>obtain⟨x7,σ7,H7,I7,r7,q7⟩:=q7;exact⟨x7,σ7,H7,I7.unpinned,r7,q7⟩
end
abbrev R2:=V->V->Hp->VK->Prop
def Uo(X:Cx)(f:Value->Value->Sem Value)(r:R2):Prop:=
 ∀(pins:List (Addr×Obj))(s:Shared)(σ:St)(H:Hp)(x y:V)(v u:Value)(Q:VK),Inv X pins σ H s->RelV x v->RelV y u->r x y H Q->
  wpAny (model X.prog X.w) X.A (f v u) (EP X pins σ Q) X.xe s
def Gd(X:Cx)(f:Value->Sem Value)(r:V->Hp->VK->Prop):Prop:=
 ∀(pins:List (Addr×Obj))(s:Shared)(σ:St)(H:Hp)(x:V)(v:Value)(Q:VK),Inv X pins σ H s->RelV x v->r x H Q->
  wpAny (model X.prog X.w) X.A (f v) (EP X pins σ Q) X.xe s
def Wd(X:Cx)(f:Value)(r:List V->Hp->VK->Prop):Prop:=
 ∀(pins:List (Addr×Obj))(s:Shared)(σ:St)(H:Hp)(xs:List V)(us:List Value)(Q:VK),Inv X pins σ H s->Vals xs us->r xs H Q->
  wpAny (model X.prog X.w) X.A (call f us) (EP X pins σ Q) X.xe s
def Ge(X:Cx)(r:V->Hp->(Bool->Hp->Prop)->Prop):Prop:=
 ∀(pins:List (Addr×Obj))(s:Shared)(σ:St)(H:Hp)(x:V)(v:Value)(Q:Bool->Hp->Prop),Inv X pins σ H s->RelV x v->r x H Q->
  wpAny (model X.prog X.w) X.A (truthy v) (TP X pins σ Q) X.xe s
def KZ(r:R2)(ta tb:TE):TE:=fun σ H Q=>ta σ H fun x H1=>tb σ H1 fun y H2=>r x y H2 Q
def GH(r:V->Hp->VK->Prop)(ta:TE):TE:=fun σ H Q=>ta σ H fun x H1=>r x H1 Q
def rI(C:Int->Int->Prop)(g:Int->Int->V):R2:=fun x y H Q=>∃i j,x = .int i/\y = .int j/\C i j/\Q (g i j) H
def LI(g:Int->Int->V):R2:=fun x y H Q=>∃i j,x = .int i/\y = .int j/\Q (g i j) H
def rU(g:Int->V):V->Hp->VK->Prop:=fun x H Q=>∃i,x = .int i/\Q (g i) H
section
variable {X:Cx} {a b c:Expr} {ta tb tc:TE} {pos:Pos}
theorem JB(ha:PE X a ta)(hb:PE X b tb){pins:List (Addr×Obj)}{s:Shared}{σ:St}{H:Hp}{R:V->V->Hp->Prop}(I:Inv X pins σ H s)
  (h:ta σ H fun x H1=>tb σ H1 fun y H2=>R x y H2) {Q:Value->Shared->Prop} {f:Value->Value->Sem Value}
  (hf:∀v u s2 x y H2,Inv X pins σ H2 s2->RelV x v->RelV y u->R x y H2->wpAny (model X.prog X.w) X.A (f v u) Q X.xe s2) :
  wpAny (model X.prog X.w) X.A (eval a X.env) (fun v s₁=>wpAny (model X.prog X.w) X.A (eval b X.env) (fun u s₂=>wpAny (model X.prog X.w) X.A (f v u) Q X.xe s₂) X.xe s₁) X.xe s:=by
 refine YY (ha pins s σ H _ I h) fun v s1 ⟨x,H1,I1,r1,q1⟩=>?_
 refine YY (hb pins s1 σ H1 _ I1 q1) fun u s2 ⟨y,H2,I2,r2,q2⟩=>?_
 exact hf v u s2 x y H2 I2 r1 r2 q2
theorem K1{op:Operator}{r:R2}(ho:Uo X (binaryOp op) r)(ha:PE X a ta)(hb:PE X b tb):PE X (.BinOp a op b pos) (KZ r ta tb):=by
 intro pins s σ H Q I h
 exact wpAny_BinOp (JB ha hb I h fun v u s2 x y H2 I2 rx ry q=>ho pins s2 σ H2 x y v u Q I2 rx ry q)
theorem IS{op:UnaryOp}{r:V->Hp->VK->Prop}(ho:Gd X (unaryOp op) r)(ha:PE X a ta):PE X (.UnaryOp op a pos) (GH r ta):=by
 intro pins s σ H Q I h
 exact UnaryOp_ (YY (ha pins s σ H _ I h) fun v s1 ⟨x,H1,I1,r1,q1⟩=>ho pins s1 σ H1 x v Q I1 r1 q1)
theorem Iz{f:Value->Value->Sem Value}{C:Int->Int->Prop}{g:Int->Int->Int}
  (rule:∀(i j:Int)(t u:Tok)(s:Shared)(Q:Value->Shared->Prop)(E:Value->Shared->Prop),C i j->Q (.int (g i j) s.toks) { s with toks:=s.toks+1 }->wpAny (model X.prog X.w) X.A (f (.int i t) (.int j u)) Q E s) :
  Uo X f (rI C fun i j=>.int (g i j)):=by
 intro pins s σ H x y v u Q I rx ry h
 obtain⟨i,j,rfl,rfl,hc,q⟩:=h
 obtain⟨t,rfl⟩:=rx
 obtain⟨t',rfl⟩:=ry
 exact rule i j t t' s _ _ hc ⟨.int (g i j),H,I.tok _,⟨_,rfl⟩,q⟩
theorem IT{f:Value->Value->Sem Value}{g:Int->Int->Int}
  (rule:∀(i j:Int)(t u:Tok)(s:Shared)(Q:Value->Shared->Prop)(E:Value->Shared->Prop),Q (.int (g i j) s.toks) { s with toks:=s.toks+1 }->wpAny (model X.prog X.w) X.A (f (.int i t) (.int j u)) Q E s) :
  Uo X f (LI fun i j=>.int (g i j)):=by
 intro pins s σ H x y v u Q I rx ry h
 obtain⟨i,j,rfl,rfl,q⟩:=h
 obtain⟨t,rfl⟩:=rx
 obtain⟨t',rfl⟩:=ry
 exact rule i j t t' s _ _ ⟨.int (g i j),H,I.tok _,⟨_,rfl⟩,q⟩
theorem JC{f:Value->Value->Sem Value}{g:Int->Int->Bool}
  (rule:∀(i j:Int)(t u:Tok)(s:Shared)(Q:Value->Shared->Prop)(E:Value->Shared->Prop),Q (.bool (g i j)) s->wpAny (model X.prog X.w) X.A (f (.int i t) (.int j u)) Q E s) :
  Uo X f (LI fun i j=>.bl (g i j)):=by
 intro pins s σ H x y v u Q I rx ry h
 obtain⟨i,j,rfl,rfl,q⟩:=h
 obtain⟨t,rfl⟩:=rx
 obtain⟨t',rfl⟩:=ry
 exact rule i j t t' s _ _ ⟨.bl (g i j),H,I,rfl,q⟩
def Rl(i j:Int):Prop:=0<j/\j<1073741824
def K2(i j:Int):Prop:=j≠0/\j.natAbs<1073741824
def Rq(i j:Int):Prop:=0<=j/\j<=1000000/\i.natAbs<2^64
def CMul(i j:Int):Prop:=(-(2^64)<i/\i<2^64)\/(-(2^64)<j/\j<2^64)
theorem CMul.ok{i j:Int}(h:CMul i j):IntMulOk i j:=by
 rcases h with⟨h1,h2⟩ | ⟨h1,h2⟩
 ·exact .of_left (intBits_le_64 h1 h2)
 ·exact .of_right (intBits_le_64 h1 h2)
theorem JD:Uo X (binaryOp .Add) (LI fun i j=>.int (i+j)):=IT fun _ _ _ _ _ _ _ q=>add_int q
theorem JE:Uo X (binaryOp .Sub) (LI fun i j=>.int (i-j)):=IT fun _ _ _ _ _ _ _ q=>sub_int q
theorem JF:Uo X (binaryOp .Mult) (rI CMul fun i j=>.int (i*j)):=Iz fun _ _ _ _ _ _ _ hc q=>mul_int q hc.ok
theorem LJ:Uo X (binaryOp .FloorDiv) (rI Rl fun i j=>.int (i/j)):=Iz fun i j _ _ _ _ _ hc q=>by
 have h1:(0:Int)<j:=hc.1
 have h2:j<1073741824:=hc.2
 exact floordiv_int (by omega) (by rw[Int.fdiv_eq_ediv_of_nonneg i (by omega)];exact q) (.inl (PyProof.noPylong_small (by omega)))
theorem JG:Uo X (binaryOp .Mod) (rI (fun _ j=>0<j) fun i j=>.int (i%j)):=Iz fun i j _ _ _ _ _ hc q=>by
 have h1:(0:Int)<j:=hc
 exact mod_int' (by omega) (by rw[Int.fmod_eq_emod_of_nonneg i (by omega)];exact q)
theorem JH:Uo X (binaryOp .Pow) (rI Rq fun i j=>.int (i^j.toNat)):=Iz fun _ _ _ _ _ _ _ hc q=>pow_int_small hc.1 hc.2.1 hc.2.2 q
theorem GI{f:Value->Sem Value}{g:Int->Int}
  (rule:∀(i:Int)(t:Tok)(s:Shared)(Q:Value->Shared->Prop)(E:Value->Shared->Prop),Q (.int (g i) s.toks) { s with toks:=s.toks+1 }->wpAny (model X.prog X.w) X.A (f (.int i t)) Q E s) :
  Gd X f (rU fun i=>.int (g i)):=by
 intro pins s σ H x v Q I rx h
 obtain⟨i,rfl,q⟩:=h
 obtain⟨t,rfl⟩:=rx
 exact rule i t s _ _ ⟨.int (g i),H,I.tok _,⟨_,rfl⟩,q⟩
theorem JI:Gd X (unaryOp .USub) (rU fun i=>.int (-i)):=GI fun _ _ _ _ _ q=>neg_int q
end
section
variable {X:Cx} {a b c:Expr} {ta tb tc:TE} {pos:Pos}
theorem K3:Uo X (compareOp .Lt) (LI fun i j=>.bl (decide (i<j))):=JC fun _ _ _ _ _ _ _ q=>lt_int q
theorem IU:Uo X (compareOp .Gt) (LI fun i j=>.bl (decide (j<i))):=JC fun _ _ _ _ _ _ _ q=>gt_int q
theorem IV:Uo X (compareOp .GtE) (LI fun i j=>.bl (decide (j<=i))):=JC fun _ _ _ _ _ _ _ q=>ge_int q
theorem Vs(b:Expr){op:CmpOp}(h:op≠.In:=by decide)(h2:op≠.NotIn:=by decide):behindInMarks op b=false:=by
 have e1:(op==CmpOp.In)=false:=by cases op<;>first | rfl | exact absurd rfl h
 have e2:(op==CmpOp.NotIn)=false:=by cases op<;>first | rfl | exact absurd rfl h2
 cases b<;>simp[behindInMarks,e1,e2]
theorem LK{op:CmpOp}{r:R2}(ho:Uo X (compareOp op) r)(ha:PE X a ta)(hb:PE X b tb)(hm:behindInMarks op b=false):PE X (.Compare a [op] [b] pos) (KZ r ta tb):=by
 intro pins s σ H Q I h
 exact wpAny_Compare1 (JB ha hb I h fun v u s2 x y H2 I2 rx ry q=>ho pins s2 σ H2 x y v u Q I2 rx ry q) hm
def P8(t:TE):TT:=fun σ H Q=>t σ H fun x H'=>∃k,x = .bl k/\Q k H'
theorem LL{op:CmpOp}{r:R2}(ho:Uo X (compareOp op) r)(ha:PE X a ta)(hb:PE X b tb)(hm:behindInMarks op b=false):PT X (.Compare a [op] [b] pos) (P8 (KZ r ta tb)):=by
 intro pins s σ H Q I h
 refine wpAny_isTrue_Compare1 (YY (ha pins s σ H _ I h) fun v s1 ⟨x,H1,I1,r1,q1⟩=>YY (hb pins s1 σ H1 _ I1 q1) fun u s2 ⟨y,H2,I2,r2,q2⟩=>
  YY (ho pins s2 σ H2 x y v u _ I2 r1 r2 q2) fun c s3 ⟨z,H3,I3,r3,k,e,q3⟩=>?_) hm
 subst e;cases r3
 exact wpAny_truthy_bool ⟨H3,I3,q3⟩
def Gf(K:PySem.W.Frag)(x:V)(H:Hp)(k:Bool):Prop:=
 match x with
 | .non=>k=false
 | .bl b=>k=b
 | .int i=>k=(i != 0)
 | .str y=>y.length<=sizeLine/\k=((y.length:Int) != 0)
 | .byt y=>y.size<=sizeLine/\k=((y.size:Int) != 0)
 | .ref p=>(∃xs,SqL K H p xs/\k = !xs.isEmpty)\/(∃xs,SqT K H p xs/\k = !xs.isEmpty)\/∃kvs,H p=some (.dK kvs)/\k = !kvs.isEmpty
 | _=>False
theorem QR{κ:Type}{kvs:List (κ×V)}{vs:List (κ×Value)}(r:KV kvs vs):(!vs.isEmpty) = !kvs.isEmpty:=by
 cases r<;>rfl
theorem Tx{xs:List V}{its:List Value}(r:Vals xs its):(!its.toArray.isEmpty) = !xs.isEmpty:=by
 cases r<;>simp
theorem Up:(sizeLine:Nat)<2^63:=by rw[sizeLine_eq];decide
theorem tru_ok:Ge X (fun x H Q=>∃k,Gf X.K x H k/\Q k H):=by
 intro pins s σ H x v Q I rx h
 obtain⟨k,e,q⟩:=h
 have hl:=Up
 have hs:sizeLine=16777216:=sizeLine_eq
 cases x with
 | non=>
  cases rx
  have e':k=false:=e
  subst e'
  exact truthy_none ⟨H,I,q⟩
 | bl b=>
  cases rx
  have e':k=b:=e
  subst e'
  exact wpAny_truthy_bool ⟨H,I,q⟩
 | int i=>
  obtain⟨t,rfl⟩:=rx
  have e':k=(i != 0):=e
  subst e'
  exact PySem.P.truthy_int ⟨H,I,q⟩
 | str y=>
  obtain⟨t,rfl⟩:=rx
  obtain⟨hy,e'⟩:y.length<=sizeLine/\k=((y.length:Int) != 0):=e
  subst e'
  exact PySem.P.truthy_str (by omega) ⟨H,I.tok _,q⟩
 | byt y=>
  obtain⟨t,rfl⟩:=rx
  obtain⟨hy,e'⟩:y.size<=sizeLine/\k=((y.size:Int) != 0):=e
  subst e'
  exact PySem.W.truthy_bytes (by omega) ⟨H,I.tok _,q⟩
 | ref p=>
  cases rx
  have e':(∃xs,SqL X.K H p xs/\k = !xs.isEmpty)\/(∃xs,SqT X.K H p xs/\k = !xs.isEmpty)\/∃kvs,H p=some (.dK kvs)/\k = !kvs.isEmpty:=e
  rcases e' with⟨xs,hx,e'⟩ | ⟨xs,hx,e'⟩ | ⟨kvs,hx,e'⟩
  ·subst e'
   obtain⟨its,r,pl,hz⟩:=I.list hx
   have hlen:=r.length
   exact wpAny_truthy_list pl.isList (by simp only[List.size_toArray];omega) ⟨H,I.tok _,by rw[Tx r];exact q⟩
  ·subst e'
   obtain⟨its,r,pl,hz⟩:=I.tuple hx
   have hlen:=r.length
   exact truthy_tuple pl (by simp only[List.size_toArray];omega) ⟨H,I.tok _,by rw[Tx r];exact q⟩
  ·subst e'
   obtain⟨hz,hS,vs,r,m⟩:kvs.length<=sizeLine/\(p==sysModules)=false/\∃vs,KV kvs vs/\s.heap.DictOf (Rh X.prog X.w) p vs:=I.hok p _ hx
   have hlen:kvs.length=vs.length:=Paired.length r
   exact wpAny_truthy_dict hS m (by omega) ⟨H,I.tok _,by rw[QR r];exact q⟩
 | _=>exact(show False from e).elim
theorem SE{x:V}{us:List Value}(r:Vals [x] us):∃u,us=[u]/\RelV x u:=by
 cases r with
 | cons r1 r2=>cases r2;exact⟨_,rfl,r1⟩
theorem K4{x y:V}{us:List Value}(r:Vals [x,y] us):∃u w',us=[u,w']/\RelV x u/\RelV y w':=by
 cases r with
 | cons r1 r2=>
  cases r2 with
  | cons r3 r4=>cases r4;exact⟨_,_,rfl,r1,r3⟩
theorem N2:Wd X (.builtin "abs") (fun xs H Q=>∃i,xs=[.int i]/\Q (.int (if i<0 then -i else i)) H):=by
 intro pins s σ H xs us Q I r h
 obtain⟨i,rfl,q⟩:=h
 obtain⟨u,rfl,t,rfl⟩:=SE r
 exact call_abs_int fun u tk=>⟨.int (if i<0 then -i else i),H,I.tok _,⟨_,rfl⟩,q⟩
theorem O2(hc:X.calm=true):Wd X (.builtin "min") (fun xs H Q=>∃i j,xs=[.int i,.int j]/\Q (.int (if j<i then j else i)) H):=by
 intro pins s σ H xs us Q I r h
 obtain⟨i,j,rfl,q⟩:=h
 obtain⟨u,w',rfl,⟨t,rfl⟩,⟨t',rfl⟩⟩:=K4 r
 refine min_two_ints (I.ok.hd hc) fun h' tk k=>⟨_,H,I.kept k,?_,q⟩
 by_cases hj:j<i
 ·rw[if_pos hj,if_pos hj];exact⟨_,rfl⟩
 ·rw[if_neg hj,if_neg hj];exact⟨_,rfl⟩
def IW(K:PySem.W.Frag)(x:V)(H:Hp)(n:Nat):Prop:=
 match x with
 | .str y=>y.length<=sizeLine/\n=y.length
 | .byt y=>y.size<=sizeLine/\n=y.size
 | .ref p=>(∃xs,SqL K H p xs/\n=xs.length)\/∃xs,SqT K H p xs/\n=xs.length
 | _=>False
theorem YW:Wd X (.builtin "len") (fun xs H Q=>∃x n,xs=[x]/\IW X.K x H n/\Q (.int n) H):=by
 intro pins s σ H xs us Q I r h
 obtain⟨x,n,rfl,e,q⟩:=h
 obtain⟨u,rfl,rx⟩:=SE r
 have hl:=Up
 have hs:sizeLine=16777216:=sizeLine_eq
 cases x with
 | str y=>
  obtain⟨t,rfl⟩:=rx
  obtain⟨hy,e'⟩:y.length<=sizeLine/\n=y.length:=e
  subst e'
  exact len_str (by omega) ⟨.int _,H,I.tok _,⟨_,rfl⟩,q⟩
 | byt y=>
  obtain⟨t,rfl⟩:=rx
  obtain⟨hy,e'⟩:y.size<=sizeLine/\n=y.size:=e
  subst e'
  exact PySem.W.len_bytes (by omega) ⟨.int _,H,I.tok _,⟨_,rfl⟩,q⟩
 | ref p=>
  cases rx
  have e':(∃xs,SqL X.K H p xs/\n=xs.length)\/∃xs,SqT X.K H p xs/\n=xs.length:=e
  rcases e' with⟨xs,hx,e'⟩ | ⟨xs,hx,e'⟩
  ·subst e'
   obtain⟨its,r',pl,hz⟩:=I.list hx
   have hlen:=r'.length
   exact Calls.call_len_list pl.isList (by simp only[List.size_toArray];omega) ⟨.int xs.length,H,I.tok _,⟨_,by simp only[List.size_toArray];rw[hlen]⟩,q⟩
  ·subst e'
   obtain⟨its,r',pl,hz⟩:=I.tuple hx
   have hlen:=r'.length
   exact len_tuple pl (by simp only[List.size_toArray];omega) ⟨.int xs.length,H,I.tok _,⟨_,by simp only[List.size_toArray];rw[hlen]⟩,q⟩
 | _=>exact(show False from e).elim
end
structure ObjM(h:Heap)(x dx C:Addr)(mA:Str->Option Value):Prop where
 obj:h.get? x=some (PySem.W.instObj C dx)
 ns:h.Ns1 dx mA
 ne:dx≠x
theorem O3{h:Heap}{dx:Addr}{mA:Str->Option Value}(n:h.Ns1 dx mA):∃od,h.get? dx=some od/\∀name,PySem.W.lookIn name od=some (mA name):=by
 obtain⟨o,es,ep,ho,hd,hk,_,hm⟩:=n
 refine⟨o,ho,fun name=>?_⟩
 have e:=hm name;unfold nsFind findBy at e;rw[<-Array.find?_toList] at e;unfold PySem.W.lookIn;rw[hd]
 dsimp only
 split
 ·rename_i y q
  rw[q] at e
  exact congrArg some e
 ·rename_i q
  rw[q] at e
  have a:es.toList.any (·.refKey)=false:=by
   rw[List.any_eq_false];intro y hy
   obtain⟨z,t,hkey⟩:=hk y (Array.mem_toList_iff.mp hy)
   simp[DictEntry.refKey,hkey]
  have a':¬es.toList.any (·.refKey)=true:=by rw[a];exact Bool.false_ne_true
  rw[if_neg a']
  exact congrArg some e
theorem ObjM.look{h:Heap}{x dx C:Addr}{mA:Str->Option Value}(I:ObjM h x dx C mA):∃od,PySem.W.InstAt h x (PySem.W.instObj C dx) C (some od)/\∀name,PySem.W.lookIn name od=some (mA name):=
 let⟨od,ho,hl⟩:=O3 I.ns
 ⟨od,⟨I.obj,rfl,rfl,ho⟩,hl⟩
section
variable {P:Program} {w:World} {H H':Hp} {h h':Heap} {a C dx:Addr} {fs fs':List (Str×V)}
theorem LM(hok:HOk P w H h)(e:H a=some (.ins C dx fs)):∃mA,ObjM h a dx C mA/\(∀f,Jj (fs.lookup f) (mA f))/\PySem.Within mA (fs.map (·.1))/\fs.length<=1000/\H dx=some (.own a):=by
 obtain⟨d,z,ne,ob,mA,n,r,q⟩:=(show ObjOk P w H h a (.ins C dx fs) from hok a _ e)
 exact⟨mA,⟨ob,n,ne⟩,r,q,z,d⟩
end
structure Cls(K:PySem.W.Frag)(C:Addr):Prop where
 pg:PySem.W.plainGet K C Str.empty=true
 hd:PySem.W.hasDictIn K C=true
 po:PySem.W.plainOver K C=true
 sa:PySem.W.findIn K (.ref C) "__setattr__" = some (some (.builtin "object.__setattr__"))
theorem Cls.get{K:PySem.W.Frag}{C:Addr}(c:Cls K C)(f:Str):PySem.W.plainGet K C f=true:=c.pg
section
variable {X:Cx} {pins:List (Addr×Obj)} {σ:St} {H:Hp} {s:Shared} {A:Around} {E:Value->Shared->Prop} {Q:Value->Shared->Prop} {c:Value} {b:Bool}
inductive TyOf(K:PySem.W.Frag)(H:Hp):V->Value->Prop where
 | non:TyOf K H .non (.type "NoneType")
 | bl (x:Bool):TyOf K H (.bl x) (.type "bool")
 | int (i:Int):TyOf K H (.int i) (.type "int")
 | str (x:Str):TyOf K H (.str x) (.type "str")
 | flt (x:UInt64):TyOf K H (.flt x) (.type "float")
 | lst {a:Addr} {xs:List V} (e:H a=some (.lst xs)):TyOf K H (.ref a) (.type "list")
 | frz {a:Addr} {o:Obj} {xs:List V} (e:H a=some (.frz o (.lst xs))):TyOf K H (.ref a) (.type "list")
 | tup {a:Addr} {xs:List V} (e:H a=some (.tup xs)):TyOf K H (.ref a) (.type "tuple")
 | dK {a:Addr} {kvs:List (Tc×V)} (e:H a=some (.dK kvs)):TyOf K H (.ref a) (.type "dict")
 | dT {a:Addr} {kvs:List (List Tc×V)} (e:H a=some (.dT kvs)):TyOf K H (.ref a) (.type "dict")
 | ins {a C dx:Addr} {fs:List (Str×V)} (e:H a=some (.ins C dx fs)) (cl:Cls K C) (ha:PySem.W.findIn K (.ref C) "__class__" = some (some (.builtin "object.__class__")))
   (hn:PySem.W.specialIn K (.builtin "object.__class__") "__get__" = some (some (.builtin "getset_descriptor.__get__"))) (htk:PySem.W.takesIn K (.builtin "object.__class__")=some true)
   (hm:PySem.W.mroIn K C (.type "object")=some true):TyOf K H (.ref a) (.ref C)
theorem O4{x:V}{u t:Value}(I:Inv X pins σ H s)(rx:RelV x u)(ty:TyOf X.K H x t)(e:PySem.W.kitOne X.K t c=some b)(h:∀tk,Q (.bool b) { s with toks:=tk }) :
  wpAny (model X.prog X.w) A (call (.builtin "isinstance") [u,c]) Q E s:=by
 cases ty with
 | non=>cases (show u=Value.none from rx);exact PySem.W.kia_one PySem.W.kitx_none I.kIn True.intro e (fun z=>nomatch z) h
 | bl y=>cases (show u=Value.bool y from rx);exact PySem.W.kia_one PySem.W.kitx_bool I.kIn True.intro e (fun z=>nomatch z) h
 | int i=>obtain⟨t,q⟩:=(show ∃t,u=Value.int i t from rx);cases q;exact PySem.W.kia_one PySem.W.kitx_int I.kIn True.intro e (fun z=>nomatch z) h
 | str y=>obtain⟨t,q⟩:=(show ∃t,u=Value.str y t from rx);cases q;exact PySem.W.kia_one PySem.W.kitx_str I.kIn True.intro e (fun z=>nomatch z) h
 | flt y=>obtain⟨t,q⟩:=(show ∃t,u=Value.float y t from rx);cases q;exact PySem.W.kia_one PySem.W.kitx_float I.kIn True.intro e (fun z=>nomatch z) h
 | @lst a xs ea=>
  cases (show u=Value.ref a from rx)
  obtain⟨_,_,n,_,h1⟩:=(show ObjOk X.prog X.w H s.heap a (.lst xs) from I.hok a _ ea)
  exact PySem.W.kia_one PySem.W.kitx_list I.kIn ⟨_,h1,rfl⟩ e (fun z=>nomatch z) h
 | @frz a ob xs ea=>
  cases (show u=Value.ref a from rx)
  obtain⟨_,_,_,n,_,h1⟩:=(show ObjOk X.prog X.w H s.heap a (.frz ob (.lst xs)) from I.hok a _ ea)
  exact PySem.W.kia_one PySem.W.kitx_list I.kIn ⟨_,h1,rfl⟩ e (fun z=>nomatch z) h
 | @tup a xs ea=>
  cases (show u=Value.ref a from rx)
  obtain⟨_,_,_,p⟩:=(show ObjOk X.prog X.w H s.heap a (.tup xs) from I.hok a _ ea)
  obtain⟨o,h1,h2,_⟩:=p
  exact PySem.W.kia_one PySem.W.kitx_tuple I.kIn ⟨o,h1,h2⟩ e (fun z=>nomatch z) h
 | @dK a kvs ea=>
  cases (show u=Value.ref a from rx)
  obtain⟨_,_,vs,_,p⟩:=(show ObjOk X.prog X.w H s.heap a (.dK kvs) from I.hok a _ ea)
  obtain⟨o,es,ep,h1,h2,_⟩:=p
  exact PySem.W.kia_one PySem.W.kitx_dict I.kIn ⟨o,h1,h2.1⟩ e (fun z=>nomatch z) h
 | @dT a kvs ea=>
  cases (show u=Value.ref a from rx)
  obtain⟨_,_,xs,_,o,es,ep,h1,h2,_⟩:=(show ObjOk X.prog X.w H s.heap a (.dT kvs) from I.hok a _ ea)
  exact PySem.W.kia_one PySem.W.kitx_dict I.kIn ⟨o,h1,h2.1⟩ e (fun z=>nomatch z) h
 | @ins a C dx fs ea cl ha hn htk hm=>
  cases (show u=Value.ref a from rx)
  obtain⟨mA,O,_⟩:=LM I.hok ea
  obtain⟨od,J,_⟩:=O.look
  exact PySem.W.kia_one (PySem.W.kitx_own (cl.get _) cl.hd ha hn htk hm) I.kIn J e (fun z=>nomatch z) h
end
structure Room(k:Nat)(A:Around):Prop where
 hd:A.handled=none
 dp:A.depth+3*k+5<recursionLimit
 un:A.units+16*k+200<cLine
 gd:A.guards=some []
theorem Room.mono{j k:Nat}{A:Around}(r:Room k A)(h:j<=k):Room j A:=⟨r.hd,by have:=r.dp;omega,by have:=r.un;omega,r.gd⟩
theorem Room.deeper{k:Nat}{A:Around}(r:Room (k+1) A)(env:Env):Room k (A.deeper env):=
 ⟨r.hd,by have:=r.dp;show A.depth+1+3*k+5<_;omega,by have:=r.un;show A.units+3+16*k+200<_;omega,r.gd⟩
theorem Room.depth{k:Nat}{A:Around}(r:Room k A):A.depth<recursionLimit:=by have:=r.dp;omega
theorem Room.units{k:Nat}{A:Around}(r:Room k A):A.units+64<cLine:=by have:=r.un;omega
def N3:TA:=fun _ H Q=>Q [] H
def Vn(ta:TE)(tr:TA):TA:=fun σ H Q=>ta σ H fun x H1=>tr σ H1 fun xs H2=>Q (x::xs) H2
section
variable {X:Cx} {e:Expr} {es:List Expr} {te:TE} {t:TA} {pos:Pos}
theorem Wn:PA X [] N3:=fun _ _ _ _ H Q I h=>Calls.spliced_nil ⟨[],H,I,.nil,h⟩
theorem Yl(ha:PE X e te)(hr:PA X es t)(hs:starEach (e::es) X.env=(false,eval e X.env)::starEach es X.env:=by rfl):PA X (e::es) (Vn te t):=by
 intro pos pins s σ H Q I h;rw[hs]
 show wpAny _ _ (spliced ((false,eval e X.env)::backTo pos (starEach es X.env))) _ _ s
 refine Calls.spliced_cons (YY (ha pins s σ H _ I h) fun u s1 ⟨x,H1,I1,r1,q1⟩=>?_)
 exact YY (hr pos pins s1 σ H1 _ I1 q1) fun us s2 ⟨xs,H2,I2,r2,q2⟩=>⟨x::xs,H2,I2,.cons r1 r2,q2⟩
def JJ(t:TA):TE:=fun σ H Q=>t σ H fun xs H1=>xs.length<=sizeLine/\∀p,H1 p=none->Q (.ref p) (upd H1 p (.tup xs))
def Gg(t:TA):TE:=fun σ H Q=>t σ H fun xs H1=>xs.length<=sizeLine/\∀p,H1 p=none->Q (.ref p) (upd H1 p (.lst xs))
theorem Ty{x1}(h:PA X es t):PE X (.Tuple es x1 pos) (JJ t):=by
 intro pins s σ H Q I hq
 refine wpAny_Tuple_spliced (YY (h pos pins s σ H _ I hq) fun us s1 ⟨xs,H1,I1,r,z,q⟩=>⟨by rw[<-r.length];exact z,?_⟩)
 have hf:H1 s1.heap.objs.size=none:=I1.hok.fresh (Nat.le_refl _)
 refine⟨.ref s1.heap.objs.size,upd H1 s1.heap.objs.size (.tup xs),I1.laid (t':=s1.toks) (fun b u e=>Heap.get?_push_of_some _ e) (Nat.le_refl _) ?_,rfl,q _ hf⟩
 exact⟨z,us,r,⟨_,Heap.get?_push_size _ rfl,rfl,_,rfl⟩⟩
theorem N4(h:PA X es t):PE X (.List es pos) (Gg t):=by
 intro pins s σ H Q I hq
 refine wpAny_List_spliced (YY (h pos pins s σ H _ I hq) fun us s1 ⟨xs,H1,I1,r,z,q⟩=>⟨by rw[<-r.length];exact z,?_⟩)
 have hf:H1 s1.heap.objs.size=none:=I1.hok.fresh (Nat.le_refl _)
 refine⟨.ref s1.heap.objs.size,upd H1 s1.heap.objs.size (.lst xs),I1.laid (t':=s1.toks) (fun b u e=>Heap.get?_push_of_some _ e) (Nat.le_refl _) ?_,rfl,q _ hf⟩
 exact⟨z,us,0,r,Heap.get?_push_size _ rfl⟩
end
abbrev Sp:=List V->Hp->VK->XK->Prop
abbrev LN:=List Env->Hp->Shared->XK->Value->Shared->Prop
structure LO(P:Program)(w:World)(K:PySem.W.Frag)(mg:Str->Option Value)(base:Heap)(A:Around)(outer:List Env)(s:Shared)(H:Hp):Prop where
 frames:A.frames=some outer
 mod:Mod K mg base
 bs:∀b o,base.get? b=some o->s.heap.get? b=some o/\H b=none
 bsz:base.objs.size<=s.heap.objs.size
 funs:s.heap.FunFrames base outer
 frf:∀b∈QJ outer,H b=none
 hok:HOk P w H s.heap
 bare:AllBare s.gens
def CE(outer:List Env)(P:Program)(w:World)(H:Hp)(s:Shared)(Q:VK)(u:Value)(s':Shared):Prop:=
 ∃v H',s'.os=s.os/\AllBare s'.gens/\Un (QJ outer) [] H H' s.heap s'.heap/\HOk P w H' s'.heap/\RelV v u/\Q v H'
def CR(CX:LN)(outer:List Env)(P:Program)(w:World)(H:Hp)(s:Shared)(Q:VK)(E:XK)(r:Result)(s':Shared):Prop:=
 match r with
 | .ok (.ret u)=>CE outer P w H s Q u s'
 | .ok _=>False
 | .error e=>CX outer H s E e s'
structure U2(P:Program)(w:World)(K:PySem.W.Frag)(mg:Str->Option Value)(base:Heap)(CX:LN)(k:Nat)(f:Addr)(fd:FuncData)(ps:List Str)(sp:Sp):Prop where
 len:∀vs H Q E,sp vs H Q E->vs.length=ps.length
 run:∀(A:Around)(outer:List Env)(s:Shared)(H:Hp)(args:Args)(us:List Value)(vs:List V)(Q:VK)(E:XK),Room k A->LO P w K mg base A outer s H->BindsTo s fd args (ps.zip us)->Vals vs us->sp vs H Q E->
  codeAny (model P w) A (.call (.ref f) args) (CR CX outer P w H s Q E) s
section
variable {X:Cx} {pins:List (Addr×Obj)} {σ:St} {H:Hp} {s s':Shared}
theorem Inv.env0(I:Inv X pins σ H s):LO X.prog X.w X.K X.mg X.base X.A X.stack s H:=
 ⟨I.ok.frames,I.ok.mod,I.bs,Nat.le_trans I.ok.bsz I.sz,I.stack,I.stkFree,I.hok,I.bare⟩
theorem Inv.after{Q:VK}{u:Value}(I:Inv X pins σ H s)(h:CE X.stack X.prog X.w H s Q u s'):EP X pins σ Q u s':=by
 obtain⟨v,H',os,bare,un,hok,r,q⟩:=h
 obtain⟨hh,g,d,t,os'⟩:=s'
 obtain rfl:os'=s.os:=os
 exact⟨v,H',I.call (h':=hh) (g':=g) (d':=d) (t':=t) (ch:=[]) un hok bare (fun b z=>absurd z (by simp)),r,q⟩
end
def N5(sp:Sp)(dvs:List V)(E:XK)(t:TA):TE:=fun σ H Q=>t σ H fun vs H1=>sp (vs++dvs) H1 Q E
def Binds(K:PySem.W.Frag)(fd:FuncData)(ps:List Str)(ds:List Value):Prop:=
 ∀(s:Shared)(us:List Value),K.In s.heap->(us++ds).length=ps.length->BindsTo s fd ⟨us,[]⟩ (ps.zip (us++ds))
theorem Binds.all{K:PySem.W.Frag}{fd:FuncData}{ps:List Str}(h:∀us:List Value,us.length=ps.length->bindArgs fd ⟨us,[]⟩=pure (ps.zip us)):Binds K fd ps []:=fun s us _ hl=>by
 rw[List.append_nil] at hl ⊢
 exact .of_eq (h us hl)
def QS(CX:LN)(X:Cx)(E:XK):Prop:=∀(pins:List (Addr×Obj))(σ:St)(H:Hp)(s:Shared)(e:Value)(s':Shared),Inv X pins σ H s->CX X.stack H s E e s'->X.xe e s'
section
variable {X:Cx} {CX:LN} {k:Nat} {f C:Addr} {fd:FuncData} {ps:List Str} {sp:Sp} {dvs:List V} {ds:List Value} {E:XK} {x m:Str} {p pos apos:Pos} {e o:Expr} {es:List Expr} {ta:TE} {t:TA}
theorem JK{pins:List (Addr×Obj)}{σ:St}{H:Hp}{s:Shared}{Q:VK}{us:List Value}{vs:List V}(F:U2 X.prog X.w X.K X.mg X.base CX k f fd ps sp)(hr:Room k X.A)(hb:Binds X.K fd ps ds)(hd:Vals dvs ds)(hx:QS CX X E)
  (I:Inv X pins σ H s) (r:Vals vs us) (h:sp (vs++dvs) H Q E):wpAny (model X.prog X.w) X.A (call (.ref f) us) (EP X pins σ Q) X.xe s:=by
 have r2:Vals (vs++dvs) (us++ds):=r.append hd
 have hl:(us++ds).length=ps.length:=by rw[<-r2.length];exact F.len _ _ _ _ h
 refine wpAny_call (codeAny_mono (F.run X.A X.stack s H ⟨us,[]⟩ (us++ds) (vs++dvs) Q E hr I.env0 (hb s us I.kIn hl) r2 h) fun r s' hq=>?_)
 cases r with
 | error e=>exact hx pins σ H s e s' I hq
 | ok fl=>
  cases fl with
  | ret u=>exact I.after hq
  | next=>exact False.elim hq
  | brk=>exact False.elim hq
  | cont=>exact False.elim hq
theorem LP(F:U2 X.prog X.w X.K X.mg X.base CX k f fd ps sp)(hr:Room k X.A)(hg:Gl X x)(hm:X.mg x=some (.ref f))(hk:PySem.W.keepIn X.K (.ref f)=true)(hb:Binds X.K fd ps ds)(hd:Vals dvs ds)(hx:QS CX X E)
  (ha:PA X (e::es) t) (hdb:(x==("__debug__" : Str))=false:=by decide) (he:starEach (e::es) X.env=(false,eval e X.env)::starEach es X.env:=by rfl) (hpl:(backTo pos (starEach es X.env)).any (·.1)=false:=by rfl) :
  PE X (.Call (.Name x p) (e::es) [] pos) (N5 sp dvs E t):=by
 intro pins s σ H Q I h
 refine wpAny_Call_Name_kw (P5 I hg hm ?_ hdb)
 refine PySem.W.callWith_K (h₀:=X.base) I.ok.mod.kin hk (YY (ha pos pins s σ H _ I h) fun us s1 ⟨vs,H1,I1,r,q⟩=>⟨I1.kIn,?_⟩) he hpl
 exact JK F hr hb hd hx I1 r q
end
structure Zx(N P:List Str)(sc:Scope):Prop where
 kind:sc.kind = .function
 co:sc.isCoroutine=false
 gen:sc.isGenerator=false
 nd:N.Nodup
 pre:N.take P.length=P
 par:∀x∈P,sc.names.lookup x=some .local\/sc.names.lookup x=some .cell
 nofree:∀y∈sc.names,y.2≠.free
theorem SF{kindOf:Str->Option NameKind}{x:Str}:∀{binds:List (Str×Value)}{m:Str->Option Value},(∀v,(x,v)∉binds)->bindL kindOf binds m x=m x
 | [],_,_=>rfl
 | (n,v)::r,m,h=>by
  unfold bindL;rw[SF fun w hw=>h w (List.mem_cons_of_mem _ hw)]
  split
  ·have:x≠n:=by rintro rfl;exact h v List.mem_cons_self
   simp[this]
  ·rfl
theorem SG{kindOf:Str->Option NameKind}{x:Str}:∀{binds:List (Str×Value)}{m:Str->Option Value},(∀v,(x,v)∉binds)->bindC kindOf binds m x=m x
 | [],_,_=>rfl
 | (n,v)::r,m,h=>by
  unfold bindC;rw[SG fun w hw=>h w (List.mem_cons_of_mem _ hw)]
  split
  ·rfl
  ·have:x≠n:=by rintro rfl;exact h v List.mem_cons_self
   simp[this]
theorem SH{kindOf:Str->Option NameKind}{x:Str}{v:Value}:∀{P:List Str}{vs:List Value}{i:Nat}{m:Str->Option Value},P.Nodup->P[i]?=some x->vs[i]?=some v->kindOf x=some .local->
  bindL kindOf (P.zip vs) m x=some v
 | [],_,_,_,_,h,_,_=>by simp at h
 | _::_,[],_,_,_,_,h,_=>by simp at h
 | p::P,w::vs,0,m,nd,h1,h2,hk=>by
  simp at h1 h2;subst h1;subst h2
  show bindL kindOf ((p,w)::P.zip vs) m p=_
  unfold bindL;rw[SF fun v hv=>(List.nodup_cons.mp nd).1 (List.of_mem_zip hv).1,if_pos hk]
  simp
 | p::P,w::vs,i+1,m,nd,h1,h2,hk=>by
  show bindL kindOf ((p,w)::P.zip vs) m x=_
  unfold bindL
  exact SH (i:=i) (List.nodup_cons.mp nd).2 (by simpa using h1) (by simpa using h2) hk
theorem SI{kindOf:Str->Option NameKind}{x:Str}{v:Value}:∀{P:List Str}{vs:List Value}{i:Nat}{m:Str->Option Value},P.Nodup->P[i]?=some x->vs[i]?=some v->kindOf x≠some .local->
  bindC kindOf (P.zip vs) m x=some v
 | [],_,_,_,_,h,_,_=>by simp at h
 | _::_,[],_,_,_,_,h,_=>by simp at h
 | p::P,w::vs,0,m,nd,h1,h2,hk=>by
  simp at h1 h2;subst h1;subst h2
  show bindC kindOf ((p,w)::P.zip vs) m p=_
  unfold bindC;rw[SG fun v hv=>(List.nodup_cons.mp nd).1 (List.of_mem_zip hv).1,if_neg hk]
  simp
 | p::P,w::vs,i+1,m,nd,h1,h2,hk=>by
  show bindC kindOf ((p,w)::P.zip vs) m x=_
  unfold bindC
  exact SI (i:=i) (List.nodup_cons.mp nd).2 (by simpa using h1) (by simpa using h2) hk
def start(N:List Str)(vs:List V):St:=vs.map some++List.replicate (N.length-vs.length) none
def Sw(CX:LN)(P:Program)(w:World)(K:PySem.W.Frag)(mg:Str->Option Value)(base:Heap)(N:List Str)(qual:Str)(scope:Scope)(f:Addr)(cd:Value)(A:Around)(outer:List Env)(s:Shared)(H:Hp)(E:XK):Cx where
 prog:=P
 w:=w
 K:=K
 mg:=mg
 base:=base
 A:=A.deeper (envOfC qual scope s.heap.objs.size f cd)
 N:=N
 s₀:=s
 H₀:=H
 env:=envOfC qual scope s.heap.objs.size f cd
 outer:=outer
 stack:=envOfC qual scope s.heap.objs.size f cd::outer
 ex:=[]
 calm:=true
 fn:=fun _=>true
 pn:=[]
 xe:=fun e s'=>wpAny (model P w) (A.deeper (envOfC qual scope s.heap.objs.size f cd)) (leaving (envOfC qual scope s.heap.objs.size f cd) e) (fun _ s''=>CX outer H s E e s'') (fun e' s''=>CX outer H s E e' s'') s'
theorem R9{sc:Scope}{n:Nat}{x:Str}(h:sc.names.lookup x=some .cell):∃c,(cellsFrom n sc.names []).lookup x=some c:=by
 have q:=PySem.W.cellsFrom_some sc.names n [] (.inl h)
 exact Option.isSome_iff_exists.mp q
theorem O5{CX:LN}{P:Program}{w:World}{K:PySem.W.Frag}{mg:Str->Option Value}{base:Heap}{N ps:List Str}{qual:Str}{scope:Scope}{f:Addr}{cd:Value}{A:Around}{outer:List Env}{s s1:Shared}{H:Hp}{E:XK}{us:List Value}{vs:List V}
  (S:Zx N ps scope) (hd:A.handled=none) (e0:LO P w K mg base A outer s H) (hl:vs.length=ps.length) (r:Vals vs us)
  (x:InCallC s s.heap.objs.size (bindL (envOfC qual scope s.heap.objs.size f cd).kindOf (ps.zip us) fun _=>none) (cellsFrom (s.heap.objs.size+1) scope.names []) (bindC (envOfC qual scope s.heap.objs.size f cd).kindOf (ps.zip us) fun _=>none) s1) :
  Inv (Sw CX P w K mg base N qual scope f cd A outer s H E) [] (start N vs) H s1:=by
 have hpl:ps.length<=N.length:=by have:=congrArg List.length S.pre;rw[List.length_take] at this;omega
 obtain⟨h1,tk,rfl,hk⟩:=x.done
 have noA:∀b:Addr,b∉(Sw CX P w K mg base N qual scope f cd A outer s H E).ex:=fun b z=>absurd (show b∈([]:List Addr) from z) (by simp)
 refine⟨⟨e0.mod,S.kind,rfl,rfl,Nat.le_refl _,fun y z c h1 h2=>?_,fun y hy=>?_,fun y c _ h=>?_,fun _=>hd,Around.frames_deeper e0.frames,.inr ⟨rfl,rfl⟩,fun b z=>absurd z (noA b),e0.bs,e0.bsz,fun b _ _=>noA b,fun b z=>absurd z (noA b),e0.funs,e0.frf⟩,
  rfl,e0.bare,Un.kept hk,⟨_,x.toInCall.ns,fun i y v h1 h2 h3=>?_⟩,fun y c h=>⟨_,x.cell y c h⟩,e0.hok.fresh (Nat.le_refl _),fun y c h=>?_,fun p hp=>absurd (show p∈([]:List (Addr×Obj)) from hp) (by simp),e0.hok.kept hk,?_⟩
 ·exact name_of_addr x.apart (PySem.mem_of_lookup h1) (PySem.mem_of_lookup h2)
 ·have hy:scope.names.lookup y=some .cell\/scope.names.lookup y=some .free:=hy
  rcases hy with hy | hy
  ·exact R9 hy
  ·exact absurd rfl (S.nofree _ (PySem.mem_of_lookup hy))
 ·exact Nat.le_of_lt (x.above y c (PySem.mem_of_lookup h))
 ·have hi:i<vs.length:=by
   unfold start at h2
   by_cases hi:i<vs.length
   ·exact hi
   ·rw[List.getElem?_append_right (by simpa using hi)] at h2
    rw[List.getElem?_replicate] at h2
    split at h2<;>cases h2
  have ha:vs[i]?=some v:=by
   unfold start at h2;rw[List.getElem?_append_left (by simpa using hi),List.getElem?_map] at h2
   cases e:vs[i]? with
   | none=>rw[e] at h2;cases h2
   | some a=>rw[e] at h2;cases h2;rfl
  obtain⟨u,hu,rv⟩:=r.get ha
  have hp:ps[i]?=some y:=by
   rw[<-S.pre,List.getElem?_take_of_lt (by omega)];exact h1
  have ndP:ps.Nodup:=by rw[<-S.pre];exact S.nd.sublist (List.take_sublist _ _)
  refine⟨u,rv,?_⟩
  rcases S.par y (List.mem_of_getElem? hp) with k | k
  ·exact .inl ⟨k,SH ndP hp hu k⟩
  ·obtain⟨c,e⟩:=R9 (n:=s.heap.objs.size+1) k
   refine .inr ⟨.inl k,c,e,?_⟩
   have q:=x.cell y c e
   rw[SI ndP hp hu (by show scope.names.lookup y≠_;rw[k];decide)] at q
   exact q
 ·exact e0.hok.fresh (Nat.le_of_lt (x.above y c (PySem.mem_of_lookup h)))
 ·unfold start
  show _=N.length
  rw[List.length_append,List.length_map,List.length_replicate];omega
theorem IX{CX:LN}{P:Program}{w:World}{K:PySem.W.Frag}{mg:Str->Option Value}{base:Heap}{k:Nat}{f:Addr}{name qual:Str}{params:Arguments}{body:List Stmt}{scope:Scope}{dV kV doc pm cdv ct oc:Value}{an od:Option Addr}
  {osl:Array (Option Value)} {N ps:List Str} {sp:Sp} (lk:K.lookup f=some ⟨oc,od,.func (PySem.W.fnOf name qual params body scope dV kV doc pm an cdv ct),osl⟩) (hcd:PySem.W.codeIn K cdv qual=true) (S:Zx N ps scope)
  (len:∀vs H Q E,sp vs H Q E->vs.length=ps.length)
  (hbody:∀(A:Around)(outer:List Env)(s:Shared)(H:Hp)(vs:List V)(Q:VK)(E:XK),Room k (A.deeper (envOfC qual scope s.heap.objs.size f cdv))->sp vs H Q E->
   ∃t,PSs (Sw CX P w K mg base N qual scope f cdv A outer s H E) body t/\t { nx:=fun _ H'=>Q .non H',rt:=Q } (start N vs) H) :
  U2 P w K mg base CX (k+1) f (PySem.W.fnOf name qual params body scope dV kV doc pm an cdv ct) ps sp:=by
 refine⟨len,fun A outer s H args us vs Q E hr e0 hb r hsp=>?_⟩
 have hl:=len _ _ _ _ hsp
 have KX:K.In s.heap:=e0.mod.kin.keeps fun b o e=>(e0.bs b o e).1
 have lim:s.heap.NoLimit:=e0.mod.nolimit.keeps fun b o e=>(e0.bs b o e).1
 have hkind:∀y∈ps.zip us,scope.names.lookup y.1=some .local\/(scope.names.lookup y.1=some .cell/\((cellsFrom (s.heap.objs.size+1) scope.names []).lookup y.1).isSome=true):=fun⟨n,v⟩ hy=>by
  rcases S.par n (List.of_mem_zip hy).1 with q | q
  ·exact .inl q
  ·exact .inr ⟨q,PySem.W.cellsFrom_some _ _ _ (.inl q)⟩
 refine codeAny_call_function hr.depth (KX _ _ lk) rfl S.co S.gen rfl (PySem.W.codeRec_of KX hcd) (hb _ _ _ _ ?_)
 refine wpAny_newFunctionEnv_cells S.kind hkind fun env he s1 x=>?_
 subst he
 refine⟨lim.keeps x.toInCall.keep,codeAny_func ?_⟩
 obtain⟨t,ht,hq⟩:=hbody A outer s H vs Q E (hr.deeper _) hsp
 have I:Inv (Sw CX P w K mg base N qual scope f cdv A outer s H E) [] (start N vs) H s1:=O5 S hr.hd e0 hl r x
 refine wpAny_mono (ht [] s1 (start N vs) H _ I hq) (fun fl s' hs=>?_) fun e s' hs=>hs
 have fin:∀{σ':St}{H':Hp}{v:V}{u:Value},Inv (Sw CX P w K mg base N qual scope f cdv A outer s H E) [] σ' H' s'->RelV v u->Q v H'->CE outer P w H s Q u s':=
  fun{σ' H' v u} J rv q=>⟨v,H',J.os,J.bare,J.base,J.hok,rv,q⟩
 cases fl with
 | ret u=>
  obtain⟨v,σ',H',J,rv,q⟩:=hs
  exact fin J rv q
 | next=>
  obtain⟨σ',H',J,q⟩:=hs
  exact fin (v:=V.non) (u:=Value.none) J rfl q
 | brk=>
  obtain⟨_,_,_,q⟩:=hs
  exact False.elim q
 | cont=>
  obtain⟨_,_,_,q⟩:=hs
  exact False.elim q
section
variable {X:Cx} {x:Str} {p pos:Pos} {e:Expr} {es:List Expr} {t:TA} {id T:String} {r:List V->Hp->VK->Prop}
def HD(r:List V->Hp->VK->Prop)(t:TA):TE:=fun σ H Q=>t σ H fun vs H1=>r vs H1 Q
theorem N6(hc:Wd X (.builtin id) r)(hg:Gl X x)(hm:X.mg x=none)(hv:bootBuiltins x=some (.builtin id))(ha:PA X (e::es) t)(hn:x≠"__name__":=by decide)(hdb:(x==("__debug__" : Str))=false:=by decide)
  (he:starEach (e::es) X.env=(false,eval e X.env)::starEach es X.env:=by rfl) (hpl:(backTo pos (starEach es X.env)).any (·.1)=false:=by rfl):PE X (.Call (.Name x p) (e::es) [] pos) (HD r t):=by
 intro pins s σ H Q I h
 refine wpAny_Call_Name_kw (Vr I hg hm hv ?_ hn hdb)
 exact PyProof.Rows.callWith_builtin1 (YY (ha pos pins s σ H _ I h) fun us s1 ⟨vs,H1,I1,r1,q1⟩=>hc pins s1 σ H1 vs us Q I1 r1 q1) he hpl
theorem SJ(hc:Wd X (.type T) r)(hg:Gl X x)(hm:X.mg x=none)(hv:bootBuiltins x=some (.type T))(ha:PA X (e::es) t)(hn:x≠"__name__":=by decide)(hdb:(x==("__debug__" : Str))=false:=by decide)
  (he:starEach (e::es) X.env=(false,eval e X.env)::starEach es X.env:=by rfl) (hpl:(backTo pos (starEach es X.env)).any (·.1)=false:=by rfl):PE X (.Call (.Name x p) (e::es) [] pos) (HD r t):=by
 intro pins s σ H Q I h
 refine wpAny_Call_Name_kw (Vr I hg hm hv ?_ hn hdb)
 exact PyProof.Rows.callWith_type1 (YY (ha pos pins s σ H _ I h) fun us s1 ⟨vs,H1,I1,r1,q1⟩=>hc pins s1 σ H1 vs us Q I1 r1 q1) he hpl
end
end L2
namespace HT
open PySem PyProof.Rows
section
variable {prog:Program} {w:World} {A:Around} {E:Value->Shared->Prop} {s:Shared}
theorem cat_tup{t b:Addr}{vs ws:List Value}{Q:Value->Shared->Prop}(ht:IsTup s.heap t vs.toArray)(hb:IsTup s.heap b ws.toArray)(hv:vs≠[])
  (h1:ws=[]->Q (.ref t) s) (h2:ws≠[]->Q (.ref s.heap.objs.size) { s with heap:=s.heap.push { cls:=.type "tuple",data:=.seq (vs++ws).toArray } })
  (hsz:vs.length+ws.length<=sizeLine):wpAny (model prog w) A (binaryOp .Add (.ref t) (.ref b)) Q E s:=by
 obtain⟨⟨cls,dd,data,sl⟩,ho,hc,n,hd⟩:=id ht
 obtain⟨⟨cls2,dd2,data2,sl2⟩,ho2,hc2,n2,hd2⟩:=id hb
 simp only at hc hd hc2 hd2
 subst hc hd hc2 hd2
 have e:vs.toArray++ws.toArray=(vs++ws).toArray:=by simp
 by_cases hw:ws=[]
 ·exact concat_meets ⟨_,ho,rfl⟩ ⟨_,ho2,rfl⟩ noFill_tuple_add seq_tuple_add PySem.F.slot_tuple_add PySem.F.entry_tuple_add (PySem.F.args_tuple_add_2 _ _)
   (tuple_addW1 t b vs.toArray ws.toArray n n2 dd dd2 sl sl2 (by simpa using hv) (by simp[hw])) ⟨ho,ho2,h1 hw⟩
 ·refine concat_meets ⟨_,ho,rfl⟩ ⟨_,ho2,rfl⟩ noFill_tuple_add seq_tuple_add PySem.F.slot_tuple_add PySem.F.entry_tuple_add (PySem.F.args_tuple_add_2 _ _)
   (tuple_addW2 t b vs.toArray ws.toArray n n2 dd dd2 sl sl2 (by simpa using hv) (by simpa using hw) (by rw[List.size_toArray,List.size_toArray];exact hsz)) ⟨ho,ho2,?_⟩
  rw[e]
  exact h2 hw
def sIx(n d:Nat):Option Int->Nat
 | none=>d
 | some v=>if v<0 then(v+(n:Int)).toNat else min v.toNat n
theorem sIx_none(n d:Nat):sIx n d none=d:=rfl
theorem sIx_nat(n d k:Nat):sIx n d (some (k:Int))=min k n:=by
 show(if(k:Int)<0 then((k:Int)+(n:Int)).toNat else min (k:Int).toNat n)=min k n
 rw[if_neg (by omega),Int.toNat_natCast]
theorem JL(n d:Nat)(hd:d<=n)(o:Option Int):sIx n d o<=n:=by
 cases o with
 | none=>exact hd
 | some v=>
  show(if v<0 then(v+(n:Int)).toNat else min v.toNat n)<=n
  by_cases hv:v<0
  ·rw[if_pos hv];omega
  ·rw[if_neg hv];exact Nat.min_le_right _ _
theorem P9(v:Int)(n d:Nat):(if v<0 then max (v+(n:Int)) 0 else min v (n:Int))=((sIx n d (some v):Nat):Int):=by
 show(if v<0 then max (v+(n:Int)) 0 else min v (n:Int))=(((if v<0 then(v+(n:Int)).toNat else min v.toNat n):Nat):Int)
 by_cases hv:v<0
 ·simp only[if_pos hv];omega
 ·simp only[if_neg hv];omega
theorem QT(lo hi:Option Int)(n:Nat):Builtin.Slice.sliceAdjust lo hi 1 (n:Int)=(((sIx n 0 lo:Nat):Int),((sIx n n hi:Nat):Int)):=by
 have h1:¬((1:Int)<0):=by omega
 unfold Builtin.Slice.sliceAdjust;simp only[h1,if_false]
 refine Prod.ext ?_ ?_
 ·cases lo with
  | none=>rfl
  | some v=>exact P9 v n 0
 ·cases hi with
  | none=>rfl
  | some v=>exact P9 v n n
theorem QU(i j:Nat):Builtin.Slice.slicePlaces (i:Int) (j:Int) 1=j-i:=by
 unfold Builtin.Slice.slicePlaces
 have h1:(1:Int)>0:=by omega
 simp only[h1,if_true,Int.ediv_one]
 split<;>omega
theorem Tz{v:Value}{o:Option Int}{Q:Option Int->Shared->Prop}(p:IsPart v o)(h:Q o s):wpAny (model prog w) A (Builtin.Slice.slicePartIndex v) Q E s:=by
 cases p with
 | none=>exact slicePart_none h
 | int i t=>exact slicePart_int h
theorem Uq{sl:Addr}{vl vu:Value}{lo hi:Option Int}{n:Nat}{Q:Int×Int×Nat->Shared->Prop}(hs:s.heap.IsSliceOf sl vl vu .none)(pl:IsPart vl lo)(pu:IsPart vu hi)
  (h:Q (((sIx n 0 lo:Nat):Int),1,sIx n n hi-sIx n 0 lo) s):wpAny (model prog w) A (Builtin.Slice.sliceApplied (.ref sl) (pure (n:Int))) Q E s:=by
 obtain⟨os,hos,hcs,hds⟩:=id hs
 unfold Builtin.Slice.sliceApplied Builtin.Slice.sliceFields
 refine wpAny_bind (wpAny_bind (wpAny_field hos hds (x:=vl) rfl (wpAny_bind (wpAny_field hos hds (x:=vu) rfl (wpAny_bind (wpAny_field hos hds (x:=.none) rfl (wpAny_pure ?_)))))))
 refine wpAny_bind (slicePart_none ?_)
 show wpAny _ _ (if((1:Int)==0)=true then _ else _) _ _ s
 rw[if_neg (by decide)]
 refine wpAny_bind (Tz pl (wpAny_bind (Tz pu (wpAny_bind (wpAny_pure ?_)))))
 show wpAny _ _ (match Builtin.Slice.sliceAdjust lo hi 1 (n:Int) with | (lo,hi)=>pure (lo,(1:Int),Builtin.Slice.slicePlaces lo hi 1)) _ _ s
 rw[QT lo hi n]
 show wpAny _ _ (pure (((sIx n 0 lo:Nat):Int),(1:Int),Builtin.Slice.slicePlaces ((sIx n 0 lo:Nat):Int) ((sIx n n hi:Nat):Int) 1)) _ _ s
 rw[QU]
 exact wpAny_pure h
theorem N7(xs:Array Value)(i k:Nat):((List.range k).filterMap fun(m:Nat)=>xs[((i:Int)+(m:Int)*1).toNat]?).toArray=((xs.toList.drop i).take k).toArray:=by
 have e:(fun(m:Nat)=>xs[((i:Int)+(m:Int)*1).toNat]?)=fun m=>xs[i+m]?:=by
  funext m
  have:((i:Int)+(m:Int)*1).toNat=i+m:=by omega
  rw[this]
 rw[e]
 have:=pick_run xs i k
 rw[List.filterMap_map] at this
 have e2:((fun x=>xs[x]?) ∘ fun x=>i+x)=fun m=>xs[i+m]?:=rfl
 rw[e2] at this;rw[this]
theorem getItem_tuple_cut{t sl:Addr}{items:Array Value}{vl vu:Value}{lo hi:Option Int}{Q:Value->Shared->Prop}(ht:IsTup s.heap t items)(hs:s.heap.IsSliceOf sl vl vu .none)(pl:IsPart vl lo)(pu:IsPart vu hi)
  (hw:¬(sIx items.size 0 lo=0/\sIx items.size items.size hi=items.size))
  (h:Q (.ref s.heap.objs.size) { s with heap:=s.heap.push { cls:=.type "tuple",data:=.seq ((items.toList.drop (sIx items.size 0 lo)).take (sIx items.size items.size hi-sIx items.size 0 lo)).toArray } })
  (hsz:items.size<=sizeLine):wpAny (model prog w) A (getItem (.ref t) (.ref sl)) Q E s:=by
 have htake:sizeOk (.seq ((items.toList.drop (sIx items.size 0 lo)).take (sIx items.size items.size hi-sIx items.size 0 lo)).toArray):=by
  show((items.toList.drop (sIx items.size 0 lo)).take (sIx items.size items.size hi-sIx items.size 0 lo)).toArray.size<=sizeLine
  rw[List.size_toArray,List.length_take,List.length_drop,Array.length_toList];omega
 have hj:sIx items.size items.size hi<=items.size:=JL _ _ (Nat.le_refl _) hi
 obtain⟨os,hos,hcs,hds⟩:=id hs
 have hTs:s.TypeIs (.ref sl) "slice":=⟨os,hos,hcs⟩
 unfold getItem
 try with_reducible refine wpAny_holding ?_
 first | refine wpAny_bind (wpAny_pure ?_) | skip
 refine wpAny_bind (wpAny_sequenceKey ht.typeIs (by decide) ?_)
 refine wpAny_bind (wpAny_callSpecial?_slot (name:=Str.ofString "__getitem__") ht.typeIs PyProof.Rows.slot_tuple_getitem
  (wpAny_call_entry PyProof.Rows.slot_tuple_getitem ht.typeIs entry_tuple_getitem ?_ (args_tuple_getitem _ _)))
 show wpAny _ _ (Builtin.Tuple.tupleItemsOf (.ref t) >>= _) _ _ s
 refine wpAny_bind (tupleItemsOf_ ht ?_)
 refine wpAny_bind (wpAny_typeOf hTs ?_)
 rw[if_pos (by decide)]
 refine wpAny_bind (Uq hs pl pu ?_)
 have hno:¬((((sIx items.size 0 lo:Nat):Int)==0&&(1:Int)==1&&(sIx items.size items.size hi-sIx items.size 0 lo)==items.size)=true):=by
  intro q;rw[Bool.and_eq_true,Bool.and_eq_true] at q
  have q1:((sIx items.size 0 lo:Nat):Int)=0:=eq_of_beq q.1.1
  have q2:sIx items.size items.size hi-sIx items.size 0 lo=items.size:=eq_of_beq q.2
  exact hw ⟨by omega,by omega⟩
 show wpAny _ _ (if(((sIx items.size 0 lo:Nat):Int)==0&&(1:Int)==1&&(sIx items.size items.size hi-sIx items.size 0 lo)==items.size)=true then _ else _) _ _ s
 rw[if_neg hno,N7]
 first
  | exact wpAny_bind (m:=Builtin.Tuple.tupleExact _) (wpAny_newObj_type (wpAny_pure ⟨_,rfl,wpAny_pure h⟩) htake)
  | exact wpAny_bind (m:=Builtin.Tuple.tupleExact _) (wpAny_newObj_type (wpAny_bind (wpAny_pure (wpAny_pure ⟨_,rfl,wpAny_pure h⟩))) htake)
  | exact wpAny_bind (wpAny_bind (m:=Builtin.Tuple.tupleExact _) (wpAny_newObj_type (wpAny_pure (wpAny_pure ⟨_,rfl,wpAny_pure h⟩)) htake))
  | exact wpAny_bind (wpAny_bind (m:=Builtin.Tuple.tupleExact _) (wpAny_newObj_type (wpAny_pure ⟨_,rfl,wpAny_pure h⟩) htake))
end
end HT
namespace L2
open PySem PySem.Spec PyProof.Rows
abbrev TO:=St->Hp->(Option Int->Hp->Prop)->Prop
def PO(X:Cx)(e:Option Expr)(t:TO):Prop:=
 ∀(pins:List (Addr×Obj))(s:Shared)(σ:St)(H:Hp)(Q:Option Int->Hp->Prop),Inv X pins σ H s->t σ H Q->
  wpAny (model X.prog X.w) X.A (evalPart e X.env) (fun u s'=>∃o H',Inv X pins σ H' s'/\IsPart u o/\Q o H') X.xe s
def LQ:TO:=fun _ H Q=>Q none H
def IY(t:TE):TO:=fun σ H Q=>t σ H fun x H1=>∃i,x = .int i/\Q (some i) H1
section
variable {X:Cx} {e:Expr} {te:TE} {lo hi:Option Expr} {tl th:TO} {pos p2:Pos}
theorem LR:PO X none LQ:=by
 intro pins s σ H Q I h;rw[evalPart_none]
 exact wpAny_pure ⟨none,H,I,.none,h⟩
theorem LS(h:PE X e te):PO X (some e) (IY te):=by
 intro pins s σ H Q I hw;rw[evalPart_some]
 refine YY (h pins s σ H _ I hw) fun u s1 ⟨x,H1,I1,r1,q1⟩=>?_
 obtain⟨i,rfl,q⟩:=q1
 obtain⟨t,rfl⟩:=r1
 exact⟨some i,H1,I1,.int i t,q⟩
def Gh(X:Cx)(r:V->Option Int->Option Int->Hp->VK->Prop):Prop:=
 ∀(pins:List (Addr×Obj))(s:Shared)(σ:St)(H:Hp)(x:V)(v vl vu:Value)(lo hi:Option Int)(sl:Addr)(Q:VK),Inv X pins σ H s->RelV x v->s.heap.IsSliceOf sl vl vu .none->IsPart vl lo->IsPart vu hi->r x lo hi H Q->
  ∃T id,typeLookup (.type T) "__getitem__" = pure (some (.builtin id))/\s.TypeIs v T/\wpAny (model X.prog X.w) X.A (getItem v (.ref sl)) (EP X pins σ Q) X.xe s
def GJ(r:V->Option Int->Option Int->Hp->VK->Prop)(te:TE)(tl th:TO):TE:=fun σ H Q=>te σ H fun x H1=>tl σ H1 fun l H2=>th σ H2 fun u H3=>r x l u H3 Q
theorem Qa{r:V->Option Int->Option Int->Hp->VK->Prop}(hr:Gh X r)(he:PE X e te)(hl:PO X lo tl)(hu:PO X hi th):PE X (.Subscript e (.Slice lo hi none p2) pos) (GJ r te tl th):=by
 intro pins s σ H Q I h
 refine Subscript_ (YY (he pins s σ H _ I h) fun v s1 ⟨x,H1,I1,r1,q1⟩=>?_)
 refine wpAny_Slice (YY (hl pins s1 σ H1 _ I1 q1) fun vl s2 ⟨l,H2,I2,pl,q2⟩=>YY (hu pins s2 σ H2 _ I2 q2) fun vu s3 ⟨u,H3,I3,pu,q3⟩=>?_)
 rw[evalPart_none]
 refine wpAny_pure ?_
 have I4:Inv X pins σ H3 { s3 with heap:=s3.heap.push { cls:=.type "slice",data:=.fields #[vl,vu,.none] } }:=I3.kept (t':=s3.toks) fun b ob q=>Heap.get?_push_of_some _ q
 obtain⟨T,id,hT,ht,hg⟩:=hr pins { s3 with heap:=s3.heap.push { cls:=.type "slice",data:=.fields #[vl,vu,.none] } } σ H3 x v vl vu l u s3.heap.objs.size Q I4 r1 (Heap.IsSliceOf.new ..) pl pu q3
 show wpAny (model X.prog X.w) X.A (subscriptTail e (.Slice lo hi none p2) v (.ref s3.heap.objs.size)) (EP X pins σ Q) X.xe { s3 with heap:=s3.heap.push { cls:=.type "slice",data:=.fields #[vl,vu,.none] } }
 exact tail_any (ops:=[.ref s3.heap.objs.size,v]) ht hT hg (by with_unfolding_all rfl)
def Qb(xs:List V)(lo hi:Option Int):List V:=(xs.drop (HT.sIx xs.length 0 lo)).take (HT.sIx xs.length xs.length hi-HT.sIx xs.length 0 lo)
theorem UT(xs:List V)(lo hi:Option Int):(Qb xs lo hi).length<=xs.length:=by
 unfold Qb;rw[List.length_take,List.length_drop];omega
def Gi(K:PySem.W.Frag):V->Option Int->Option Int->Hp->VK->Prop:=fun x lo hi H Q=>∃a xs,x = .ref a/\SqT K H a xs/\
 ¬(HT.sIx xs.length 0 lo=0/\HT.sIx xs.length xs.length hi=xs.length)/\∀p,H p=none->Q (.ref p) (upd H p (.tup (Qb xs lo hi)))
theorem JM:Gh X (Gi X.K):=by
 intro pins s σ H x v vl vu lo hi sl Q I rx hs pl pu h
 obtain⟨a,xs,rfl,hx,hw,q⟩:=h
 cases rx
 obtain⟨its,r,ht,hz⟩:=I.tuple hx
 have hlen:its.toArray.size=xs.length:=by rw[List.size_toArray];exact r.length.symm
 refine⟨"tuple",_,PyProof.Rows.slot_tuple_getitem.lookup,ht.typeIs,?_⟩
 refine HT.getItem_tuple_cut ht hs pl pu (by rw[hlen];exact hw) ?_ (by rw[hlen];exact hz)
 rw[hlen]
 refine⟨.ref s.heap.objs.size,_,I.laid (t':=s.toks) (o:=.tup (Qb xs lo hi)) (fun b ob q=>Heap.get?_push_of_some _ q) (Nat.le_refl _) ?_,rfl,q _ (I.hok.fresh (Nat.le_refl _))⟩
 exact⟨Nat.le_trans (UT xs lo hi) hz,_,(r.drop (HT.sIx xs.length 0 lo)).take (HT.sIx xs.length xs.length hi-HT.sIx xs.length 0 lo),IsTup.new _ _⟩
def IZ(K:PySem.W.Frag):R2:=fun x y H Q=>∃a b xs ys,x = .ref a/\y = .ref b/\SqT K H a xs/\SqT K H b ys/\xs≠[]/\xs.length+ys.length<=sizeLine/\
 (ys=[]->Q (.ref a) H)/\(ys≠[]->∀p,H p=none->Q (.ref p) (upd H p (.tup (xs++ys))))
theorem Vals.nil_iff{xs:List V}{us:List Value}(r:Vals xs us):us=[]↔xs=[]:=by
 cases r with
 | nil=>simp
 | cons _ _=>simp
theorem LT:Uo X (binaryOp .Add) (IZ X.K):=by
 intro pins s σ H x y v u Q I rx ry h
 obtain⟨a,b,xs,ys,rfl,rfl,ha,hb,hx,hz,q1,q2⟩:=h
 cases rx;cases ry
 obtain⟨its,r1,p1,_⟩:=I.tuple ha
 obtain⟨its2,r2,p2,_⟩:=I.tuple hb
 refine HT.cat_tup p1 p2 (fun z=>hx (r1.nil_iff.mp z)) (fun z=>⟨.ref a,H,I,rfl,q1 (r2.nil_iff.mp z)⟩) (fun z=>?_) (by rw[<-r1.length,<-r2.length];exact hz)
 refine⟨.ref s.heap.objs.size,_,I.laid (t':=s.toks) (o:=.tup (xs++ys)) (fun b ob q=>Heap.get?_push_of_some _ q) (Nat.le_refl _) ?_,rfl,q2 (fun w=>z (r2.nil_iff.mpr w)) _ (I.hok.fresh (Nat.le_refl _))⟩
 exact⟨by rw[List.length_append];exact hz,_,r1.append r2,IsTup.new _ _⟩
end
def R5(n:Nat)(i:Int):Option Nat:=if 0<=i then(if i<n then some i.toNat else none) else if -(n:Int)<=i then some (i+n).toNat else none
def Ur{α:Type}(xs:List α)(i:Int):Option α:=(R5 xs.length i).bind fun j=>xs[j]?
theorem Oa{n:Nat}{i:Int}{j:Nat}(h:R5 n i=some j):seqIndex? i n=some j/\j<n/\-(n:Int)<=i/\i<n:=by
 unfold R5 at h
 by_cases h0:0<=i
 ·rw[if_pos h0] at h
  by_cases h1:i<n
  ·rw[if_pos h1] at h
   have e:i.toNat=j:=Option.some.inj h
   exact⟨by rw[seqIndex_of h0 h1,e],by omega,by omega,h1⟩
  ·rw[if_neg h1] at h;cases h
 ·rw[if_neg h0] at h
  by_cases h1 : -(n:Int)<=i
  ·rw[if_pos h1] at h
   have e:(i+n).toNat=j:=Option.some.inj h
   exact⟨by rw[seqIndex_neg (by omega) h1,e],by omega,h1,by omega⟩
  ·rw[if_neg h1] at h;cases h
theorem Rr{α:Type}{xs:List α}{i:Int}{v:α}(h:Ur xs i=some v):∃j,seqIndex? i xs.length=some j/\xs[j]?=some v/\j<xs.length/\-(xs.length:Int)<=i/\i<xs.length:=by
 unfold Ur at h
 cases e:R5 xs.length i with
 | none=>rw[e] at h;cases h
 | some j=>
  rw[e] at h
  obtain⟨h1,h2,h3,h4⟩:=Oa e
  exact⟨j,h1,h,h2,h3,h4⟩
theorem W7{α:Type}{xs:List α}{j:Nat}{v:α}(h:xs[j]?=some v):Ur xs (j:Int)=some v:=by
 have hj:j<xs.length:=(List.getElem?_eq_some_iff.mp h).1
 have e:R5 xs.length (j:Int)=some j:=by
  unfold R5
  rw[if_pos (by omega),if_pos (by omega)];simp
 unfold Ur;rw[e];exact h
def Rt(b:Expr):Prop:=∀o i,subscripted b false o i=operate [o,i] (getItem o i)
def IxR(X:Cx)(r:R2):Prop:=
 ∀(value slice:Expr)(pins:List (Addr×Obj))(s:Shared)(σ:St)(H:Hp)(x y:V)(v u:Value)(Q:VK),Inv X pins σ H s->RelV x v->RelV y u->r x y H Q->
  subscripted slice false v u=operate [v,u] (getItem v u)->wpAny (model X.prog X.w) X.A (subscriptTail value slice v u) (EP X pins σ Q) X.xe s
def GK(X:Cx)(id:String)(r:V->List V->Hp->VK->Prop):Prop:=
 ∀(pins:List (Addr×Obj))(s:Shared)(σ:St)(H:Hp)(x:V)(xs:List V)(v:Value)(us:List Value)(Q:VK),Inv X pins σ H s->RelV x v->Vals xs us->r x xs H Q->
  wpAny (model X.prog X.w) X.A (call (.builtin id) (v::us)) (EP X pins σ Q) X.xe s
section
variable {X:Cx} {a b:Expr} {ta tb:TE} {pos:Pos}
theorem IxR.or{r r':R2}(h:IxR X r)(h':IxR X r'):IxR X (fun x y H Q=>r x y H Q\/r' x y H Q):=by
 intro value slice pins s σ H x y v u Q I rx ry q hs
 rcases q with q | q
 ·exact h value slice pins s σ H x y v u Q I rx ry q hs
 ·exact h' value slice pins s σ H x y v u Q I rx ry q hs
theorem TB{r:R2}(hr:IxR X r)(ha:PE X a ta)(hb:PE X b tb)(hs:Rt b):PE X (.Subscript a b pos) (KZ r ta tb):=by
 intro pins s σ H Q I h
 exact Subscript_ (JB ha hb I h fun v u s2 x y H2 I2 rx ry q=>hr a b pins s2 σ H2 x y v u Q I2 rx ry q (hs _ _))
def JN(K:PySem.W.Frag):R2:=fun x y H Q=>∃p xs i v,x = .ref p/\y = .int i/\SqL K H p xs/\Ur xs i=some v/\Q v H
def LU(K:PySem.W.Frag):R2:=fun x y H Q=>∃p xs i v,x = .ref p/\y = .int i/\SqT K H p xs/\Ur xs i=some v/\Q v H
def Ha:R2:=fun x y H Q=>∃z i c,x = .str z/\y = .int i/\z.length<=sizeLine/\Ur z.cps.toList i=some c/\Q (.str ⟨#[c]⟩) H
theorem ix_list:IxR X (JN X.K):=by
 intro value slice pins s σ H x y v u Q I rx ry h hs
 obtain⟨p,xs,i,z,rfl,rfl,hq,he,q⟩:=h
 cases rx
 obtain⟨t,rfl⟩:=ry
 obtain⟨its,r,pl,hz⟩:=I.list hq
 obtain⟨j,h1,h2,h3,h4,h5⟩:=Rr he
 obtain⟨w,ew,Z2⟩:=r.get h2
 have hl:=r.length;have hn:=Up
 have fin:EP X pins σ Q w s:=⟨z,H,I,Z2,q⟩
 by_cases h0:0<=i
 ·have hj:i.toNat=j:=by
   rw[seqIndex_of h0 h5] at h1
   exact Option.some.inj h1
  exact item_listR pl.isList h0 (by omega) (by rw[hj];simpa using ew) fin hs
 ·have hj:(i+(its.toArray.size:Int)).toNat=j:=by
   rw[seqIndex_neg (by omega) h4] at h1;rw[List.size_toArray,<-hl]
   exact Option.some.inj h1
  exact subscriptTail_builtinR (x:=w) pl.isList.typeIs slot_list_getitem.lookup
   (wpAny_getItem_list_neg (Q:=fun r s'=>r=w/\EP X pins σ Q r s') pl.isList (by omega) (by rw[List.size_toArray]<;>omega) (by omega) (by rw[hj];simpa using ew) ⟨rfl,fin⟩) hs
theorem ix_tup:IxR X (LU X.K):=by
 intro value slice pins s σ H x y v u Q I rx ry h hs
 obtain⟨p,xs,i,z,rfl,rfl,hq,he,q⟩:=h
 cases rx
 obtain⟨t,rfl⟩:=ry
 obtain⟨its,r,pl,hz⟩:=I.tuple hq
 obtain⟨j,h1,h2,h3,h4,h5⟩:=Rr he
 obtain⟨w,ew,Z2⟩:=r.get h2
 have hl:=r.length;have hn:=Up
 have fin:EP X pins σ Q w s:=⟨z,H,I,Z2,q⟩
 exact subscriptTail_builtinR (x:=w) pl.typeIs slot_tuple_getitem.lookup
  (getItem_tuple (j:=j) (Q:=fun r s'=>r=w/\EP X pins σ Q r s') pl (by omega) (by omega) (by rw[List.size_toArray,<-hl];exact h1) (by simpa using ew) ⟨rfl,fin⟩) hs
theorem JO:IxR X Ha:=by
 intro value slice pins s σ H x y v u Q I rx ry h hs
 obtain⟨z,i,c,rfl,rfl,hz,he,q⟩:=h
 obtain⟨t,rfl⟩:=rx
 obtain⟨t',rfl⟩:=ry
 obtain⟨j,h1,h2,h3,h4,h5⟩:=Rr he
 have hl:z.cps.toList.length=z.length:=by simp[Str.length]
 rw[hl] at h1 h4 h5
 have hn:=Up
 exact tail_any (typeIs_str s z t) slot_str_getitem.lookup (getItem_str (c:=c) (by
  have e1:decide (i < -(2^63:Int))=false:=decide_eq_false (by omega)
  have e2:decide (i ≥ 2^63)=false:=decide_eq_false (by omega)
  rw[e1,e2,Bool.or_false]) (by rw[h1];simpa using h2) ⟨.str ⟨#[c]⟩,H,I.tok _,⟨_,rfl⟩,q⟩) hs
def GB(K:PySem.W.Frag):R2:=fun x y H Q=>JN K x y H Q\/LU K x y H Q\/Ha x y H Q
theorem JP:IxR X (GB X.K):=ix_list.or (ix_tup.or JO)
theorem QV(its:List Value)(n j:Nat)(u:Value):Obj.mapSeq (·.setIfInBounds j u) { cls:=.type "list",data:=.seq its.toArray n }={ cls:=.type "list",data:=.seq (its.set j u).toArray n }:=by
 simp[Obj.mapSeq]
theorem Inv.lst{pins:List (Addr×Obj)}{σ:St}{H:Hp}{s:Shared}{p:Addr}{xs:List V}(I:Inv X pins σ H s)(h:H p=some (.lst xs)) :
  ∃(its:List Value) (n:Nat),Vals xs its/\s.heap.get? p=some { cls:=.type "list",data:=.seq its.toArray n }/\xs.length<=sizeLine:=by
 obtain⟨z,its,n,r,e⟩:=I.hok p _ h
 exact⟨its,n,r,e,z⟩
theorem Inv.lstUpd{pins:List (Addr×Obj)}{σ:St}{H:Hp}{s:Shared}{p:Addr}{xs ys:List V}{its its':List Value}{n n':Nat}{f:Obj->Obj}(I:Inv X pins σ H s)(h:H p=some (.lst xs))
  (ho:s.heap.get? p=some { cls:=.type "list",data:=.seq its.toArray n }) (hf:f { cls:=.type "list",data:=.seq its.toArray n }={ cls:=.type "list",data:=.seq its'.toArray n' }) (r:Vals ys its') (hz:ys.length<=sizeLine) (t:Nat) :
  Inv X pins σ (upd H p (.lst ys)) { s with heap:=s.heap.update p f,toks:=t }:=by
 have e:(s.heap.update p f).get? p=some { cls:=.type "list",data:=.seq its'.toArray n' }:=by
  rw[Heap.get?_update_self f ho (by rw[hf]<;>rfl),hf]
 refine I.write (x:=p) (e:=p) (by rw[h];trivial) (.inl rfl) (fun b u hb q=>(Heap.get?_update_other _ _ (Ne.symm hb)).trans q) ⟨_,e⟩ ?_
 exact⟨hz,its',n',r,e⟩
def N8:V->V->V->Hp->(Hp->Prop)->Prop:=fun o i v H Q=>∃p xs k j,o = .ref p/\i = .int k/\H p=some (.lst xs)/\R5 xs.length k=some j/\Q (upd H p (.lst (xs.set j v)))
theorem TC:IK X N8:=by
 intro pins s σ H o i v ov iv u Q I ro ri rv h
 obtain⟨p,xs,k,j,rfl,rfl,hp,hj,q⟩:=h
 cases ro
 obtain⟨t,rfl⟩:=ri
 obtain⟨its,n,r,ho,hz⟩:=I.lst hp
 obtain⟨h1,h2,h3,h4⟩:=Oa hj
 have hl:=r.length;have hn:=Up
 have I':Inv X pins σ (upd H p (.lst (xs.set j v))) { s with heap:=s.heap.update p (Obj.mapSeq (·.setIfInBounds j u)) }:=
  I.lstUpd hp ho (QV its n j u) (r.set rv j) (by rw[List.length_set];exact hz) s.toks
 by_cases h0:0<=k
 ·have hk:k.toNat=j:=by
   rw[seqIndex_of h0 h4] at h1
   exact Option.some.inj h1
  exact PySem.W.ki_setAt ho h0 (by omega) (by rw[List.size_toArray,<-hl];exact h4) (by rw[hk];exact⟨_,I',q⟩)
 ·have hk:(k+(its.toArray.size:Int)).toNat=j:=by
   rw[seqIndex_neg (by omega) h3] at h1;rw[List.size_toArray,<-hl]
   exact Option.some.inj h1
  exact PySem.W.ki_setBack ho (by omega) (by rw[List.size_toArray,<-hl];exact h3) (by omega) (by rw[hk];exact⟨_,I',q⟩)
theorem Ru(lo hi:Option Int)(n:Nat):(sliceBounds lo hi none n).1=((HT.sIx n 0 lo:Nat):Int)/\(sliceBounds lo hi none n).2.1=((HT.sIx n n hi:Nat):Int)/\(sliceBounds lo hi none n).2.2=1:=by
 refine⟨?_,?_,rfl⟩
 ·cases lo with
  | none=>simp[sliceBounds,HT.sIx]
  | some i=>
   simp only[sliceBounds,HT.sIx,Option.getD_none,show(1:Int)>0 by decide,if_true]
   by_cases h:i<0
   ·simp only[h,if_true]<;>omega
   ·simp only[h,if_false]<;>omega
 ·cases hi with
  | none=>simp[sliceBounds,HT.sIx]
  | some i=>
   simp only[sliceBounds,HT.sIx,Option.getD_none,show(1:Int)>0 by decide,if_true]
   by_cases h:i<0
   ·simp only[h,if_true]<;>omega
   ·simp only[h,if_false]<;>omega
theorem Sx(its:List Value)(lo hi:Option Int):slicePick its.toArray lo hi none=((its.drop (HT.sIx its.length 0 lo)).take (HT.sIx its.length its.length hi-HT.sIx its.length 0 lo)).toArray:=by
 obtain⟨h1,h2,h3⟩:=Ru lo hi its.toArray.size
 unfold slicePick;rw[h1,h2,h3]
 simp only[sliceRange_one,pick_run,List.size_toArray]<;>rfl
def Gj(K:PySem.W.Frag):V->Option Int->Option Int->Hp->VK->Prop:=fun x lo hi H Q=>∃a xs,x = .ref a/\SqL K H a xs/\∀p,H p=none->Q (.ref p) (upd H p (.lst (Qb xs lo hi)))
theorem LV:Gh X (Gj X.K):=by
 intro pins s σ H x v vl vu lo hi sl Q I rx hs pl pu h
 obtain⟨a,xs,rfl,hx,q⟩:=h
 cases rx
 obtain⟨its,r,ht,hz⟩:=I.list hx
 have hlen:=r.length
 refine⟨"list",_,slot_list_getitem.lookup,ht.isList.typeIs,?_⟩
 refine wpAny_getItem_list_slice ht.isList hs pl pu .none (by simp) ?_ (by rw[List.size_toArray]<;>omega)
 rw[Sx,<-hlen]
 refine⟨.ref s.heap.objs.size,_,I.laid (t':=s.toks) (o:=.lst (Qb xs lo hi)) (fun b ob q=>Heap.get?_push_of_some _ q) (Nat.le_refl _) ?_,rfl,q _ (I.hok.fresh (Nat.le_refl _))⟩
 exact⟨Nat.le_trans (UT xs lo hi) hz,_,0,(r.drop (HT.sIx xs.length 0 lo)).take (HT.sIx xs.length xs.length hi-HT.sIx xs.length 0 lo),Heap.get?_push_size _ rfl⟩
theorem VG:Wd X (.type "list") (fun xs H Q=>∃p ys,xs=[.ref p]/\(SqL X.K H p ys\/SqT X.K H p ys)/\∀l,H l=none->Q (.ref l) (upd H l (.lst ys))):=by
 intro pins s σ H xs us Q I r h
 obtain⟨p,ys,rfl,hq,q⟩:=h
 obtain⟨u,rfl,rx⟩:=SE r
 cases rx
 have fin:∀(its:List Value),Vals ys its->ys.length<=sizeLine->∀(h':Heap)(c':Nat),(∀b o',s.heap.get? b=some o'->h'.get? b=some o')->
   h'.get? s.heap.objs.size=some { cls:=.type "list",dict:=none,data:=.seq its.toArray c',slots:=#[] }->EP X pins σ Q (.ref s.heap.objs.size) { s with heap:=h' }:=fun its r' hz h' c' kp e=>
  ⟨.ref s.heap.objs.size,_,I.laid (t':=s.toks) kp (Nat.le_refl _) (show ObjOk X.prog X.w _ h' _ (.lst ys) from⟨hz,its,c',r',e⟩),rfl,q _ (I.hok.fresh (Nat.le_refl _))⟩
 rcases hq with hq | hq
 ·obtain⟨its,r',pl,hz⟩:=I.list hq
  have hlen:=r'.length
  obtain⟨o,ho,hc,n,hd⟩:=pl.isList
  exact call_list_seq p (.inl rfl) ho hc hd (fun h' c' kp e=>fin its r' hz h' c' kp e) (by simp only[List.size_toArray]<;>omega)
 ·obtain⟨its,r',pl,hz⟩:=I.tuple hq
  have hlen:=r'.length
  obtain⟨o,ho,hc,n,hd⟩:=pl
  exact call_list_seq p (.inr rfl) ho hc hd (fun h' c' kp e=>fin its r' hz h' c' kp e) (by simp only[List.size_toArray]<;>omega)
theorem ZB:Wd X (.type "tuple") (fun xs H Q=>∃p ys,xs=[.ref p]/\((SqL X.K H p ys/\∀l,H l=none->Q (.ref l) (upd H l (.tup ys)))\/(SqT X.K H p ys/\Q (.ref p) H))):=by
 intro pins s σ H xs us Q I r h
 obtain⟨p,ys,rfl,h⟩:=h
 obtain⟨u,rfl,rx⟩:=SE r
 cases rx
 rcases h with⟨hq,q⟩ | ⟨hq,q⟩
 ·obtain⟨its,r',pl,hz⟩:=I.list hq
  have hlen:=r'.length
  refine call_tuple_list pl.isList (fun h' kp=>?_) (by simp only[List.size_toArray]<;>omega)
  have I1:Inv X pins σ H { s with heap:=h' }:=I.kept (t':=s.toks) kp
  have I2:Inv X pins σ (upd H h'.objs.size (.tup ys)) { s with heap:=h'.push { cls:=.type "tuple",data:=.seq its.toArray } }:=
   I1.laid (t':=s.toks) (fun b o e=>Heap.get?_push_of_some _ e) (Nat.le_refl _) (show ObjOk X.prog X.w _ _ _ (.tup ys) from⟨hz,its,r',IsTup.new _ _⟩)
  exact⟨.ref h'.objs.size,_,I2,rfl,q _ (I1.hok.fresh (Nat.le_refl _))⟩
 ·obtain⟨its,r',pl,hz⟩:=I.tuple hq
  exact call_tuple_same pl ⟨.ref p,H,I,rfl,q⟩
def Gk(K:PySem.W.Frag)(T:String)(x:V)(H:Hp):Prop:=match x with
 | .str _=>T = "str"
 | .int _=>T = "int"
 | .ref p=>(T = "list"/\∃xs,SqL K H p xs)\/(T = "tuple"/\∃o,K.lookup p=some o/\o.cls = .type "tuple"/\o.dict=none)\/
   (T = "dict"/\((∃kvs,H p=some (.dK kvs))\/∃kvs,H p=some (.dT kvs)))\/(T = "set"/\∃S n,H p=some (.set S n))
 | _=>False
theorem JQ{pins:List (Addr×Obj)}{σ:St}{H:Hp}{s:Shared}{T:String}{x:V}{v:Value}(I:Inv X pins σ H s)(r:RelV x v)(ty:Gk X.K T x H) :
  s.TypeIs v T/\∀a,v = .ref a->∃ob,s.heap.get? a=some ob/\ob.dict=none:=by
 cases x with
 | str z=>
  obtain⟨t,rfl⟩:=r
  cases (show T = "str" from ty)
  exact⟨typeIs_str s z t,fun _ e=>nomatch e⟩
 | int i=>
  obtain⟨t,rfl⟩:=r
  cases (show T = "int" from ty)
  exact⟨typeIs_int s i t,fun _ e=>nomatch e⟩
 | ref p=>
  cases r
  rcases ty with⟨rfl,xs,hq⟩ | ⟨rfl,o,hk,hc,hd⟩ | ⟨rfl,hk⟩ | ⟨rfl,S,n,hk⟩
  ·obtain⟨its,_,pl,_⟩:=I.list hq
   refine⟨pl.isList.typeIs,fun a e=>?_⟩
   cases e
   obtain⟨o,n,e,c,hd,_⟩:=pl
   exact⟨o,e,hd⟩
  ·refine⟨⟨o,I.kIn p o hk,hc⟩,fun a e=>?_⟩
   cases e
   exact⟨o,I.kIn _ o hk,hd⟩
  ·have z:∃o,s.heap.get? p=some o/\o.ExactDict:=by
    rcases hk with⟨kvs,hk⟩ | ⟨kvs,hk⟩
    ·obtain⟨_,_,_,_,o,_,_,e,ex,_⟩:=I.hok p _ hk
     exact⟨o,e,ex⟩
    ·obtain⟨_,_,_,_,o,_,_,e,ex,_⟩:=I.hok p _ hk
     exact⟨o,e,ex⟩
   obtain⟨o,e,ex⟩:=z
   refine⟨⟨o,e,ex.1⟩,fun a e2=>?_⟩
   cases e2
   exact⟨o,e,ex.2.1⟩
  ·obtain⟨o,_,_,_,e,ex,_⟩:=I.hok p _ hk
   refine⟨⟨o,e,ex.1⟩,fun a e2=>?_⟩
   cases e2
   exact⟨o,e,ex.2.1⟩
 | _=>exact False.elim ty
def Gm(K:PySem.W.Frag)(T:String)(r:V->List V->Hp->VK->Prop)(to:TE)(t:TA):TE:=fun σ H Q=>to σ H fun x H1=>Gk K T x H1/\t σ H1 fun xs H2=>r x xs H2 Q
variable {o e:Expr} {es:List Expr} {to:TE} {t:TA} {name:Str} {apos cpos:Pos} {T id:String} {r:V->List V->Hp->VK->Prop}
theorem Ob(pa:PlainAttrs T)(slot:Slot T name id)(hty:typeOf (.builtin id)=pure (.type "method_descriptor"))(hm:GK X id r)(ho:PE X o to)(ha:PA X (e::es) t)
  (hbase:attributeBase o name X.env (eval o X.env)=eval o X.env:=by rfl)
  (hfew:((backTo cpos (starEach (e::es) X.env)).all (fun x=>!x.1)&&(backToKw cpos (keywordEach [] X.env)).all (fun x=>x.1.isSome)
   &&decide ((e::es).length+([]:List Keyword).length+(if([]:List Keyword).isEmpty then 0 else 1)<30))=true:=by rfl)
  (hline:(apos.endLine==cpos.line)=true:=by rfl) (hs:starEach (e::es) X.env=(false,eval e X.env)::starEach es X.env:=by rfl) (hplain:(backTo cpos (starEach es X.env)).any (·.1)=false:=by rfl) :
  PE X (.Call (.Attribute o name apos) (e::es) [] cpos) (Gm X.K T r to t):=by
 intro pins s σ H Q I h
 refine wpAny_Call_method_late hbase hfew hline rfl (YY (ho pins s σ H _ I h) fun v s1 ⟨x,H1,I1,r1,ty,q1⟩=>?_)
 obtain⟨h1,h2⟩:=JQ I1 r1 ty
 refine⟨T,id,pa,slot,hty,h1,h2,?_⟩
 have hA:=ha cpos pins s1 σ H1 _ I1 q1
 rw[hs] at hA ⊢
 refine Calls.callWith_builtin (by show(false || (backTo cpos (starEach es X.env)).any (·.1))=false;rw[hplain]<;>rfl) (Calls.evalArgs_plain ?_)
 exact YY hA fun us s2 ⟨vs,H2,I2,r2,q2⟩=>hm pins s2 σ H2 x vs v us Q I2 r1 r2 q2
end
def GC(X:Cx)(id:String)(r:V->List V->Hp->VK->Prop):Prop:=
 ∀(pins:List (Addr×Obj))(s:Shared)(σ:St)(H:Hp)(x:V)(xs:List V)(v:Value)(us:List Value)(Q:VK),Inv X pins σ H s->RelV x v->Vals xs us->r x xs H Q->
  wpAny (model X.prog X.w) X.A (call (.builtin id) (v::us)) (EP X pins σ Q) X.xe s
theorem Vals.one:∀{x:V}{us:List Value},Vals [x] us->∃u,us=[u]/\RelV x u
 | _,_,.cons r .nil=>⟨_,rfl,r⟩
theorem Vals.two:∀{x y:V}{us:List Value},Vals [x,y] us->∃u v,us=[u,v]/\RelV x u/\RelV y v
 | _,_,_,.cons r (.cons q .nil)=>⟨_,_,rfl,r,q⟩
theorem Vals.dropLast{xs:List V}{us:List Value}(h:Vals xs us):Vals xs.dropLast us.dropLast:=by
 induction h with
 | nil=>exact .nil
 | cons r t ih=>
  cases t with
  | nil=>exact .nil
  | cons q t'=>exact .cons r ih
theorem Vals.rep{xs:List V}{us:List Value}(h:Vals xs us):∀k:Nat,Vals (List.replicate k xs).flatten (List.replicate k us).flatten
 | 0=>.nil
 | k+1=>by
  rw[List.replicate_succ,List.replicate_succ,List.flatten_cons,List.flatten_cons]
  exact Vals.append h (Vals.rep h k)
theorem SK(its:List Value):∀(k:Nat)(acc:List Value),
  List.foldl (fun x1 x2=>x1++x2) acc.toArray (List.replicate k its.toArray)=(acc++(List.replicate k its).flatten).toArray
 | 0,acc=>by simp
 | k+1,acc=>by
  have e:acc.toArray++its.toArray=(acc++its).toArray:=by simp
  have e2:(acc++its)++(List.replicate k its).flatten=acc++(List.replicate (k+1) its).flatten:=by
   rw[List.replicate_succ,List.flatten_cons,List.append_assoc]
  rw[<-e2,<-SK its k (acc++its),<-e,List.replicate_succ,List.foldl_cons]
section
variable {X:Cx} {pins:List (Addr×Obj)} {σ:St} {H:Hp} {s:Shared} {l b:Addr} {xs ys zs:List V}
theorem Inv.lset{its its':List Value}{n:Nat}{f:Array Value->Array Value}{t':Nat}(I:Inv X pins σ H s)(hH:H l=some (.lst xs))
  (e:s.heap.get? l=some { cls:=.type "list",data:=.seq its.toArray n }) (hf:f its.toArray=its'.toArray) (hv:Vals ys its') (hz:ys.length<=sizeLine) :
  Inv X pins σ (upd H l (.lst ys)) { s with heap:=s.heap.update l (Obj.mapSeq f),toks:=t' }:=by
 have q:=PySem.IsL.update e f;rw[hf] at q
 refine I.write (x:=l) (e:=l) (by rw[hH];exact trivial) (.inl rfl) (fun b' u hb hu=>(Heap.get?_update_other s.heap (Obj.mapSeq f) (Ne.symm hb)).trans hu) ⟨_,q⟩ ?_
 exact⟨hz,its',_,hv,q⟩
theorem Inv.lnew{its:List Value}{t':Nat}(I:Inv X pins σ H s)(hv:Vals ys its)(hz:ys.length<=sizeLine) :
  Inv X pins σ (upd H s.heap.objs.size (.lst ys)) { s with heap:=s.heap.push { cls:=.type "list",data:=.seq its.toArray },toks:=t' }:=
 I.laid (fun _ _ q=>Heap.get?_push_of_some _ q) (Nat.le_refl _) ⟨hz,its,0,hv,Heap.get?_push_size _ rfl⟩
theorem Inv.fresh(I:Inv X pins σ H s):H s.heap.objs.size=none:=I.hok.fresh (Nat.le_refl _)
theorem Inv.lstM(I:Inv X pins σ H s)(hH:H l=some (.lst xs)):xs.length<=sizeLine/\∃(its:List Value) (n:Nat),Vals xs its/\xs.length=its.length/\s.heap.get? l=some { cls:=.type "list",data:=.seq its.toArray n }:=by
 obtain⟨z,its,n,r,e⟩:=I.hok l _ hH
 exact⟨z,its,n,r,r.length,e⟩
theorem N9{n:Nat}(h:n<=sizeLine):Builtin.List.listTooLong n=false:=by
 unfold Builtin.List.listTooLong
 exact decide_eq_false (by omega)
end
section
variable {X:Cx}
def Oc:V->List V->Hp->VK->Prop:=fun x vs H Q=>∃l xs y,x = .ref l/\vs=[y]/\H l=some (.lst xs)/\xs.length<sizeLine/\Q .non (upd H l (.lst (xs++[y])))
theorem SL:GC X "list.append" Oc:=by
 intro pins s σ H x vs v us Q I rx rv h
 obtain⟨l,xs,y,rfl,rfl,hH,hz,q⟩:=h
 cases rx
 obtain⟨u,rfl,ru⟩:=rv.one
 obtain⟨z,its,n,r,hl,e⟩:=I.lstM hH
 refine call_meets F.slot_list_append ⟨_,e,rfl⟩ F.entry_list_append (F.args_list_append_2 _ _) (PySem.list_append l its.toArray n u (by rw[List.size_toArray];omega)) ⟨e,?_⟩
 refine⟨.non,_,I.lset (its':=its++[u]) hH e (by simp) (r.append (.cons ru .nil)) ?_,rfl,q⟩
 rw[List.length_append,List.length_singleton];omega
def Gn:R2:=fun x y H Q=>∃l k xs,x = .ref l/\y = .int k/\H l=some (.lst xs)/\-(2^63)<=k/\k<2^63/\xs.length*k.toNat<=sizeLine/\
 ∀p,H p=none->Q (.ref p) (upd H p (.lst (List.replicate k.toNat xs).flatten))
theorem LW{α:Type}(xs:List α)(k:Nat):(List.replicate k xs).flatten.length=k*xs.length:=by
 induction k with
 | zero=>simp
 | succ k ih=>rw[List.replicate_succ,List.flatten_cons,List.length_append,ih,Nat.succ_mul,Nat.add_comm]
theorem JR:Uo X (binaryOp .Mult) Gn:=by
 intro pins s σ H x y v u Q I rx ry h
 obtain⟨l,k,xs,rfl,rfl,hH,h1,h2,hz,q⟩:=h
 cases rx
 obtain⟨t,rfl⟩:=ry
 obtain⟨z,its,n,r,hl,e⟩:=I.lstM hH
 have hlen:its.toArray.size*k.toNat<=sizeLine:=by rw[List.size_toArray,<-hl];exact hz
 have hcap:¬its.toArray.size*k.toNat>(2^63-1)/8:=by
  have:(sizeLine:Nat)<=(2^63-1)/8:=by decide
  omega
 have hfit:¬(!Builtin.List.listFitsIndex k)=true:=by
  rw[fitsIndex_both h1 h2];exact Bool.false_ne_true
 have hlong:¬Builtin.List.listTooLong (its.toArray.size*k.toNat)=true:=by
  rw[N9 hlen];exact Bool.false_ne_true
 have hnew:List.foldl (fun x1 x2=>x1++x2) #[] (List.replicate (if its.toArray.isEmpty=true then 0 else k.toNat) its.toArray)=(List.replicate k.toNat its).flatten.toArray:=by
  have f0:∀m:Nat,List.foldl (fun x1 x2=>x1++x2) #[] (List.replicate m its.toArray)=(List.replicate m its).flatten.toArray:=fun m=>by
   have:=SK its m []
   rw[List.nil_append] at this;exact this
  rw[f0]
  cases its with
  | nil=>simp
  | cons a r'=>rw[if_neg (by simp)]
 refine wpAny_binaryOp_repeat_ref (T:="list") (U:="int") (by decide) ⟨_,e,rfl⟩ (fun s'=>typeIs_int s' k t) noFill_list_mul F.fills_int_mul F.slot_int_rmul repeat_list F.slot_int_index.lookup
  (call_meets F.slot_int_rmul (typeIs_int s k t) F.entry_int_rmul (F.args_int_rmul_2 _ _) (int___rmul___int_list k t l its.toArray n)
   ⟨e,rfl,⟨_,e,rfl⟩,call_meets F.slot_list_mul ⟨_,e,rfl⟩ F.entry_list_mul (F.args_list_mul_2 _ _) (AutoListH.list___mul___list_int_3 l its.toArray n k t hfit hcap hlong) ⟨e,?_⟩⟩)
 rw[hnew]
 exact⟨.ref _,_,I.lnew (t':=s.toks) (r.rep k.toNat) (by rw[LW,Nat.mul_comm];exact hz),rfl,q _ I.fresh⟩
end
end L2
namespace Att
open PySem PySem.W PySem.Calls PyProof.Rows
theorem U3{P:Params}{h:Heap}:∀(ns:List Int)(vs:List Value),WellAll P h vs (ns.map WData.int)->IntsAre vs ns:=by
 intro ns
 induction ns with
 | nil=>
  intro vs w;rw[List.map_nil] at w;cases w;exact .nil
 | cons n ns ih=>
  intro vs w;rw[List.map_cons] at w
  cases w with
  | cons a b=>
   cases a
   exact .cons _ _ (ih _ b)
theorem script_of{l:OpenLaw}{n:Nat}(hn:l.most=some n){P:Params}{h:Heap}{args:List WData}{vals:List Value}
  (hpre:l.row.toRowW.claim.pre args=true) (hwl:WellAll P h vals args) :
  ∃a vs ns,vals=[Value.ref a]/\args=[WData.list (ns.map WData.int)]/\h.get? a=some { cls:=.type "list",data:=.seq vs.toArray }/\IntsAre vs ns/\ns.length<=n:=by
 have hsh:WShape.hasAll [] args [.list .int]=true:=(pre_splitW hpre).1
 have hc:l.pre.holds [] { args:=args }=true:=(pre_splitW hpre).2
 obtain⟨d,r,rfl,h1,h2⟩:=hasAllW_cons hsh
 obtain rfl:=hasAllW_nil h2
 obtain⟨xs,rfl,h3⟩:=hasW_list h1
 obtain⟨ns,rfl⟩:=items_int h3
 have hlen:ns.length<=n:=by
  unfold OpenLaw.pre at hc
  have h4:(WTm.not (.lt (.lit (.int (n:Int))) (.len (.arg 0)))).holds [] { args:=[.list (ns.map .int)] }=true:=by
   have h4:=(holds_andW hc).1
   rw[hn] at h4;exact h4
  have h5:=condW_of h4 (w_not (w_lt w_lit (w_len_list (w_arg rfl))))
  rw[List.length_map] at h5
  refine Nat.le_of_not_lt fun q=>?_
  have q':(n:Int)<((ns.length:Nat):Int):=by omega
  first
   | (rw[decide_eq_true q'] at h5;exact absurd h5 (by decide))
   | (simp at h5;omega)
 cases hwl with
 | cons w1 w2=>
  cases w2
  cases w1 with
  | list ho hall=>exact⟨_,_,ns,rfl,rfl,ho,U3 ns _ hall,hlen⟩
theorem post_true(l:OpenLaw)(args:List WData):l.row.toRowW.claim.post args (.bool true) args=true:=
 postW_of (r:=l.row.toRowW) (X:=(true==true))
  (show WShape.has [] (.bool true) .bool=true by first | rfl | decide | simp[WShape.has,WShape.arms,WShape.armsAll])
  (show(WTm.eq .res (.lit (.bool true))).value [] { args:=args,res:=some (.bool true),after:=args }=some (.bool (true==true)) from w_eq_bool (w_res rfl) w_lit) rfl
end Att
namespace L2
open PySem PySem.Spec PyProof.Rows
structure M2(X:Cx)(o:Expr)(m:Str)(apos:Pos)(e f:Expr)(cpos:Pos):Prop where
 base:attributeBase o m X.env (eval o X.env)=eval o X.env
 few:((backTo cpos (starEach [e,f] X.env)).all (fun x=>!x.1)&&(backToKw cpos (keywordEach [] X.env)).all (fun x=>x.1.isSome)
  &&decide (([e,f]:List Expr).length+([]:List Keyword).length+(if([]:List Keyword).isEmpty then 0 else 1)<30))=true
 line:(apos.endLine==cpos.line)=true
 trees:backTo cpos (starEach [e,f] X.env)=[(false,eval e X.env),(false,eval f X.env)]
theorem SM:∀{vs:List Value}{ns:List Int},IntsAre vs ns->Vals (ns.map V.int) vs
 | _,_,.nil=>.nil
 | _,_,.cons n t h=>.cons ⟨t,rfl⟩ (SM h)
def JS(H:Hp):Prop:=∀b,H b=none\/∃o xs,H b=some (.frz o (.lst xs))
theorem law_call{P:Program}{w:World}{K:PySem.W.Frag}{mg mb:Str->Option Value}{CX:LN}{k:Nat}{fa a:Addr}{fd:FuncData}{x:Str}{sp:Sp}{s₁:Shared}{vs:List Value}{ns:List Int}
  (KX:K.In s₁.heap) (hns:s₁.heap.Ns mainGlobals mg) (hb:s₁.heap.Ns builtinsNs mb) (hbb:∀x:Str,x≠"__name__"->mb x=bootBuiltins x) (hlim:s₁.heap.NoLimit) (hg:s₁.gens = #[])
  (ha:s₁.heap.get? a=some { cls:=.type "list",data:=.seq vs.toArray }) (hi:IntsAre vs ns) (hl:ns.length<=sizeLine) (hr:Room k callerA)
  (F:∀base:Heap,K.In base->base.Ns mainGlobals mg->U2 P w K mg base CX k fa fd [x] sp) (hbind:∀(s:Shared)(u:Value),BindsTo s fd ⟨[u],[]⟩ [(x,u)])
  (hsp:∀H:Hp,JS H->SqL K H a (ns.map V.int)->sp [.ref a] H (fun v _=>v = .bl true) fun _ _ _=>False)
  (hCX:∀H e s',CX [] H s₁ (fun _ _ _=>False) e s'->False) :
  codeAny (model P w) callerA (.call (.ref fa) ⟨[.ref a],[]⟩) (fun r s'=>r = .ok (.ret (.bool true))/\OldK s₁.heap s'.heap/\s'.os=s₁.os/\AllBare s'.gens) s₁:=by
 have rv:=SM hi;have lenV:=hi.length
 -- from an abstract heap in which nothing but the script may be tracked
 have core:∀H:Hp,JS H->SqL K H a (ns.map V.int)->HOk P w H s₁.heap->(∀b,H b≠none->b=a)->(H a≠none->K.lookup a=none)->
   codeAny (model P w) callerA (.call (.ref fa) ⟨[.ref a],[]⟩) (fun r s'=>r = .ok (.ret (.bool true))/\OldK s₁.heap s'.heap/\s'.os=s₁.os/\AllBare s'.gens) s₁:=by
  intro H hO hS hok hA hK
  have base_of:∀{b:Addr}{o:Obj},s₁.heap.get? b=some o->H b=none->(Rj s₁.heap H).get? b=some o:=fun e n=>NX e n
  have noA:∀{b:Addr}{o:Obj}{es:Array DictEntry}{ep:Nat},s₁.heap.get? b=some o->o.data = .dict es ep->H b=none:=fun{b o es ep} e d=>by
   cases q:H b with
   | none=>rfl
   | some u=>
    have e':b=a:=hA b (by rw[q];simp)
    subst e'
    rw[ha] at e;cases e
    have d':Data.seq vs.toArray _=Data.dict es ep:=d
    cases d'
  have nsK:∀{b:Addr}{m:Str->Option Value},s₁.heap.Ns b m->(Rj s₁.heap H).Ns b m:=fun{b m} ⟨o,es,ep,e,d,r⟩=>⟨o,es,ep,base_of e (noA e d),d,r⟩
  have hKb:K.In (Rj s₁.heap H):=fun b o e=>base_of (KX b o e) (by
   cases q:H b with
   | none=>rfl
   | some u=>
    have e':b=a:=hA b (by rw[q];simp)
    subst e'
    rw[hK (by rw[q];simp)] at e;cases e)
  have hM:Mod K mg (Rj s₁.heap H):=⟨hKb,nsK hns,⟨mb,nsK hb,hbb⟩,let⟨mc,h1,h2⟩:=hlim;⟨mc,nsK h1,h2⟩⟩
  have e0:LO P w K mg (Rj s₁.heap H) callerA [] s₁ H:=⟨rfl,hM,fun b o e=>LA e,Nat.le_of_eq (OV _ _),trivial,fun b hb=>absurd (show b∈([]:List Addr) from hb) (by simp),hok,.of_eq hg⟩
  refine codeAny_mono ((F _ hKb (nsK hns)).run callerA [] s₁ H ⟨[.ref a],[]⟩ [.ref a] [.ref a] _ _ hr e0 (hbind s₁ (.ref a)) (.cons rfl .nil) (hsp H hO hS)) fun r s' h=>?_
  cases r with
  | error e=>exact(hCX H e s' h).elim
  | ok fl=>
   cases fl with
   | next=>exact False.elim h
   | brk=>exact False.elim h
   | cont=>exact False.elim h
   | ret u=>
    obtain⟨v,H',os,bare,un,hok',r',q⟩:=h
    have q':v = .bl true:=q
    subst q'
    obtain rfl:u=Value.bool true:=r'
    refine⟨rfl,OldK.of_keep fun b o e=>?_,os,bare⟩
    cases q:H b with
    | none=>exact un.keep b o e q (by intro z;exact absurd (show b∈([]:List Addr) from z) (by simp)) (by simp)
    | some u=>
     rcases hO b with z | ⟨ob,xs,z⟩
     ·rw[q] at z;cases z
     ·have z2:=un.frzs b ob _ z
      obtain⟨e1,_⟩:=hok b _ z
      obtain⟨e2,_⟩:=hok' b _ z2
      rw[e] at e1;cases e1;exact e2
 cases hk:K.lookup a with
 | some o=>
  -- the script is one of the module's own objects
  have e:=KX a o hk;rw[ha] at e;cases e
  refine core (fun _=>none) (fun _=>.inl rfl) (.inr ⟨_,vs.toArray,_,hk,rfl,rfl,rfl,by rw[List.size_toArray,lenV];exact hl,by simpa using rv⟩) (fun b u z=>by have z':(none:Option HO)=some u:=z;cases z') (fun b z=>absurd rfl z) fun z=>absurd rfl z
 | none=>
  refine core (fun b=>if b=a then some (.frz { cls:=.type "list",data:=.seq vs.toArray } (.lst (ns.map V.int))) else none) (fun b=>?_) (.inl (.inr ⟨{ cls:=.type "list",data:=.seq vs.toArray },if_pos rfl⟩)) (fun b u z=>?_) (fun b z=>?_) fun _=>hk
  ·by_cases hb:b=a
   ·exact .inr ⟨_,_,if_pos hb⟩
   ·exact .inl (if_neg hb)
  ·by_cases hb:b=a
   ·have z':=(if_pos hb).symm.trans z
    cases z'
    subst hb
    exact⟨ha,by rw[List.length_map];exact hl,vs,_,rv,ha⟩
   ·have z':=(if_neg hb).symm.trans z
    cases z'
  ·by_cases hb:b=a
   ·exact hb
   ·exact absurd (if_neg hb) z
def XF(s:Stmt):Arguments:=match s with
 | .FunctionDef _ a _ _ _ _ _ _ _ _=>a
 | _=>{ posonlyargs:=[],args:=[],vararg:=none,kwonlyargs:=[],kw_defaults:=[],kwarg:=none,defaults:=[] }
def YH(s:Stmt):List Stmt:=match s with
 | .FunctionDef _ _ b _ _ _ _ _ _ _=>b
 | _=>[]
def Zk(s:Stmt):Scope:=match s with
 | .FunctionDef _ _ _ _ _ _ sc _ _ _=>sc
 | _=>{ kind:=.function,names:=[],isGenerator:=false,isCoroutine:=false }
abbrev Od:LN:=fun _ _ _ _ _ _=>False
abbrev E0:XK:=fun _ _ _=>False
theorem Hb{X:Cx}:QS Od X E0:=fun _ _ _ _ _ _ _ h=>h.elim
structure Fun(K:PySem.W.Frag)(x qual:Str)(st:Stmt)(f:Addr)(fd:FuncData):Prop where
 ex:∃(oc:Value) (od:Option Addr) (kV doc pm:Value) (an:Option Addr) (cdv ct:Value) (osl:Array (Option Value)),
  fd=PySem.W.fnOf x qual (XF st) (YH st) (Zk st) .none kV doc pm an cdv ct/\K.lookup f=some ⟨oc,od,.func fd,osl⟩/\PySem.W.codeIn K cdv qual=true
 kp:PySem.W.keepIn K (.ref f)=true
section
variable {P:Program} {w:World} {K:PySem.W.Frag} {mg:Str->Option Value} {base:Heap}
theorem Fun.ok{x qual:Str}{st:Stmt}{f:Addr}{fd:FuncData}{N ps:List Str}{k:Nat}{sp:Sp}(F:Fun K x qual st f fd)(S:Zx N ps (Zk st))(len:∀vs H Q E,sp vs H Q E->vs.length=ps.length)
  (hbody:∀(cdv:Value)(A:Around)(outer:List Env)(s:Shared)(H:Hp)(vs:List V)(Q:VK)(E:XK),Room k (A.deeper (envOfC qual (Zk st) s.heap.objs.size f cdv))->sp vs H Q E->
   ∃t,PSs (Sw Od P w K mg base N qual (Zk st) f cdv A outer s H E).nox (YH st) t/\t { nx:=fun _ H'=>Q .non H',rt:=Q } (start N vs) H):U2 P w K mg base Od (k+1) f fd ps sp:=by
 obtain⟨oc,od,kV,doc,pm,an,cdv,ct,osl,rfl,lk,hcd⟩:=F.ex
 refine IX lk hcd S len fun A outer s H vs Q E hr hsp=>?_
 obtain⟨t,h,q⟩:=hbody cdv A outer s H vs Q E hr hsp
 exact⟨t,h.nox,q⟩
theorem Fun.binds{x qual:Str}{st:Stmt}{f:Addr}{fd:FuncData}{ps:List Str}(F:Fun K x qual st f fd)
  (h:∀(kV doc pm:Value)(an:Option Addr)(cdv ct:Value)(us:List Value),us.length=ps.length->bindArgs (PySem.W.fnOf x qual (XF st) (YH st) (Zk st) .none kV doc pm an cdv ct) ⟨us,[]⟩=pure (ps.zip us)):Binds K fd ps []:=by
 obtain⟨oc,od,kV,doc,pm,an,cdv,ct,osl,rfl,lk,hcd⟩:=F.ex
 exact .all (h kV doc pm an cdv ct)
theorem JT{x qual:Str}{st:Stmt}{f:Addr}{oc:Value}{od an:Option Addr}{osl:Array (Option Value)}{kV doc pm cdv ct:Value}(l:K.lookup f=some ⟨oc,od,.func (PySem.W.fnOf x qual (XF st) (YH st) (Zk st) .none kV doc pm an cdv ct),osl⟩)
  (c:PySem.W.codeIn K cdv qual=true) (k:PySem.W.keepIn K (.ref f)=true):Fun K x qual st f (PySem.W.fnOf x qual (XF st) (YH st) (Zk st) .none kV doc pm an cdv ct):=⟨⟨oc,od,kV,doc,pm,an,cdv,ct,osl,rfl,l,c⟩,k⟩
end
section
variable {X:Cx}
theorem pv(i:Nat){x:Str}{pos:Pos}(hN:X.N[i]?=some x:=by rfl)(hv:HS X.env.scope x:=by first | exact Or.inl rfl | exact Or.inr (Or.inl rfl) | exact Or.inr (Or.inr rfl))(hd:(x==("__debug__" : Str))=false:=by decide)
  (hcd:(x==("__classdict__" : Str))=false:=by decide):PE X (.Name x pos) (U1 i):=Jk hN hv hd hcd
end
theorem Hd{A B:Prop}(h:B):if false=true then A else B:=by
 rw[if_neg Bool.false_ne_true];exact h
theorem He{A B:Prop}(h:A):if true=true then A else B:=by
 rw[if_pos rfl];exact h
def Same(H H':Hp):Prop:=∀b o,H b=some o->H' b=some o
theorem Same.refl(H:Hp):Same H H:=fun _ _ h=>h
theorem Same.trans{H H1 H2:Hp}(a:Same H H1)(b:Same H1 H2):Same H H2:=fun c o h=>b c o (a c o h)
theorem Same.free{H H':Hp}(e:Same H H'){l:Addr}(h:H' l=Option.none):H l=Option.none:=by
 cases q:H l with
 | none=>rfl
 | some o=>
  rw[e l o q] at h;cases h
end L2
set_option maxHeartbeats 4000000
namespace L2
open PySem PySem.Spec PyProof.Rows
def YT(cells:List (Str×Addr)):List (Str×NameKind)->List (Str×Addr)->List (Str×Addr)
 | [],acc=>acc
 | (n,k)::r,acc=>YT cells r (if(k==NameKind.free)=true then(n,(cells.lookup n).getD 0)::acc else acc)
theorem Vo{env:Env}:∀(names:List (Str×NameKind))(acc:List (Str×Addr)),(∀y∈names,y.2 = .free->(env.cells.lookup y.1).isSome=true)->
  (forIn (m:=Sem) names acc fun(x:Str×NameKind) (cs:List (Str×Addr))=>
   match x with
   | (name,kind)=>if(kind==NameKind.free)=true then do
     let c <-cellOf env name
     pure (ForInStep.yield ((name,c)::cs))
    else pure (ForInStep.yield cs))=pure (YT env.cells names acc)
 | [],acc,_=>rfl
 | (n,k)::r,acc,h=>by
  rw[List.forIn_cons]
  have ih:=fun acc'=>Vo r acc' fun y hy=>h y (List.mem_cons_of_mem _ hy)
  cases hk:(k==NameKind.free) with
  | true=>
   have hs:=h (n,k) List.mem_cons_self (by simpa using hk)
   obtain⟨c,hc⟩:=Option.isSome_iff_exists.mp hs
   have hc:env.cells.lookup n=some c:=hc
   have e1:cellOf env n=pure c:=by unfold cellOf;rw[hc]
   dsimp only
   rw[hk,if_pos rfl,e1]
   refine Eq.trans (ih ((n,c)::acc)) ?_
   show _=pure (YT env.cells r (if(k==NameKind.free)=true then(n,(env.cells.lookup n).getD 0)::acc else acc))
   rw[if_pos hk,hc];rfl
  | false=>
   dsimp only
   rw[hk,if_neg Bool.false_ne_true]
   refine Eq.trans (ih acc) ?_
   show _=pure (YT env.cells r (if(k==NameKind.free)=true then(n,(env.cells.lookup n).getD 0)::acc else acc))
   rw[if_neg (by rw[hk];exact Bool.false_ne_true)]
theorem Vp{scope:Scope}{env:Env}(h:∀y∈scope.names,y.2 = .free->(env.cells.lookup y.1).isSome=true):closureFor scope env=pure (YT env.cells scope.names []):=by
 have e:=Vo (env:=env) scope.names [] h
 unfold closureFor
 dsimp only
 rw[e];rfl
theorem Us{cells:List (Str×Addr)}{x:Str}{c:Addr}:∀(names:List (Str×NameKind))(acc:List (Str×Addr)),(∀y∈names,y.2 = .free->(cells.lookup y.1).isSome=true)->(acc.lookup x=some c->cells.lookup x=some c)->
  (YT cells names acc).lookup x=some c->cells.lookup x=some c
 | [],_,_,h,e=>h e
 | (n,k)::r,acc,hf,h,e=>by
  refine Us r _ (fun y hy=>hf y (List.mem_cons_of_mem _ hy)) ?_ e
  intro q
  by_cases hk:(k==NameKind.free)=true
  ·rw[if_pos hk,List.lookup_cons] at q
   cases hx:x==n with
   | true=>
    rw[hx] at q
    have exn:x=n:=by simpa using hx
    obtain⟨d,hd⟩:=Option.isSome_iff_exists.mp (hf (n,k) List.mem_cons_self (by simpa using hk))
    have hd:cells.lookup n=some d:=hd
    rw[hd] at q
    rw[exn,hd];exact q
   | false=>rw[hx] at q;exact h q
  ·rw[if_neg hk] at q;exact h q
theorem TD{cells:List (Str×Addr)}{x:Str}:∀(names:List (Str×NameKind))(acc:List (Str×Addr)),(acc.lookup x).isSome=true->((YT cells names acc).lookup x).isSome=true
 | [],_,h=>h
 | (n,k)::r,acc,h=>by
  refine TD r _ ?_
  split
  ·rw[List.lookup_cons];split<;>simp_all
  ·exact h
theorem Ut{cells:List (Str×Addr)}{x:Str}:∀(names:List (Str×NameKind))(acc:List (Str×Addr)),(x,NameKind.free)∈names->((YT cells names acc).lookup x).isSome=true
 | (n,k)::r,acc,h=>by
  rcases List.mem_cons.mp h with e | h
  ·cases e
   refine TD r _ ?_
   rw[if_pos (by decide),List.lookup_cons]
   simp
  ·exact Ut r _ h
structure CompScope(N:List Str)(around scope:Scope)(own fr:List Str)(ix:List Nat):Prop where
 kind:scope.kind = .function
 nocell:∀y∈scope.names,y.2≠.cell
 names:∀y∈scope.names,y.2 = .local->scope.names.lookup y.1=some .local
 frees:∀y∈scope.names,y.2 = .free->(around.names.lookup y.1=some .cell\/around.names.lookup y.1=some .free)
 slots:fr.map some=ix.map (fun i=>N[i]?)
 outs:∀x∈fr,(x,NameKind.free)∈scope.names
 apart:∀x∈fr,scope.names.lookup x≠some .local
def ZP(X:Cx)(N':List Str)(scope:Scope)(cl:List (Str×Addr))(C:Addr)(s:Shared)(H:Hp)(ex:List Addr):Cx:=
 { X with N:=N',s₀:=s,H₀:=H,env:=compEnvC scope cl C X.env,outer:=X.stack,ex:=ex,fn:=fun _=>false,pn:=[],xe:=fun _ _=>False }
def Yn(n:Nat)(ix:List Nat)(σ:St):St:=List.replicate n none++ix.map (fun i=>(σ[i]?).join)
theorem XG{env:Env}{x:Str}:∀{names:List (Str×NameKind)}{k:NameKind},names.lookup x=some k->
  (names.map fun(n,k)=>if(k==NameKind.free&&env.scope.kind==.function&&env.kindOf n==some .cell) then(n,NameKind.cell) else(n,k)).lookup x =
   some (if(k==NameKind.free&&env.scope.kind==.function&&env.kindOf x==some .cell)=true then NameKind.cell else k)
 | [],_,h=>by simp at h
 | (n,k')::r,k,h=>by
  show List.lookup x ((if(k'==NameKind.free&&env.scope.kind==.function&&env.kindOf n==some .cell)=true then(n,NameKind.cell) else(n,k'))::_)=_
  cases hx:x==n with
  | true=>
   simp only[List.lookup_cons,hx] at h;cases h
   have e:x=n:=by simpa using hx
   subst e
   split
   ·simp[List.lookup_cons]
   ·simp[List.lookup_cons]
  | false=>
   simp only[List.lookup_cons,hx] at h
   split
   ·simp only[List.lookup_cons,hx];exact XG h
   ·simp only[List.lookup_cons,hx];exact XG h
theorem Wo{env:Env}{x:Str}:∀{names:List (Str×NameKind)}{k':NameKind},
  (names.map fun(n,k)=>if(k==NameKind.free&&env.scope.kind==.function&&env.kindOf n==some .cell) then(n,NameKind.cell) else(n,k)).lookup x=some k'->∃k,names.lookup x=some k
 | [],_,h=>by simp at h
 | (n,k0)::r,k',h=>by
  have h:List.lookup x ((if(k0==NameKind.free&&env.scope.kind==.function&&env.kindOf n==some .cell)=true then(n,NameKind.cell) else(n,k0))::_)=some k':=h
  cases hx:x==n with
  | true=>exact⟨k0,by simp[List.lookup_cons,hx]⟩
  | false=>
   have:∃k,r.lookup x=some k:=by
    apply Wo (env:=env) (k':=k')
    split at h<;>simpa [List.lookup_cons,hx] using h
   obtain⟨k,e⟩:=this
   exact⟨k,by simp[List.lookup_cons,hx,e]⟩
section
variable {X:Cx} {pins:List (Addr×Obj)} {σ:St} {H:Hp} {s:Shared} {own fr:List Str} {ix:List Nat} {scope:Scope}
theorem CompScope.clos(S:CompScope X.N X.env.scope scope own fr ix)(I:Inv X pins σ H s):∀y∈scope.names,y.2 = .free->(X.env.cells.lookup y.1).isSome=true:=fun y hy hf=>by
 obtain⟨c,e⟩:=I.ok.has y.1 (S.frees y hy hf)
 rw[e];rfl
end
theorem Rv{prog:Program}{w:World}{A:Around}{R:Result->Shared->Prop}{s:Shared}{elt target iter:Expr}{ifs:List Expr}{scope:Scope}{pos:Pos}{it acc:Value}{env:Env}(I:Nat->Shared->Prop)
  (turn:∀n s,I n s->wpAny (model prog w) A (pyNext it) (fun r s₁=>match r with
   | none=>R (.ok .next) s₁
   | some v=>wpAny (model prog w) A (letOwnedTupleGo target it v) (fun _ s₁'=>wpAny (model prog w) A (assign target env v) (fun _ s₂=>
     wpAny (model prog w) A (forIn ifs true fun c r=>if r=true then do let ok <-isTrue c env (eval c env);pure (ForInStep.yield ok) else pure (ForInStep.yield r)) (fun ok s₃=>
      if ok=true then wpAny (model prog w) A (eval elt env) (fun x s₄=>
       wpAny (model prog w) A (call (.builtin "list.append") [acc,x]) (fun _ s₅=>∃m,m<n/\I m s₅) (notedBy (model prog w) A env fun e s'=>R (.error e) s') s₄) (notedBy (model prog w) A env fun e s'=>R (.error e) s') s₃
      else ∃m,m<n/\I m s₃) (notedBy (model prog w) A env fun e s'=>R (.error e) s') s₂) (notedBy (model prog w) A env fun e s'=>R (.error e) s') s₁') (notedBy (model prog w) A env fun e s'=>R (.error e) s') s₁) (notedBy (model prog w) A env fun e s'=>R (.error e) s') s)
  (n:Nat) (h:I n s) :
  codeAny (model prog w) A (.compLoop (.ListComp elt [⟨target,iter,ifs,0⟩] scope pos) 0 it acc env) R s:=by
 refine codeAny_loop rfl I (fun n s hI=>?_) n h
 show wpAny _ A ((compTurn (.ListComp elt [⟨target,iter,ifs,0⟩] scope pos) 0 it acc env).onRaise (fun x=>do noteFrame x env;theTreesLotGoes x)) _ _ s
 refine wpAny_noted ?_
 rw[compTurn_list]
 refine wpAny_bind (wpAny_standAt (wpAny_bind (wpAny_mono (turn n s hI) (fun r s₁ h₁=>?_) fun _ _ h'=>h')))
 cases r with
 | none=>exact wpAny_pure h₁
 | some v=>
  refine wpAny_bind (wpAny_mono h₁ (fun _ s₁' h₁'=>?_) fun _ _ h'=>h')
  refine wpAny_bind (wpAny_mono h₁' (fun _ s₂ h₂=>wpAny_bind (wpAny_mono h₂ (fun ok s₃ h₃=>?_) fun _ _ h'=>h')) fun _ _ h'=>h')
  cases ok with
  | false=>exact wpAny_pure ⟨rfl,h₃⟩
  | true=>
   exact wpAny_bind (wpAny_bind (wpAny_mono h₃ (fun x s₄ h₄=>wpAny_bind (wpAny_mono h₄ (fun _ s₅ h₅=>wpAny_pure (wpAny_pure ⟨rfl,h₅⟩)) fun _ _ h'=>h')) fun _ _ h'=>h'))
def Ma(X:Cx)(ifs:List Expr)(t:TT):Prop:=
 ∀(pins:List (Addr×Obj))(s:Shared)(σ:St)(H:Hp)(Q:Bool->Hp->Prop),Inv X pins σ H s->t σ H Q->
  wpAny (model X.prog X.w) X.A (forIn ifs true fun c r=>if r=true then do let ok <-isTrue c X.env (eval c X.env);pure (ForInStep.yield ok) else pure (ForInStep.yield r)) (TP X pins σ Q) X.xe s
def Hf:TT:=fun _ H Q=>Q true H
theorem LX{X:Cx}:Ma X [] Hf:=fun _ _ _ H _ I h=>wpAny_tests_nil ⟨H,I,h⟩
theorem LY{X:Cx}{c:Expr}{t:TT}(h:PT X c t):Ma X [c] t:=fun pins s σ H Q I hq=>wpAny_tests_one (h pins s σ H Q I hq)
def Hg(n:Nat)(ix:List Nat)(g:TG)(tt:TT)(te:TE)(σ:St)(Q:VK)(J:It)(H1:Hp):Prop:=
 ∃W:Nat->Nat->List V->Hp->Prop,(∃m,W 0 m [] H1)/\∀i m ys H,W i m ys H->ys.length<=sizeLine/\
  ((J.stop i H/\∀p,H p=none->Q (.ref p) (upd H p (.lst ys)))\/
   (J.go i H/\∃N:List V->Hp->Prop,(∀ys' H',N ys' H'->∃m',m'<m/\W (i+1) m' ys' H')/\
    ∀x H',J.yld i H x H'->g x (Yn n ix σ) H' fun σ2 H2=>σ2.drop n=(Yn n ix σ).drop n/\tt σ2 H2 fun b H3=>if b=true then te σ2 H3 fun y H4=>N (ys++[y]) H4 else N ys H3))
def SN(n:Nat)(ix:List Nat)(wi:TI)(g:TG)(tt:TT)(te:TE):TE:=fun σ H Q=>wi σ H fun J H1=>Hg n ix g tt te σ Q J H1
theorem O6{n:Nat}{ix:List Nat}{σ σ2:St}(hd:σ2.drop n=(Yn n ix σ).drop n):∀(i:Nat) v,(Yn n ix σ)[i]?=some (some v)->σ2[i]?=some (some v):=fun i v e=>by
 by_cases hi:i<n
 ·unfold Yn at e
  rw[List.getElem?_append_left (by simpa using hi),List.getElem?_replicate] at e
  rw[if_pos hi] at e;cases e
 ·have q:=congrArg (fun l=>l[i-n]?) hd
  simp only[List.getElem?_drop] at q;rw[show n+(i-n)=i by omega] at q
  rw[q];exact e
section
variable {X:Cx} {tg elt iter:Expr} {ifs:List Expr} {scope:Scope} {pos:Pos} {own fr:List Str} {ix:List Nat} {wi:TI} {g:TG} {tt:TT} {te:TE}
theorem Mc{pins:List (Addr×Obj)}{σ:St}{H2:Hp}{s2:Shared}{fp:List Addr}{h₁:Heap}{tk:Nat}{C:Addr}(S:CompScope X.N X.env.scope scope own fr ix)(I2:Inv X pins σ H2 s2)(f2:∀b∈fp,VF X pins H2 b)(hfp:∀b∈fp,b<s2.heap.objs.size)
  (hC:s2.heap.objs.size<=C) (hns:h₁.Ns C fun _=>none) (old:∀b o,s2.heap.get? b=some o->h₁.get? b=some o) :
  Inv (ZP X (own++fr) scope (YT X.env.cells scope.names []) C s2 H2 fp) [] (Yn own.length ix σ) H2 { s2 with heap:=h₁,toks:=tk }:=by
 have cs:=S.clos I2
 have sub:∀x c,(YT X.env.cells scope.names []).lookup x=some c->X.env.cells.lookup x=some c:=fun x c e=>Us scope.names [] cs (fun h=>by simp at h) e
 have stk:=I2.stkSub
 have okk:(ZP X (own++fr) scope (YT X.env.cells scope.names []) C s2 H2 fp).Ok:=by
  refine⟨I2.ok.mod,S.kind,I2.ok.glob,I2.ok.blt,hC,fun x y c h1 h2=>I2.ok.inj x y c (sub x c h1) (sub y c h2),fun x hx=>?_,fun x c h _=>?_,I2.ok.hd,I2.ok.frames,.inl rfl,fun b hb=>⟨?_,fun x c e=>?_⟩,I2.bs,?_,fun b o e hb=>?_,fun b hb z=>?_,I2.stack,I2.stkFree⟩
  ·-- the cells of the block's free names
   have hx:(relabel scope X.env).names.lookup x=some .cell\/(relabel scope X.env).names.lookup x=some .free:=hx
   have key:(x,NameKind.free)∈scope.names:=by
    have:∃k',(relabel scope X.env).names.lookup x=some k'/\(k' = .cell\/k' = .free):=by
     rcases hx with h | h
     ·exact⟨_,h,.inl rfl⟩
     ·exact⟨_,h,.inr rfl⟩
    obtain⟨k',e,hk'⟩:=this
    obtain⟨k,e0⟩:=Wo e
    have e1:=XG (env:=X.env) e0
    have e:(scope.names.map fun(n,k)=>if(k==NameKind.free&&X.env.scope.kind==.function&&X.env.kindOf n==some .cell) then(n,NameKind.cell) else(n,k)).lookup x=some k':=e
    rw[e1] at e;have m:=PySem.mem_of_lookup e0
    cases k with
    | free=>exact m
    | cell=>exact absurd rfl (S.nocell _ m)
    | _=>simp at e;subst e;rcases hk' with z | z<;>cases z
   exact Option.isSome_iff_exists.mp (Ut _ _ key)
  ·cases h
  ·-- fp differs from the frame
   exact Nat.ne_of_lt (Nat.lt_of_lt_of_le (hfp b hb) hC)
  ·exact(f2 b hb).2.2.2.2.1 x c (sub x c e)
  ·exact Nat.le_trans I2.ok.bsz I2.sz
  ·rcases(f2 b hb).2.2.2.1 with z | z
   ·exact I2.ok.noex b o e z
   ·exact absurd (Nat.lt_of_lt_of_le (Heap.lt_size (I2.ok.bs b o e).1) z) (Nat.lt_irrefl _)
  ·rcases List.mem_cons.mp (stk b z) with e | e
   ·exact(f2 b hb).2.1 e
   ·exact(f2 b hb).2.2.1 e
 have sl:fr.length=ix.length:=by simpa using congrArg List.length S.slots
 refine⟨okk,rfl,I2.bare,Un.kept old,⟨_,hns,fun i x v h1 h2 h3=>?_⟩,fun x c e=>?_,I2.hok.fresh hC,fun x c e=>I2.freeC x c (sub x c e),fun p hp=>absurd (show p∈([]:List (Addr×Obj)) from hp) (by simp),I2.hok.kept old,?_⟩
 ·-- a name of the def around
  have h1:(own++fr)[i]?=some x:=h1
  have hi:¬i<own.length:=fun hi=>by
   unfold Yn at h2;rw[List.getElem?_append_left (by simpa using hi),List.getElem?_replicate,if_pos hi] at h2;cases h2
  rw[List.getElem?_append_right (by omega)] at h1;unfold Yn at h2;rw[List.getElem?_append_right (by simpa using hi),List.length_replicate,List.getElem?_map] at h2
  cases ej:ix[i-own.length]? with
  | none=>rw[ej] at h2;cases h2
  | some j=>
   rw[ej] at h2
   have h2:(σ[j]?).join=some v:=by simpa using h2
   have h2:σ[j]?=some (some v):=by
    cases q:σ[j]? with
    | none=>rw[q] at h2;cases h2
    | some z=>rw[q] at h2;exact congrArg some h2
   have hN:X.N[j]?=some x:=by
    have q:=congrArg (fun l=>l[i-own.length]?) S.slots
    simp only[List.getElem?_map,h1,ej,Option.map_some] at q
    exact(Option.some.inj q).symm
   have hm:=S.outs x (List.mem_of_getElem? h1)
   have hk:=S.frees _ hm rfl
   have hk:X.env.scope.names.lookup x=some .cell\/X.env.scope.names.lookup x=some .free:=hk
   obtain⟨m,hn,hl⟩:=I2.loc
   obtain⟨u,r,l⟩:=hl j x v hN h2 (by rcases hk with k | k;exact .inr (.inl k);exact .inr (.inr k))
   refine⟨u,r,?_⟩
   rcases l with⟨k,_⟩ | ⟨_,c,hc,hcell⟩
   ·have k:X.env.scope.names.lookup x=some .local:=k
    rcases hk with q | q<;>rw[k] at q<;>cases q
   ·obtain⟨c',hc'⟩:=Option.isSome_iff_exists.mp (Ut (cells:=X.env.cells) _ [] hm)
    have ec:=sub x c' hc'
    rw[hc] at ec;cases ec
    refine .inr ⟨?_,c,hc',?_⟩
    ·have h3:(relabel scope X.env).names.lookup x=some .local\/(relabel scope X.env).names.lookup x=some .cell\/(relabel scope X.env).names.lookup x=some .free:=h3
     rcases h3 with h3 | h3
     ·obtain⟨k0,e0⟩:=Wo h3
      have e1:=XG (env:=X.env) e0
      have h3:(scope.names.map fun(n,k)=>if(k==NameKind.free&&X.env.scope.kind==.function&&X.env.kindOf n==some .cell) then(n,NameKind.cell) else(n,k)).lookup x=some .local:=h3
      rw[e1] at h3
      have k0l:k0 = .local:=by
       cases k0<;>simp at h3 ⊢
       split at h3<;>cases h3
      subst k0l
      exact absurd e0 (S.apart x (List.mem_of_getElem? h1))
     ·exact h3
    ·obtain⟨o,ho,hd⟩:=hcell
     exact⟨o,old _ _ ho,hd⟩
 ·obtain⟨v,o,ho,hd⟩:=I2.cell x c (sub x c e)
  exact⟨v,o,old _ _ ho,hd⟩
 ·show(Yn own.length ix σ).length=(own++fr).length
  unfold Yn;rw[List.length_append,List.length_replicate,List.length_map,List.length_append,sl]
theorem TF{pins:List (Addr×Obj)}{σ:St}{H2:Hp}{s2:Shared}{fp:List Addr}{it:Addr}{tn:Nat->Heap->Prop}{J:It}{Fin:List V->Hp->Prop}{RR:Value->Addr->Result->Shared->Prop}{E:Value->Shared->Prop}
  (hcalm:X.calm=true) (S:CompScope X.N X.env.scope scope own fr ix)
  (hg:∀cl C s H ex,PG (ZP X (own++fr) scope cl C s H ex) tg g) (ht:∀cl C s H ex,Ma (ZP X (own++fr) scope cl C s H ex) ifs tt) (he:∀cl C s H ex,PE (ZP X (own++fr) scope cl C s H ex) elt te)
  (I2:Inv X pins σ H2 s2) (T:QO X.prog X.w X.K tg J fp it tn) (st2:tn 0 s2.heap) (f2:∀b∈fp,VF X pins H2 b)
  {W:Nat->Nat->List V->Hp->Prop} {m0:Nat} (w0:W 0 m0 [] H2)
  (turn:∀i m ys H,W i m ys H->ys.length<=sizeLine/\
   ((J.stop i H/\Fin ys H)\/
    (J.go i H/\∃N:List V->Hp->Prop,(∀ys' H',N ys' H'->∃m',m'<m/\W (i+1) m' ys' H')/\
     ∀x H',J.yld i H x H'->g x (Yn own.length ix σ) H' fun σ2 H2=>σ2.drop own.length=(Yn own.length ix σ).drop own.length/\tt σ2 H2 fun b H3=>if b=true then te σ2 H3 fun y H4=>N (ys++[y]) H4 else N ys H3)))
  (hRR:∀(D C:Addr)(oC:Obj)(m:Str->Option Value)(s':Shared)(H':Hp)(ys:List V),Inv X (pins++[(C,oC)]) σ (upd H' D (.lst ys)) s'->s'.heap.get? C=some oC->s'.heap.Ns C m->VF X pins (upd H' D (.lst ys)) C->H' D=none->Fin ys H'->RR (.ref D) C (.ok .next) s') :
  wpAny (model X.prog X.w) X.A (newList []) (fun acc s₃=>wpAny (model X.prog X.w) X.A (newFunctionEnv scope X.env.globals (YT X.env.cells scope.names []) [] X.env.qual none .none (some X.env)) (fun cenv s₄=>
   codeAny (model X.prog X.w) X.A (.compStart (.ListComp elt [⟨tg,iter,ifs,0⟩] scope pos) 0 (.ref it) acc { cenv with scope:=relabel scope X.env }) (RR acc cenv.locals) s₄) E s₃) E s2:=by
 have hfp:∀b∈fp,b<s2.heap.objs.size:=fun b hb=>by
  obtain⟨o,e,_⟩:=T.obj 0 s2.heap st2 b hb
  exact Heap.lt_size e
 refine wpAny_newObj_type (wpAny_newFunctionEnv S.nocell (by intro y hy;simp at hy) (fun h₁ hns₁ hsb₁=>?_) S.kind)
 dsimp only at hns₁ hsb₁ ⊢
 generalize hH2:s2.heap.push { cls:=.type "list",dict:=none,data:=.seq ([]:List Value).toArray }=G2 at hns₁ hsb₁ ⊢
 have hC:G2.objs.size=s2.heap.objs.size+1:=by rw[<-hH2,Heap.size_push]
 generalize hCC:G2.objs.size=C at hns₁ hsb₁ hC ⊢
 generalize hDD:s2.heap.objs.size=D at hC ⊢
 have hDC:D≠C:=by omega
 have below:∀b,b<s2.heap.objs.size->b≠C/\b≠D:=fun b hb=>by
  rw[hDD] at hb
  exact⟨Nat.ne_of_lt (by omega),Nat.ne_of_lt hb⟩
 have old:∀b o,s2.heap.get? b=some o->h₁.get? b=some o:=fun b o e=>hsb₁.extBut b o (below b (Heap.lt_size e)).1 (Heap.get?_push_of_some _ (hH2▸Heap.get?_push_of_some _ e))
 have hacc:h₁.get? D=some { cls:=.type "list",data:=.seq ([]:List Value).toArray 0 }:=by
  have e0:G2.get? D=some { cls:=.type "list",data:=.seq ([]:List Value).toArray 0 }:=by
   rw[<-hH2,<-hDD]
   exact Heap.get?_push_size _ rfl
  exact hsb₁.extBut _ _ hDC (Heap.get?_push_of_some _ e0)
 have hns₁':h₁.Ns C fun _=>none:=by simpa using hns₁
 have I0:=fun tk=>Mc (tk:=tk) S I2 f2 hfp (C:=C) (by omega) hns₁' old
 -- what stays true of the iterator's objects in the block
 have loop:∀s₃:Shared,s₃={ s2 with heap:=h₁,toks:=s2.toks+([]:List (Str×Value)).length }->
   codeAny (model X.prog X.w) X.A (.compLoop (.ListComp elt [⟨tg,iter,ifs,0⟩] scope pos) 0 (.ref it) (.ref D) (compEnvC scope (YT X.env.cells scope.names []) C X.env)) (RR (.ref D) C) s₃:=by
  rintro s₃ rfl
  generalize hY:ZP X (own++fr) scope (YT X.env.cells scope.names []) C s2 H2 fp=Y at I0
  have stat:∀{H':Hp}{pn:List (Addr×Obj)},(∀b∈fp,H' b=none)->(∀p∈pn,∀b∈fp,p.1≠b)->∀b∈fp,VF Y pn H' b:=fun{H' pn} hn hp b hb=>by
   subst hY
   refine⟨hn b hb,(below b (hfp b hb)).1,fun z=>?_,.inl hb,fun x c e=>?_,fun p hp'=>hp p hp' b hb⟩
   ·exact(I0 0).ok.exfs b hb z
   ·exact((I0 0).ok.exf b hb).2 x c e
  have dfp:∀b∈fp,D≠b:=fun b hb=>Ne.symm (below b (hfp b hb)).2
  have hcellD:∀x c,Y.env.cells.lookup x=some c->c≠D:=fun x c e z=>by
   subst hY
   have e:(YT X.env.cells scope.names []).lookup x=some c:=e
   have e':=Us scope.names [] (S.clos I2) (fun h=>by simp at h) e
   obtain⟨v,q⟩:=I2.cell x c e'
   exact(below c q.lt).2 z
  have hfsD:D∉Y.fs:=fun z=>by
   subst hY
   obtain⟨_,o,ho,_⟩:=(I0 0).ok.funs.mem z
   have:=Heap.lt_size ho
   have:D<s2.heap.objs.size:=this
   omega
  have eL:Y.env.locals=C:=by subst hY;rfl
  have eS:Y.s₀=s2:=by subst hY;rfl
  have eP:Y.pn=[]:=by subst hY;rfl
  refine Rv (fun n s'=>∃i ys its nn H',Inv Y [] (Yn own.length ix σ) H' s'/\tn i s'.heap/\(∀b∈fp,H' b=none)/\s'.heap.get? D=some { cls:=.type "list",data:=.seq its nn }/\Vals ys its.toList/\H' D=none/\W i n ys H') ?_ m0
   ⟨0,[],#[],0,H2,I0 _,T.keep _ _ _ st2 fun b _ o e=>old b o e,fun b hb=>(f2 b hb).1,hacc,.nil,I2.hok.fresh (by omega),w0⟩
  rintro n s3 ⟨i,ys,its,nn,H3,I3,st3,fr3,oD,vD,nD,w3⟩
  obtain⟨hlen,cases3⟩:=turn i n ys H3 w3
  have hsize:its.size<=sizeLine:=by
   have:=vD.length
   simp only[Array.length_toList] at this;omega
  have pD:Inv Y [(D,{ cls:=.type "list",data:=.seq its nn })] (Yn own.length ix σ) H3 s3:=I3.pins_of fun p hp=>by
   rw[List.mem_singleton.mp hp]
   exact⟨oD,nD,by rw[eL];exact hDC,hfsD,fun v z=>by cases z⟩
  have YP:Y.prog=X.prog:=by subst hY;rfl
  have Yw:Y.w=X.w:=by subst hY;rfl
  have YK:Y.K=X.K:=by subst hY;rfl
  have YA:Y.A=X.A:=by subst hY;rfl
  have Yx:Y.xe=fun _ _=>False:=by subst hY;rfl
  have Ye:Y.env=compEnvC scope (YT X.env.cells scope.names []) C X.env:=by subst hY;rfl
  have ne1:∀p∈[((D,{ cls:=.type "list",data:=.seq its nn }):Addr×Obj)],∀b∈fp,p.1≠b:=fun p hp b hb=>by rw[List.mem_singleton.mp hp];exact dfp b hb
  rcases cases3 with⟨stop,qn⟩ | ⟨go,N,hN,step⟩
  ·have d:=T.done Y YP Yw YK (by subst hY;exact hcalm) i _ s3 _ H3 (notedBy (model X.prog X.w) X.A (compEnvC scope (YT X.env.cells scope.names []) C X.env) fun e s'=>RR (.ref D) C (.error e) s') pD (stat fr3 ne1) st3 stop
   rw[YA] at d
   refine YY d fun r s4 ⟨hr,I4⟩=>?_
   subst hr
   show RR (.ref D) C (.ok .next) s4
   obtain⟨oD4,nD4,_⟩:=I4.pin (D,_) (by rw[eP];exact List.mem_cons_self)
   obtain⟨m,hn,_⟩:=I4.loc
   rw[eL] at hn
   obtain⟨oC,es,ep,hoC,hdC,hrest⟩:=id hn
   have hfreeC:H3 C=none:=by have:=I4.free;rw[eL] at this;exact this
   have un:Un (QJ X.stack) fp H2 H3 s2.heap s4.heap:=by
    have:=I4.base
    subst hY;exact this
   have lt2:∀b o,s2.heap.get? b=some o->b≠D:=fun b o e=>(below b (Heap.lt_size e)).2
   have un':Un (QJ X.stack) fp H2 (upd H3 D (.lst ys)) s2.heap s4.heap:=by
    refine⟨un.keep,un.slot,fun b o e n hx=>?_,un.there,fun b xs e=>?_,fun b o u e=>?_,fun b ps e=>?_⟩
    ·rw[upd_ne (lt2 b o e)];exact un.free b o e n hx
    ·have q:=un.tups b xs e
     rw[upd_ne (Zz q nD4)];exact q
    ·have q:=un.frzs b o u e
     rw[upd_ne (Zz q nD4)];exact q
    ·obtain⟨more,q⟩:=un.tbls b ps e
     exact⟨more,by rw[upd_ne (Zz q nD4)];exact q⟩
   have hok4:HOk X.prog X.w H3 s4.heap:=by
    have:=I4.hok
    rw[YP,Yw] at this;exact this
   have hok':HOk X.prog X.w (upd H3 D (.lst ys)) s4.heap:=fun b u q=>by
    by_cases hb:b=D
    ·subst hb
     rw[Zw] at q;cases q
     exact⟨hlen,its.toList,nn,vD,by simpa using oD4⟩
    ·rw[upd_ne hb] at q
     exact(hok4 b u q).stay (fun c v _ z=>z) (fun c z=>by rw[upd_ne (Zz z nD4)];exact z) fun c xs z=>by rw[upd_ne (Zz z nD4)];exact z
   have os4:s4.os=s2.os:=by rw[I4.os,eS]
   have I5:Inv X pins σ (upd H3 D (.lst ys)) s4:=I2.call' os4 un' hok' I4.bare fun b hb=>⟨(f2 b hb).2.2.2.1,(f2 b hb).2.1,(f2 b hb).2.2.2.2.1,(f2 b hb).2.2.2.2.2⟩
   have CL:C≠X.env.locals:=fun z=>by
    exact(below _ I2.lt).1 z.symm
   have fpC:VF X pins (upd H3 D (.lst ys)) C:=I2.fpOk (by omega) (by rw[upd_ne (Ne.symm hDC)];exact hfreeC)
   refine hRR D C oC m s4 H3 ys (I5.pins_of fun p hp=>?_) hoC hn fpC nD4 qn
   rcases List.mem_append.mp hp with z | z
   ·exact I5.pin p (List.mem_append_right _ z)
   ·rw[List.mem_singleton.mp z]
    exact⟨hoC,fpC.1,fpC.2.1,fpC.2.2.1,fun v z=>by rw[hdC] at z;cases z⟩
  ·have d:=T.item Y YP Yw YK (by subst hY;exact hcalm) i _ s3 _ H3 (fun _ _=>False) pD (stat fr3 ne1) st3 go
   rw[YA] at d
   refine wpAny_mono d (fun r s4 ⟨u,hr,h4⟩=>?_) fun _ _ z=>z.elim
   subst hr
   refine wpAny_mono h4 (fun _ s5 ⟨x,H5,I5,r5,y5,st5,fr5⟩=>?_) fun _ _ z=>z.elim
   have I5':=I5.pinned (stat fr5 ne1) (T.obj _ _ st5)
   have hg':=hg (YT X.env.cells scope.names []) C s2 H2 fp
   have ht':=ht (YT X.env.cells scope.names []) C s2 H2 fp
   have he':=he (YT X.env.cells scope.names []) C s2 H2 fp
   rw[hY] at hg' ht' he'
   have a6:=hg' _ s5 _ H5 x u _ I5' r5 (step x H5 y5)
   rw[YP,Yw,YA,Ye,Yx] at a6
   refine wpAny_mono a6 (fun _ s6 ⟨σ6,H6,I6,dr,q6⟩=>?_) fun _ _ z=>z.elim
   have a7:=ht' _ s6 σ6 H6 _ I6 q6;rw[YP,Yw,YA,Ye,Yx] at a7
   refine wpAny_mono a7 (fun ok s7 ⟨H7,I7,q7⟩=>?_) fun _ _ z=>z.elim
   have back:∀{H8:Hp}{s8:Shared},Inv Y ([((D,{ cls:=.type "list",data:=.seq its nn }):Addr×Obj)]++Um fp s5.heap) σ6 H8 s8->
     s8.heap.get? D=some { cls:=.type "list",data:=.seq its nn }/\H8 D=none/\tn (i+1) s8.heap/\(∀b∈fp,H8 b=none):=fun{H8 s8} I8=>by
    obtain⟨e1,e2,_⟩:=I8.pin (D,{ cls:=.type "list",data:=.seq its nn }) (by rw[eP];exact List.mem_cons_self)
    refine⟨e1,e2,T.keep _ _ _ st5 fun b hb o e=>(I8.pin (b,o) (by rw[eP];exact List.mem_cons_of_mem _ (Wm hb e))).1,fun b hb=>?_⟩
    obtain⟨o,e,_⟩:=T.obj _ _ st5 b hb
    exact(I8.pin (b,o) (by rw[eP];exact List.mem_cons_of_mem _ (Wm hb e))).2.1
   have unp:∀{H8:Hp}{s8:Shared},Inv Y ([((D,{ cls:=.type "list",data:=.seq its nn }):Addr×Obj)]++Um fp s5.heap) σ6 H8 s8->Inv Y [] (Yn own.length ix σ) H8 s8:=fun{H8 s8} I8=>
    (I8.pins_of (pins':=[]) fun p hp=>absurd hp (by simp)).weak (by
     have e1:=(I0 0).len
     have e2:=I8.len
     rw[e1,e2]) (O6 dr)
   cases ok with
   | false=>
    rw[if_neg Bool.false_ne_true] at q7
    show ∃m,m<n/\_
    obtain⟨e1,e2,e3,e4⟩:=back I7
    obtain⟨m',hm,w7⟩:=hN _ _ q7
    exact⟨m',hm,i+1,ys,its,nn,H7,unp I7,e3,e4,e1,vD,e2,w7⟩
   | true=>
    rw[if_pos rfl] at q7
    show wpAny _ _ _ _ _ _
    have a8:=he' _ s7 σ6 H7 _ I7 q7;rw[YP,Yw,YA,Ye,Yx] at a8
    refine wpAny_mono a8 (fun yv s8 ⟨y,H8,I8,ry,q8⟩=>?_) fun _ _ z=>z.elim
    obtain⟨e1,e2,e3,e4⟩:=back I8
    obtain⟨m',hm,w8⟩:=hN _ _ q8
    refine append_at e1 (fun h9 hs9 hD9=>?_) hsize
    have I9:Inv Y [] (Yn own.length ix σ) H8 { s8 with heap:=h9 }:=(unp I8).turned (t':=s8.toks) (it:=D) (fun b o hb e=>hs9.extBut b o hb e) e2 (by rw[eL];exact hDC) (.inr (by rw[eS];omega)) hcellD (fun p hp=>absurd (show p∈([]:List (Addr×Obj)) by rw[eP] at hp;exact hp) (by simp))
    refine⟨m',hm,i+1,ys++[y],its.push yv,nn+1,H8,I9,T.keep _ _ _ e3 fun b hb o e=>hs9.extBut b o (Ne.symm (dfp b hb)) e,e4,hD9,?_,e2,w8⟩
    rw[Array.toList_push]
    exact vD.append (.cons ry .nil)
 exact codeAny_compStart_list (loop _ rfl) (T.self X.A 0 _ _ _ (T.keep _ _ _ st2 fun b _ o e=>old b o e) (loop _ rfl))
theorem LZ(hcalm:X.calm=true)(hi:PI X tg iter wi)(S:CompScope X.N X.env.scope scope own fr ix)
  (hg:∀cl C s H ex,PG (ZP X (own++fr) scope cl C s H ex) tg g) (ht:∀cl C s H ex,Ma (ZP X (own++fr) scope cl C s H ex) ifs tt) (he:∀cl C s H ex,PE (ZP X (own++fr) scope cl C s H ex) elt te)
  (hs:∀x,foldedSetIterable iter X.env x=pure x:=by intro _;rfl):PE X (.ListComp elt [⟨tg,iter,ifs,0⟩] scope pos) (SN own.length ix wi g tt te):=by
 intro pins s σ H Q I h;rw[eval_ListComp]
 refine wpAny_comprehension_free (use:=none) (cl:=YT X.env.cells scope.names []) rfl hs (Vp (S.clos I)) S.kind S.names (YY (hi pins s σ H _ I h) fun v s1 h1=>YY h1 fun itv s2 h2=>?_)
 obtain⟨it,fp,tn,J,H2,e,I2,T,st2,f2,W,⟨m0,w0⟩,turn⟩:=h2
 subst e
 refine TF (Fin:=fun ys H=>∀p,H p=none->Q (.ref p) (upd H p (.lst ys))) (RR:=fun acc C=>compPost (model X.prog X.w) X.A X.xe none (EP X pins σ Q) acc C) hcalm S hg ht he I2 T st2 f2 w0 turn ?_
 intro D C oC m s' H' ys I5 hoC hn fpC nD fin
 refine⟨m,hn,fun h' hs'=>⟨.ref D,upd H' D (.lst ys),?_,rfl,fin D nD⟩⟩
 exact(I5.unpinned (pl:=[(C,oC)])).turned (t':=s'.toks) (it:=C) (fun b o hb e=>hs'.extBut b o hb e) fpC.1 fpC.2.1 fpC.2.2.2.1 fpC.2.2.2.2.1 fpC.2.2.2.2.2
theorem L0{i:Nat}{y:Str}{py spos:Pos}(hN:X.N.Nodup)(hy:X.N[i]?=some y)(hloc:X.env.scope.names.lookup y=some .local)(hcalm:X.calm=true)(hi:PI X tg iter wi)(S:CompScope X.N X.env.scope scope own fr ix)
  (hg:∀cl C s H ex,PG (ZP X (own++fr) scope cl C s H ex) tg g) (ht:∀cl C s H ex,Ma (ZP X (own++fr) scope cl C s H ex) ifs tt) (he:∀cl C s H ex,PE (ZP X (own++fr) scope cl C s H ex) elt te)
  (hsw:swapsWith (.ListComp elt [⟨tg,iter,ifs,0⟩] scope pos) (some (.Name y py)) spos.line X.env=pure true:=by rfl)
  (hs:∀x,foldedSetIterable iter X.env x=pure x:=by intro _;rfl):PS X (.Assign [.Name y py] (.ListComp elt [⟨tg,iter,ifs,0⟩] scope pos) spos) (QM (SN own.length ix wi g tt te) (US i)):=by
 intro pins s σ H D0 I h;rw[exec_Assign_Name_used _ _ _ _ hsw]
 refine wpAny_bind (wpAny_standAt (wpAny_bind ?_))
 show wpAny _ X.A (do let _ <-comprehension (.ListComp elt [⟨tg,iter,ifs,0⟩] scope pos) scope X.env _ (newList []) false (eval iter X.env) (some (assign (.Name y py) X.env))) _ _ s
 refine wpAny_bind (wpAny_mono (wpAny_comprehension_free (cl:=YT X.env.cells scope.names []) (use:=some (assign (.Name y py) X.env)) (Q:=fun _ s'=>SP X pins D0 .next s') (E:=X.xe) rfl hs (Vp (S.clos I)) S.kind S.names
  (YY (hi pins s σ H _ I h) fun v s1 h1=>YY h1 fun itv s2 h2=>?_)) (fun _ s' hq=>wpAny_pure (wpAny_pure hq)) fun _ _ e=>e)
 obtain⟨it,fp,tn,J,H2,e,I2,T,st2,f2,W,⟨m0,w0⟩,turn⟩:=h2
 subst e
 refine TF (Fin:=fun ys H=>∀p,H p=none->US i (.ref p) σ (upd H p (.lst ys)) D0.nx) (RR:=fun acc C=>compPost (model X.prog X.w) X.A X.xe (some (assign (.Name y py) X.env)) (fun _ s'=>SP X pins D0 .next s') acc C) hcalm S hg ht he I2 T st2 f2 w0 turn ?_
 intro D C oC m s' H' ys I5 hoC hn fpC nD fin
 show wpAny _ X.A (assign (.Name y py) X.env (.ref D)) _ _ _
 refine wpAny_assign_Name (Tv I5 hN hy (.inl hloc) (v:=.ref D) rfl (fun s6 I6=>?_) (.inr hloc))
 obtain⟨e6,_⟩:=I6.pin (C,oC) (List.mem_append_right _ (List.mem_append_right _ List.mem_cons_self))
 obtain⟨o',es,ep,ho',r'⟩:=hn
 rw[hoC] at ho';cases ho'
 refine⟨m,⟨oC,es,ep,e6,r'⟩,fun h' hs'=>⟨_,upd H' D (.lst ys),?_,fin D nD⟩⟩
 exact(I6.unpinned (pl:=[(C,oC)])).turned (t':=s6.toks) (it:=C) (fun b o hb e=>hs'.extBut b o hb e) fpC.1 fpC.2.1 fpC.2.2.2.1 fpC.2.2.2.2.1 fpC.2.2.2.2.2
end
open AutoSeq1 (wpAny_loadPart')
section
variable {prog:Program} {w:World} {A:Around} {E:Value->Shared->Prop} {s:Shared}
theorem VH{it l:Addr}{i:Nat}{items}{x:Value}{Q:Value->Shared->Prop}(hit:s.heap.IsTupleIter it l i)
  (hl:s.heap.IsTuple l items) (hx:items[i]?=some x)
  (hQ:∀h',h'.IsTupleIter it l (i+1)->Heap.SameBut it s.heap h'->Q x { s with heap:=h' }) :
  wpAny (model prog w) A (Builtin.SmallTypes.nextOf (.ref it)) Q E s:=by
 obtain⟨o,ho,hc,hd⟩:=id hit
 obtain⟨ol,hol,_,nl,hdl⟩:=hl
 unfold Builtin.SmallTypes.nextOf
 refine wpAny_bind (wpAny_callSpecial?_slot (name:=Str.ofString "__next__") hit.typeIs F.slot_tuple_iterator_next
  (wpAny_call_entry F.slot_tuple_iterator_next hit.typeIs F.entry_tuple_iterator_next ?_ (F.args_tuple_iterator_next_1 _)))
 show wpAny _ _ (field (.ref it) 0 >>= _) _ _ s
 refine wpAny_bind (wpAny_field ho hd (x:=.ref l) rfl ?_)
 show wpAny _ _ (if(Value.ref l==Value.none)=true then _ else _) _ _ s
 rw[if_neg (show ¬((Value.ref l==Value.none)=true) from Bool.false_ne_true)]
 show wpAny _ _ (field (.ref it) 1 >>= _) _ _ s
 refine wpAny_bind (wpAny_field ho hd (x:=.int i 0) rfl ?_)
 show wpAny _ _ (seqItems? (.ref l) >>= _) _ _ s
 refine wpAny_bind (wpAny_seqItems hol hdl ?_)
 simp only[Int.toNat_natCast,hx]
 refine wpAny_bind (wpAny_setField ho hd (by simp) (wpAny_pure ⟨x,rfl,wpAny_pure (hQ _ ?_ (Heap.SameBut.update ..))⟩))
 exact⟨_,Heap.get?_update_self _ ho (Obj.isFreed_of_fields (Obj.data_mapFields hd _)),(Obj.cls_mapFields ..).trans hc,by
  rw[Obj.data_mapFields hd];simp[rawInt]⟩
theorem Uu{it l:Addr}{i:Nat}{items}{Q:Value->Shared->Prop}(hh:A.handled=none)
  (hit:s.heap.IsTupleIter it l i) (hl:s.heap.IsTuple l items) (hx:items[i]?=none)
  (hE:∀h' e,Heap.ExtBut it s.heap h'->(∃o,h'.get? e=some o/\o.cls = .type "StopIteration")->E (.ref e) { s with heap:=h' }) :
  wpAny (model prog w) A (Builtin.SmallTypes.nextOf (.ref it)) Q E s:=by
 obtain⟨o,ho,hc,hd⟩:=id hit
 obtain⟨ol,hol,_,nl,hdl⟩:=hl
 unfold Builtin.SmallTypes.nextOf
 refine wpAny_bind (wpAny_callSpecial?_slot (name:=Str.ofString "__next__") hit.typeIs F.slot_tuple_iterator_next
  (wpAny_call_entry F.slot_tuple_iterator_next hit.typeIs F.entry_tuple_iterator_next ?_ (F.args_tuple_iterator_next_1 _)))
 show wpAny _ _ (field (.ref it) 0 >>= _) _ _ s
 refine wpAny_bind (wpAny_field ho hd (x:=.ref l) rfl ?_)
 show wpAny _ _ (if(Value.ref l==Value.none)=true then _ else _) _ _ s
 rw[if_neg (show ¬((Value.ref l==Value.none)=true) from Bool.false_ne_true)]
 show wpAny _ _ (field (.ref it) 1 >>= _) _ _ s
 refine wpAny_bind (wpAny_field ho hd (x:=.int i 0) rfl ?_)
 show wpAny _ _ (seqItems? (.ref l) >>= _) _ _ s
 refine wpAny_bind (wpAny_seqItems hol hdl ?_)
 simp only[Int.toNat_natCast,hx]
 refine wpAny_bind (wpAny_rule (wpAny_bind (wpAny_setField ho hd (by simp) ?_)))
 show wpAny _ _ (newExc (.type "StopIteration") [] >>= _) _ _ _
 refine wpAny_bind ?_
 simp only[newExc,newTuple]
 refine wpAny_bind (wpAny_newObj_type ?_ (by size_fits))
 refine wpAny_bind (m:=firstArgMember _ _) (wpAny_of_eq (a:=Value.none) (by first | rfl | (simp only[firstArgMember];rfl)) ?_)
 refine wpAny_newObj_type ?_ (by size_fits)
 simp only[raiseNew]
 refine wpAny_bind (wpAny_handled ?_)
 first | rw[show A.in1.handled=none from hh] | rw[hh]
 refine wpAny_bind (wpAny_pure (wpAny_throw ?_))
 exact hE _ _ (((Heap.SameBut.update ..).extBut.push _).push _) ⟨_,Heap.get?_push_size _ rfl,rfl⟩
end
def SeqB(b:Bool)(h:Heap)(a:Addr)(its:Array Value):Prop:=if b=true then h.IsList a its else h.IsTuple a its
def IterB(b:Bool)(h:Heap)(it a:Addr)(i:Nat):Prop:=if b=true then h.IsListIter it a i else h.IsTupleIter it a i
def SO(b:Bool)(K:PySem.W.Frag)(H:Hp)(a:Addr)(xs:List V):Prop:=if b=true then SqL K H a xs else SqT K H a xs
def WA(b:Bool)(a:Addr):Obj:={ cls:=.type (if b=true then "list_iterator" else "tuple_iterator"),data:=.fields #[.ref a,.int 0 0] }
theorem SeqB.at{b:Bool}{h h':Heap}{a:Addr}{its:Array Value}(x:SeqB b h a its)(k:∀o,h.get? a=some o->h'.get? a=some o):SeqB b h' a its:=by
 cases b with
 | true=>obtain⟨o,e,r⟩:=(show h.IsList a its from x);exact⟨o,k o e,r⟩
 | false=>obtain⟨o,e,r⟩:=(show h.IsTuple a its from x);exact⟨o,k o e,r⟩
theorem SeqB.has{b:Bool}{h:Heap}{a:Addr}{its:Array Value}(x:SeqB b h a its):∃o,h.get? a=some o:=by
 cases b with
 | true=>obtain⟨o,e,r⟩:=(show h.IsList a its from x);exact⟨o,e⟩
 | false=>obtain⟨o,e,r⟩:=(show h.IsTuple a its from x);exact⟨o,e⟩
theorem IterB.at{b:Bool}{h h':Heap}{it a:Addr}{i:Nat}(x:IterB b h it a i)(k:∀o,h.get? it=some o->h'.get? it=some o):IterB b h' it a i:=by
 cases b with
 | true=>obtain⟨o,e,r⟩:=(show h.IsListIter it a i from x);exact⟨o,k o e,r⟩
 | false=>obtain⟨o,e,r⟩:=(show h.IsTupleIter it a i from x);exact⟨o,k o e,r⟩
theorem IterB.has{b:Bool}{h:Heap}{it a:Addr}{i:Nat}(x:IterB b h it a i):∃o,h.get? it=some o/\∀v,o.data≠.cell v:=by
 cases b with
 | true=>obtain⟨o,e,_,d⟩:=(show h.IsListIter it a i from x);exact⟨o,e,fun v z=>by rw[d] at z;cases z⟩
 | false=>obtain⟨o,e,_,d⟩:=(show h.IsTupleIter it a i from x);exact⟨o,e,fun v z=>by rw[d] at z;cases z⟩
theorem IterB.new{b:Bool}{h:Heap}{it a:Addr}(e:h.get? it=some (WA b a)):IterB b h it a 0:=by
 cases b with
 | true=>exact⟨_,e,rfl,rfl⟩
 | false=>exact⟨_,e,rfl,rfl⟩
section
variable {X:Cx} {pins:List (Addr×Obj)} {σ:St} {H:Hp} {s:Shared} {a:Addr} {xs ys:List V} {b:Bool}
theorem Inv.seqB(I:Inv X pins σ H s)(h:SO b X.K H a xs):∃its:List Value,Vals xs its/\SeqB b s.heap a its.toArray/\xs.length<=sizeLine:=by
 cases b with
 | true=>
  obtain⟨its,r,p,z⟩:=I.list (show SqL X.K H a xs from h)
  exact⟨its,r,p.isList,z⟩
 | false=>
  obtain⟨its,r,p,z⟩:=I.tuple (show SqT X.K H a xs from h)
  exact⟨its,r,p,z⟩
theorem Inv.seqB_inj(I:Inv X pins σ H s)(h:SO b X.K H a xs)(h':SO b X.K H a ys):xs=ys:=by
 cases b with
 | true=>exact I.list_inj (show SqL X.K H a xs from h) (show SqL X.K H a ys from h')
 | false=>exact I.tuple_inj (show SqT X.K H a xs from h) (show SqT X.K H a ys from h')
end
theorem Draws.seq{prog:Program}{w:World}{A:Around}(b:Bool)(hh:A.handled=none)(it l:Addr)(hne:l≠it)(items:Array Value) :
  Draws prog w A it [it,l] items.size (fun i v=>items[i]?=some v) (fun i h=>IterB b h it l i/\SeqB b h l items) where
 live:=fun _ _ st=>let⟨o,ho,_⟩:=st.1.has;⟨o,ho⟩
 frame:=fun _ _ _ st hk=>⟨st.1.at fun o e=>hk it (by simp) o e,st.2.at fun o e=>hk l (by simp) o e⟩
 item:=fun i s Q E hi st hQ=>by
  cases b with
  | true=>
   refine wpAny_nextOf_list_item (show s.heap.IsListIter it l i from st.1) (show s.heap.IsList l items from st.2) (x:=items[i]) (by simp[hi]) fun h' hit' hs'=>?_
   exact hQ _ h' s.toks (by simp[hi]) ⟨hit',st.2.at fun o e=>hs'.extBut l o hne e⟩ hs'
  | false=>
   refine VH (show s.heap.IsTupleIter it l i from st.1) (show s.heap.IsTuple l items from st.2) (x:=items[i]) (by simp[hi]) fun h' hit' hs'=>?_
   exact hQ _ h' s.toks (by simp[hi]) ⟨hit',st.2.at fun o e=>hs'.extBut l o hne e⟩ hs'
 done:=fun s Q E st hE=>by
  cases b with
  | true=>exact wpAny_nextOf_list_end hh (show s.heap.IsListIter it l _ from st.1) (show s.heap.IsList l items from st.2) (by simp) hE
  | false=>exact Uu hh (show s.heap.IsTupleIter it l _ from st.1) (show s.heap.IsTuple l items from st.2) (by simp) hE
theorem YL{prog:Program}{w:World}{A:Around}{E:Value->Shared->Prop}{s:Shared}{b:Bool}{a:Addr}{its:Array Value}{Q:Value->Shared->Prop}(h:SeqB b s.heap a its)
  (hQ:Q (.ref s.heap.objs.size) { s with heap:=s.heap.push (WA b a) }):wpAny (model prog w) A (pyIter (.ref a)) Q E s:=by
 cases b with
 | true=>exact wpAny_pyIter_list (show s.heap.IsList a its from h) hQ
 | false=>exact wpAny_pyIter_tuple (show s.heap.IsTuple a its from h) hQ
set_option maxHeartbeats 4000000 in
theorem TH(b:Bool)(l:Addr)(items:Array Value) :
  Meets (Builtin.«enumerate.__new__» ⟨[.type "enumerate",.ref l],[]⟩) (fun _ R s=>SeqB b s.heap l items/\
   R (.ok (.ret (.ref (s.heap.push (WA b l)).objs.size)))
    { s with heap:=(s.heap.push (WA b l)).push { cls:=.type "enumerate",data:=.fields #[.none,.bool false,.ref s.heap.objs.size,rawInt 0,.none,.none] } }):=
 .of_wp fun prog w A R s h=>by
  obtain⟨hp,g,d,tk,os⟩:=s;obtain⟨hl,h⟩:=h
  have hsub:=sub_enumerate
  obtain⟨o,ho⟩:=hl.has
  have hL:SeqB b (Shared.heap ⟨hp,g,d,tk,os⟩) l items:=hl
  wp_walk using wpAny_loadPart' ho
  refine wpAny_stack_any fun st=>wpAny_pure ?_
  split
  ·rename_i c _ _ _ _ _
   cases (c==Value.type "enumerate")
   ·wp_walk using wpAny_loadPart' ho,YL hL
    exact⟨_,rfl,h⟩
   ·wp_walk using wpAny_loadPart' ho,YL hL
    exact⟨_,rfl,h⟩
  ·wp_walk using wpAny_loadPart' ho,YL hL
   exact⟨_,rfl,h⟩
section
variable {prog:Program} {w:World} {A:Around} {E:Value->Shared->Prop} {s:Shared}
theorem Sy{b:Bool}{l:Addr}{items:Array Value}{Q:Value->Shared->Prop}(hL:SeqB b s.heap l items)
  (h:∀h',IsEnum h' (s.heap.objs.size+1) s.heap.objs.size 0 .none->IterB b h' s.heap.objs.size l 0->h'.objs.size=s.heap.objs.size+2->
   (∀b o,s.heap.get? b=some o->h'.get? b=some o)->Q (.ref (s.heap.objs.size+1)) { s with heap:=h' }) :
  wpAny (model prog w) A (call (.type "enumerate") [.ref l]) Q E s:=by
 refine callType_new F.called_enumerate (by decide) (F.typeCall_enumerate_1 _) (F.newCall_enumerate_1 _) (fun obj=>F.args_object_init_2 obj _) F.entry_enumerate_new
  (TH b l items) ⟨hL,?_⟩
 have hz:(s.heap.push (WA b l)).objs.size=s.heap.objs.size+1:=Heap.size_push ..
 show _/\_
 rw[hz]
 have he:IsEnum ((s.heap.push (WA b l)).push
   { cls:=.type "enumerate",data:=.fields #[.none,.bool false,.ref s.heap.objs.size,rawInt 0,.none,.none] }) (s.heap.objs.size+1) s.heap.objs.size 0 .none:=by
  have:=Heap.get?_push_size (s.heap.push (WA b l))
   (o:={ cls:=.type "enumerate",data:=.fields #[.none,.bool false,.ref s.heap.objs.size,rawInt 0,.none,.none] }) rfl
  rw[hz] at this;exact this
 refine⟨⟨_,he,rfl⟩,h _ he (IterB.new (Heap.get?_push_of_some _ (Heap.get?_push_size _ rfl))) (by rw[Heap.size_push,hz]) fun b o x=>Heap.get?_push_of_some _ (Heap.get?_push_of_some _ x)⟩
end
def GD(b:Bool)(K:PySem.W.Frag)(a:Addr):It:=
  ⟨fun i H=>∃xs x,SO b K H a xs/\xs[i]?=some x,
   fun i H v H'=>∃p x,H p=none/\v = .ref p/\H'=upd H p (.tup [.int i,x])/\∀xs,SO b K H a xs->xs[i]?=some x,
   fun i H=>∃xs,SO b K H a xs/\xs.length=i⟩
theorem O7{P:Program}{w:World}{K:PySem.W.Frag}{elts:List Expr}{k:Nat}{pos:Pos}(b:Bool)(a e it:Addr)(hei:e≠it) :
  QO P w K (.Tuple elts k pos) (GD b K a) [e,it] e (fun i h=>(∃old,IsEnum h e it i old)/\IterB b h it a i) where
 mem:=by simp
 obj:=fun i h st c hc=>by
  rcases List.mem_cons.mp hc with rfl | hc
  ·obtain⟨⟨old,q⟩,_⟩:=st
   exact⟨_,q,fun v z=>by cases z⟩
  ·rw[List.mem_singleton.mp hc]
   exact st.2.has
 keep:=fun i h h' st kk=>⟨let⟨old,q⟩:=st.1;⟨old,kk e (by simp) _ q⟩,st.2.at fun o q=>kk it (by simp) o q⟩
 item:=by
  intro X hP hw hK hc i pins s σ H E I hf st hg
  subst hP hw hK
  obtain⟨xs,x,hq,hx⟩:=hg
  obtain⟨its,rv,p,hz⟩:=I.seqB hq
  obtain⟨u,hu,ru⟩:=rv.get hx
  obtain⟨⟨old,he⟩,hit⟩:=st
  have fe:=hf e (by simp)
  have fi:=hf it (by simp)
  obtain⟨oa,hoa⟩:=p.has
  have tra:H a=none->a<X.s₀.heap.objs.size\/True:=fun _=>.inr trivial
  -- the sequence is neither record
  have ne_of_fp:∀c,VF X pins H c->(∃oc,s.heap.get? c=some oc/\∃n vs,oc.cls = .type n/\oc.data = .fields vs)->a≠c:=fun c _ ⟨oc,hoc,n,vs,hn,hv⟩ z=>by
   subst z
   rw[hoa] at hoc;cases hoc
   cases b with
   | true=>obtain⟨o,e1,_,m,d⟩:=(show s.heap.IsList a its.toArray from p);rw[hoa] at e1;cases e1;rw[hv] at d;cases d
   | false=>obtain⟨o,e1,_,m,d⟩:=(show s.heap.IsTuple a its.toArray from p);rw[hoa] at e1;cases e1;rw[hv] at d;cases d
  have ae:a≠e:=ne_of_fp e fe ⟨_,he,_,_,rfl,rfl⟩
  have ai:a≠it:=ne_of_fp it fi (by
   cases b with
   | true=>obtain⟨o,e1,c1,d1⟩:=(show s.heap.IsListIter it a i from hit);exact⟨o,e1,_,_,c1,d1⟩
   | false=>obtain⟨o,e1,c1,d1⟩:=(show s.heap.IsTupleIter it a i from hit);exact⟨o,e1,_,_,c1,d1⟩)
  have D:=Draws.seq (prog:=X.prog) (w:=X.w) (A:=X.A.in1) b (I.ok.hd hc) it a ai its.toArray
  have hlt:i<its.toArray.size:=by
   have:=(List.getElem?_eq_some_iff.mp hu).1
   simpa using this
  refine wpAny_pyNext_enum_itemD D he ⟨hit,p⟩ hlt hei (by simp[hei,Ne.symm ae]) fun y h' tk hPy ho hs' hT hsz hk=>?_
  have ey:y=u:=by
   have q1:its.toArray[i]?=some y:=hPy
   have q2:its.toArray[i]?=some u:=by simpa using hu
   rw[q1] at q2;exact Option.some.inj q2
  subst ey
  refine⟨_,rfl,wpAny_letOwnedTupleGo_enum ho fun h2 he2 hs2=>?_⟩
  have hs2:Heap.SameBut e h' h2:=hs2
  have Tne:s.heap.objs.size≠e:=Nat.ne_of_gt (Heap.lt_size he)
  have hTn:H s.heap.objs.size=none:=I.hok.fresh (Nat.le_refl _)
  have kk:∀c o,c∉[e,it]->s.heap.get? c=some o->h2.get? c=some o:=fun c o hc' q=>hs2.extBut c o (fun z=>hc' (by simp[z])) (hk c o (fun z=>hc' (by simp[z])) (fun z=>hc' (by simp[z])) q)
  have hT2:h2.get? s.heap.objs.size=some { cls:=.type "tuple",data:=.seq #[.int i tk,y] }:=hs2.extBut _ _ Tne hT
  have hcs:∀c∈[e,it],(c∈X.ex\/X.s₀.heap.objs.size<=c)/\c≠X.env.locals/\(∀x d,X.env.cells.lookup x=some d->d≠c)/\∀p∈X.pn++pins,p.1≠c:=fun c hc'=>by
   have f:=hf c hc'
   exact⟨f.2.2.2.1,f.2.1,f.2.2.2.2.1,f.2.2.2.2.2⟩
  have nfp:∀c u',H c=some u'->c∉[e,it]:=fun c u' q hc'=>by rw[(hf c hc').1] at q;cases q
  have hok0:HOk X.prog X.w H h2:=fun c u' q=>(I.hok c u' q).stay (fun d v hd q'=>kk d v (by
    rcases hd with z | z
    ·rw[z];exact nfp c u' q
    ·exact nfp d _ z) q') (fun _ z=>z) fun _ _ z=>z
  have new:ObjOk X.prog X.w (upd H s.heap.objs.size (.tup [.int i,x])) h2 s.heap.objs.size (.tup [.int i,x]):=
   ⟨by show 2<=sizeLine;decide,[.int i tk,y],.cons ⟨tk,rfl⟩ (.cons ru .nil),⟨_,hT2,rfl,_,rfl⟩⟩
  have hok1:HOk X.prog X.w (upd H s.heap.objs.size (.tup [.int i,x])) h2:=fun c u' q=>by
   by_cases hb:c=s.heap.objs.size
   ·subst hb;rw[Zw] at q;cases q;exact new
   ·rw[upd_ne hb] at q
    exact(hok0 c u' q).stay (fun d v _ q'=>q') (fun d z=>by rw[upd_ne (Zz z hTn)];exact z) fun d zs z=>by rw[upd_ne (Zz z hTn)];exact z
  have un:Un (QJ X.stack) [e,it] H (upd H s.heap.objs.size (.tup [.int i,x])) s.heap h2:=by
   refine⟨fun c o q _ _ hx'=>kk c o hx' q,fun c o q _ _ hx'=>⟨o.slots,kk c o hx' q⟩,fun c o q n _=>?_,fun c o q hx'=>⟨o,kk c o hx' q⟩,fun c zs q=>?_,fun c o zs q=>?_,fun c ps q=>⟨#[],?_⟩⟩
   ·rw[upd_ne (Nat.ne_of_lt (Heap.lt_size q))];exact n
   ·rw[upd_ne (Zz q hTn)];exact q
   ·rw[upd_ne (Zz q hTn)];exact q
   ·rw[upd_ne (Zz q hTn),q];simp
  have I2:Inv X pins σ (upd H s.heap.objs.size (.tup [.int i,x])) { s with heap:=h2,toks:=tk+1 }:=I.call (g':=s.gens) (d':=s.drawn) un hok1 I.bare hcs
  refine⟨.ref s.heap.objs.size,upd H s.heap.objs.size (.tup [.int i,x]),I2,rfl,⟨_,x,hTn,rfl,rfl,fun zs hzs=>by rw[I.seqB_inj hzs hq];exact hx⟩,⟨⟨y,by simpa using he2⟩,?_⟩,fun c hc'=>?_⟩
  ·exact hs'.1.at fun o q=>hs2.extBut it o (Ne.symm hei) q
  ·rw[upd_ne (Nat.ne_of_lt (by
    rcases List.mem_cons.mp hc' with rfl | hc'
    ·exact Heap.lt_size he
    ·rw[List.mem_singleton.mp hc'];obtain⟨o,q,_⟩:=hit.has;exact Heap.lt_size q))]
   exact(hf c hc').1
 done:=by
  intro X hP hw hK hc i pins s σ H E I hf st hg
  subst hP hw hK
  obtain⟨xs,hq,hx⟩:=hg
  obtain⟨its,rv,p,hz⟩:=I.seqB hq
  obtain⟨⟨old,he⟩,hit⟩:=st
  have fi:=hf it (by simp)
  obtain⟨oa,hoa⟩:=p.has
  have ai:a≠it:=fun z=>by
   subst z
   cases b with
   | true=>
    obtain⟨o,e1,_,m,d⟩:=(show s.heap.IsList a its.toArray from p)
    obtain⟨o',e2,_,d2⟩:=(show s.heap.IsListIter a a i from hit)
    rw[e1] at e2;cases e2;rw[d] at d2;cases d2
   | false=>
    obtain⟨o,e1,_,m,d⟩:=(show s.heap.IsTuple a its.toArray from p)
    obtain⟨o',e2,_,d2⟩:=(show s.heap.IsTupleIter a a i from hit)
    rw[e1] at e2;cases e2;rw[d] at d2;cases d2
  have D:=Draws.seq (prog:=X.prog) (w:=X.w) (A:=X.A.in1) b (I.ok.hd hc) it a ai its.toArray
  have hl:=rv.length
  have hi:i=its.toArray.size:=by simp;omega
  refine wpAny_pyNext_enum_endD D he (by rw[<-hi];exact⟨hit,p⟩) fun h' hx'=>⟨rfl,?_⟩
  obtain⟨f0,f1,f2,f3,f4,f5⟩:=fi
  exact I.turned (t':=s.toks) (fun c o hb q=>hx' c o hb q) f0 f1 f3 f4 f5
 self:=fun A i s Q E st hQ=>by
  obtain⟨⟨old,he⟩,_⟩:=st
  exact wpAny_pyIter_enum he hQ
end L2
namespace L2
open PySem PySem.Spec PyProof.Rows
section
variable {X:Cx}
def Hh(b:Bool)(K:PySem.W.Frag)(ta:TA):TI:=fun σ H R=>ta σ H fun vs H1=>∃a,vs=[.ref a]/\(∃xs,SO b K H1 a xs)/\R (GD b K a) H1
theorem L3{elts:List Expr}{k:Nat}{tpos:Pos}(b:Bool){a:Expr}{ta:TA}{p pos:Pos}(hg:Gl X "enumerate")(hm:X.mg "enumerate" = none)(ha:PA X [a] ta)(hs:starEach [a] X.env=[(false,eval a X.env)]:=by rfl) :
  PI X (.Tuple elts k tpos) (.Call (.Name "enumerate" p) [a] [] pos) (Hh b X.K ta):=by
 intro pins s σ H R I h
 refine Call_ (Vr I hg hm (by decide +kernel:bootBuiltins "enumerate" = some (.type "enumerate")) (PyProof.Rows.callWith_type1 (YY (ha pos pins s σ H _ I h) fun us s1 ⟨vs,H1,I1,r1,q1⟩=>?_) hs rfl))
 obtain⟨a,e,⟨xs,hq⟩,q⟩:=q1
 subst e
 cases r1 with
 | cons r rr=>
  cases rr;cases r
  obtain⟨its,rv,hseq,hz⟩:=I1.seqB hq
  refine Sy hseq fun h' he hit hsz hk=>?_
  refine wpAny_pyIter_enum he ?_
  have I2:Inv X pins σ H1 { s1 with heap:=h' }:=I1.kept (t':=s1.toks) hk
  have ne:s1.heap.objs.size+1≠s1.heap.objs.size:=Nat.ne_of_gt (Nat.lt_succ_self _)
  refine⟨s1.heap.objs.size+1,[s1.heap.objs.size+1,s1.heap.objs.size],_,_,H1,rfl,I2,O7 b a (s1.heap.objs.size+1) s1.heap.objs.size ne,⟨⟨.none,he⟩,hit⟩,fun c hc=>?_,q⟩
  rcases List.mem_cons.mp hc with rfl | hc
  ·exact I1.fpOk (Nat.le_succ _) (I1.hok.fresh (Nat.le_succ _))
  ·rw[List.mem_singleton.mp hc]
   exact I1.fpOk (Nat.le_refl _) (I1.hok.fresh (Nat.le_refl _))
end
section
variable {prog:Program} {w:World} {A:Around} {E:Value->Shared->Prop} {s:Shared}
structure SQ(z TI TO i1 i2:Addr)(fp1 fp2:List Addr):Prop where
 TIz:TI≠z
 TOz:TO≠z
 i1z:i1≠z
 i2z:i2≠z
 TITO:TI≠TO
 TIi1:TI≠i1
 TIi2:TI≠i2
 TOi1:TO≠i1
 TOi2:TO≠i2
 i12:i1≠i2
 z1:z∉fp1
 TO1:TO∉fp1
 i21:i2∉fp1
 z2:z∉fp2
 TO2:TO∉fp2
 i12':i1∉fp2
theorem Md{z TI TO i1 i2:Addr}{fp1 fp2:List Addr}{n1 n2 k:Nat}{P1 P2:Nat->Value->Prop}{St1 St2:Nat->Heap->Prop}{a b:Value}{Q:Value->Shared->Prop}(D:SQ z TI TO i1 i2 fp1 fp2)
  (D1:Draws prog w A i1 fp1 n1 P1 St1) (D2:Draws prog w A i2 fp2 n2 P2 St2)
  (hz:IsZip s.heap z TI TO .none) (hTI:IsPair s.heap TI (.ref i1) (.ref i2)) (hTO:IsPair s.heap TO a b)
  (h1:St1 k s.heap) (h2:St2 k s.heap) (hx:k<n1) (hy:k<n2)
  (hQ:∀x y h' tk,P1 k x->P2 k y->IsZip h' z TI TO (rawInt s.heap.objs.size)->IsPair h' TO x y->St1 (k+1) h'->St2 (k+1) h'->IsPair h' s.heap.objs.size x y->h'.objs.size=s.heap.objs.size+1->
   (∀c o,c≠z->c≠TO->c≠i1->c≠i2->s.heap.get? c=some o->h'.get? c=some o)->Q (.ref s.heap.objs.size) { s with heap:=h',toks:=tk }) :
  wpAny (model prog w) A (Builtin.«zip.__next__» ⟨[.ref z],[]⟩) (fun fin s'=>∃v,fin = .done (.ret v)/\Q v s') E s:=by
 show wpAny _ _ (field (.ref z) 2 >>= _) _ _ _
 refine wpAny_bind (wpAny_field hz rfl (x:=.bool false) rfl ?_)
 show wpAny _ _ (field (.ref z) 3 >>= _) _ _ _
 refine wpAny_bind (wpAny_field hz rfl (x:=.ref TI) rfl ?_)
 refine wpAny_bind (wpAny_seqItems hTI rfl ?_)
 show wpAny _ _ (Builtin.SmallTypes.ownedTupleIsFree (.ref z) >>= _) _ _ _
 refine wpAny_bind ?_
 unfold Builtin.SmallTypes.ownedTupleIsFree
 refine wpAny_bind (wpAny_field hz rfl (x:=.none) rfl (wpAny_pure ?_))
 simp only[if_true]
 refine wpAny_bind (wpAny_rule ?_)
 refine wpAny_bind (wpAny_field hz rfl (x:=.ref TO) rfl ?_)
 refine wpAny_bind (wpAny_setField_rec hz (by simp) fun h₁ hz₁ hs₁=>?_)
 replace hz₁:IsZip h₁ z TI TO .ellipsis:=hz₁
 refine wpAny_bind ?_
 simp only[List.zipIdx_cons,List.zipIdx_nil,List.forIn_cons,List.forIn_nil]
 refine wpAny_bind (wpAny_bind (wpAny_onRaise ?_))
 show wpAny _ _ (Builtin.SmallTypes.nextOf (.ref i1) >>= _) _ _ _
 have st1:St1 k h₁:=D1.frame _ _ _ h1 fun c hc o e=>hs₁.extBut c o (fun q=>D.z1 (q▸hc)) e
 refine wpAny_bind (D1.item k _ _ _ hx st1 fun x h₂ tk₂ hPx h1₂ hs₂=>wpAny_pure ?_)
 replace hs₂:Heap.SameBut i1 h₁ h₂:=hs₂
 have hTO₂:IsPair h₂ TO a b:=hs₂.extBut _ _ D.TOi1 (hs₁.extBut _ _ D.TOz hTO)
 refine wpAny_bind (wpAny_seqItems hTO₂ rfl ?_)
 refine wpAny_bind (wpAny_updateSeq_pair hTO₂ fun h₃ hTO₃ hs₃=>?_)
 replace hTO₃:IsPair h₃ TO x b:=hTO₃
 replace hs₃:Heap.SameBut TO h₂ h₃:=hs₃
 refine wpAny_bind (wpAny_letGo (wpAny_pure ?_))
 refine wpAny_bind (wpAny_bind (wpAny_onRaise ?_))
 show wpAny _ _ (Builtin.SmallTypes.nextOf (.ref i2) >>= _) _ _ _
 have st2:St2 k h₃:=D2.frame _ _ _ h2 fun c hc o e=>hs₃.extBut c o (fun q=>D.TO2 (q▸hc)) (hs₂.extBut c o (fun q=>D.i12' (q▸hc)) (hs₁.extBut c o (fun q=>D.z2 (q▸hc)) e))
 refine wpAny_bind (D2.item k _ _ _ hy st2 fun y h₄ tk₄ hPy h2₄ hs₄=>wpAny_pure ?_)
 replace hs₄:Heap.SameBut i2 h₃ h₄:=hs₄
 have hTO₄:IsPair h₄ TO x b:=hs₄.extBut _ _ D.TOi2 hTO₃
 refine wpAny_bind (wpAny_seqItems hTO₄ rfl ?_)
 refine wpAny_bind (wpAny_updateSeq_pair hTO₄ fun h₅ hTO₅ hs₅=>?_)
 replace hTO₅:IsPair h₅ TO x y:=hTO₅
 replace hs₅:Heap.SameBut TO h₄ h₅:=hs₅
 refine wpAny_bind (wpAny_letGo (wpAny_pure (wpAny_pure ?_)))
 refine wpAny_bind (wpAny_seqItems hTO₅ rfl ?_)
 refine wpAny_bind (wpAny_newTuple ?_)
 have hsz:h₅.objs.size=s.heap.objs.size:=by rw[hs₅.1,hs₄.1,hs₃.1,hs₂.1,hs₁.1]
 have hz₅:IsZip h₅ z TI TO .ellipsis:=hs₅.extBut _ _ D.TOz.symm (hs₄.extBut _ _ D.i2z.symm (hs₃.extBut _ _ D.TOz.symm (hs₂.extBut _ _ D.i1z.symm hz₁)))
 have hk₅:∀c o,c≠z->c≠TO->c≠i1->c≠i2->s.heap.get? c=some o->h₅.get? c=some o:=fun c o c1 c2 c3 c4 e=>
  hs₅.extBut _ _ c2 (hs₄.extBut _ _ c4 (hs₃.extBut _ _ c2 (hs₂.extBut _ _ c3 (hs₁.extBut _ _ c1 e))))
 have h1₅:St1 (k+1) h₅:=D1.frame _ _ _ h1₂ fun c hc o e=>hs₅.extBut c o (fun q=>D.TO1 (q▸hc)) (hs₄.extBut c o (fun q=>D.i21 (q▸hc)) (hs₃.extBut c o (fun q=>D.TO1 (q▸hc)) e))
 have h2₅:St2 (k+1) h₅:=D2.frame _ _ _ h2₄ fun c hc o e=>hs₅.extBut c o (fun q=>D.TO2 (q▸hc)) e
 have hzlt:z<h₅.objs.size:=Heap.lt_size hz₅
 have hTOlt:TO<h₅.objs.size:=Heap.lt_size hTO₅
 show wpAny _ _ (Builtin.SmallTypes.ownedTupleHandOut (.ref z) (.ref h₅.objs.size) >>= _) _ _ _
 refine wpAny_bind ?_
 unfold Builtin.SmallTypes.ownedTupleHandOut
 have hz₆:IsZip (h₅.push { cls:=.type "tuple",data:=.seq #[x,y] }) z TI TO .ellipsis:=Heap.get?_push_of_some _ hz₅
 refine wpAny_bind (wpAny_setField_rec hz₆ (by simp) fun h₇ hz₇ hs₇=>?_)
 replace hz₇:IsZip h₇ z TI TO (rawInt h₅.objs.size):=hz₇
 refine wpAny_setField_rec hz₇ (by simp) fun h₈ hz₈ hs₈=>?_
 replace hz₈:IsZip h₈ z TI TO (rawInt h₅.objs.size):=hz₈
 have up:∀c o,c≠z->h₅.get? c=some o->h₈.get? c=some o:=fun c o c1 e=>hs₈.extBut _ _ c1 (hs₇.extBut _ _ c1 (Heap.get?_push_of_some _ e))
 have hT₈:IsPair h₈ h₅.objs.size x y:=hs₈.extBut _ _ (Nat.ne_of_gt hzlt) (hs₇.extBut _ _ (Nat.ne_of_gt hzlt) (Heap.get?_push_size _ rfl))
 have hz8:h₈.objs.size=h₅.objs.size+1:=by rw[hs₈.1,hs₇.1,Heap.size_push]
 rw[hsz] at hz₈ hT₈ hz8
 refine wpAny_pure ⟨_,rfl,?_⟩
 show Q (.ref h₅.objs.size) _
 rw[hsz]
 exact hQ x y h₈ tk₄ hPx hPy hz₈ (up _ _ D.TOz hTO₅) (D1.frame _ _ _ h1₅ fun c hc o e=>up c o (fun q=>D.z1 (q▸hc)) e) (D2.frame _ _ _ h2₅ fun c hc o e=>up c o (fun q=>D.z2 (q▸hc)) e) hT₈ hz8 fun c o c1 c2 c3 c4 e=>up c o c1 (hk₅ c o c1 c2 c3 c4 e)
theorem L4{z TI TO i1 i2:Addr}{fp1 fp2:List Addr}{n1 n2 k:Nat}{P1 P2:Nat->Value->Prop}{St1 St2:Nat->Heap->Prop}{a b:Value}{Q:PySem.Fin->Shared->Prop}(D:SQ z TI TO i1 i2 fp1 fp2)
  (D1:Draws prog w A i1 fp1 n1 P1 St1) (D2:Draws prog w A i2 fp2 n2 P2 St2)
  (hz:IsZip s.heap z TI TO .none) (hTI:IsPair s.heap TI (.ref i1) (.ref i2)) (hTO:IsPair s.heap TO a b)
  (h1:St1 k s.heap) (h2:St2 k s.heap) (hend:k=n1\/(k<n1/\k=n2))
  (hE:∀h' tk e,(∀c o,c≠z->c≠TO->c≠i1->c≠i2->s.heap.get? c=some o->h'.get? c=some o)->(∃o,h'.get? e=some o/\o.cls = .type "StopIteration")->E (.ref e) { s with heap:=h',toks:=tk }) :
  wpAny (model prog w) A (Builtin.«zip.__next__» ⟨[.ref z],[]⟩) Q E s:=by
 show wpAny _ _ (field (.ref z) 2 >>= _) _ _ _
 refine wpAny_bind (wpAny_field hz rfl (x:=.bool false) rfl ?_)
 show wpAny _ _ (field (.ref z) 3 >>= _) _ _ _
 refine wpAny_bind (wpAny_field hz rfl (x:=.ref TI) rfl ?_)
 refine wpAny_bind (wpAny_seqItems hTI rfl ?_)
 show wpAny _ _ (Builtin.SmallTypes.ownedTupleIsFree (.ref z) >>= _) _ _ _
 refine wpAny_bind ?_
 unfold Builtin.SmallTypes.ownedTupleIsFree
 refine wpAny_bind (wpAny_field hz rfl (x:=.none) rfl (wpAny_pure ?_))
 simp only[if_true]
 refine wpAny_bind (wpAny_rule ?_)
 refine wpAny_bind (wpAny_field hz rfl (x:=.ref TO) rfl ?_)
 refine wpAny_bind (wpAny_setField_rec hz (by simp) fun h₁ hz₁ hs₁=>?_)
 replace hz₁:IsZip h₁ z TI TO .ellipsis:=hz₁
 replace hs₁:Heap.SameBut z s.heap h₁:=hs₁
 refine wpAny_bind ?_
 simp only[List.zipIdx_cons,List.zipIdx_nil,List.forIn_cons,List.forIn_nil]
 refine wpAny_bind (wpAny_bind (wpAny_onRaise ?_))
 show wpAny _ _ (Builtin.SmallTypes.nextOf (.ref i1) >>= _) _ _ _
 have st1:St1 k h₁:=D1.frame _ _ _ h1 fun c hc o e=>hs₁.extBut c o (fun q=>D.z1 (q▸hc)) e
 rcases hend with hk | ⟨hx,hk⟩
 ·rw[hk] at st1
  refine wpAny_bind (D1.done _ _ _ st1 fun h₂ e hs₂ he=>?_)
  replace hs₂:Heap.ExtBut i1 h₁ h₂:=hs₂
  obtain⟨oe,hoe,hce⟩:=he
  have hz₂:IsZip h₂ z TI TO .ellipsis:=hs₂ _ _ D.i1z.symm hz₁
  have hez:e≠z:=fun x=>by subst x;rw[hz₂] at hoe;cases hoe;simp at hce
  refine wpAny_setField_rec hz₂ (by simp) fun h₃ _ hs₃=>?_
  replace hs₃:Heap.SameBut z h₂ h₃:=hs₃
  exact hE h₃ _ e (fun c o c1 _ c3 _ x=>hs₃.extBut _ _ c1 (hs₂ _ _ c3 (hs₁.extBut _ _ c1 x))) ⟨oe,hs₃.extBut _ _ hez hoe,hce⟩
 ·refine wpAny_bind (D1.item k _ _ _ hx st1 fun x h₂ tk₂ hPx h1₂ hs₂=>wpAny_pure ?_)
  replace hs₂:Heap.SameBut i1 h₁ h₂:=hs₂
  have hTO₂:IsPair h₂ TO a b:=hs₂.extBut _ _ D.TOi1 (hs₁.extBut _ _ D.TOz hTO)
  refine wpAny_bind (wpAny_seqItems hTO₂ rfl ?_)
  refine wpAny_bind (wpAny_updateSeq_pair hTO₂ fun h₃ hTO₃ hs₃=>?_)
  replace hs₃:Heap.SameBut TO h₂ h₃:=hs₃
  refine wpAny_bind (wpAny_letGo (wpAny_pure ?_))
  refine wpAny_bind (wpAny_bind (wpAny_onRaise ?_))
  show wpAny _ _ (Builtin.SmallTypes.nextOf (.ref i2) >>= _) _ _ _
  have st2:St2 k h₃:=D2.frame _ _ _ h2 fun c hc o e=>hs₃.extBut c o (fun q=>D.TO2 (q▸hc)) (hs₂.extBut c o (fun q=>D.i12' (q▸hc)) (hs₁.extBut c o (fun q=>D.z2 (q▸hc)) e))
  rw[hk] at st2
  refine wpAny_bind (D2.done _ _ _ st2 fun h₄ e hs₄ he=>?_)
  replace hs₄:Heap.ExtBut i2 h₃ h₄:=hs₄
  obtain⟨oe,hoe,hce⟩:=he
  have hz₄:IsZip h₄ z TI TO .ellipsis:=hs₄ _ _ D.i2z.symm (hs₃.extBut _ _ D.TOz.symm (hs₂.extBut _ _ D.i1z.symm hz₁))
  have hez:e≠z:=fun x=>by subst x;rw[hz₄] at hoe;cases hoe;simp at hce
  refine wpAny_setField_rec hz₄ (by simp) fun h₅ _ hs₅=>?_
  replace hs₅:Heap.SameBut z h₄ h₅:=hs₅
  exact hE h₅ _ e (fun c o c1 c2 c3 c4 x=>hs₅.extBut _ _ c1 (hs₄ _ _ c4 (hs₃.extBut _ _ c2 (hs₂.extBut _ _ c3 (hs₁.extBut _ _ c1 x))))) ⟨oe,hs₅.extBut _ _ hez hoe,hce⟩
theorem U4{z TI TO i1 i2:Addr}{fp1 fp2:List Addr}{n1 n2 k:Nat}{P1 P2:Nat->Value->Prop}{St1 St2:Nat->Heap->Prop}{a b:Value}{Q:Option Value->Shared->Prop}(D:SQ z TI TO i1 i2 fp1 fp2)
  (D1:Draws prog w A.in1 i1 fp1 n1 P1 St1) (D2:Draws prog w A.in1 i2 fp2 n2 P2 St2)
  (hz:IsZip s.heap z TI TO .none) (hTI:IsPair s.heap TI (.ref i1) (.ref i2)) (hTO:IsPair s.heap TO a b)
  (h1:St1 k s.heap) (h2:St2 k s.heap) (hx:k<n1) (hy:k<n2)
  (hQ:∀x y h' tk,P1 k x->P2 k y->IsZip h' z TI TO (rawInt s.heap.objs.size)->IsPair h' TO x y->St1 (k+1) h'->St2 (k+1) h'->IsPair h' s.heap.objs.size x y->h'.objs.size=s.heap.objs.size+1->
   (∀c o,c≠z->c≠TO->c≠i1->c≠i2->s.heap.get? c=some o->h'.get? c=some o)->Q (some (.ref s.heap.objs.size)) { s with heap:=h',toks:=tk }) :
  wpAny (model prog w) A (pyNext (.ref z)) Q E s:=by
 have hT:s.TypeIs (.ref z) "zip":=⟨_,hz,rfl⟩
 unfold pyNext
 exact wpAny_bind (wpAny_attempt (wpAny_callSpecial?_slot (name:=Str.ofString "__next__") hT F.slot_zip_next
  (wpAny_call_entry F.slot_zip_next hT F.entry_zip_next
   (Md D D1 D2 hz hTI hTO h1 h2 hx hy fun x y h' tk p1 p2 a1 a2 a3 a4 a5 a6 a7=>wpAny_pure (hQ x y h' tk p1 p2 a1 a2 a3 a4 a5 a6 a7)) (F.args_zip_next_1 _))))
theorem TJ{z TI TO i1 i2:Addr}{fp1 fp2:List Addr}{n1 n2 k:Nat}{P1 P2:Nat->Value->Prop}{St1 St2:Nat->Heap->Prop}{a b:Value}{Q:Option Value->Shared->Prop}(D:SQ z TI TO i1 i2 fp1 fp2)
  (D1:Draws prog w A.in1 i1 fp1 n1 P1 St1) (D2:Draws prog w A.in1 i2 fp2 n2 P2 St2)
  (hz:IsZip s.heap z TI TO .none) (hTI:IsPair s.heap TI (.ref i1) (.ref i2)) (hTO:IsPair s.heap TO a b)
  (h1:St1 k s.heap) (h2:St2 k s.heap) (hend:k=n1\/(k<n1/\k=n2))
  (hQ:∀h' tk,(∀c o,c≠z->c≠TO->c≠i1->c≠i2->s.heap.get? c=some o->h'.get? c=some o)->Q none { s with heap:=h',toks:=tk }):wpAny (model prog w) A (pyNext (.ref z)) Q E s:=by
 have hT:s.TypeIs (.ref z) "zip":=⟨_,hz,rfl⟩
 unfold pyNext
 refine wpAny_bind (wpAny_attempt (wpAny_callSpecial?_slot (name:=Str.ofString "__next__") hT F.slot_zip_next
  (wpAny_call_entry F.slot_zip_next hT F.entry_zip_next (L4 D D1 D2 hz hTI hTO h1 h2 hend fun h' tk e hk he=>?_) (F.args_zip_next_1 _))))
 obtain⟨o,ho,hc⟩:=he
 refine wpAny_bind (wpAny_isInstance (T:="StopIteration") (b:=true) ⟨o,ho,hc⟩ isSubtype_stop ?_)
 exact wpAny_pure (hQ _ tk hk)
end
abbrev HE(h:Heap)(b1:Bool)(l1:Addr):Heap:=h.push (WA b1 l1)
abbrev HF(h:Heap)(b1 b2:Bool)(l1 l2:Addr):Heap:=(HE h b1 l1).push (WA b2 l2)
abbrev HG(h:Heap)(b1 b2:Bool)(l1 l2:Addr):Heap:=(HF h b1 b2 l1 l2).push { cls:=.type "tuple",data:=.seq #[.ref h.objs.size,.ref (HE h b1 l1).objs.size] }
abbrev HH(h:Heap)(b1 b2:Bool)(l1 l2:Addr):Heap:=(HG h b1 b2 l1 l2).push { cls:=.type "tuple",data:=.seq #[.none,.none] }
abbrev JU(h:Heap)(b1 b2:Bool)(l1 l2:Addr):Heap:=(HH h b1 b2 l1 l2).push { cls:=.type "zip",data:=.fields #[.none,.bool false,.bool false,.ref (HF h b1 b2 l1 l2).objs.size,.ref (HG h b1 b2 l1 l2).objs.size] }
theorem Sz(b1 b2:Bool)(l1 l2:Addr)(xs ys:Array Value) :
  Meets (Builtin.«zip.__new__» ⟨[.type "zip",.ref l1,.ref l2],[]⟩) (fun _ R s=>SeqB b1 s.heap l1 xs/\SeqB b2 s.heap l2 ys/\
   R (.ok (.ret (.ref (HH s.heap b1 b2 l1 l2).objs.size))) { s with heap:=JU s.heap b1 b2 l1 l2 }):=
 .of_wp fun prog w A R s h=>by
  obtain⟨hp,g,d,tk,os⟩:=s;obtain⟨hl1,hl2,h⟩:=h
  have hsub:=sub_zip
  have hL1:SeqB b1 (Shared.heap ⟨hp,g,d,tk,os⟩) l1 xs:=hl1
  have hL2:SeqB b2 (Shared.heap ⟨hp.push (WA b1 l1),g,d,tk,os⟩) l2 ys:=hl2.at fun o e=>Heap.get?_push_of_some _ e
  wp_walk using YL hL1,YL hL2
  exact⟨_,rfl,h⟩
section
variable {prog:Program} {w:World} {A:Around} {E:Value->Shared->Prop} {s:Shared}
theorem Rw{b1 b2:Bool}{l1 l2:Addr}{xs ys:Array Value}{Q:Value->Shared->Prop}(hl1:SeqB b1 s.heap l1 xs)(hl2:SeqB b2 s.heap l2 ys)
  (h:∀h',IsZip h' (s.heap.objs.size+4) (s.heap.objs.size+2) (s.heap.objs.size+3) .none->IsPair h' (s.heap.objs.size+2) (.ref s.heap.objs.size) (.ref (s.heap.objs.size+1))->
   IsPair h' (s.heap.objs.size+3) .none .none->IterB b1 h' s.heap.objs.size l1 0->IterB b2 h' (s.heap.objs.size+1) l2 0->h'.objs.size=s.heap.objs.size+5->
   (∀c o,s.heap.get? c=some o->h'.get? c=some o)->Q (.ref (s.heap.objs.size+4)) { s with heap:=h' }) :
  wpAny (model prog w) A (call (.type "zip") [.ref l1,.ref l2]) Q E s:=by
 refine callType_new F.called_zip (by decide) (F.typeCall_zip_2 _ _) (F.newCall_zip_2 _ _) (fun obj=>F.args_object_init_3 obj _ _) F.entry_zip_new
  (Sz b1 b2 l1 l2 xs ys) ⟨hl1,hl2,?_⟩
 have z1:(HE s.heap b1 l1).objs.size=s.heap.objs.size+1:=Heap.size_push ..
 have z2:(HF s.heap b1 b2 l1 l2).objs.size=s.heap.objs.size+2:=by rw[Heap.size_push,z1]
 have z3:(HG s.heap b1 b2 l1 l2).objs.size=s.heap.objs.size+3:=by rw[Heap.size_push,z2]
 have z4:(HH s.heap b1 b2 l1 l2).objs.size=s.heap.objs.size+4:=by rw[Heap.size_push,z3]
 have z5:(JU s.heap b1 b2 l1 l2).objs.size=s.heap.objs.size+5:=by rw[Heap.size_push,z4]
 have g5:(JU s.heap b1 b2 l1 l2).get? (HH s.heap b1 b2 l1 l2).objs.size=some _:=Heap.get?_push_size _ rfl
 have g4:(JU s.heap b1 b2 l1 l2).get? (HG s.heap b1 b2 l1 l2).objs.size=some _:=Heap.get?_push_of_some _ (Heap.get?_push_size _ rfl)
 have g3:(JU s.heap b1 b2 l1 l2).get? (HF s.heap b1 b2 l1 l2).objs.size=some _:=Heap.get?_push_of_some _ (Heap.get?_push_of_some _ (Heap.get?_push_size _ rfl))
 have g2:(JU s.heap b1 b2 l1 l2).get? (HE s.heap b1 l1).objs.size=some (WA b2 l2):=Heap.get?_push_of_some _ (Heap.get?_push_of_some _ (Heap.get?_push_of_some _ (Heap.get?_push_size _ rfl)))
 have g1:(JU s.heap b1 b2 l1 l2).get? s.heap.objs.size=some (WA b1 l1):=Heap.get?_push_of_some _ (Heap.get?_push_of_some _ (Heap.get?_push_of_some _ (Heap.get?_push_of_some _ (Heap.get?_push_size _ rfl))))
 show _/\_
 rw[z2,z3,z4] at g5;rw[z1,z2] at g3;rw[z3] at g4;rw[z1] at g2;rw[z4]
 exact⟨⟨_,g5,rfl⟩,h _ g5 g3 g4 (IterB.new g1) (IterB.new g2) z5 fun c o x=>
  Heap.get?_push_of_some _ (Heap.get?_push_of_some _ (Heap.get?_push_of_some _ (Heap.get?_push_of_some _ (Heap.get?_push_of_some _ x))))⟩
end
theorem Inv.newTup{X:Cx}{pins:List (Addr×Obj)}{σ:St}{H:Hp}{s:Shared}{fp:List Addr}{h2:Heap}{tk n:Nat}{us:List Value}{xs:List V}(I:Inv X pins σ H s)(hf:∀b∈fp,VF X pins H b)
  (kk:∀c o,c∉fp->s.heap.get? c=some o->h2.get? c=some o) (hT:h2.get? s.heap.objs.size=some { cls:=.type "tuple",data:=.seq us.toArray n }) (rv:Vals xs us) (hz:xs.length<=sizeLine) :
  Inv X pins σ (upd H s.heap.objs.size (.tup xs)) { s with heap:=h2,toks:=tk }:=by
 have hTn:H s.heap.objs.size=none:=I.hok.fresh (Nat.le_refl _)
 have hcs:∀c∈fp,(c∈X.ex\/X.s₀.heap.objs.size<=c)/\c≠X.env.locals/\(∀x d,X.env.cells.lookup x=some d->d≠c)/\∀p∈X.pn++pins,p.1≠c:=fun c hc'=>by
  have f:=hf c hc'
  exact⟨f.2.2.2.1,f.2.1,f.2.2.2.2.1,f.2.2.2.2.2⟩
 have nfp:∀c u',H c=some u'->c∉fp:=fun c u' q hc'=>by rw[(hf c hc').1] at q;cases q
 have hok0:HOk X.prog X.w H h2:=fun c u' q=>(I.hok c u' q).stay (fun d v hd q'=>kk d v (by
   rcases hd with z | z
   ·rw[z];exact nfp c u' q
   ·exact nfp d _ z) q') (fun _ z=>z) fun _ _ z=>z
 have new:ObjOk X.prog X.w (upd H s.heap.objs.size (.tup xs)) h2 s.heap.objs.size (.tup xs):=
  ⟨hz,us,rv,⟨_,hT,rfl,_,rfl⟩⟩
 have hok1:HOk X.prog X.w (upd H s.heap.objs.size (.tup xs)) h2:=fun c u' q=>by
  by_cases hb:c=s.heap.objs.size
  ·subst hb;rw[Zw] at q;cases q;exact new
  ·rw[upd_ne hb] at q
   exact(hok0 c u' q).stay (fun d v _ q'=>q') (fun d z=>by rw[upd_ne (Zz z hTn)];exact z) fun d zs z=>by rw[upd_ne (Zz z hTn)];exact z
 have un:Un (QJ X.stack) fp H (upd H s.heap.objs.size (.tup xs)) s.heap h2:=by
  refine⟨fun c o q _ _ hx'=>kk c o hx' q,fun c o q _ _ hx'=>⟨o.slots,kk c o hx' q⟩,fun c o q n _=>?_,fun c o q hx'=>⟨o,kk c o hx' q⟩,fun c zs q=>?_,fun c o zs q=>?_,fun c ps q=>⟨#[],?_⟩⟩
  ·rw[upd_ne (Nat.ne_of_lt (Heap.lt_size q))];exact n
  ·rw[upd_ne (Zz q hTn)];exact q
  ·rw[upd_ne (Zz q hTn)];exact q
  ·rw[upd_ne (Zz q hTn),q];simp
 exact I.call (g':=s.gens) (d':=s.drawn) un hok1 I.bare hcs
theorem Inv.turnedL{X:Cx}{pins:List (Addr×Obj)}{σ:St}{H:Hp}{s:Shared}{fp:List Addr}{h2:Heap}{tk:Nat}(I:Inv X pins σ H s)(hf:∀b∈fp,VF X pins H b)
  (kk:∀c o,c∉fp->s.heap.get? c=some o->h2.get? c=some o):Inv X pins σ H { s with heap:=h2,toks:=tk }:=by
 have hcs:∀c∈fp,(c∈X.ex\/X.s₀.heap.objs.size<=c)/\c≠X.env.locals/\(∀x d,X.env.cells.lookup x=some d->d≠c)/\∀p∈X.pn++pins,p.1≠c:=fun c hc'=>by
  have f:=hf c hc'
  exact⟨f.2.2.2.1,f.2.1,f.2.2.2.2.1,f.2.2.2.2.2⟩
 have nfp:∀c u',H c=some u'->c∉fp:=fun c u' q hc'=>by rw[(hf c hc').1] at q;cases q
 have hok0:HOk X.prog X.w H h2:=fun c u' q=>(I.hok c u' q).stay (fun d v hd q'=>kk d v (by
   rcases hd with z | z
   ·rw[z];exact nfp c u' q
   ·exact nfp d _ z) q') (fun _ z=>z) fun _ _ z=>z
 have un:Un (QJ X.stack) fp H H s.heap h2:=
  ⟨fun c o q _ _ hx'=>kk c o hx' q,fun c o q _ _ hx'=>⟨o.slots,kk c o hx' q⟩,fun c o q n _=>n,fun c o q hx'=>⟨o,kk c o hx' q⟩,fun c zs q=>q,fun c o zs q=>q,fun c ps q=>⟨#[],by rw[q];simp⟩⟩
 exact I.call (g':=s.gens) (d':=s.drawn) un hok0 I.bare hcs
theorem SeqB.ne_rec{b:Bool}{h:Heap}{a c:Addr}{its:Array Value}{o:Obj}{vs:Array Value}(p:SeqB b h a its)(e:h.get? c=some o)(d:o.data = .fields vs):a≠c:=fun z=>by
 subst z
 cases b with
 | true=>obtain⟨o',e1,_,m,d'⟩:=(show h.IsList a its from p);rw[e] at e1;cases e1;rw[d] at d';cases d'
 | false=>obtain⟨o',e1,_,m,d'⟩:=(show h.IsTuple a its from p);rw[e] at e1;cases e1;rw[d] at d';cases d'
theorem IterB.rec{b:Bool}{h:Heap}{it a:Addr}{i:Nat}(x:IterB b h it a i):∃o,h.get? it=some o/\∃vs,o.data = .fields vs:=by
 cases b with
 | true=>obtain⟨o,e,_,d⟩:=(show h.IsListIter it a i from x);exact⟨o,e,_,d⟩
 | false=>obtain⟨o,e,_,d⟩:=(show h.IsTupleIter it a i from x);exact⟨o,e,_,d⟩
structure JV(a1 a2 TO TI:Addr):Prop where
 a:a1≠TO
 b:a2≠TO
 c:a1≠TI
 d:a2≠TI
def GE(b1 b2:Bool)(K:PySem.W.Frag)(a1 a2:Addr):It:=
  ⟨fun i H=>∃xs ys x y,SO b1 K H a1 xs/\SO b2 K H a2 ys/\xs[i]?=some x/\ys[i]?=some y,
   fun i H v H'=>∃p x y,H p=none/\v = .ref p/\H'=upd H p (.tup [x,y])/\(∀xs,SO b1 K H a1 xs->xs[i]?=some x)/\∀ys,SO b2 K H a2 ys->ys[i]?=some y,
   fun i H=>∃xs ys,SO b1 K H a1 xs/\SO b2 K H a2 ys/\(i=xs.length\/(i<xs.length/\i=ys.length))⟩
theorem Me{P:Program}{w:World}{K:PySem.W.Frag}{elts:List Expr}{k:Nat}{pos:Pos}(b1 b2:Bool)(a1 a2 z TI TO i1 i2:Addr)(d:[z,TI,TO,i1,i2].Nodup) :
  QO P w K (.Tuple elts k pos) (GE b1 b2 K a1 a2) [z,TI,TO,i1,i2] z
   (fun i h=>IsZip h z TI TO .none/\IsPair h TI (.ref i1) (.ref i2)/\(∃u v,IsPair h TO u v/\JV a1 a2 TO TI)/\IterB b1 h i1 a1 i/\IterB b2 h i2 a2 i) where
 mem:=by simp
 obj:=fun i h st c hc=>by
  obtain⟨hz,hTI,⟨u,v,hTO,_⟩,h1,h2⟩:=st
  simp only[List.mem_cons,List.not_mem_nil,or_false] at hc
  rcases hc with rfl | rfl | rfl | rfl | rfl
  ·exact⟨_,hz,fun v q=>by cases q⟩
  ·exact⟨_,hTI,fun v q=>by cases q⟩
  ·exact⟨_,hTO,fun v q=>by cases q⟩
  ·exact h1.has
  ·exact h2.has
 keep:=fun i h h' st kk=>by
  obtain⟨hz,hTI,⟨u,v,hTO,f⟩,h1,h2⟩:=st
  exact⟨kk z (by simp) _ hz,kk TI (by simp) _ hTI,⟨u,v,kk TO (by simp) _ hTO,f⟩,h1.at fun o q=>kk i1 (by simp) o q,h2.at fun o q=>kk i2 (by simp) o q⟩
 item:=by
  intro X hP hw hK hc i pins s σ H E I hf st hg
  subst hP hw hK
  obtain⟨xs,ys,x,y,hq1,hq2,hx,hy⟩:=hg
  obtain⟨its1,rv1,p1,hz1⟩:=I.seqB hq1
  obtain⟨its2,rv2,p2,hz2⟩:=I.seqB hq2
  obtain⟨u,hu,ru⟩:=rv1.get hx
  obtain⟨v,hv,rv⟩:=rv2.get hy
  obtain⟨hz,hTI,⟨q1,q2,hTO,f⟩,h1,h2⟩:=st
  obtain⟨o1,e1,vs1,d1⟩:=h1.rec
  obtain⟨o2,e2,vs2,d2⟩:=h2.rec
  have A1z:a1≠z:=p1.ne_rec hz rfl
  have A2z:a2≠z:=p2.ne_rec hz rfl
  have A11:a1≠i1:=p1.ne_rec e1 d1
  have A12:a1≠i2:=p1.ne_rec e2 d2
  have A21:a2≠i1:=p2.ne_rec e1 d1
  have A22:a2≠i2:=p2.ne_rec e2 d2
  simp only[List.nodup_cons,List.mem_cons,List.not_mem_nil,or_false,not_or,List.nodup_nil,and_true,not_false_eq_true] at d
  obtain⟨⟨dzTI,dzTO,dz1,dz2⟩,⟨dIO,dI1,dI2⟩,⟨dO1,dO2⟩,d12⟩:=d
  obtain⟨f1,f2,f3,f4⟩:=f
  have D:SQ z TI TO i1 i2 [i1,a1] [i2,a2]:=⟨Ne.symm dzTI,Ne.symm dzTO,Ne.symm dz1,Ne.symm dz2,dIO,dI1,dI2,dO1,dO2,d12,by simp[dz1,Ne.symm A1z],by simp[dO1,Ne.symm f1],by simp[Ne.symm d12,Ne.symm A12],by simp[dz2,Ne.symm A2z],by simp[dO2,Ne.symm f2],by simp[d12,Ne.symm A21]⟩
  have D1:=Draws.seq (prog:=X.prog) (w:=X.w) (A:=X.A.in1) b1 (I.ok.hd hc) i1 a1 A11 its1.toArray
  have D2:=Draws.seq (prog:=X.prog) (w:=X.w) (A:=X.A.in1) b2 (I.ok.hd hc) i2 a2 A22 its2.toArray
  have l1:i<its1.toArray.size:=by simpa using(List.getElem?_eq_some_iff.mp hu).1
  have l2:i<its2.toArray.size:=by simpa using(List.getElem?_eq_some_iff.mp hv).1
  refine U4 D D1 D2 hz hTI hTO ⟨h1,p1⟩ ⟨h2,p2⟩ l1 l2 fun x' y' h' tk hPx hPy c1 c2 c3 c4 c5 c6 hk=>?_
  have ex':x'=u:=by
   have w1:its1.toArray[i]?=some x':=hPx
   have w2:its1.toArray[i]?=some u:=by simpa using hu
   rw[w1] at w2;exact Option.some.inj w2
  have ey':y'=v:=by
   have w1:its2.toArray[i]?=some y':=hPy
   have w2:its2.toArray[i]?=some v:=by simpa using hv
   rw[w1] at w2;exact Option.some.inj w2
  subst ex' ey'
  refine⟨_,rfl,wpAny_letOwnedTupleGo_zip c1 fun h3 hz3 hs3=>?_⟩
  replace hs3:Heap.SameBut z h' h3:=hs3
  have kk:∀c o,c∉[z,TI,TO,i1,i2]->s.heap.get? c=some o->h3.get? c=some o:=fun c o hc' q=>
   hs3.extBut c o (fun e=>hc' (by simp[e])) (hk c o (fun e=>hc' (by simp[e])) (fun e=>hc' (by simp[e])) (fun e=>hc' (by simp[e])) (fun e=>hc' (by simp[e])) q)
  have hTn:H s.heap.objs.size=none:=I.hok.fresh (Nat.le_refl _)
  have hT3:h3.get? s.heap.objs.size=some { cls:=.type "tuple",data:=.seq [x',y'].toArray }:=hs3.extBut _ _ (Nat.ne_of_gt (Heap.lt_size hz)) c5
  have I2:=I.newTup (tk:=tk) hf kk hT3 (.cons ru (.cons rv .nil)) (by show 2<=sizeLine;decide)
  refine⟨.ref s.heap.objs.size,_,I2,rfl,⟨_,x,y,hTn,rfl,rfl,fun zs hzs=>by rw[I.seqB_inj hzs hq1];exact hx,fun zs hzs=>by rw[I.seqB_inj hzs hq2];exact hy⟩,⟨hz3,hs3.extBut _ _ (Ne.symm dzTI) (hk _ _ (Ne.symm dzTI) dIO dI1 dI2 hTI),⟨_,_,hs3.extBut _ _ (Ne.symm dzTO) c2,f1,f2,f3,f4⟩,c3.1.at fun o q=>hs3.extBut _ o (Ne.symm dz1) q,c4.1.at fun o q=>hs3.extBut _ o (Ne.symm dz2) q⟩,fun c hc'=>?_⟩
  rw[upd_ne (Nat.ne_of_lt ?_)]
  ·exact(hf c hc').1
  ·simp only[List.mem_cons,List.not_mem_nil,or_false] at hc'
   rcases hc' with rfl | rfl | rfl | rfl | rfl
   ·exact Heap.lt_size hz
   ·exact Heap.lt_size hTI
   ·exact Heap.lt_size hTO
   ·exact Heap.lt_size e1
   ·exact Heap.lt_size e2
 done:=by
  intro X hP hw hK hc i pins s σ H E I hf st hg
  subst hP hw hK
  obtain⟨xs,ys,hq1,hq2,hx⟩:=hg
  obtain⟨its1,rv1,p1,hz1⟩:=I.seqB hq1
  obtain⟨its2,rv2,p2,hz2⟩:=I.seqB hq2
  obtain⟨hz,hTI,⟨q1,q2,hTO,f⟩,h1,h2⟩:=st
  obtain⟨o1,e1,vs1,d1⟩:=h1.rec
  obtain⟨o2,e2,vs2,d2⟩:=h2.rec
  have A1z:a1≠z:=p1.ne_rec hz rfl
  have A2z:a2≠z:=p2.ne_rec hz rfl
  have A11:a1≠i1:=p1.ne_rec e1 d1
  have A12:a1≠i2:=p1.ne_rec e2 d2
  have A21:a2≠i1:=p2.ne_rec e1 d1
  have A22:a2≠i2:=p2.ne_rec e2 d2
  simp only[List.nodup_cons,List.mem_cons,List.not_mem_nil,or_false,not_or,List.nodup_nil,and_true,not_false_eq_true] at d
  obtain⟨⟨dzTI,dzTO,dz1,dz2⟩,⟨dIO,dI1,dI2⟩,⟨dO1,dO2⟩,d12⟩:=d
  obtain⟨f1,f2,f3,f4⟩:=f
  have D:SQ z TI TO i1 i2 [i1,a1] [i2,a2]:=⟨Ne.symm dzTI,Ne.symm dzTO,Ne.symm dz1,Ne.symm dz2,dIO,dI1,dI2,dO1,dO2,d12,by simp[dz1,Ne.symm A1z],by simp[dO1,Ne.symm f1],by simp[Ne.symm d12,Ne.symm A12],by simp[dz2,Ne.symm A2z],by simp[dO2,Ne.symm f2],by simp[d12,Ne.symm A21]⟩
  have D1:=Draws.seq (prog:=X.prog) (w:=X.w) (A:=X.A.in1) b1 (I.ok.hd hc) i1 a1 A11 its1.toArray
  have D2:=Draws.seq (prog:=X.prog) (w:=X.w) (A:=X.A.in1) b2 (I.ok.hd hc) i2 a2 A22 its2.toArray
  have n1:=rv1.length;have n2:=rv2.length
  refine TJ D D1 D2 hz hTI hTO ⟨h1,p1⟩ ⟨h2,p2⟩ (by simp only[List.size_toArray];omega) fun h' tk hk=>⟨rfl,?_⟩
  exact I.turnedL hf fun c o hc' q=>hk c o (fun e=>hc' (by simp[e])) (fun e=>hc' (by simp[e])) (fun e=>hc' (by simp[e])) (fun e=>hc' (by simp[e])) q
 self:=fun A i s Q E st hQ=>wpAny_pyIter_zip st.1 hQ
section
variable {X:Cx}
def Go(b1 b2:Bool)(K:PySem.W.Frag)(ta:TA):TI:=fun σ H R=>ta σ H fun vs H1=>∃a1 a2,vs=[.ref a1,.ref a2]/\(∃xs,SO b1 K H1 a1 xs)/\(∃ys,SO b2 K H1 a2 ys)/\R (GE b1 b2 K a1 a2) H1
theorem JW{elts:List Expr}{k:Nat}{tpos:Pos}(b1 b2:Bool){a b:Expr}{ta:TA}{p pos:Pos}(hg:Gl X "zip")(hm:X.mg "zip" = none)(ha:PA X [a,b] ta)
  (hs:starEach [a,b] X.env=[(false,eval a X.env),(false,eval b X.env)]:=by rfl) (hs2:starEach [b] X.env=[(false,eval b X.env)]:=by rfl) :
  PI X (.Tuple elts k tpos) (.Call (.Name "zip" p) [a,b] [] pos) (Go b1 b2 X.K ta):=by
 intro pins s σ H R I h
 refine Call_ (Vr I hg hm boot_zip (PyProof.Rows.callWith_type1 (YY (ha pos pins s σ H _ I h) fun us s1 ⟨vs,H1,I1,r1,q1⟩=>?_) (by rw[hs,hs2]) (by rw[hs2];rfl)))
 obtain⟨a1,a2,e,⟨xs,hq1⟩,⟨ys,hq2⟩,q⟩:=q1
 subst e
 cases r1 with
 | cons r rr=>
  cases rr with
  | cons r' rr=>
   cases rr;cases r
   cases r'
   obtain⟨its1,rv1,p1,_⟩:=I1.seqB hq1
   obtain⟨its2,rv2,p2,_⟩:=I1.seqB hq2
   refine Rw p1 p2 fun h' c1 c2 c3 c4 c5 c6 hk=>?_
   refine wpAny_pyIter_zip c1 ?_
   have I2:Inv X pins σ H1 { s1 with heap:=h' }:=I1.kept (t':=s1.toks) hk
   have L1:a1<s1.heap.objs.size:=let⟨_,e⟩:=p1.has;Heap.lt_size e
   have L2:a2<s1.heap.objs.size:=let⟨_,e⟩:=p2.has;Heap.lt_size e
   generalize hn:s1.heap.objs.size=n at *
   have ne:∀(a:Addr)(j:Nat),a<n->a≠n+j:=fun a j h=>Nat.ne_of_lt (Nat.lt_of_lt_of_le h (Nat.le_add_right _ _))
   have nd:([n+4,n+2,n+3,n,n+1]:List Addr).Nodup:=by
    have hh:∀(i j:Nat),i≠j->(n+i:Nat)≠n+j:=fun i j h e=>h (Nat.add_left_cancel e)
    have h0:∀(i:Nat),i≠0->(n+i:Nat)≠n:=fun i h e=>h (Nat.add_left_cancel (e.trans (Nat.add_zero n).symm))
    simp only[List.nodup_cons,List.mem_cons,List.not_mem_nil,or_false,not_or,List.nodup_nil,and_true,not_false_eq_true]
    exact⟨⟨hh 4 2 (by decide),hh 4 3 (by decide),h0 4 (by decide),hh 4 1 (by decide)⟩,⟨hh 2 3 (by decide),h0 2 (by decide),hh 2 1 (by decide)⟩,⟨h0 3 (by decide),hh 3 1 (by decide)⟩,(h0 1 (by decide)).symm⟩
   refine⟨n+4,[n+4,n+2,n+3,n,n+1],_,_,H1,rfl,I2,Me b1 b2 a1 a2 (n+4) (n+2) (n+3) n (n+1) nd,⟨c1,c2,⟨_,_,c3,ne a1 3 L1,ne a2 3 L2,ne a1 2 L1,ne a2 2 L2⟩,c4,c5⟩,fun c hc=>?_,q⟩
   have hle:s1.heap.objs.size<=c:=by
    rw[hn];simp only[List.mem_cons,List.not_mem_nil,or_false] at hc
    rcases hc with rfl | rfl | rfl | rfl | rfl
    ·exact Nat.le_add_right _ _
    ·exact Nat.le_add_right _ _
    ·exact Nat.le_add_right _ _
    ·exact Nat.le_refl _
    ·exact Nat.le_add_right _ _
   exact I1.fpOk hle (I1.hok.fresh hle)
end
theorem Walks.seqB{prog:Program}{w:World}{A:Around}(b:Bool)(hh:A.handled=none)(I ax:Addr)(hne:ax≠I)(items:Array Value) :
  Walks prog w A I [I,ax] [I] items.size (fun i v=>items[i]?=some v) (fun i h=>IterB b h I ax i/\SeqB b h ax items):=by
 cases b with
 | true=>exact Walks.list hh I ax hne items
 | false=>exact Walks.tuple hh I ax hne items
section
variable {X:Cx}
theorem Y7(hc:X.calm=true):Wd X (.builtin "sum") (fun xs H Q=>∃(b:Bool) (p:Addr) (ns:List Int),xs=[.ref p]/\SO b X.K H p (ns.map V.int)/\Q (.int ns.sum) H):=by
 intro pins s σ H xs us Q I r h
 obtain⟨b,p,ns,rfl,hq,q⟩:=h
 obtain⟨u,rfl,rx⟩:=SE r
 cases rx
 obtain⟨its,rv,hseq,hz⟩:=I.seqB hq
 have hp:p<s.heap.objs.size:=let⟨_,e⟩:=hseq.has;Heap.lt_size e
 refine call_sum_walkG (YL hseq ?_)
 refine⟨_,_,_,_,_,_,fun i=>ns.getD i 0,rfl,Walks.seqB (A:=X.A.in1) b (I.ok.hd hc) s.heap.objs.size p (Nat.ne_of_lt hp) its.toArray,⟨IterB.new (Heap.get?_push_size _ rfl),hseq.at fun o e=>Heap.get?_push_of_some _ e⟩,fun c hcm=>?_,fun i v hv=>?_,fun h' tk t' hk=>?_⟩
 ·show c<(s.heap.push _).objs.size
  rw[Heap.size_push]
  rcases List.mem_cons.mp hcm with rfl | hcm
  ·exact Nat.lt_succ_self _
  ·rw[List.mem_singleton.mp hcm];exact Nat.lt_succ_of_lt hp
 ·have hv:its.toArray[i]?=some v:=hv
  have hv:its[i]?=some v:=by simpa using hv
  have hl:=rv.length;rw[List.length_map] at hl
  have hi:i<ns.length:=by rw[hl];exact(List.getElem?_eq_some_iff.mp hv).1
  obtain⟨u,hu,ru⟩:=rv.get (i:=i) (x:=.int ns[i]) (by rw[List.getElem?_map,List.getElem?_eq_getElem hi];rfl)
  rw[hv] at hu;cases hu
  obtain⟨t,rfl⟩:=ru
  refine⟨t,?_⟩
  show Value.int ns[i] t=Value.int (ns.getD i 0) t
  rw[List.getD_eq_getElem?_getD,List.getElem?_eq_getElem hi];rfl
 ·have e:preSum (fun i=>ns.getD i 0) its.toArray.size=ns.sum:=by
   have hl:=rv.length;rw[List.length_map] at hl;rw[List.size_toArray,<-hl]
   have gen:∀k,k<=ns.length->preSum (fun i=>ns.getD i 0) k=(ns.take k).sum:=by
    intro k
    induction k with
    | zero=>intro _;simp[preSum]
    | succ k ih=>
     intro hk;rw[preSum,ih (by omega),List.take_add_one,List.getD_eq_getElem?_getD,List.getElem?_eq_getElem (by omega),List.sum_append]
     simp
   rw[gen _ (Nat.le_refl _),List.take_length]
  rw[e]
  refine⟨.int ns.sum,H,I.kept (fun c o hco=>hk c o ?_ (Heap.get?_push_of_some _ hco)),⟨_,rfl⟩,q⟩
  intro hm;rw[List.mem_singleton.mp hm] at hco
  exact absurd (Heap.lt_size hco) (Nat.lt_irrefl _)
theorem UU:Wd X (.builtin "isinstance") (fun xs H Q=>∃x T t b,xs=[x,.ty T]/\TyOf X.K H x t/\PySem.W.kitOne X.K t (.type T)=some b/\Q (.bl b) H):=by
 intro pins s σ H xs us Q I r h
 obtain⟨x,T,t,b,rfl,ht,hk,q⟩:=h
 obtain⟨u,v,rfl,ru,rv⟩:=K4 r
 cases rv
 exact O4 I ru ht hk fun tk=>⟨.bl b,H,I.tok tk,rfl,q⟩
theorem Qc{K:PySem.W.Frag}:PySem.W.kitOne K (.type "int") (.type "int")=some true:=rfl
theorem Rx{K:PySem.W.Frag}:PySem.W.kitOne K (.type "int") (.type "bool")=some false:=by first | rfl | decide | (unfold PySem.W.kitOne;rw[if_neg (by decide)];first | rfl | decide | kernel_rfl)
theorem Qd{K:PySem.W.Frag}:PySem.W.kitOne K (.type "tuple") (.type "tuple")=some true:=rfl
theorem SA{K:PySem.W.Frag}:PySem.W.kitOne K (.type "list") (.type "list")=some true:=rfl
theorem Qe{K:PySem.W.Frag}:PySem.W.kitOne K (.type "str") (.type "str")=some true:=rfl
def Oe:V->List V->Hp->VK->Prop:=fun x vs H Q=>∃l xs k y,x = .ref l/\vs=[.int k,y]/\H l=some (.lst xs)/\0<=k/\k<2^63/\xs.length<sizeLine/\Q .non (upd H l (.lst (xs.take k.toNat++y::xs.drop k.toNat)))
theorem SR:GC X "list.insert" Oe:=by
 intro pins s σ H x vs v us Q I rx rv h
 obtain⟨l,xs,k,y,rfl,rfl,hH,h0,h1,hz,q⟩:=h
 cases rx
 obtain⟨u1,u2,rfl,r1,r2⟩:=rv.two
 obtain⟨t,rfl⟩:=r1
 obtain⟨z,its,n,r,hl,e⟩:=I.lstM hH
 have hfit:¬(!Builtin.List.listFitsIndex k)=true:=by
  rw[fitsIndex_both (by omega) h1];exact Bool.false_ne_true
 refine call_meets F.slot_list_insert ⟨_,e,rfl⟩ F.entry_list_insert (F.args_list_insert_3 _ _ _) (AutoListH.list_insert_list_int_val_1 l its.toArray n k t u2 hfit (by rw[List.size_toArray];omega)) ⟨e,?_⟩
 refine⟨.non,_,I.lset (its':=its.take k.toNat++u2::its.drop k.toNat) hH e ?_ ((r.take k.toNat).append (.cons r2 (r.drop k.toNat))) ?_,rfl,q⟩
 ·show(have j:=if k<0 then(k+((its.toArray.size:Nat):Int)).toNat else min k.toNat its.toArray.size;(its.toArray.extract 0 j).push u2++its.toArray.extract j)=_
  rw[if_neg (by omega)]
  dsimp only
  by_cases hle:k.toNat<=its.length
  ·rw[Nat.min_eq_left (by rw[List.size_toArray];exact hle)]
   simp
   rw[List.take_of_length_le (by rw[List.length_drop];exact Nat.le_refl _)]
  ·rw[Nat.min_eq_right (by rw[List.size_toArray];omega)]
   rw[List.take_of_length_le (by omega),List.drop_eq_nil_of_le (by omega)]
   simp
 ·rw[List.length_append,List.length_cons,List.length_take,List.length_drop]
  omega
end
def TK(H H':Hp):Prop:=∀b xs,H b=some (.tup xs)->H' b=some (.tup xs)
theorem Same.tk{H H':Hp}(s:Same H H'):TK H H':=fun b xs h=>s b _ h
theorem Same.new{H:Hp}{p:Addr}(h:H p=none)(o:HO):Same H (upd H p o):=fun b u q=>by rw[upd_ne (Zz q h)];exact q
class Rep(α:Type) where
 is:Hp->V->α->Prop
 keep:∀{H H':Hp}{v:V}{a:α},TK H H'->is H v a->is H' v a
 inj:∀{H:Hp}{v:V}{a a':α},is H v a->is H v a'->a=a'
 dep:Nat
 eqA:∀{X:Cx}{pins:List (Addr×Obj)}{σ:St}{H:Hp}{s:Shared}{v v':V}{a a':α}{u u':Value}{A:Around},Inv X pins σ H s->A.units+dep<cLine->is H v a->is H v' a'->RelV v u->RelV v' u'->
  ∃b,SeqAt.EqAt A s u u' b/\(b=true↔a=a')
instance:Rep Int where
 is:=fun _ v i=>v = .int i
 keep:=fun _ h=>h
 inj:=fun{H v a a'} h h'=>by subst h;exact V.int.inj h'
 dep:=0
 eqA:=fun{X pins σ H s v v' a a' u u' A} _ _ h h' r r'=>by
  subst h;subst h'
  obtain⟨t,rfl⟩:=r
  obtain⟨t',rfl⟩:=r'
  exact⟨_,SeqAt.EqAt.int_int a t a' t',by simp⟩
instance:Rep Bool where
 is:=fun _ v i=>v = .bl i
 keep:=fun _ h=>h
 inj:=fun{H v a a'} h h'=>by subst h;exact V.bl.inj h'
 dep:=0
 eqA:=fun{X pins σ H s v v' a a' u u' A} _ _ h h' r r'=>by
  subst h;subst h'
  cases r
  cases r'
  exact⟨_,SeqAt.EqAt.bool_bool a a',by simp⟩
instance:Rep Str where
 is:=fun _ v i=>v = .str i
 keep:=fun _ h=>h
 inj:=fun{H v a a'} h h'=>by subst h;exact V.str.inj h'
 dep:=0
 eqA:=fun{X pins σ H s v v' a a' u u' A} _ _ h h' r r'=>by
  subst h;subst h'
  obtain⟨t,rfl⟩:=r
  obtain⟨t',rfl⟩:=r'
  exact⟨_,SeqAt.EqAt.str_str a t a' t',by simp⟩
abbrev Items{α:Type}[Rep α](H:Hp):List V->List α->Prop:=Paired (Rep.is H)
section
variable {α:Type} [Rep α]
theorem Items.keep{H H':Hp}(k:TK H H'){xs:List V}{l:List α}(h:Items H xs l):Items H' xs l:=Paired.mapP h fun _ _ z=>Rep.keep k z
theorem Items.len{H:Hp}{xs:List V}{l:List α}(h:Items H xs l):xs.length=l.length:=Paired.length h
end
theorem Items.inj{α:Type}[Rep α]{H:Hp}:∀{xs:List V}{l m:List α},Items H xs l->Items H xs m->l=m
 | _,_,_,.nil,.nil=>rfl
 | _,_,_,.cons r t,.cons r' t'=>by rw[Rep.inj r r',Items.inj t t']
theorem Items.eqs{α:Type}[Rep α]{X:Cx}{pins:List (Addr×Obj)}{σ:St}{H:Hp}{s:Shared}{A:Around}(I:Inv X pins σ H s)(hu:A.units+Rep.dep α<cLine) :
  ∀{xs ys:List V}{l m:List α}{us ws:List Value},Items H xs l->Items H ys m->Vals xs us->Vals ys ws->
  ∃e:Nat->Bool,(∀j (h1:j<us.length) (h2:j<ws.length),SeqAt.EqAt A s us[j] ws[j] (e j))/\((List.range (min us.length ws.length)).all e=true↔l.take (min us.length ws.length)=m.take (min us.length ws.length))
 | _,_,_,_,_,_,.nil,_,.nil,_=>⟨fun _=>true,fun j h1=>by simp at h1,by simp⟩
 | _,_,_,_,_,_,.cons _ _,.nil,.cons _ _,.nil=>⟨fun _=>true,fun j h1 h2=>by simp at h2,by simp⟩
 | _,_,_,_,_,_,.cons r t,.cons r' t',.cons q v,.cons q' v'=>by
  obtain⟨b,hb,hb'⟩:=Rep.eqA I hu r r' q q'
  obtain⟨e,he,he'⟩:=Items.eqs I hu t t' v v'
  refine⟨fun j=>match j with | 0=>b | k+1=>e k,fun j h1 h2=>?_,?_⟩
  ·cases j with
   | zero=>exact hb
   | succ k=>exact he k (by simpa using h1) (by simpa using h2)
  ·simp only[List.length_cons,Nat.succ_min_succ,List.range_succ_eq_map,List.all_cons,List.all_map,Bool.and_eq_true,List.take_succ_cons,List.cons.injEq]
   exact and_congr hb' he'
theorem Items.same{α:Type}[Rep α]{H:Hp}{xs ys:List V}{l m:List α}{us ws:List Value}(h:Items H xs l)(h':Items H ys m)(r:Vals xs us)(r':Vals ys ws) :
  (l.take (min us.length ws.length)=m.take (min us.length ws.length)/\us.length=ws.length)↔l=m:=by
 have e1:=h.len;have e2:=h'.len;have e3:=r.length;have e4:=r'.length;constructor
 ·rintro⟨a,b⟩
  rw[List.take_of_length_le (by omega),List.take_of_length_le (by omega)] at a;exact a
 ·intro a
  subst a
  exact⟨rfl,by omega⟩
abbrev GL(α:Type):Type:=List α
def Hi{α:Type}[Rep α](H:Hp)(v:V)(l:List α):Prop:=∃p xs,v = .ref p/\H p=some (.tup xs)/\Items H xs l
instance {α:Type} [Rep α]:Rep (GL α) where
 is:=fun H v l=>Hi (α:=α) H v l
 keep:=fun{H H' v a} k h=>by
  obtain⟨p,xs,e,hp,it⟩:=h
  exact⟨p,xs,e,k p xs hp,it.keep k⟩
 inj:=fun{H v a a'} h h'=>by
  obtain⟨p,xs,e,hp,it⟩:=h
  obtain⟨p',xs',e',hp',it'⟩:=h'
  rw[e] at e';cases e'
  rw[hp] at hp';cases hp'
  exact Items.inj it it'
 dep:=Rep.dep α+2
 eqA:=fun{X pins σ H s v v' a a' u u' A} I hu h h' r r'=>by
  obtain⟨p,xs,rfl,hp,it⟩:=h
  obtain⟨p',xs',rfl,hp',it'⟩:=h'
  cases r
  cases r'
  obtain⟨us,rv,q,_⟩:=I.tuple (SqT.of hp)
  obtain⟨us',rv',q',_⟩:=I.tuple (SqT.of hp')
  by_cases e:p=p'
  ·subst e
   refine⟨true,SeqAt.EqAt.same _,?_⟩
   rw[hp] at hp';cases hp'
   have:a=a':=Items.inj it it'
   simp[this]
  ·obtain⟨f,hf,hf'⟩:=Items.eqs (A:=A.in1) I (by show A.units+1+Rep.dep α<cLine;omega) it it' rv rv'
   refine⟨_,SeqAt.EqAt.of_refs e (SeqAt.RcAt.tuples (e:=f) (show s.heap.IsTuple p us.toArray from q) (show s.heap.IsTuple p' us'.toArray from q') (by omega) (fun j h1 h2=>hf j (by simpa using h1) (by simpa using h2))),?_⟩
   simp only[List.size_toArray,Bool.and_eq_true,beq_iff_eq];rw[hf']
   exact Items.same it it' rv rv'
structure Def(K:PySem.W.Frag)(mg:Str->Option Value)(x:Str)(st:Stmt):Prop where
 ex:∃f fd,mg x=some (.ref f)/\Fun K x x st f fd
theorem def_mk{K:PySem.W.Frag}{h:Heap}{mg:Str->Option Value}{x:Str}{st:Stmt}{f:Addr}{oc:Value}{od an:Option Addr}{osl:Array (Option Value)}{kV doc pm cdv ct:Value}(X:K.In h)(G:h.Ns mainGlobals mg)
  (a:PySem.W.nsIn K mainGlobals x=some (some (.ref f))) (l:K.lookup f=some ⟨oc,od,.func (PySem.W.fnOf x x (XF st) (YH st) (Zk st) .none kV doc pm an cdv ct),osl⟩)
  (c:PySem.W.codeIn K cdv x=true) (k:PySem.W.keepIn K (.ref f)=true):Def K mg x st:=⟨f,_,PySem.W.mg_of X G a,JT (st:=st) l c k⟩
structure YU(P:Program)(w:World)(K:PySem.W.Frag)(mg:Str->Option Value)(base:Heap)(x:Str)(ps:List Str)(sp:Sp)(k:Nat):Prop where
 ex:∃f fd,mg x=some (.ref f)/\PySem.W.keepIn K (.ref f)=true/\Binds K fd ps []/\U2 P w K mg base Od k f fd ps sp
section
variable {P:Program} {w:World} {K:PySem.W.Frag} {mg:Str->Option Value} {base:Heap}
theorem Def.cal{x:Str}{st:Stmt}{N ps:List Str}{k:Nat}{sp:Sp}(D:Def K mg x st)(S:Zx N ps (Zk st))
  (hb:∀(kV doc pm:Value)(an:Option Addr)(cdv ct:Value)(us:List Value),us.length=ps.length->bindArgs (PySem.W.fnOf x x (XF st) (YH st) (Zk st) .none kV doc pm an cdv ct) ⟨us,[]⟩=pure (ps.zip us))
  (len:∀vs H Q E,sp vs H Q E->vs.length=ps.length)
  (hbody:∀(f:Addr)(cdv:Value)(A:Around)(outer:List Env)(s:Shared)(H:Hp)(vs:List V)(Q:VK)(E:XK),Room k (A.deeper (envOfC x (Zk st) s.heap.objs.size f cdv))->sp vs H Q E->
   ∃t,PSs (Sw Od P w K mg base N x (Zk st) f cdv A outer s H E).nox (YH st) t/\t { nx:=fun _ H'=>Q .non H',rt:=Q } (start N vs) H):YU P w K mg base x ps sp (k+1):=by
 obtain⟨f,fd,hm,F⟩:=D.ex
 exact⟨f,fd,hm,F.kp,F.binds hb,F.ok S len fun cdv A outer s H vs Q E hr h=>hbody f cdv A outer s H vs Q E hr h⟩
end
section
variable {X:Cx} {x:Str} {ps:List Str} {sp:Sp} {k:Nat} {e:Expr} {es:List Expr} {t:TA} {p pos:Pos}
theorem QW(C:YU X.prog X.w X.K X.mg X.base x ps sp k)(hr:Room k X.A)(hg:Gl X x)(ha:PA X (e::es) t)
  (hdb:(x==("__debug__" : Str))=false:=by decide) (he:starEach (e::es) X.env=(false,eval e X.env)::starEach es X.env:=by rfl) (hpl:(backTo pos (starEach es X.env)).any (·.1)=false:=by rfl) :
  PE X (.Call (.Name x p) (e::es) [] pos) (N5 sp [] E0 t):=by
 obtain⟨f,fd,a,b,c,d⟩:=C.ex
 exact LP d hr hg a b c .nil Hb ha hdb he hpl
end
def Vt(N:List Str)(around scope:Scope)(own fr:List Str)(ix:List Nat):Bool:=
 (match scope.kind with | .function=>true | _=>false)&&scope.names.all (fun y=>y.2 != .cell)&&scope.names.all (fun y=>y.2 != .local || scope.names.lookup y.1==some .local)&&
 scope.names.all (fun y=>y.2 != .free || (around.names.lookup y.1==some .cell || around.names.lookup y.1==some .free))&&(fr.map some==ix.map (fun i=>N[i]?))&&
 fr.all (fun x=>scope.names.contains (x,NameKind.free))&&fr.all (fun x=>scope.names.lookup x != some .local)
theorem SS{N:List Str}{around scope:Scope}{own fr:List Str}{ix:List Nat}(h:Vt N around scope own fr ix=true):CompScope N around scope own fr ix:=by
 unfold Vt at h;simp only[Bool.and_eq_true] at h
 obtain⟨⟨⟨⟨⟨⟨h1,h2⟩,h3⟩,h4⟩,h5⟩,h6⟩,h7⟩:=h
 refine⟨?_,fun y hy=>?_,fun y hy e=>?_,fun y hy e=>?_,by simpa using h5,fun x hx=>?_,fun x hx=>?_⟩
 ·split at h1
  ·assumption
  ·cases h1
 ·simpa using List.all_eq_true.mp h2 y hy
 ·have:=List.all_eq_true.mp h3 y hy
  rw[e] at this
  simpa using this
 ·have:=List.all_eq_true.mp h4 y hy
  rw[e] at this
  simpa using this
 ·simpa using List.all_eq_true.mp h6 x hx
 ·simpa using List.all_eq_true.mp h7 x hx
section
variable {X:Cx} {tg elt iter:Expr} {ifs:List Expr} {scope:Scope} {pos:Pos} {wi:TI} {g:TG} {tt:TT} {te:TE}
theorem Qf(own fr:List Str)(ix:List Nat)(hcalm:X.calm=true)(hi:PI X tg iter wi)(S:Vt X.N X.env.scope scope own fr ix=true)
  (hg:∀cl C s H ex,PG (ZP X (own++fr) scope cl C s H ex) tg g) (ht:∀cl C s H ex,Ma (ZP X (own++fr) scope cl C s H ex) ifs tt) (he:∀cl C s H ex,PE (ZP X (own++fr) scope cl C s H ex) elt te)
  (hs:∀x,foldedSetIterable iter X.env x=pure x:=by intro _;rfl):PE X (.ListComp elt [⟨tg,iter,ifs,0⟩] scope pos) (SN own.length ix wi g tt te):=
 LZ hcalm hi (SS S) hg ht he hs
theorem Mf(own fr:List Str)(ix:List Nat){i:Nat}{y:Str}{py spos:Pos}(hN:X.N.Nodup)(hy:X.N[i]?=some y)(hloc:X.env.scope.names.lookup y=some .local)(hcalm:X.calm=true)(hi:PI X tg iter wi)(S:Vt X.N X.env.scope scope own fr ix=true)
  (hg:∀cl C s H ex,PG (ZP X (own++fr) scope cl C s H ex) tg g) (ht:∀cl C s H ex,Ma (ZP X (own++fr) scope cl C s H ex) ifs tt) (he:∀cl C s H ex,PE (ZP X (own++fr) scope cl C s H ex) elt te)
  (hsw:swapsWith (.ListComp elt [⟨tg,iter,ifs,0⟩] scope pos) (some (.Name y py)) spos.line X.env=pure true:=by rfl)
  (hs:∀x,foldedSetIterable iter X.env x=pure x:=by intro _;rfl):PS X (.Assign [.Name y py] (.ListComp elt [⟨tg,iter,ifs,0⟩] scope pos) spos) (QM (SN own.length ix wi g tt te) (US i)):=
 L0 hN hy hloc hcalm hi (SS S) hg ht he hsw hs
end
structure Vu(mg:Str->Option Value):Prop where
 «len» : mg "len" = none
 «sum» : mg "sum" = none
 «range» : mg "range" = none
 «enumerate» : mg "enumerate" = none
 «zip» : mg "zip" = none
 «tuple» : mg "tuple" = none
 «list» : mg "list" = none
 «all» : mg "all" = none
 «any» : mg "any" = none
 «isinstance» : mg "isinstance" = none
 «int» : mg "int" = none
 «bool» : mg "bool" = none
 «str» : mg "str" = none
 «min» : mg "min" = none
 «max» : mg "max" = none
 «sorted» : mg "sorted" = none
 «abs» : mg "abs" = none
 «ValueError» : mg "ValueError" = none
 «reversed» : mg "reversed" = none
abbrev Gp(g:TG)(tb:TS)(D:U0)(σ:St)(J:It)(H:Hp):Prop:=
 ∃W:Nat->Nat->St->Hp->Prop,(∃m,W 0 m σ H)/\∀i m σ H,W i m σ H->
   (J.stop i H/\D.nx σ H)\/(J.go i H/\∃N:St->Hp->Prop,(∀σ' H',N σ' H'->∃m',m'<m/\W (i+1) m' σ' H')/\∀x H',J.yld i H x H'->g x σ H' fun σ2 H2=>tb { D with nx:=N,ct:=N,bk:=D.nx } σ2 H2)
def Zr(l:List Int)(i:Nat):Int:=l.getD i 0
theorem Uv(l:List Int):(List.range l.length).map (Zr l)=l:=by
 apply List.ext_getElem?
 intro i;rw[List.getElem?_map]
 by_cases h:i<l.length
 ·rw[List.getElem?_eq_getElem (by simpa using h),List.getElem?_eq_getElem h]
  simp[Zr,List.getD_eq_getElem?_getD,List.getElem?_eq_getElem h]
 ·rw[List.getElem?_eq_none (by simpa using h),List.getElem?_eq_none (by omega)];rfl
theorem ZS{f:Nat->Int}{n i:Nat}(h:i<n):Zr ((List.range n).map f) i=f i:=by
 unfold Zr
 rw[List.getD_eq_getElem?_getD,List.getElem?_map,List.getElem?_range h];rfl
def ZF(w:List (List Int))(i:Nat):List Int:=w.getD i []
theorem Qg{w:List (List Int)}{i:Nat}(h:i<w.length):w[i]?=some (ZF w i):=by
 unfold ZF
 rw[List.getD_eq_getElem?_getD,List.getElem?_eq_getElem h];rfl
def Yd(w:List (List Int))(i j:Nat):Int:=Zr (ZF w i) j
structure Z1(w:List (List Int)):Prop where
 pos:1<=w.length
 few:w.length<=7
 sq:∀i,i<w.length->(ZF w i).length=w.length
 lo:∀i j,i<w.length->j<w.length->0<=Yd w i j
 hi:∀i j,i<w.length->j<w.length->Yd w i j<=9
 sym:∀i j,i<w.length->j<w.length->Yd w i j=Yd w j i
 dia:∀i,i<w.length->Yd w i i=0
def JX(K:PySem.W.Frag):List V->Hp->VK->Prop:=fun xs H Q=>∃p ys,xs=[.ref p]/\((SqL K H p ys/\∀l,H l=none->Q (.ref l) (upd H l (.tup ys)))\/(SqT K H p ys/\Q (.ref p) H))
def L5(K:PySem.W.Frag):List V->Hp->VK->Prop:=fun xs H Q=>∃p ys,xs=[.ref p]/\(SqL K H p ys\/SqT K H p ys)/\∀l,H l=none->Q (.ref l) (upd H l (.lst ys))
theorem Same.off{H Hc:Hp}{p:Addr}(s:Same H Hc)(n:Hc p=none):H p=none:=s.free n
abbrev GM:=Nat×Nat×Int
def Uw(M:List (List Int))(a b:Nat)(t:Int):List (List Int):=M.set a ((ZF M a).set b t)
structure MatOk(n:Nat)(M:List (List Int)):Prop where
 len:M.length=n
 row:∀i,i<n->(ZF M i).length=n
 lo:∀i j,i<n->j<n->0<=Yd M i j
 hi:∀i j,i<n->j<n->Yd M i j<=9
 sym:∀i j,i<n->j<n->Yd M i j=Yd M j i
 dia:∀i,i<n->Yd M i i=0
theorem SU{M:List (List Int)}{a i:Nat}{r:List Int}(ha:a<M.length):ZF (M.set a r) i=if a=i then r else ZF M i:=by
 unfold ZF;rw[List.getD_eq_getElem?_getD,List.getD_eq_getElem?_getD,List.getElem?_set]
 by_cases h:a=i
 ·subst h;simp[ha]
 ·simp[h]
theorem nth_set{l:List Int}{b j:Nat}{t:Int}(hb:b<l.length):Zr (l.set b t) j=if b=j then t else Zr l j:=by
 unfold Zr;rw[List.getD_eq_getElem?_getD,List.getD_eq_getElem?_getD,List.getElem?_set]
 by_cases h:b=j
 ·subst h;simp[hb]
 ·simp[h]
theorem Qh{n:Nat}{M:List (List Int)}{a b i j:Nat}{t:Int}(hl:M.length=n)(hr:∀i,i<n->(ZF M i).length=n)(ha:a<n)(hb:b<n):Yd (Uw M a b t) i j=if a=i/\b=j then t else Yd M i j:=by
 show Zr (ZF (M.set a ((ZF M a).set b t)) i) j=_
 rw[SU (by omega)]
 by_cases h:a=i
 ·subst h
  rw[if_pos rfl,nth_set (by rw[hr a ha];exact hb)]
  by_cases q:b=j
  ·rw[if_pos q,if_pos ⟨rfl,q⟩]
  ·rw[if_neg q,if_neg (fun z=>q z.2)];rfl
 ·rw[if_neg h,if_neg (fun z=>h z.1)];rfl
theorem Wp{n:Nat}{M:List (List Int)}{a b:Nat}{t:Int}(hl:M.length=n)(hr:∀i,i<n->(ZF M i).length=n)(ha:a<n):(Uw M a b t).length=n/\∀i,i<n->(ZF (Uw M a b t) i).length=n:=by
 refine⟨by unfold Uw;rw[List.length_set];exact hl,fun i hi=>?_⟩
 show(ZF (M.set a ((ZF M a).set b t)) i).length=n
 rw[SU (by omega)]
 split
 ·rw[List.length_set];exact hr a ha
 ·exact hr i hi
theorem MatOk.zero(n:Nat):MatOk n (List.replicate n (List.replicate n 0)):=by
 have r:∀i,i<n->ZF (List.replicate n (List.replicate n (0:Int))) i=List.replicate n 0:=fun i hi=>by
  unfold ZF
  rw[List.getD_eq_getElem?_getD,List.getElem?_replicate,if_pos hi];rfl
 have z:∀i j,i<n->j<n->Yd (List.replicate n (List.replicate n (0:Int))) i j=0:=fun i j hi hj=>by
  show Zr (ZF _ i) j=0
  rw[r i hi];unfold Zr
  rw[List.getD_eq_getElem?_getD,List.getElem?_replicate,if_pos hj];rfl
 exact⟨by simp,fun i hi=>by rw[r i hi];simp,fun i j hi hj=>by rw[z i j hi hj];omega,fun i j hi hj=>by rw[z i j hi hj];omega,fun i j hi hj=>by rw[z i j hi hj,z j i hj hi],fun i hi=>z i i hi hi⟩
theorem MatOk.web{n:Nat}{M:List (List Int)}(h:MatOk n M)(h1:1<=n)(h7:n<=7):Z1 M:=by
 have e:=h.len;subst e
 exact⟨h1,h7,h.row,h.lo,h.hi,h.sym,h.dia⟩
theorem Yq(f:Nat->Int)(n:Nat):((List.range (n+1)).map f).sum=((List.range n).map f).sum+f n:=by
 rw[List.range_succ,List.map_append,List.sum_append];simp
theorem YD{f g:Nat->Int}{n:Nat}(h:∀i,i<n->f i=g i):((List.range n).map f).sum=((List.range n).map g).sum:=by
 congr 1
 apply List.map_congr_left
 intro i hi
 exact h i (List.mem_range.mp hi)
theorem L6(f g:Nat->Int)(n:Nat):((List.range n).map fun i=>f i+g i).sum=((List.range n).map f).sum+((List.range n).map g).sum:=by
 induction n with
 | zero=>simp
 | succ n ih=>rw[Yq,Yq,Yq,ih];omega
theorem Of(f g:Nat->Int)(n:Nat):((List.range n).map fun i=>f i-g i).sum=((List.range n).map f).sum-((List.range n).map g).sum:=by
 induction n with
 | zero=>simp
 | succ n ih=>rw[Yq,Yq,Yq,ih];omega
theorem W8(c:Int)(n:Nat):((List.range n).map fun _=>c).sum=n*c:=by
 induction n with
 | zero=>simp
 | succ n ih=>rw[Yq,ih];rw[show((n+1:Nat):Int)=(n:Int)+1 by omega,Int.add_mul];omega
theorem Qi{f:Nat->Int}{n:Nat}(h:∀i,i<n->f i=0):((List.range n).map f).sum=0:=by
 rw[YD h,W8];simp
theorem Qj(f:Nat->Nat->Int)(m n:Nat):((List.range m).map fun i=>((List.range n).map fun j=>f i j).sum).sum=((List.range n).map fun j=>((List.range m).map fun i=>f i j).sum).sum:=by
 induction m with
 | zero=>simp[W8]
 | succ m ih=>
  rw[Yq,ih,<-L6]
  apply YD
  intro j _;rw[Yq]
theorem Ry(l:List Int):((List.range l.length).map (Zr l)).sum=l.sum:=by rw[Uv]
theorem Mg{α:Type}(n:Nat)(x:α):(List.replicate n [x]).flatten=List.replicate n x:=by
 induction n with
 | zero=>rfl
 | succ n ih=>rw[List.replicate_succ,List.flatten_cons,ih];rfl
structure NamesOk(i:Nat)(l:List Int):Prop where
 len:l.length=i
 nd:l.Nodup
 lo:∀x∈l,0<=x
 hi:∀x∈l,x<i
theorem NamesOk.nil:NamesOk 0 []:=⟨rfl,List.nodup_nil,fun _ h=>by simp at h,fun _ h=>by simp at h⟩
theorem NamesOk.ins{i:Nat}{l:List Int}(h:NamesOk i l)(k:Nat):NamesOk (i+1) (l.take k++(i:Int)::l.drop k):=by
 have hp:(l.take k++(i:Int)::l.drop k).Perm ((i:Int)::l):=by
  have:=List.perm_middle (a:=(i:Int)) (l₁:=l.take k) (l₂:=l.drop k)
  rw[List.take_append_drop] at this;exact this
 refine⟨by rw[hp.length_eq,List.length_cons,h.len],?_,fun x hx=>?_,fun x hx=>?_⟩
 ·rw[hp.nodup_iff,List.nodup_cons]
  exact⟨fun hm=>by have:=h.hi _ hm;omega,h.nd⟩
 ·rcases List.mem_cons.mp (hp.mem_iff.mp hx) with e | e
  ·omega
  ·exact h.lo x e
 ·rcases List.mem_cons.mp (hp.mem_iff.mp hx) with e | e
  ·omega
  ·have:=h.hi x e;omega
theorem NamesOk.at{i:Nat}{l:List Int}(h:NamesOk i l){x:Nat}(hx:x<i):0<=Zr l x/\Zr l x<i:=by
 have e:Zr l x=l[x]'(by rw[h.len];exact hx):=by
  unfold Zr
  rw[List.getD_eq_getElem?_getD,List.getElem?_eq_getElem (by rw[h.len];exact hx)];rfl
 rw[e]
 exact⟨h.lo _ (List.getElem_mem _),h.hi _ (List.getElem_mem _)⟩
theorem NamesOk.ne{i:Nat}{l:List Int}(h:NamesOk i l){x y:Nat}(hx:x<i)(hy:y<i)(n:x≠y):Zr l x≠Zr l y:=by
 have ex:Zr l x=l[x]'(by rw[h.len];exact hx):=by
  unfold Zr
  rw[List.getD_eq_getElem?_getD,List.getElem?_eq_getElem (by rw[h.len];exact hx)];rfl
 have ey:Zr l y=l[y]'(by rw[h.len];exact hy):=by
  unfold Zr
  rw[List.getD_eq_getElem?_getD,List.getElem?_eq_getElem (by rw[h.len];exact hy)];rfl
 rw[ex,ey];intro e
 exact n ((List.getElem_inj h.nd).mp e)
theorem lt_size{n:Nat}(h:n<=10000):n<sizeLine:=Nat.lt_of_le_of_lt h (by decide)
end L2
namespace VL
open PySem PySem.Spec PyProof.Rows L2
variable {K:PySem.W.Frag}
inductive PV where
 | non | bl (b:Bool) | int (i:Int) | str (x:Str) | ty (n:String) | exc (n:Str)
 | tup (l:List PV) | lst (l:List PV) | cst (l:List PV)
 | dK (ks:List Tc) (vs:List PV) | dT (ks:List (List Tc)) (vs:List PV)
instance:Inhabited PV:=⟨.non⟩
mutual
/-- nothing in it can be changed -/
def ZR:PV->Bool
 | .tup l=>ZV l
 | .cst l=>ZV l
 | .lst _=>false
 | .dK _ _=>false
 | .dT _ _=>false
 | .non=>true
 | .bl _=>true
 | .int _=>true
 | .str _=>true
 | .ty _=>true
 | .exc _=>true
def ZV:List PV->Bool
 | []=>true
 | x::r=>ZR x&&ZV r
end
theorem We:∀l:List PV,ZV l=l.all ZR
 | []=>rfl
 | x::r=>by rw[List.all_cons,<-We r];rfl
def KL(K:PySem.W.Frag)(a:Addr)(xs:List V):Prop:=
 ∃(o:Obj) (its:Array Value) (n:Nat),K.lookup a=some o/\o.cls = .type "list"/\o.dict=none/\o.data = .seq its n/\its.size<=sizeLine/\Vals xs its.toList
def CsK(K:PySem.W.Frag)(H:Hp)(p:Addr)(xs:List V):Prop:=(∃o,H p=some (.frz o (.lst xs)))\/KL K p xs
theorem CsK.sq{K:PySem.W.Frag}{H:Hp}{p:Addr}{xs:List V}(h:CsK K H p xs):SqL K H p xs:=by
 rcases h with h | h
 ·exact .inl (.inr h)
 ·exact .inr h
mutual
/-- v is the tree l in the heap H;fp: the addresses of its lists and dicts -/
def Is(K:PySem.W.Frag)(H:Hp):PV->V->List Addr->Prop
 | .non,v,fp=>v = .non/\fp=[]
 | .bl b,v,fp=>v = .bl b/\fp=[]
 | .int i,v,fp=>v = .int i/\fp=[]
 | .str x,v,fp=>v = .str x/\fp=[]
 | .ty n,v,fp=>v = .ty n/\fp=[]
 | .exc n,v,fp=>(∃e o x C,v = .ref e/\H e=some (.frz o (.own x))/\o.cls = .ref C/\PySem.W.nsIn K mainGlobals n=some (some (.ref C))/\o.dict=none/\∃vs,o.data = .fields vs)/\fp=[]
 | .tup l,v,fp=>∃p xs,v = .ref p/\H p=some (.tup xs)/\Iss K H l xs fp
 | .lst l,v,fp=>∃p xs fq,v = .ref p/\H p=some (.lst xs)/\Iss K H l xs fq/\fp=p::fq
 | .cst l,v,fp=>∃p xs,v = .ref p/\CsK K H p xs/\Iss K H l xs fp
 | .dK ks l,v,fp=>∃p kvs fq,v = .ref p/\Rd H p (.dK kvs)/\kvs.map (·.1)=ks/\Iss K H l (kvs.map (·.2)) fq/\fp=p::fq
 | .dT ks l,v,fp=>∃p kvs fq,v = .ref p/\Rd H p (.dT kvs)/\kvs.map (·.1)=ks/\Iss K H l (kvs.map (·.2)) fq/\fp=p::fq
def Iss(K:PySem.W.Frag)(H:Hp):List PV->List V->List Addr->Prop
 | [],xs,fp=>xs=[]/\fp=[]
 | l::ls,xs,fp=>∃x r f1 f2,xs=x::r/\Is K H l x f1/\Iss K H ls r f2/\fp=f1++f2
end
def RdK(H H':Hp)(p:Addr):Prop:=(∀xs,H p=some (.lst xs)->H' p=some (.lst xs))/\(∀kvs,Rd H p (.dK kvs)->Rd H' p (.dK kvs))/\∀kvs,Rd H p (.dT kvs)->Rd H' p (.dT kvs)
theorem RdK.of{H H':Hp}{p:Addr}(h:∀o,H p=some o->H' p=some o):RdK H H' p:=by
 have r:∀u,Rd H p u->Rd H' p u:=fun u q=>by
  rcases q with q | ⟨o,q⟩
  ·exact .inl (h _ q)
  ·exact .inr ⟨o,h _ q⟩
 exact⟨fun _=>h _,fun _=>r _,fun _=>r _⟩
structure K5(H H':Hp):Prop where
 tup:TK H H'
 frz:∀b o xs,H b=some (.frz o (.lst xs))->H' b=some (.frz o (.lst xs))
 exc:∀b o x,H b=some (.frz o (.own x))->H' b=some (.frz o (.own x))
theorem Same.tk2{H H':Hp}(s:Same H H'):K5 H H':=⟨s.tk,fun b o xs h=>s b _ h,fun b o x h=>s b _ h⟩
theorem CsK.tr{K:PySem.W.Frag}{H H':Hp}(t:K5 H H'){p:Addr}{xs:List V}(h:CsK K H p xs):CsK K H' p xs:=by
 rcases h with⟨o,h⟩ | h
 ·exact .inl ⟨o,t.frz p o xs h⟩
 ·exact .inr h
mutual
theorem Is.tr{H H':Hp}(ht:K5 H H'):∀(l:PV)(v:V)(fp:List Addr),(∀p∈fp,RdK H H' p)->Is K H l v fp->Is K H' l v fp
 | .non,_,_,_,h=>by simpa only[Is] using h
 | .bl _,_,_,_,h=>by simpa only[Is] using h
 | .int _,_,_,_,h=>by simpa only[Is] using h
 | .str _,_,_,_,h=>by simpa only[Is] using h
 | .ty _,_,_,_,h=>by simpa only[Is] using h
 | .exc _,_,_,_,h=>by
  simp only[Is] at h ⊢
  obtain⟨⟨e,o,x,C,a,b,c⟩,d⟩:=h
  exact⟨⟨e,o,x,C,a,ht.exc e o x b,c⟩,d⟩
 | .tup l,v,fp,hm,h=>by
  simp only[Is] at h ⊢
  obtain⟨p,xs,e,hp,hi⟩:=h
  exact⟨p,xs,e,ht.tup p xs hp,Iss.tr ht l xs fp hm hi⟩
 | .lst l,v,fp,hm,h=>by
  simp only[Is] at h ⊢
  obtain⟨p,xs,fq,e,hr,hi,rfl⟩:=h
  exact⟨p,xs,fq,e,(hm p List.mem_cons_self).1 _ hr,Iss.tr ht l xs fq (fun q hq=>hm q (List.mem_cons_of_mem _ hq)) hi,rfl⟩
 | .cst l,v,fp,hm,h=>by
  simp only[Is] at h ⊢
  obtain⟨p,xs,e,hr,hi⟩:=h
  exact⟨p,xs,e,hr.tr ht,Iss.tr ht l xs fp hm hi⟩
 | .dK ks l,v,fp,hm,h=>by
  simp only[Is] at h ⊢
  obtain⟨p,kvs,fq,e,hr,hk,hi,rfl⟩:=h
  exact⟨p,kvs,fq,e,(hm p List.mem_cons_self).2.1 _ hr,hk,Iss.tr ht l _ fq (fun q hq=>hm q (List.mem_cons_of_mem _ hq)) hi,rfl⟩
 | .dT ks l,v,fp,hm,h=>by
  simp only[Is] at h ⊢
  obtain⟨p,kvs,fq,e,hr,hk,hi,rfl⟩:=h
  exact⟨p,kvs,fq,e,(hm p List.mem_cons_self).2.2 _ hr,hk,Iss.tr ht l _ fq (fun q hq=>hm q (List.mem_cons_of_mem _ hq)) hi,rfl⟩
theorem Iss.tr{H H':Hp}(ht:K5 H H'):∀(l:List PV)(xs:List V)(fp:List Addr),(∀p∈fp,RdK H H' p)->Iss K H l xs fp->Iss K H' l xs fp
 | [],_,_,_,h=>by simpa only[Iss] using h
 | l::ls,xs,fp,hm,h=>by
  simp only[Iss] at h ⊢
  obtain⟨x,r,f1,f2,e,h1,h2,rfl⟩:=h
  exact⟨x,r,f1,f2,e,Is.tr ht l x f1 (fun q hq=>hm q (List.mem_append_left _ hq)) h1,Iss.tr ht ls r f2 (fun q hq=>hm q (List.mem_append_right _ hq)) h2,rfl⟩
end
theorem Is.mono{H H':Hp}(s:Same H H'){l:PV}{v:V}{fp:List Addr}(h:Is K H l v fp):Is K H' l v fp:=Is.tr (Same.tk2 s) l v fp (fun p _=>RdK.of fun o q=>s p o q) h
theorem Iss.mono{H H':Hp}(s:Same H H'){l:List PV}{v:List V}{fp:List Addr}(h:Iss K H l v fp):Iss K H' l v fp:=Iss.tr (Same.tk2 s) l v fp (fun p _=>RdK.of fun o q=>s p o q) h
mutual
theorem Is.pure{H:Hp}:∀(l:PV)(v:V)(fp:List Addr),ZR l=true->Is K H l v fp->fp=[]
 | .non,_,_,_,h=>by simp only[Is] at h;exact h.2
 | .bl _,_,_,_,h=>by simp only[Is] at h;exact h.2
 | .int _,_,_,_,h=>by simp only[Is] at h;exact h.2
 | .str _,_,_,_,h=>by simp only[Is] at h;exact h.2
 | .ty _,_,_,_,h=>by simp only[Is] at h;exact h.2
 | .exc _,_,_,_,h=>by simp only[Is] at h;exact h.2
 | .tup l,v,fp,hp,h=>by
  simp only[Is] at h
  obtain⟨p,xs,e,_,hi⟩:=h
  exact Iss.pure l xs fp (by simpa only[ZR] using hp) hi
 | .lst l,v,fp,hp,h=>by simp[ZR] at hp
 | .cst l,v,fp,hp,h=>by
  simp only[Is] at h
  obtain⟨p,xs,e,_,hi⟩:=h
  exact Iss.pure l xs fp (by simpa only[ZR] using hp) hi
 | .dK ks l,v,fp,hp,h=>by simp[ZR] at hp
 | .dT ks l,v,fp,hp,h=>by simp[ZR] at hp
theorem Iss.pure{H:Hp}:∀(l:List PV)(xs:List V)(fp:List Addr),ZV l=true->Iss K H l xs fp->fp=[]
 | [],_,_,_,h=>by simp only[Iss] at h;exact h.2
 | l::ls,xs,fp,hp,h=>by
  simp only[Iss] at h;simp only[ZV,Bool.and_eq_true] at hp
  obtain⟨x,r,f1,f2,e,h1,h2,rfl⟩:=h
  rw[Is.pure l x f1 hp.1 h1,Iss.pure ls r f2 hp.2 h2];rfl
end
section
variable {H H':Hp}
theorem Iss.len:∀{l:List PV}{xs:List V}{fp:List Addr},Iss K H l xs fp->xs.length=l.length
 | [],xs,fp,h=>by simp only[Iss] at h;rw[h.1];rfl
 | l::ls,xs,fp,h=>by
  simp only[Iss] at h
  obtain⟨x,r,f1,f2,rfl,_,h2,_⟩:=h
  rw[List.length_cons,List.length_cons,h2.len]
theorem Iss.get:∀{l:List PV}{xs:List V}{fp:List Addr}{i:Nat}{a:PV},Iss K H l xs fp->l[i]?=some a->∃x f1,xs[i]?=some x/\Is K H a x f1/\∀p∈f1,p∈fp
 | [],xs,fp,i,a,h,e=>by simp at e
 | l::ls,xs,fp,0,a,h,e=>by
  simp only[Iss] at h
  obtain⟨x,r,f1,f2,rfl,h1,_,rfl⟩:=h
  simp at e;subst e
  exact⟨x,f1,rfl,h1,fun p hp=>List.mem_append_left _ hp⟩
 | l::ls,xs,fp,i+1,a,h,e=>by
  simp only[Iss] at h
  obtain⟨x,r,f1,f2,rfl,_,h2,rfl⟩:=h
  obtain⟨y,g,h3,h4,h5⟩:=h2.get (i:=i) (a:=a) (by simpa using e)
  exact⟨y,g,by simpa using h3,h4,fun p hp=>List.mem_append_right _ (h5 p hp)⟩
theorem Iss.get'{l:List PV}{xs:List V}{fp:List Addr}{i:Nat}{x:V}(h:Iss K H l xs fp)(e:xs[i]?=some x):∃a f1,l[i]?=some a/\Is K H a x f1/\∀p∈f1,p∈fp:=by
 have hi:i<l.length:=by rw[<-h.len];exact(List.getElem?_eq_some_iff.mp e).1
 obtain⟨y,f1,h1,h2,h3⟩:=h.get (List.getElem?_eq_getElem hi)
 rw[e] at h1;cases h1
 exact⟨_,f1,List.getElem?_eq_getElem hi,h2,h3⟩
theorem Iss.nil:Iss K H [] [] []:=by simp[Iss]
theorem Iss.cons{l:PV}{ls:List PV}{x:V}{xs:List V}{f1 f2:List Addr}(h1:Is K H l x f1)(h2:Iss K H ls xs f2):Iss K H (l::ls) (x::xs) (f1++f2):=by
 simp only[Iss];exact⟨x,xs,f1,f2,rfl,h1,h2,rfl⟩
theorem Iss.inv{l:PV}{ls:List PV}{xs:List V}{fp:List Addr}(h:Iss K H (l::ls) xs fp):∃x r f1 f2,xs=x::r/\Is K H l x f1/\Iss K H ls r f2/\fp=f1++f2:=by
 simpa only[Iss] using h
theorem Iss.append:∀{l m:List PV}{xs ys:List V}{f1 f2:List Addr},Iss K H l xs f1->Iss K H m ys f2->Iss K H (l++m) (xs++ys) (f1++f2)
 | [],m,xs,ys,f1,f2,h,h'=>by
  simp only[Iss] at h
  rw[h.1,h.2];exact h'
 | l::ls,m,xs,ys,f1,f2,h,h'=>by
  obtain⟨x,r,g1,g2,rfl,a,b,rfl⟩:=h.inv
  rw[List.append_assoc]
  exact Iss.cons a (b.append h')
theorem Iss.one{l:PV}{x:V}{f:List Addr}(h:Is K H l x f):Iss K H [l] [x] f:=by
 have:=Iss.cons h (Iss.nil (H:=H))
 rwa [List.append_nil] at this
theorem Iss.take:∀{l:List PV}{xs:List V}{fp:List Addr}(n:Nat),Iss K H l xs fp->∃f1,Iss K H (l.take n) (xs.take n) f1/\∀p∈f1,p∈fp
 | l,xs,fp,0,h=>⟨[],by rw[List.take_zero,List.take_zero];exact Iss.nil,fun p hp=>by simp at hp⟩
 | [],xs,fp,n+1,h=>by
  simp only[Iss] at h;rw[h.1]
  exact⟨[],by rw[List.take_nil,List.take_nil];exact Iss.nil,fun p hp=>by simp at hp⟩
 | l::ls,xs,fp,n+1,h=>by
  obtain⟨x,r,f1,f2,rfl,h1,h2,rfl⟩:=h.inv
  obtain⟨f3,a,b⟩:=h2.take n
  refine⟨f1++f3,Iss.cons h1 a,fun p hp=>?_⟩
  rcases List.mem_append.mp hp with h | h
  ·exact List.mem_append_left _ h
  ·exact List.mem_append_right _ (b p h)
theorem Iss.drop:∀{l:List PV}{xs:List V}{fp:List Addr}(n:Nat),Iss K H l xs fp->∃f1,Iss K H (l.drop n) (xs.drop n) f1/\∀p∈f1,p∈fp
 | l,xs,fp,0,h=>⟨fp,h,fun p hp=>hp⟩
 | [],xs,fp,n+1,h=>by
  simp only[Iss] at h;rw[h.1]
  exact⟨[],by rw[List.drop_nil,List.drop_nil];exact Iss.nil,fun p hp=>by simp at hp⟩
 | l::ls,xs,fp,n+1,h=>by
  obtain⟨x,r,f1,f2,rfl,h1,h2,rfl⟩:=h.inv
  obtain⟨f3,a,b⟩:=h2.drop n
  exact⟨f3,a,fun p hp=>List.mem_append_right _ (b p hp)⟩
theorem Iss.setP:∀{l:List PV}{xs:List V}{a:PV}{x:V}(i:Nat),ZV l=true->ZR a=true->Iss K H l xs []->Is K H a x []->Iss K H (l.set i a) (xs.set i x) []
 | [],xs,a,x,i,_,_,h,_=>by
  simp only[Iss] at h
  rw[h.1];simp only[List.set_nil];exact Iss.nil
 | l::ls,xs,a,x,0,hp,_,h,ha=>by
  simp only[ZV,Bool.and_eq_true] at hp
  obtain⟨y,r,f1,f2,rfl,_,h2,e⟩:=h.inv
  have e2:=Iss.pure _ _ _ hp.2 h2;subst e2
  exact Iss.cons (f1:=[]) ha h2
 | l::ls,xs,a,x,i+1,hp,hq,h,ha=>by
  simp only[ZV,Bool.and_eq_true] at hp
  obtain⟨y,r,f1,f2,rfl,h1,h2,e⟩:=h.inv
  have e1:=Is.pure _ _ _ hp.1 h1;have e2:=Iss.pure _ _ _ hp.2 h2
  subst e1 e2
  exact Iss.cons (f1:=[]) h1 (Iss.setP i hp.2 hq h2 ha)
theorem Is.int_inv{i:Int}{v:V}{fp:List Addr}(h:Is K H (.int i) v fp):v = .int i/\fp=[]:=by simpa only[Is] using h
theorem Is.int(i:Int):Is K H (.int i) (.int i) []:=by simp[Is]
theorem Is.bl(i:Bool):Is K H (.bl i) (.bl i) []:=by simp[Is]
theorem Is.non:Is K H .non .non []:=by simp[Is]
theorem Is.str(x:Str):Is K H (.str x) (.str x) []:=by simp[Is]
theorem Is.ty(n:String):Is K H (.ty n) (.ty n) []:=by simp[Is]
theorem Is.bl_inv{i:Bool}{v:V}{fp:List Addr}(h:Is K H (.bl i) v fp):v = .bl i/\fp=[]:=by simpa only[Is] using h
theorem Is.str_inv{i:Str}{v:V}{fp:List Addr}(h:Is K H (.str i) v fp):v = .str i/\fp=[]:=by simpa only[Is] using h
theorem Is.non_inv{v:V}{fp:List Addr}(h:Is K H .non v fp):v = .non/\fp=[]:=by simpa only[Is] using h
theorem Is.ty_inv{n:String}{v:V}{fp:List Addr}(h:Is K H (.ty n) v fp):v = .ty n/\fp=[]:=by simpa only[Is] using h
theorem Is.tup_inv{l:List PV}{v:V}{fp:List Addr}(h:Is K H (.tup l) v fp):∃p xs,v = .ref p/\H p=some (.tup xs)/\Iss K H l xs fp:=by simpa only[Is] using h
theorem Is.tup{l:List PV}{p:Addr}{xs:List V}{fp:List Addr}(h:H p=some (.tup xs))(hi:Iss K H l xs fp):Is K H (.tup l) (.ref p) fp:=by simp only[Is];exact⟨p,xs,rfl,h,hi⟩
theorem Is.lst_inv{l:List PV}{v:V}{fp:List Addr}(h:Is K H (.lst l) v fp):∃p xs fq,v = .ref p/\H p=some (.lst xs)/\Iss K H l xs fq/\fp=p::fq:=by simpa only[Is] using h
theorem Is.lst{l:List PV}{p:Addr}{xs:List V}{fp:List Addr}(h:H p=some (.lst xs))(hi:Iss K H l xs fp):Is K H (.lst l) (.ref p) (p::fp):=by
 simp only[Is];exact⟨p,xs,fp,rfl,h,hi,rfl⟩
theorem Is.cst_inv{l:List PV}{v:V}{fp:List Addr}(h:Is K H (.cst l) v fp):∃p xs,v = .ref p/\CsK K H p xs/\Iss K H l xs fp:=by simpa only[Is] using h
theorem Is.cst{l:List PV}{p:Addr}{xs:List V}{fp:List Addr}(h:CsK K H p xs)(hi:Iss K H l xs fp):Is K H (.cst l) (.ref p) fp:=by
 simp only[Is];exact⟨p,xs,rfl,h,hi⟩
theorem Is.dT_inv{ks:List (List Tc)}{l:List PV}{v:V}{fp:List Addr}(h:Is K H (.dT ks l) v fp):∃p kvs fq,v = .ref p/\Rd H p (.dT kvs)/\kvs.map (·.1)=ks/\Iss K H l (kvs.map (·.2)) fq/\fp=p::fq:=by simpa only[Is] using h
theorem Is.dK_inv{ks:List Tc}{l:List PV}{v:V}{fp:List Addr}(h:Is K H (.dK ks l) v fp):∃p kvs fq,v = .ref p/\Rd H p (.dK kvs)/\kvs.map (·.1)=ks/\Iss K H l (kvs.map (·.2)) fq/\fp=p::fq:=by simpa only[Is] using h
end
abbrev iL(l:List Int):List PV:=l.map PV.int
theorem XI(l:List Int):ZV (iL l)=true:=by
 rw[We,List.all_eq_true];intro x hx
 obtain⟨i,_,rfl⟩:=List.mem_map.mp hx
 rfl
theorem Iss.iL{H:Hp}:∀{l:List Int}{xs:List V}{fp:List Addr},Iss K H (VL.iL l) xs fp->xs=l.map V.int/\fp=[]
 | [],xs,fp,h=>by simpa only[VL.iL,List.map_nil,Iss] using h
 | i::l,xs,fp,h=>by
  obtain⟨x,r,f1,f2,rfl,h1,h2,rfl⟩:=Iss.inv (show Iss K H (PV.int i::VL.iL l) xs fp from h)
  obtain⟨rfl,rfl⟩:=h1.int_inv
  obtain⟨rfl,rfl⟩:=h2.iL
  exact⟨rfl,rfl⟩
theorem Iss.ofInts{H:Hp}:∀(l:List Int),Iss K H (VL.iL l) (l.map V.int) []
 | []=>Iss.nil
 | i::l=>Iss.cons (f1:=[]) (Is.int i) (Iss.ofInts l)
end VL
namespace VL
open PySem PySem.Spec PyProof.Rows L2
variable {K:PySem.W.Frag}
abbrev U5:=L2.St
abbrev ZO:=List (Option PV)
abbrev XE:=ZO->Option PV
structure EnvIs(K:PySem.W.Frag)(Rm:Addr->Prop)(H:Hp)(s:ZO)(σ:U5):Prop where
 is:∀(i:Nat) l,s[i]?=some (some l)->∃v fp,σ[i]?=some (some v)/\Is K H l v fp/\∀p∈fp,¬Rm p
theorem EnvIs.mono{Rm:Addr->Prop}{H H':Hp}{s:ZO}{σ:U5}(h:EnvIs K Rm H s σ)(e:Same H H'):EnvIs K Rm H' s σ:=⟨fun i l q=>by
 obtain⟨v,fp,a,b,c⟩:=h.is i l q
 exact⟨v,fp,a,b.mono e,c⟩⟩
theorem EnvIs.free{Rm:Addr->Prop}{H:Hp}{s:ZO}{σ:U5}(h:EnvIs K Rm H s σ):EnvIs K (fun _=>False) H s σ:=⟨fun i l q=>by
 obtain⟨v,fp,a,b,c⟩:=h.is i l q
 exact⟨v,fp,a,b,fun _ _ z=>z⟩⟩
theorem Same.mut{H H':Hp}(e:Same H H'){p:Addr}(h:Wc (H p)):Wc (H' p):=by
 cases q:H p with
 | none=>rw[q] at h;exact h.elim
 | some o=>rw[e p o q,<-q];exact h
theorem Xg{H:Hp}{p:Addr}(h:Wc (H p)):H p≠none:=fun z=>by rw[z] at h;exact h
def tF(K:PySem.W.Frag)(f:XE):TE:=fun σ H Q=>∃(Rm:Addr->Prop) (s:ZO) (l:PV),(∀p,Rm p->Wc (H p))/\EnvIs K Rm H s σ/\f s=some l/\∀v H' fp,Same H H'->Is K H' l v fp->(∀p∈fp,¬Rm p)->Q v H'
def tM(K:PySem.W.Frag)(f:XE):TE:=fun σ H Q=>∃(s:ZO) (l:PV),EnvIs K (fun _=>False) H s σ/\f s=some l/\∀v H' fp,Same H H'->Is K H' l v fp->fp.Nodup->(∀p∈fp,H p=none/\Wc (H' p))->Q v H'
def VE(X:Cx)(e:Expr)(f:XE):Prop:=PE X e (tF X.K f)
def VM(X:Cx)(e:Expr)(f:XE):Prop:=PE X e (tM X.K f)
section
variable {X:Cx} {e:Expr} {f g:XE} {t t':TE}
theorem PE.imp(h:PE X e t)(i:∀σ H Q,t' σ H Q->t σ H Q):PE X e t':=fun pins s σ H Q I q=>h pins s σ H Q I (i σ H Q q)
theorem VM.ve(h:VM X e f):VE X e f:=PE.imp h fun σ H Q ⟨Rm,s,l,hd,env,e,k⟩=>
 ⟨s,l,env.free,e,fun v H' fp sm i _ n=>k v H' fp sm i fun p hp z=>Xg (hd p z) (n p hp).1⟩
def eP(f:XE):XE:=fun s=>(f s).bind fun l=>if ZR l=true then some l else none
theorem L7{s:ZO}{l:PV}(h:eP f s=some l):f s=some l/\ZR l=true:=by
 unfold eP at h
 cases q:f s with
 | none=>rw[q] at h;cases h
 | some a=>
  rw[q] at h;simp only[Option.bind_some] at h
  split at h
  ·cases h;exact⟨rfl,by assumption⟩
  ·cases h
theorem VE.pure(h:VE X e f):VM X e (eP f):=PE.imp h fun σ H Q ⟨s,l,env,e,k⟩=>by
 obtain⟨e1,e2⟩:=L7 e
 refine⟨fun _=>False,s,l,fun _ z=>z.elim,env,e1,fun v H' fp sm i n=>?_⟩
 have:=Is.pure l v fp e2 i
 subst this
 exact k v H' [] sm i List.nodup_nil fun p hp=>by simp at hp
end
def Za(i:Nat):XE:=fun s=>(s[i]?).join
def eC(l:PV):XE:=fun _=>some l
theorem SV{i:Nat}{s:ZO}{l:PV}(h:Za i s=some l):s[i]?=some (some l):=by
 unfold Za at h
 cases q:s[i]? with
 | none=>rw[q] at h;cases h
 | some o=>rw[q] at h;cases o with
  | none=>cases h
  | some a=>cases h;rfl
section
variable {X:Cx} {pos:Pos}
theorem Zd{e:Expr}{i:Nat}(h:PE X e (U1 i)):VE X e (Za i):=PE.imp h fun σ H Q ⟨Rm,s,l,hd,env,e,k⟩=>by
 obtain⟨v,fp,a,b,c⟩:=env.is i l (SV e)
 exact⟨v,a,k v H fp (Same.refl H) b c⟩
theorem O8{e:Expr}{v:V}{l:PV}(h:PE X e (tC v))(hv:∀H,Is X.K H l v []):VE X e (eC l):=PE.imp h fun σ H Q ⟨Rm,s,l',hd,env,e,k⟩=>by
 cases e
 exact k v H [] (Same.refl H) (hv H) fun p hp=>by simp at hp
theorem Zh{i j}:VE X (.Constant (.int i) j pos) (eC (.int i)):=O8 Jl fun _=>Is.int i
theorem Mh{i j}:VE X (.Constant (.bool i) j pos) (eC (.bl i)):=O8 IF fun _=>Is.bl i
theorem JY{j}:VE X (.Constant .none j pos) (eC .non):=O8 Jm fun _=>Is.non
theorem X5{i j}:VE X (.Constant (.str i) j pos) (eC (.str i)):=O8 Jn fun _=>Is.str i
end
def RB(K:PySem.W.Frag)(r:R2)(g:PV->PV->Option PV):Prop:=∀(H:Hp)(x y:V)(a b l:PV)(fa fb:List Addr),Is K H a x fa->Is K H b y fb->g a b=some l->∀Q:VK,
 (∀v H' fp,Same H H'->Is K H' l v fp->(∀p∈fp,p∈fa\/p∈fb\/H p=none)->Q v H')->r x y H Q
def Zi(g:PV->PV->Option PV)(a b:XE):XE:=fun s=>(a s).bind fun x=>(b s).bind fun y=>g x y
theorem Qk{g:PV->PV->Option PV}{a b:XE}{s:ZO}{l:PV}(h:Zi g a b s=some l):∃x y,a s=some x/\b s=some y/\g x y=some l:=by
 unfold Zi at h
 cases q:a s with
 | none=>rw[q] at h;cases h
 | some x=>cases q2:b s with
  | none=>rw[q,q2] at h;cases h
  | some y=>rw[q,q2] at h;exact⟨x,y,rfl,rfl,h⟩
section
variable {X:Cx} {a b:Expr} {fa fb:XE} {pos:Pos}
theorem Og{r:R2}{g:PV->PV->Option PV}(hr:RB K r g):∀σ H Q,tF K (Zi g fa fb) σ H Q->KZ r (tF K fa) (tF K fb) σ H Q:=fun σ H Q ⟨Rm,s,l,hd,env,e,k⟩=>by
 obtain⟨x',y',ex,ey,e⟩:=Qk e
 refine⟨Rm,s,x',hd,env,ex,fun x H1 f1 s1 i1 n1=>⟨Rm,s,y',fun p hp=>Same.mut s1 (hd p hp),env.mono s1,ey,fun y H2 f2 s2 i2 n2=>?_⟩⟩
 refine hr H2 x y x' y' l f1 f2 (i1.mono s2) i2 e Q fun v H3 fp s3 i3 n3=>k v H3 fp (s1.trans (s2.trans s3)) i3 fun p hp z=>?_
 rcases n3 p hp with h | h | h
 ·exact n1 p h z
 ·exact n2 p h z
 ·exact Xg (Same.mut (s1.trans s2) (hd p z)) h
theorem Vq{op:Operator}{r:R2}{g:PV->PV->Option PV}(ho:Uo X (binaryOp op) r)(hr:RB X.K r g)(ha:VE X a fa)(hb:VE X b fb):VE X (.BinOp a op b pos) (Zi g fa fb):=
 PE.imp (K1 ho ha hb) (Og hr)
theorem Mi{op:CmpOp}{r:R2}{g:PV->PV->Option PV}(ho:Uo X (compareOp op) r)(hr:RB X.K r g)(ha:VE X a fa)(hb:VE X b fb)(hm:behindInMarks op b=false):VE X (.Compare a [op] [b] pos) (Zi g fa fb):=
 PE.imp (LK ho ha hb hm) (Og hr)
theorem Hj{r:R2}{g:PV->PV->Option PV}(ho:IxR X r)(hr:RB X.K r g)(ha:VE X a fa)(hb:VE X b fb)(hs:Rt b):VE X (.Subscript a b pos) (Zi g fa fb):=
 PE.imp (TB ho ha hb hs) (Og hr)
end
def gI(g:Int->Int->Int):PV->PV->Option PV
 | .int i,.int j=>some (.int (g i j))
 | _,_=>none
def gB(g:Int->Int->Bool):PV->PV->Option PV
 | .int i,.int j=>some (.bl (g i j))
 | _,_=>none
def Mj(C:Int->Int->Prop)[∀i j,Decidable (C i j)](g:Int->Int->Int):PV->PV->Option PV
 | .int i,.int j=>if C i j then some (.int (g i j)) else none
 | _,_=>none
theorem L8{g:Int->Int->Int}{a b l:PV}(h:gI g a b=some l):∃i j,a = .int i/\b = .int j/\l = .int (g i j):=by
 unfold gI at h;split at h
 ·cases h;exact⟨_,_,rfl,rfl,rfl⟩
 ·cases h
theorem L9{g:Int->Int->Bool}{a b l:PV}(h:gB g a b=some l):∃i j,a = .int i/\b = .int j/\l = .bl (g i j):=by
 unfold gB at h;split at h
 ·cases h;exact⟨_,_,rfl,rfl,rfl⟩
 ·cases h
theorem Mk{C:Int->Int->Prop}[∀i j,Decidable (C i j)]{g:Int->Int->Int}{a b l:PV}(h:Mj C g a b=some l):∃i j,a = .int i/\b = .int j/\C i j/\l = .int (g i j):=by
 unfold Mj at h;split at h
 ·split at h
  ·cases h;exact⟨_,_,rfl,rfl,by assumption,rfl⟩
  ·cases h
 ·cases h
theorem Hk(g:Int->Int->Int):RB K (LI fun i j=>.int (g i j)) (gI g):=fun H x y a b l fa fb ha hb e Q k=>by
 obtain⟨i,j,rfl,rfl,rfl⟩:=L8 e
 exact⟨i,j,ha.int_inv.1,hb.int_inv.1,k _ H [] (Same.refl H) (Is.int _) fun p hp=>by simp at hp⟩
theorem Ka(g:Int->Int->Bool):RB K (LI fun i j=>.bl (g i j)) (gB g):=fun H x y a b l fa fb ha hb e Q k=>by
 obtain⟨i,j,rfl,rfl,rfl⟩:=L9 e
 exact⟨i,j,ha.int_inv.1,hb.int_inv.1,k _ H [] (Same.refl H) (Is.bl _) fun p hp=>by simp at hp⟩
theorem SW(C:Int->Int->Prop)[∀i j,Decidable (C i j)](g:Int->Int->Int):RB K (rI C fun i j=>.int (g i j)) (Mj C g):=fun H x y a b l fa fb ha hb e Q k=>by
 obtain⟨i,j,rfl,rfl,c,rfl⟩:=Mk e
 exact⟨i,j,ha.int_inv.1,hb.int_inv.1,c,k _ H [] (Same.refl H) (Is.int _) fun p hp=>by simp at hp⟩
instance (i j:Int):Decidable (CMul i j):=by unfold CMul;infer_instance
instance (i j:Int):Decidable (Rl i j):=by unfold Rl;infer_instance
instance (i j:Int):Decidable (K2 i j):=by unfold K2;infer_instance
instance (i j:Int):Decidable (Rq i j):=by unfold Rq;infer_instance
abbrev ZW:=gI (· + ·)
abbrev Xe:=gI (· - ·)
abbrev Vm:=Mj CMul (· * ·)
abbrev Rz:=Mj Rl (· / ·)
abbrev Y4:=Mj (fun _ j=>0<j) (· % ·)
abbrev Vv:=Mj Rq (fun i j=>i^j.toNat)
abbrev Oh:=gB (fun i j=>decide (i<j))
abbrev NU:=gB (fun i j=>decide (j<i))
abbrev JZ:=gB (fun i j=>decide (j<=i))
section
variable {X:Cx} {a b:Expr} {fa fb:XE} {pos:Pos}
theorem Yh(ha:VE X a fa)(hb:VE X b fb):VE X (.BinOp a .Add b pos) (Zi ZW fa fb):=Vq JD (Hk _) ha hb
theorem Xq(ha:VE X a fa)(hb:VE X b fb):VE X (.BinOp a .Sub b pos) (Zi Xe fa fb):=Vq JE (Hk _) ha hb
theorem X6(ha:VE X a fa)(hb:VE X b fb):VE X (.BinOp a .Mult b pos) (Zi Vm fa fb):=Vq JF (SW _ _) ha hb
theorem Td(ha:VE X a fa)(hb:VE X b fb):VE X (.BinOp a .FloorDiv b pos) (Zi Rz fa fb):=Vq LJ (SW _ _) ha hb
theorem YM(ha:VE X a fa)(hb:VE X b fb):VE X (.BinOp a .Mod b pos) (Zi Y4 fa fb):=Vq JG (SW _ _) ha hb
theorem Ux(ha:VE X a fa)(hb:VE X b fb):VE X (.BinOp a .Pow b pos) (Zi Vv fa fb):=Vq JH (SW _ _) ha hb
theorem Hl(ha:VE X a fa)(hb:VE X b fb):VE X (.Compare a [.Lt] [b] pos) (Zi Oh fa fb):=Mi K3 (Ka _) ha hb (Vs _)
end
def Yb:PV->PV->Option PV
 | .lst l,.int i=>Ur l i
 | .cst l,.int i=>Ur l i
 | .tup l,.int i=>Ur l i
 | .str z,.int i=>if z.length<=sizeLine then(Ur z.cps.toList i).map fun c=>.str ⟨#[c]⟩ else none
 | _,_=>none
theorem QX{l:List PV}{xs:List V}{H:Hp}{fp:List Addr}{i:Int}{a:PV}(h:Iss K H l xs fp)(e:Ur l i=some a):∃x f1,Ur xs i=some x/\Is K H a x f1/\∀p∈f1,p∈fp:=by
 unfold Ur at e ⊢
 rw[h.len]
 cases q:R5 l.length i with
 | none=>rw[q] at e;cases e
 | some j=>rw[q] at e;exact h.get e
theorem Hm:RB K (GB K) Yb:=fun H x y a b l fa fb ha hb e Q k=>by
 unfold Yb at e;split at e
 ·obtain⟨p,xs,fq,rfl,hp,hi,rfl⟩:=ha.lst_inv
  obtain⟨z,f1,h1,h2,h3⟩:=QX hi e
  exact .inl ⟨p,xs,_,z,rfl,hb.int_inv.1,SqL.of hp,h1,k z H f1 (Same.refl H) h2 fun q hq=>.inl (List.mem_cons_of_mem _ (h3 q hq))⟩
 ·obtain⟨p,xs,rfl,hp,hi⟩:=ha.cst_inv
  obtain⟨z,f1,h1,h2,h3⟩:=QX hi e
  exact .inl ⟨p,xs,_,z,rfl,hb.int_inv.1,hp.sq,h1,k z H f1 (Same.refl H) h2 fun q hq=>.inl (h3 q hq)⟩
 ·obtain⟨p,xs,rfl,hp,hi⟩:=ha.tup_inv
  obtain⟨z,f1,h1,h2,h3⟩:=QX hi e
  exact .inr (.inl ⟨p,xs,_,z,rfl,hb.int_inv.1,SqT.of hp,h1,k z H f1 (Same.refl H) h2 fun q hq=>.inl (h3 q hq)⟩)
 ·split at e
  ·cases q:Ur _ _ with
   | none=>rw[q] at e;cases e
   | some c=>
    rw[q] at e;cases e
    exact .inr (.inr ⟨_,_,c,ha.str_inv.1,hb.int_inv.1,by assumption,q,k _ H [] (Same.refl H) (Is.str _) fun p hp=>by simp at hp⟩)
  ·cases e
 ·cases e
section
variable {X:Cx} {a b:Expr} {fa fb:XE} {pos:Pos}
theorem ZG(ha:VE X a fa)(hb:VE X b fb)(hs:Rt b:=by exact fun _ _=>rfl):VE X (.Subscript a b pos) (Zi Yb fa fb):=Hj JP Hm ha hb hs
end
abbrev XT:=ZO->Option Bool
def QK(K:PySem.W.Frag)(f:XT):TT:=fun σ H Q=>∃(Rm:Addr->Prop) (s:ZO) (c:Bool),(∀p,Rm p->Wc (H p))/\EnvIs K Rm H s σ/\f s=some c/\∀H',Same H H'->Q c H'
def VT(X:Cx)(e:Expr)(f:XT):Prop:=PT X e (QK X.K f)
def VW(X:Cx)(e:Expr)(f:XT):Prop:=PW X e (QK X.K f)
section
variable {X:Cx} {e:Expr} {f:XT}
theorem PT.imp{t t':TT}(h:PT X e t)(i:∀σ H Q,t' σ H Q->t σ H Q):PT X e t':=fun pins s σ H Q I q=>h pins s σ H Q I (i σ H Q q)
theorem PW.imp{t t':TT}(h:PW X e t)(i:∀σ H Q,t' σ H Q->t σ H Q):PW X e t':=fun whole pins s σ H Q I q=>h whole pins s σ H Q I (i σ H Q q)
theorem VW.vt(h:VW X e f):VT X e f:=PW.pt h
end
def xB(f:XE):XT:=fun s=>match f s with | some (.bl c)=>some c | _=>none
theorem Te{f:XE}{s:ZO}{c:Bool}(h:xB f s=some c):f s=some (.bl c):=by
 unfold xB at h;split at h
 ·cases h;assumption
 ·cases h
section
variable {X:Cx} {a b c:Expr} {Ym:List Expr} {fa fb:XE} {ga gb:XT} {pos:Pos}
theorem QY(h:VE X a fa)(he:∀whole,isTrue a X.env whole=(do let v <-whole;standAt a.pos;holding [v] (truthy v)):=by intro _;rfl):VT X a (xB fa):=
 PT.imp (Jp h he) fun σ H Q ⟨Rm,s,c,hd,env,e,k⟩=>⟨Rm,s,.bl c,hd,env,Te e,fun v H' fp sm i n=>⟨c,i.bl_inv.1,k H' sm⟩⟩
theorem Ml:∀σ H Q,QK K (xB fa) σ H Q->P8 (tF K fa) σ H Q:=fun σ H Q ⟨Rm,s,c,hd,env,e,k⟩=>⟨Rm,s,.bl c,hd,env,Te e,fun v H' fp sm i n=>⟨c,i.bl_inv.1,k H' sm⟩⟩
theorem QZ{t t':TE}(i:∀σ H Q,t' σ H Q->t σ H Q):∀σ H Q,P8 t' σ H Q->P8 t σ H Q:=fun σ H Q h=>i σ H _ h
theorem Vw{op:CmpOp}{r:R2}{g:PV->PV->Option PV}(ho:Uo X (compareOp op) r)(hr:RB X.K r g)(ha:VE X a fa)(hb:VE X b fb)(hm:behindInMarks op b=false):VT X (.Compare a [op] [b] pos) (xB (Zi g fa fb)):=
 PT.imp (LL ho ha hb hm) fun σ H Q h=>QZ (Og hr) σ H Q (Ml σ H Q h)
theorem Oi(ha:VE X a fa)(hb:VE X b fb):VT X (.Compare a [.Lt] [b] pos) (xB (Zi Oh fa fb)):=Vw K3 (Ka _) ha hb (Vs _)
theorem Mm(ha:VE X a fa)(hb:VE X b fb):VT X (.Compare a [.Gt] [b] pos) (xB (Zi NU fa fb)):=Vw IU (Ka _) ha hb (Vs _)
theorem K6(ha:VE X a fa)(hb:VE X b fb):VT X (.Compare a [.GtE] [b] pos) (xB (Zi JZ fa fb)):=Vw IV (Ka _) ha hb (Vs _)
def VJ(a b:XT):XT:=fun s=>(a s).bind fun c=>if c=true then b s else some false
def Ly(a b:XT):XT:=fun s=>(a s).bind fun c=>if c=true then some true else b s
def RA(a:XT):XT:=fun s=>(a s).map not
theorem Kb:∀σ H Q,QK K (VJ ga gb) σ H Q->IG (QK K ga) (QK K gb) σ H Q:=fun σ H Q ⟨Rm,s,c,hd,env,e,k⟩=>by
 unfold VJ at e
 cases q:ga s with
 | none=>rw[q] at e;cases e
 | some d=>
  rw[q] at e
  refine⟨Rm,s,d,hd,env,q,fun H1 s1=>?_⟩
  cases d with
  | true=>
   simp only[Option.bind_some,if_true] at e;rw[if_pos rfl]
   exact⟨Rm,s,c,fun p hp=>Same.mut s1 (hd p hp),env.mono s1,e,fun H2 s2=>k H2 (s1.trans s2)⟩
  | false=>
   simp only[Option.bind_some,Bool.false_eq_true,if_false] at e;cases e;rw[if_neg Bool.false_ne_true]
   exact k H1 s1
theorem J0:∀σ H Q,QK K (Ly ga gb) σ H Q->Gy (QK K ga) (QK K gb) σ H Q:=fun σ H Q ⟨Rm,s,c,hd,env,e,k⟩=>by
 unfold Ly at e
 cases q:ga s with
 | none=>rw[q] at e;cases e
 | some d=>
  rw[q] at e
  refine⟨Rm,s,d,hd,env,q,fun H1 s1=>?_⟩
  cases d with
  | true=>
   simp only[Option.bind_some,if_true] at e;cases e;rw[if_pos rfl]
   exact k H1 s1
  | false=>
   simp only[Option.bind_some,Bool.false_eq_true,if_false] at e;rw[if_neg Bool.false_ne_true]
   exact⟨Rm,s,c,fun p hp=>Same.mut s1 (hd p hp),env.mono s1,e,fun H2 s2=>k H2 (s1.trans s2)⟩
theorem Tf(ha:VT X a ga):VW X (.BoolOp .And [a] pos) ga:=LF ha
theorem Mn(ha:VT X a ga):VW X (.BoolOp .Or [a] pos) ga:=Jq ha
theorem RD(ha:VT X a ga)(hb:VW X (.BoolOp .And (b::Ym) pos) gb):VW X (.BoolOp .And (a::b::Ym) pos) (VJ ga gb):=PW.imp (Jr ha hb) Kb
theorem Mo(ha:VT X a ga)(hb:VW X (.BoolOp .Or (b::Ym) pos) gb):VW X (.BoolOp .Or (a::b::Ym) pos) (Ly ga gb):=PW.imp (IH ha hb) J0
theorem Q0(ha:VT X a ga):VT X (.UnaryOp .Not a pos) (RA ga):=PT.imp (Js ha) fun σ H Q ⟨Rm,s,c,hd,env,e,k⟩=>by
 unfold RA at e
 cases q:ga s with
 | none=>rw[q] at e;cases e
 | some d=>rw[q] at e;cases e;exact⟨Rm,s,d,hd,env,q,k⟩
end
section
variable {X:Cx} {a b c:Expr} {Ym:List Expr} {fa fb:XE} {gc:XT} {pos:Pos}
def Gq(a b:XE):XE:=fun s=>(xB a s).bind fun c=>if c=true then b s else some (.bl false)
def Hn(a b:XE):XE:=fun s=>(xB a s).bind fun c=>if c=true then some (.bl true) else b s
def Gr(a:XE):XE:=fun s=>(xB a s).map fun c=>.bl !c
def O9(c:XT)(a b:XE):XE:=fun s=>(c s).bind fun k=>if k=true then a s else b s
theorem J1{op}(h:VE X a fa):VE X (.BoolOp op [a] pos) fa:=Jt h
theorem Ho(ha:VE X a fa)(hb:VE X (.BoolOp .Or (b::Ym) pos) fb):VE X (.BoolOp .Or (a::b::Ym) pos) (Hn fa fb):=PE.imp (II ha hb) fun σ H Q ⟨Rm,s,l,hd,env,e,k⟩=>by
 unfold Hn at e
 cases q:xB fa s with
 | none=>rw[q] at e;cases e
 | some d=>
  rw[q] at e
  refine⟨Rm,s,.bl d,hd,env,Te q,fun v H1 fp s1 i1 _=>⟨d,i1.bl_inv.1,?_⟩⟩
  cases d with
  | true=>
   simp only[Option.bind_some,if_true] at e;cases e;rw[if_pos rfl]
   exact k _ H1 [] s1 (Is.bl true) fun p hp=>by simp at hp
  | false=>
   simp only[Option.bind_some,Bool.false_eq_true,if_false] at e;rw[if_neg Bool.false_ne_true]
   exact⟨Rm,s,l,fun p hp=>Same.mut s1 (hd p hp),env.mono s1,e,fun v2 H2 fp2 s2 i2 n2=>k v2 H2 fp2 (s1.trans s2) i2 n2⟩
theorem Mp(hc:VT X c gc)(ha:VE X a fa)(hb:VE X b fb):VE X (.IfExp c a b pos) (O9 gc fa fb):=PE.imp (NZ hc ha hb) fun σ H Q ⟨Rm,s,l,hd,env,e,k⟩=>by
 unfold O9 at e
 cases q:gc s with
 | none=>rw[q] at e;cases e
 | some d=>
  rw[q] at e
  refine⟨Rm,s,d,hd,env,q,fun H1 s1=>?_⟩
  cases d with
  | true=>
   simp only[Option.bind_some,if_true] at e;rw[if_pos rfl]
   exact⟨Rm,s,l,fun p hp=>Same.mut s1 (hd p hp),env.mono s1,e,fun v2 H2 fp2 s2 i2 n2=>k v2 H2 fp2 (s1.trans s2) i2 n2⟩
  | false=>
   simp only[Option.bind_some,Bool.false_eq_true,if_false] at e;rw[if_neg Bool.false_ne_true]
   exact⟨Rm,s,l,fun p hp=>Same.mut s1 (hd p hp),env.mono s1,e,fun v2 H2 fp2 s2 i2 n2=>k v2 H2 fp2 (s1.trans s2) i2 n2⟩
end
section
variable {X:Cx} {a b c:Expr} {fa fb fc:XE} {pos:Pos}
def Mq(neg:Bool):PV->Option PV
 | .non=>some (.bl !neg)
 | _=>some (.bl neg)
def Mr:PV->Bool
 | .non=>true
 | _=>false
theorem Q1{H:Hp}{l:PV}{v:V}{fp:List Addr}(i:Is K H l v fp):decide (v=V.non)=Mr l:=by
 cases l with
 | non=>rw[i.non_inv.1];rfl
 | bl b=>rw[i.bl_inv.1];rfl
 | int j=>rw[i.int_inv.1];rfl
 | str y=>rw[i.str_inv.1];rfl
 | ty n=>rw[i.ty_inv.1];rfl
 | exc C=>simp only[Is] at i;obtain⟨⟨e,o,x,C,rfl,_⟩,_⟩:=i;rfl
 | lst l=>obtain⟨p,xs,fq,rfl,_⟩:=i.lst_inv;rfl
 | cst l=>obtain⟨p,xs,rfl,_⟩:=i.cst_inv;rfl
 | tup l=>obtain⟨p,xs,rfl,_⟩:=i.tup_inv;rfl
 | dK ks l=>obtain⟨p,xs,fq,rfl,_⟩:=i.dK_inv;rfl
 | dT ks l=>obtain⟨p,xs,fq,rfl,_⟩:=i.dT_inv;rfl
def Na(neg:Bool)(a:XE):XE:=fun s=>(a s).bind (Mq neg)
theorem Ms:∀σ H Q,tF K (Na true fa) σ H Q->KT (tF K fa) σ H Q:=fun σ H Q ⟨Rm,s,l,hd,env,e,k⟩=>by
 unfold Na at e
 cases q:fa s with
 | none=>rw[q] at e;cases e
 | some m=>
  rw[q] at e;simp only[Option.bind_some] at e
  refine⟨Rm,s,m,hd,env,q,fun v H1 fp s1 i1 _=>?_⟩
  show Q _ H1
  rw[Q1 i1]
  have:l = .bl (!Mr m):=by cases m<;>cases e<;>rfl
  subst this
  exact k _ H1 [] s1 (Is.bl _) fun p hp=>by simp at hp
theorem Hq:∀σ H Q,QK K (xB fa) σ H Q->tB (tF K fa) σ H Q:=fun σ H Q ⟨Rm,s,c,hd,env,e,k⟩=>⟨Rm,s,.bl c,hd,env,Te e,fun v H' fp sm i n=>⟨c,i.bl_inv.1,k H' sm⟩⟩
theorem Kc{t t':TE}(i:∀σ H Q,t' σ H Q->t σ H Q):∀σ H Q,tB t' σ H Q->tB t σ H Q:=fun σ H Q h=>i σ H _ h
theorem Kd{j pos'}(ha:VE X a fa):VT X (.Compare a [.IsNot] [.Constant .none j pos'] pos) (xB (Na true fa)):=PT.imp (Jo (LE ha)) fun σ H Q h=>Kc Ms σ H Q (Hq σ H Q h)
def SB:PV->Option PV
 | .int i=>some (.int (-i))
 | _=>none
def Lz(g:PV->Option PV)(a:XE):XE:=fun s=>(a s).bind g
theorem Q2(ha:VE X a fa):VE X (.UnaryOp .USub a pos) (Lz SB fa):=PE.imp (IS JI ha) fun σ H Q ⟨Rm,s,l,hd,env,e,k⟩=>by
 unfold Lz at e
 cases q:fa s with
 | none=>rw[q] at e;cases e
 | some m=>
  rw[q] at e;simp only[Option.bind_some] at e;unfold SB at e
  split at e
  ·cases e
   exact⟨Rm,s,_,hd,env,q,fun v H1 fp s1 i1 _=>⟨_,i1.int_inv.1,k _ H1 [] s1 (Is.int _) fun p hp=>by simp at hp⟩⟩
  ·cases e
end
end VL
namespace VL
open PySem PySem.Spec PyProof.Rows L2
variable {K:PySem.W.Frag}
def Tg:List XE->ZO->Option (List PV)
 | [],_=>some []
 | f::fs,s=>(f s).bind fun x=>(Tg fs s).map (x::·)
theorem TL{f:XE}{fs:List XE}{s:ZO}{ls:List PV}(h:Tg (f::fs) s=some ls):∃x r,f s=some x/\Tg fs s=some r/\ls=x::r:=by
 unfold Tg at h
 cases q:f s with
 | none=>rw[q] at h;cases h
 | some x=>cases q2:Tg fs s with
  | none=>rw[q,q2] at h;cases h
  | some r=>rw[q,q2] at h;cases h;exact⟨x,r,rfl,rfl,rfl⟩
theorem Wq:∀{fs:List XE}{s:ZO}{ls:List PV},Tg fs s=some ls->ls.length=fs.length
 | [],_,_,h=>by cases h;rfl
 | f::fs,s,ls,h=>by
  obtain⟨x,r,_,h2,rfl⟩:=TL h
  rw[List.length_cons,List.length_cons,Wq h2]
def HI(K:PySem.W.Frag)(fs:List XE):TA:=fun σ H Q=>∃(Rm:Addr->Prop) (s:ZO) (ls:List PV),(∀p,Rm p->Wc (H p))/\EnvIs K Rm H s σ/\Tg fs s=some ls/\∀vs H' fp,Same H H'->Iss K H' ls vs fp->(∀p∈fp,¬Rm p)->Q vs H'
def GN(K:PySem.W.Frag)(fs:List XE):TA:=fun σ H Q=>∃(s:ZO) (ls:List PV),EnvIs K (fun _=>False) H s σ/\Tg fs s=some ls/\∀vs H' fp,Same H H'->Iss K H' ls vs fp->fp.Nodup->(∀p∈fp,H p=none/\Wc (H' p))->Q vs H'
def VA(X:Cx)(es:List Expr)(fs:List XE):Prop:=PA X es (HI X.K fs)
def Hr(X:Cx)(es:List Expr)(fs:List XE):Prop:=PA X es (GN X.K fs)
section
variable {X:Cx} {e:Expr} {es:List Expr} {f:XE} {fs:List XE} {pos:Pos} {k:Nat}
theorem PA.imp{t t':TA}(h:PA X es t)(i:∀σ H Q,t' σ H Q->t σ H Q):PA X es t':=fun pos pins s σ H Q I q=>h pos pins s σ H Q I (i σ H Q q)
theorem Zg:VA X [] []:=PA.imp Wn fun σ H Q ⟨Rm,s,ls,hd,env,e,k⟩=>by
 cases e
 exact k [] H [] (Same.refl H) Iss.nil fun p hp=>by simp at hp
theorem Zc(ha:VE X e f)(hr:VA X es fs)(hs:starEach (e::es) X.env=(false,eval e X.env)::starEach es X.env:=by rfl):VA X (e::es) (f::fs):=PA.imp (Yl ha hr hs) fun σ H Q ⟨Rm,s,ls,hd,env,e,k⟩=>by
 obtain⟨x',r',h1,h2,rfl⟩:=TL e
 refine⟨Rm,s,x',hd,env,h1,fun x H1 f1 s1 i1 n1=>⟨Rm,s,r',fun p hp=>Same.mut s1 (hd p hp),env.mono s1,h2,fun xs H2 f2 s2 i2 n2=>?_⟩⟩
 refine k _ H2 (f1++f2) (s1.trans s2) (Iss.cons (i1.mono s2) i2) fun p hp=>?_
 rcases List.mem_append.mp hp with h | h
 ·exact n1 p h
 ·exact n2 p h
theorem Th:Hr X [] []:=PA.imp Wn fun σ H Q ⟨s,ls,env,e,k⟩=>by
 cases e
 exact k [] H [] (Same.refl H) Iss.nil List.nodup_nil fun p hp=>by simp at hp
theorem VN(ha:VM X e f)(hr:Hr X es fs)(hs:starEach (e::es) X.env=(false,eval e X.env)::starEach es X.env:=by rfl):Hr X (e::es) (f::fs):=PA.imp (Yl ha hr hs) fun σ H Q ⟨s,ls,env,e,k⟩=>by
 obtain⟨x',r',h1,h2,rfl⟩:=TL e
 refine⟨s,x',env,h1,fun x H1 f1 s1 i1 d1 n1=>⟨s,r',env.mono s1,h2,fun xs H2 f2 s2 i2 d2 n2=>?_⟩⟩
 refine k _ H2 (f1++f2) (s1.trans s2) (Iss.cons (i1.mono s2) i2) ?_ fun p hp=>?_
 ·refine List.nodup_append.mpr ⟨d1,d2,fun a ha b hb z=>?_⟩
  subst z
  exact Xg (n1 a ha).2 (n2 a hb).1
 ·rcases List.mem_append.mp hp with h | h
  ·exact⟨(n1 p h).1,Same.mut s2 (n1 p h).2⟩
  ·exact⟨Same.off s1 (n2 p h).1,(n2 p h).2⟩
def RE(fs:List XE):XE:=fun s=>(Tg fs s).map .tup
def Wf(fs:List XE):XE:=fun s=>(Tg fs s).map .lst
theorem map_some{α β:Type}{o:Option α}{g:α->β}{b:β}(h:o.map g=some b):∃a,o=some a/\b=g a:=by
 cases o with
 | none=>cases h
 | some a=>cases h;exact⟨a,rfl,rfl⟩
theorem J2(h:VA X es fs)(hl:fs.length<=1000:=by decide):VE X (.Tuple es k pos) (RE fs):=PE.imp (Ty h) fun σ H Q ⟨Rm,s,l,hd,env,e,q⟩=>by
 obtain⟨ls,e1,rfl⟩:=map_some e
 refine⟨Rm,s,ls,hd,env,e1,fun vs H1 fp s1 i1 n1=>⟨?_,fun p hp=>?_⟩⟩
 ·rw[i1.len,Wq e1];exact Nat.le_of_lt (lt_size (by omega))
 ·exact q _ _ fp (s1.trans (Same.new hp _)) (Is.tup Zw (i1.mono (Same.new hp _))) n1
theorem J3(h:Hr X es fs)(hl:fs.length<=1000:=by decide):VM X (.Tuple es k pos) (RE fs):=PE.imp (Ty h) fun σ H Q ⟨s,l,env,e,q⟩=>by
 obtain⟨ls,e1,rfl⟩:=map_some e
 refine⟨s,ls,env,e1,fun vs H1 fp s1 i1 d1 n1=>⟨?_,fun p hp=>?_⟩⟩
 ·rw[i1.len,Wq e1];exact Nat.le_of_lt (lt_size (by omega))
 ·exact q _ _ fp (s1.trans (Same.new hp _)) (Is.tup Zw (i1.mono (Same.new hp _))) d1 fun a ha=>⟨(n1 a ha).1,Same.mut (Same.new hp _) (n1 a ha).2⟩
theorem Q3(h:VA X es fs)(hl:fs.length<=1000:=by decide):VE X (.List es pos) (Wf fs):=PE.imp (N4 h) fun σ H Q ⟨Rm,s,l,hd,env,e,q⟩=>by
 obtain⟨ls,e1,rfl⟩:=map_some e
 refine⟨Rm,s,ls,hd,env,e1,fun vs H1 fp s1 i1 n1=>⟨?_,fun p hp=>?_⟩⟩
 ·rw[i1.len,Wq e1];exact Nat.le_of_lt (lt_size (by omega))
 ·refine q _ _ (p::fp) (s1.trans (Same.new hp _)) (Is.lst Zw (i1.mono (Same.new hp _))) fun a ha z=>?_
  rcases List.mem_cons.mp ha with rfl | ha
  ·exact Xg (Same.mut s1 (hd a z)) hp
  ·exact n1 a ha z
theorem Q4(h:Hr X es fs)(hl:fs.length<=1000:=by decide):VM X (.List es pos) (Wf fs):=PE.imp (N4 h) fun σ H Q ⟨s,l,env,e,q⟩=>by
 obtain⟨ls,e1,rfl⟩:=map_some e
 refine⟨s,ls,env,e1,fun vs H1 fp s1 i1 d1 n1=>⟨?_,fun p hp=>?_⟩⟩
 ·rw[i1.len,Wq e1];exact Nat.le_of_lt (lt_size (by omega))
 ·refine q _ _ (p::fp) (s1.trans (Same.new hp _)) (Is.lst Zw (i1.mono (Same.new hp _))) (List.nodup_cons.mpr ⟨fun z=>Xg (n1 p z).2 hp,d1⟩) fun a ha=>?_
  rcases List.mem_cons.mp ha with rfl | ha
  ·exact⟨Same.off s1 hp,by rw[Zw];exact True.intro⟩
  ·exact⟨(n1 a ha).1,Same.mut (Same.new hp _) (n1 a ha).2⟩
end
def YI(K:PySem.W.Frag)(D:List PV->Option PV)(n:Nat):Sp:=fun vs H Q _=>vs.length=n/\∃ls fp l,Iss K H ls vs fp/\D ls=some l/\∀v H' fq,Same H H'->Is K H' l v fq->fq.Nodup->(∀p∈fq,H p=none/\Wc (H' p))->Q v H'
def Ze(D:List PV->Option PV)(fs:List XE):XE:=fun s=>(Tg fs s).bind D
theorem Zf{α β:Type}{o:Option α}{g:α->Option β}{b:β}(h:o.bind g=some b):∃a,o=some a/\g a=some b:=by
 cases o with
 | none=>cases h
 | some a=>exact⟨a,rfl,h⟩
section
variable {X:Cx} {x:Str} {ps:List Str} {k:Nat} {e:Expr} {es:List Expr} {fs:List XE} {p pos:Pos}
theorem Zn{D:List PV->Option PV}{n:Nat}(C:YU X.prog X.w X.K X.mg X.base x ps (YI X.K D n) k)(hr:Room k X.A)(hg:Gl X x)(ha:VA X (e::es) fs)(hn:fs.length=n:=by rfl)
  (hdb:(x==("__debug__" : Str))=false:=by decide) (he:starEach (e::es) X.env=(false,eval e X.env)::starEach es X.env:=by rfl) (hpl:(backTo pos (starEach es X.env)).any (·.1)=false:=by rfl) :
  VM X (.Call (.Name x p) (e::es) [] pos) (Ze D fs):=PE.imp (QW C hr hg ha hdb he hpl) fun σ H Q ⟨s,l,env,e,q⟩=>by
 obtain⟨ls,e1,e2⟩:=Zf e
 refine⟨fun _=>False,s,ls,fun _ z=>z.elim,env,e1,fun vs H1 fp s1 i1 n1=>?_⟩
 show YI X.K D n (vs++[]) H1 Q E0
 rw[List.append_nil]
 exact⟨by rw[i1.len,Wq e1,hn],ls,fp,l,i1,e2,fun v H2 fq s2 i2 d2 n2=>q v H2 fq (s1.trans s2) i2 d2 fun a ha=>⟨Same.off s1 (n2 a ha).1,(n2 a ha).2⟩⟩
end
def RC(K:PySem.W.Frag)(r:List V->Hp->VK->Prop)(g:List PV->Option PV):Prop:=∀(H:Hp)(vs:List V)(ls:List PV)(l:PV)(fp:List Addr),Iss K H ls vs fp->g ls=some l->∀Q:VK,
 (∀v H' fq,Same H H'->Is K H' l v fq->(∀p∈fq,p∈fp\/H p=none)->Q v H')->r vs H Q
def Gs(K:PySem.W.Frag)(r:List V->Hp->VK->Prop)(g:List PV->Option PV):Prop:=∀(H:Hp)(vs:List V)(ls:List PV)(l:PV)(fp:List Addr),Iss K H ls vs fp->g ls=some l->∀Q:VK,
 (∀v H' fq,Same H H'->Is K H' l v fq->fq.Nodup->(∀p∈fq,H p=none/\Wc (H' p))->Q v H')->r vs H Q
theorem K7{r:List V->Hp->VK->Prop}{g:List PV->Option PV}{fs:List XE}(hr:RC K r g):∀σ H Q,tF K (Ze g fs) σ H Q->HD r (HI K fs) σ H Q:=fun σ H Q ⟨Rm,s,l,hd,env,e,k⟩=>by
 obtain⟨ls,e1,e2⟩:=Zf e
 refine⟨Rm,s,ls,hd,env,e1,fun vs H1 fp s1 i1 n1=>hr H1 vs ls l fp i1 e2 Q fun v H2 fq s2 i2 n2=>k v H2 fq (s1.trans s2) i2 fun p hp z=>?_⟩
 rcases n2 p hp with h | h
 ·exact n1 p h z
 ·exact Xg (Same.mut s1 (hd p z)) h
theorem Hs{r:List V->Hp->VK->Prop}{g:List PV->Option PV}{fs:List XE}(hr:Gs K r g):∀σ H Q,tM K (Ze g fs) σ H Q->HD r (HI K fs) σ H Q:=fun σ H Q ⟨s,l,env,e,k⟩=>by
 obtain⟨ls,e1,e2⟩:=Zf e
 exact⟨fun _=>False,s,ls,fun _ z=>z.elim,env,e1,fun vs H1 fp s1 i1 n1=>hr H1 vs ls l fp i1 e2 Q fun v H2 fq s2 i2 d2 n2=>k v H2 fq (s1.trans s2) i2 d2 fun p hp=>⟨Same.off s1 (n2 p hp).1,(n2 p hp).2⟩⟩
section
variable {X:Cx} {x:Str} {k:Nat} {e:Expr} {es:List Expr} {fs:List XE} {p pos:Pos} {id T:String} {r:List V->Hp->VK->Prop} {g:List PV->Option PV}
theorem ZI(hc:Wd X (.builtin id) r)(hr:RC X.K r g)(hg:Gl X x)(hm:X.mg x=none)(hv:bootBuiltins x=some (.builtin id))(ha:VA X (e::es) fs)(hn:x≠"__name__":=by decide)(hdb:(x==("__debug__" : Str))=false:=by decide)
  (he:starEach (e::es) X.env=(false,eval e X.env)::starEach es X.env:=by rfl) (hpl:(backTo pos (starEach es X.env)).any (·.1)=false:=by rfl):VE X (.Call (.Name x p) (e::es) [] pos) (Ze g fs):=
 PE.imp (N6 hc hg hm hv ha hn hdb he hpl) (K7 hr)
theorem Z5(hc:Wd X (.type T) r)(hr:RC X.K r g)(hg:Gl X x)(hm:X.mg x=none)(hv:bootBuiltins x=some (.type T))(ha:VA X (e::es) fs)(hn:x≠"__name__":=by decide)(hdb:(x==("__debug__" : Str))=false:=by decide)
  (he:starEach (e::es) X.env=(false,eval e X.env)::starEach es X.env:=by rfl) (hpl:(backTo pos (starEach es X.env)).any (·.1)=false:=by rfl):VE X (.Call (.Name x p) (e::es) [] pos) (Ze g fs):=
 PE.imp (SJ hc hg hm hv ha hn hdb he hpl) (K7 hr)
theorem SX(hc:Wd X (.type T) r)(hr:Gs X.K r g)(hg:Gl X x)(hm:X.mg x=none)(hv:bootBuiltins x=some (.type T))(ha:VA X (e::es) fs)(hn:x≠"__name__":=by decide)(hdb:(x==("__debug__" : Str))=false:=by decide)
  (he:starEach (e::es) X.env=(false,eval e X.env)::starEach es X.env:=by rfl) (hpl:(backTo pos (starEach es X.env)).any (·.1)=false:=by rfl):VM X (.Call (.Name x p) (e::es) [] pos) (Ze g fs):=
 PE.imp (SJ hc hg hm hv ha hn hdb he hpl) (Hs hr)
end
theorem Iss.one_inv{H:Hp}{l:PV}{vs:List V}{fp:List Addr}(h:Iss K H [l] vs fp):∃v,vs=[v]/\Is K H l v fp:=by
 obtain⟨x,r,f1,f2,rfl,a,b,rfl⟩:=h.inv
 simp only[Iss] at b
 rw[b.1,b.2,List.append_nil];exact⟨x,rfl,a⟩
theorem Iss.two_inv{H:Hp}{l m:PV}{vs:List V}{fp:List Addr}(h:Iss K H [l,m] vs fp):∃v w f1 f2,vs=[v,w]/\Is K H l v f1/\Is K H m w f2/\fp=f1++f2:=by
 obtain⟨x,r,f1,f2,rfl,a,b,rfl⟩:=h.inv
 obtain⟨y,rfl,c⟩:=b.one_inv
 exact⟨x,y,f1,f2,rfl,a,c,rfl⟩
def SC:PV->Option (List PV)
 | .lst l=>some l
 | .cst l=>some l
 | .tup l=>some l
 | _=>none
theorem W9{H:Hp}{l:PV}{v:V}{fp:List Addr}{m:List PV}(h:Is K H l v fp)(e:SC l=some m):∃p xs fq,v = .ref p/\(SqL K H p xs\/SqT K H p xs)/\Iss K H m xs fq/\∀q∈fq,q∈fp:=by
 cases l with
 | lst l=>
  cases e
  obtain⟨p,xs,fq,rfl,hp,hi,rfl⟩:=h.lst_inv
  exact⟨p,xs,fq,rfl,.inl (SqL.of hp),hi,fun q hq=>List.mem_cons_of_mem _ hq⟩
 | cst l=>
  cases e
  obtain⟨p,xs,rfl,hp,hi⟩:=h.cst_inv
  exact⟨p,xs,fp,rfl,.inl hp.sq,hi,fun q hq=>hq⟩
 | tup l=>
  cases e
  obtain⟨p,xs,rfl,hp,hi⟩:=h.tup_inv
  exact⟨p,xs,fp,rfl,.inr (SqT.of hp),hi,fun q hq=>hq⟩
 | _=>cases e
def YF:List PV->Option PV
 | [.str z]=>if z.length<=sizeLine then some (.int z.length) else none
 | [l]=>(SC l).map fun m=>.int m.length
 | _=>none
theorem X7:RC K (fun xs H Q=>∃x n,xs=[x]/\IW K x H n/\Q (.int n) H) YF:=fun H vs ls l fp h e Q k=>by
 unfold YF at e
 split at e
 ·split at e
  ·cases e
   obtain⟨v,rfl,i⟩:=h.one_inv
   exact⟨v,_,rfl,by rw[i.str_inv.1];exact⟨by assumption,rfl⟩,k _ H [] (Same.refl H) (Is.int _) fun p hp=>by simp at hp⟩
  ·cases e
 ·obtain⟨m,e1,rfl⟩:=map_some e
  obtain⟨v,rfl,i⟩:=h.one_inv
  obtain⟨p,xs,fq,rfl,hp,hi,_⟩:=W9 (K:=K) i e1
  refine⟨_,xs.length,rfl,?_,?_⟩
  ·rcases hp with hp | hp
   ·exact .inl ⟨xs,hp,rfl⟩
   ·exact .inr ⟨xs,hp,rfl⟩
  ·rw[hi.len]
   exact k _ H [] (Same.refl H) (Is.int _) fun p hp=>by simp at hp
 ·cases e
def Ya:List PV->Option PV
 | [l]=>(SC l).map .tup
 | _=>none
theorem Yk:RC K (JX K) Ya:=fun H vs ls l fp h e Q k=>by
 unfold Ya at e
 split at e
 ·obtain⟨m,e1,rfl⟩:=map_some e
  obtain⟨v,rfl,i⟩:=h.one_inv
  rename_i l0
  cases l0 with
  | tup l=>
   cases e1
   obtain⟨p,xs,rfl,hp,hi⟩:=id i.tup_inv
   exact⟨p,xs,rfl,.inr ⟨SqT.of hp,k _ H fp (Same.refl H) i fun a ha=>.inl ha⟩⟩
  | lst l=>
   cases e1
   obtain⟨p,xs,fq,rfl,hp,hi,rfl⟩:=i.lst_inv
   exact⟨p,xs,rfl,.inl ⟨SqL.of hp,fun q hq=>k _ _ fq (Same.new hq _) (Is.tup Zw (hi.mono (Same.new hq _))) fun a ha=>.inl (List.mem_cons_of_mem _ ha)⟩⟩
  | cst l=>
   cases e1
   obtain⟨p,xs,rfl,hp,hi⟩:=i.cst_inv
   exact⟨p,xs,rfl,.inl ⟨hp.sq,fun q hq=>k _ _ fp (Same.new hq _) (Is.tup Zw (hi.mono (Same.new hq _))) fun a ha=>.inl ha⟩⟩
  | _=>cases e1
 ·cases e
def X8:List PV->Option PV
 | [l]=>(SC l).bind fun m=>if ZV m=true then some (.lst m) else none
 | _=>none
theorem Ql:Gs K (L5 K) X8:=fun H vs ls l fp h e Q k=>by
 unfold X8 at e
 split at e
 ·obtain⟨m,e1,e2⟩:=Zf e
  split at e2
  ·cases e2
   obtain⟨v,rfl,i⟩:=h.one_inv
   obtain⟨p,xs,fq,rfl,hp,hi,hs⟩:=W9 (K:=K) i e1
   have:=Iss.pure _ _ _ (by assumption) hi
   subst this
   refine⟨p,xs,rfl,hp,fun q hq=>k _ _ [q] (Same.new hq _) (Is.lst Zw (hi.mono (Same.new hq _))) (by simp) fun a ha=>?_⟩
   rw[List.mem_singleton.mp ha]
   exact⟨hq,by rw[Zw];exact True.intro⟩
  ·cases e2
 ·cases e
def WH:List PV->Option (List Int)
 | []=>some []
 | .int i::r=>(WH r).map (i::·)
 | _=>none
theorem XY:∀l:List Int,WH (iL l)=some l
 | []=>rfl
 | i::r=>by show(WH (iL r)).map (i::·)=_;rw[XY r];rfl
theorem WI:∀{m:List PV}{l:List Int},WH m=some l->m=iL l
 | [],l,h=>by cases h;rfl
 | .int i::r,l,h=>by
  obtain⟨a,e,rfl⟩:=map_some (show(WH r).map (i::·)=some l from h)
  rw[WI e];rfl
 | .non::_,_,h=>by cases h
 | .bl _::_,_,h=>by cases h
 | .str _::_,_,h=>by cases h
 | .ty _::_,_,h=>by cases h
 | .exc _::_,_,h=>by cases h
 | .tup _::_,_,h=>by cases h
 | .lst _::_,_,h=>by cases h
 | .cst _::_,_,h=>by cases h
 | .dK _ _::_,_,h=>by cases h
 | .dT _ _::_,_,h=>by cases h
theorem Mu{H:Hp}{p:Addr}{xs:List V}(h:SqL K H p xs\/SqT K H p xs):∃b,SO b K H p xs:=by
 rcases h with h | h
 ·exact⟨true,h⟩
 ·exact⟨false,h⟩
def Xn:List PV->Option PV
 | [l]=>(SC l).bind fun m=>(WH m).map fun ns=>.int ns.sum
 | _=>none
theorem WK:RC K (fun xs H Q=>∃(b:Bool) (p:Addr) (ns:List Int),xs=[.ref p]/\SO b K H p (ns.map V.int)/\Q (.int ns.sum) H) Xn:=fun H vs ls l fp h e Q k=>by
 unfold Xn at e
 split at e
 ·obtain⟨m,e1,e2⟩:=Zf e
  obtain⟨ns,e3,rfl⟩:=map_some e2
  obtain⟨v,rfl,i⟩:=h.one_inv
  obtain⟨p,xs,fq,rfl,hp,hi,hs⟩:=W9 (K:=K) i e1
  have em:=WI e3;subst em
  obtain⟨rfl,rfl⟩:=hi.iL
  obtain⟨b,hb⟩:=Mu hp
  exact⟨b,p,ns,rfl,hb,k _ H [] (Same.refl H) (Is.int _) fun p hp=>by simp at hp⟩
 ·cases e
def Qm:List PV->Option PV
 | [.int i,.int j]=>some (.int (if j<i then j else i))
 | _=>none
def Ht:List PV->Option PV
 | [.int i,.int j]=>some (.int (if j>i then j else i))
 | _=>none
def Q5:List PV->Option PV
 | [.int i]=>some (.int (if i<0 then -i else i))
 | _=>none
def K8:List PV->Option PV
 | [.int i]=>some (.int i)
 | [.bl c]=>some (.int (if c then 1 else 0))
 | _=>none
theorem Ke:RC K (fun xs H Q=>∃i j,xs=[.int i,.int j]/\Q (.int (if j<i then j else i)) H) Qm:=fun H vs ls l fp h e Q k=>by
 unfold Qm at e
 split at e
 ·cases e
  obtain⟨v,w,f1,f2,rfl,a,b,rfl⟩:=h.two_inv
  exact⟨_,_,by rw[a.int_inv.1,b.int_inv.1],k _ H [] (Same.refl H) (Is.int _) fun p hp=>by simp at hp⟩
 ·cases e
theorem J4:RC K (fun xs H Q=>∃i,xs=[.int i]/\Q (.int (if i<0 then -i else i)) H) Q5:=fun H vs ls l fp h e Q k=>by
 unfold Q5 at e
 split at e
 ·cases e
  obtain⟨v,rfl,a⟩:=h.one_inv
  exact⟨_,by rw[a.int_inv.1],k _ H [] (Same.refl H) (Is.int _) fun p hp=>by simp at hp⟩
 ·cases e
section
variable {X:Cx} {e:Expr} {es:List Expr} {fs:List XE} {p pos:Pos}
def WB:List PV->Option PV
 | [.int _,.ty "int"]=>some (.bl true)
 | [.int _,.ty "bool"]=>some (.bl false)
 | [.bl _,.ty "bool"]=>some (.bl true)
 | [.tup _,.ty "tuple"]=>some (.bl true)
 | [.lst _,.ty "list"]=>some (.bl true)
 | [.str _,.ty "str"]=>some (.bl true)
 | _=>none
theorem SD:PySem.W.kitOne K (.type "bool") (.type "bool")=some true:=rfl
theorem Oj:RC K (fun xs H Q=>∃x T t b,xs=[x,.ty T]/\TyOf K H x t/\PySem.W.kitOne K t (.type T)=some b/\Q (.bl b) H) WB:=fun H vs ls l fp h e Q k=>by
  have fin:∀b:Bool,l = .bl b->Q (.bl b) H:=fun b z=>by subst z;exact k _ H [] (Same.refl H) (Is.bl _) fun p hp=>by simp at hp
  unfold WB at e
  split at e<;>first
    | (cases e
       obtain⟨v,w,f1,f2,rfl,a,b,rfl⟩:=h.two_inv
       first
         | (obtain⟨rfl,_⟩:=a.int_inv;first
             | exact⟨_,_,_,_,by rw[b.ty_inv.1],TyOf.int _,Qc,fin _ rfl⟩
             | exact⟨_,_,_,_,by rw[b.ty_inv.1],TyOf.int _,Rx,fin _ rfl⟩)
         | (obtain⟨rfl,_⟩:=a.bl_inv;exact⟨_,_,_,_,by rw[b.ty_inv.1],TyOf.bl _,SD,fin _ rfl⟩)
         | (obtain⟨rfl,_⟩:=a.str_inv;exact⟨_,_,_,_,by rw[b.ty_inv.1],TyOf.str _,Qe,fin _ rfl⟩)
         | (obtain⟨q,xs,rfl,hp,_⟩:=a.tup_inv;exact⟨_,_,_,_,by rw[b.ty_inv.1],TyOf.tup hp,Qd,fin _ rfl⟩)
         | (obtain⟨q,xs,fq,rfl,hp,_⟩:=a.lst_inv
            exact⟨_,_,_,_,by rw[b.ty_inv.1],TyOf.lst hp,SA,fin _ rfl⟩))
    | cases e
theorem K9{x:Str}{n:String}(hg:Gl X x)(hm:X.mg x=none)(hv:bootBuiltins x=some (.type n))(hn:x≠"__name__":=by decide)(hd:(x==("__debug__" : Str))=false:=by decide):VE X (.Name x pos) (eC (.ty n)):=
 O8 (LD hg hm hv (v:=.ty n) rfl hn hd) fun _=>Is.ty n
end
end VL
namespace VL
open PySem PySem.Spec PyProof.Rows L2
variable {K:PySem.W.Frag}
open Classical in
noncomputable instance:DecidableEq PV:=fun a b=>propDecidable (a=b)
def XB:Nat->PV->PV->Bool
 | _+1,.non,.non=>true
 | _+1,.bl _,.bl _=>true
 | _+1,.int _,.int _=>true
 | _+1,.str _,.str _=>true
 | n+1,.tup l,.tup m=>(l.zip m).all fun z=>XB n z.1 z.2
 | n+1,.lst l,.lst m=>(l.zip m).all fun z=>XB n z.1 z.2
 | _,_,_=>false
theorem VP{α β:Type}{p:α×β->Bool}{a:α}{b:β}{l:List α}{m:List β}(h:((a::l).zip (b::m)).all p=true):p (a,b)=true/\(l.zip m).all p=true:=by
 rw[List.zip_cons_cons,List.all_cons,Bool.and_eq_true] at h;exact h
theorem Iss.inj'{n:Nat}{H:Hp}(ih:∀a b v fa fb,XB n a b=true->Is K H a v fa->Is K H b v fb->a=b):∀{l m:List PV}{xs:List V}{fa fb:List Addr},(l.zip m).all (fun z=>XB n z.1 z.2)=true->Iss K H l xs fa->Iss K H m xs fb->l=m
 | [],m,xs,fa,fb,_,h,h'=>by
  simp only[Iss] at h
  rw[h.1] at h'
  have:=h'.len
  cases m with
  | nil=>rfl
  | cons _ _=>simp at this
 | a::l,m,xs,fa,fb,hc,h,h'=>by
  obtain⟨x,r,f1,f2,rfl,h1,h2,rfl⟩:=h.inv
  cases m with
  | nil=>have:=h'.len;simp at this
  | cons b m=>
   obtain⟨x',r',g1,g2,e,h3,h4,rfl⟩:=h'.inv
   cases e
   obtain⟨c1,c2⟩:=VP hc
   rw[ih a b x f1 g1 c1 h1 h3,Iss.inj' ih c2 h2 h4]
theorem Is.inj'{H:Hp}:∀(n:Nat)(a b:PV)(v:V)(fa fb:List Addr),XB n a b=true->Is K H a v fa->Is K H b v fb->a=b
 | 0,a,b,v,fa,fb,hc,_,_=>by unfold XB at hc;simp at hc
 | n+1,a,b,v,fa,fb,hc,ha,hb=>by
  cases a<;>cases b<;>first
   | (exfalso;revert hc;unfold XB;simp;done)
   | skip
  ·rfl
  ·rw[ha.bl_inv.1] at hb;have:=hb.bl_inv.1;cases this;rfl
  ·rw[ha.int_inv.1] at hb;have:=hb.int_inv.1;cases this;rfl
  ·rw[ha.str_inv.1] at hb;have:=hb.str_inv.1;cases this;rfl
  ·obtain⟨p,xs,rfl,hp,hi⟩:=ha.tup_inv
   obtain⟨p',ys,e,hp',hi'⟩:=hb.tup_inv
   cases e
   rw[hp] at hp';cases hp'
   unfold XB at hc;rw[Iss.inj' (Is.inj' n) hc hi hi']
  ·obtain⟨p,xs,fq,rfl,hp,hi,_⟩:=ha.lst_inv
   obtain⟨p',ys,fq',e,hp',hi',_⟩:=hb.lst_inv
   cases e
   rw[hp] at hp';cases hp'
   unfold XB at hc;rw[Iss.inj' (Is.inj' n) hc hi hi']
section
variable {X:Cx} {pins:List (Addr×Obj)} {σ:U5} {H:Hp} {s:Shared} {A:Around}
theorem Q6{n:Nat}(ih:∀a b x y fa fb u w,XB n a b=true->Is K H a x fa->Is K H b y fb->RelV x u->RelV y w->∃r,SeqAt.EqAt A s u w r/\(r=true↔a=b)) :
  ∀{l m:List PV}{xs ys:List V}{fa fb:List Addr}{us ws:List Value},(l.zip m).all (fun z=>XB n z.1 z.2)=true->Iss K H l xs fa->Iss K H m ys fb->Vals xs us->Vals ys ws->
  ∃e:Nat->Bool,(∀j (h1:j<us.length) (h2:j<ws.length),SeqAt.EqAt A s us[j] ws[j] (e j))/\((List.range (min us.length ws.length)).all e=true↔l.take (min us.length ws.length)=m.take (min us.length ws.length))
 | [],m,xs,ys,fa,fb,us,ws,_,h,_,r,_=>by
  simp only[Iss] at h
  obtain⟨rfl,_⟩:=h
  cases r
  exact⟨fun _=>true,fun j h1=>by simp at h1,by simp⟩
 | a::l,[],xs,ys,fa,fb,us,ws,_,_,h,_,r=>by
  simp only[Iss] at h
  obtain⟨rfl,_⟩:=h
  cases r
  exact⟨fun _=>true,fun j h1 h2=>by simp at h2,by simp⟩
 | a::l,b::m,xs,ys,fa,fb,us,ws,hc,h,h',r,r'=>by
  obtain⟨x,xr,f1,f2,rfl,h1,h2,rfl⟩:=h.inv
  obtain⟨y,yr,g1,g2,rfl,h3,h4,rfl⟩:=h'.inv
  obtain⟨c1,c2⟩:=VP hc
  cases r with
  | cons q v=>cases r' with
   | cons q' v'=>
    obtain⟨t,ht,ht'⟩:=ih a b x y f1 g1 _ _ c1 h1 h3 q q'
    obtain⟨e,he,he'⟩:=Q6 ih c2 h2 h4 v v'
    refine⟨fun j=>match j with | 0=>t | k+1=>e k,fun j h1 h2=>?_,?_⟩
    ·cases j with
     | zero=>exact ht
     | succ k=>exact he k (by simpa using h1) (by simpa using h2)
    ·simp only[List.length_cons,Nat.succ_min_succ,List.range_succ_eq_map,List.all_cons,List.all_map,Bool.and_eq_true,List.take_succ_cons,List.cons.injEq]
     exact and_congr ht' he'
theorem Iss.same'{l m:List PV}{xs ys:List V}{fa fb:List Addr}{us ws:List Value}(h:Iss K H l xs fa)(h':Iss K H m ys fb)(r:Vals xs us)(r':Vals ys ws) :
  (l.take (min us.length ws.length)=m.take (min us.length ws.length)/\us.length=ws.length)↔l=m:=by
 have e1:=h.len;have e2:=h'.len;have e3:=r.length;have e4:=r'.length;constructor
 ·rintro⟨a,b⟩
  rw[List.take_of_length_le (by omega),List.take_of_length_le (by omega)] at a;exact a
 ·intro a
  subst a
  exact⟨rfl,by omega⟩
def Ja(A:Around)(s:Shared)(u w:Value)(r:Bool):Prop:=SeqAt.RcAt A s u w r/\SeqAt.RcNeAt A s u w !r
theorem TM(I:Inv X pins σ H s):∀(n:Nat)(A:Around)(a b:PV)(x y:V)(fa fb:List Addr)(u w:Value),A.units+2*n+2<cLine->XB n a b=true->Is K H a x fa->Is K H b y fb->RelV x u->RelV y w->
  (∃r,SeqAt.EqAt A s u w r/\(r=true↔a=b))/\∃r,Ja A s u w r/\(r=true↔a=b)
 | 0,A,a,b,x,y,fa,fb,u,w,hu,hc,_,_,_,_=>by unfold XB at hc;simp at hc
 | n+1,A,a,b,x,y,fa,fb,u,w,hu,hc,ha,hb,ru,Z2=>by
  cases a<;>cases b<;>first
   | (exfalso;revert hc;unfold XB;simp;done)
   | skip
  ·rw[ha.non_inv.1] at ru;rw[hb.non_inv.1] at Z2
   cases ru;cases Z2
   exact⟨⟨true,SeqAt.EqAt.same _,by simp⟩,true,⟨SeqAt.RcAt.none_none,SeqAt.RcNeAt.none_none⟩,by simp⟩
  ·rw[ha.bl_inv.1] at ru;rw[hb.bl_inv.1] at Z2
   cases ru;cases Z2
   exact⟨⟨_,SeqAt.EqAt.bool_bool _ _,by simp⟩,_,⟨SeqAt.RcAt.bool_bool _ _,SeqAt.RcNeAt.bool_bool _ _⟩,by simp⟩
  ·rw[ha.int_inv.1] at ru;rw[hb.int_inv.1] at Z2
   obtain⟨t,rfl⟩:=ru
   obtain⟨t',rfl⟩:=Z2
   exact⟨⟨_,SeqAt.EqAt.int_int _ _ _ _,by simp⟩,_,⟨SeqAt.RcAt.int_int _ _ _ _,SeqAt.RcNeAt.int_int _ _ _ _⟩,by simp⟩
  ·rw[ha.str_inv.1] at ru;rw[hb.str_inv.1] at Z2
   obtain⟨t,rfl⟩:=ru
   obtain⟨t',rfl⟩:=Z2
   exact⟨⟨_,SeqAt.EqAt.str_str _ _ _ _,by simp⟩,_,⟨SeqAt.RcAt.str_str _ _ _ _,SeqAt.RcNeAt.str_str _ _ _ _⟩,by simp⟩
  ·rename_i l1 l2
   obtain⟨p,xs,rfl,hp,hi⟩:=id ha.tup_inv
   obtain⟨p',ys,rfl,hp',hi'⟩:=id hb.tup_inv
   cases ru;cases Z2;have hc':=hc
   unfold XB at hc'
   obtain⟨us,rv,q,_⟩:=I.tuple (SqT.of hp)
   obtain⟨ws,rv',q',_⟩:=I.tuple (SqT.of hp')
   obtain⟨f,hf,hf'⟩:=Q6 (A:=A.in1) (fun a b x y fa fb u w c i1 i2 r1 r2=>(TM I n A.in1 a b x y fa fb u w (by show A.units+1+2*n+2<cLine;omega) c i1 i2 r1 r2).1) hc' hi hi' rv rv'
   have rc:=SeqAt.RcAt.tuples (A:=A) (e:=f) (show s.heap.IsTuple p us.toArray from q) (show s.heap.IsTuple p' ws.toArray from q') (by omega) (fun j h1 h2=>hf j (by simpa using h1) (by simpa using h2))
   have rn:=SeqAt.RcNeAt.tuples (A:=A) (e:=f) (show s.heap.IsTuple p us.toArray from q) (show s.heap.IsTuple p' ws.toArray from q') (by omega) (fun j h1 h2=>hf j (by simpa using h1) (by simpa using h2))
   have key:(((List.range (min us.toArray.size ws.toArray.size)).all f&&us.toArray.size==ws.toArray.size)=true)↔PV.tup l1=PV.tup l2:=by
    simp only[List.size_toArray,Bool.and_eq_true,beq_iff_eq,PV.tup.injEq];rw[hf']
    exact Iss.same' hi hi' rv rv'
   refine⟨?_,_,⟨rc,rn⟩,key⟩
   by_cases e:p=p'
   ·subst e
    exact⟨true,SeqAt.EqAt.same _,by simp[Is.inj' (n+1) _ _ _ _ _ hc ha hb]⟩
   ·exact⟨_,SeqAt.EqAt.of_refs e rc,key⟩
  ·rename_i l1 l2
   obtain⟨p,xs,fq,rfl,hp,hi,_⟩:=id ha.lst_inv
   obtain⟨p',ys,fq',rfl,hp',hi',_⟩:=id hb.lst_inv
   cases ru;cases Z2;have hc':=hc
   unfold XB at hc'
   obtain⟨us,rv,q,_⟩:=I.list (SqL.of hp)
   obtain⟨ws,rv',q',_⟩:=I.list (SqL.of hp')
   obtain⟨f,hf,hf'⟩:=Q6 (A:=A.in1) (fun a b x y fa fb u w c i1 i2 r1 r2=>(TM I n A.in1 a b x y fa fb u w (by show A.units+1+2*n+2<cLine;omega) c i1 i2 r1 r2).1) hc' hi hi' rv rv'
   have fin:∃r,Ja A s (.ref p) (.ref p') r/\(r=true↔PV.lst l1=PV.lst l2):=by
    have key:=Iss.same' hi hi' rv rv'
    by_cases hsz:us.length=ws.length
    ·refine⟨_,⟨SeqAt.RcAt.lists (e:=f) q.isList q'.isList (by simpa using hsz) (by omega) (fun j h1 h2=>hf j (by simpa using h1) (by simpa using h2)),SeqAt.RcNeAt.lists (e:=f) q.isList q'.isList (by simpa using hsz) (by omega) (fun j h1 h2=>hf j (by simpa using h1) (by simpa using h2))⟩,?_⟩
     rw[hsz,Nat.min_self] at hf' key
     simp only[List.size_toArray,PV.lst.injEq];rw[hsz,hf',<-key]
     simp
    ·refine⟨false,⟨SeqAt.RcAt.lists_lengths q.isList q'.isList (by simpa using hsz) (by omega),SeqAt.RcNeAt.lists_lengths q.isList q'.isList (by simpa using hsz) (by omega)⟩,?_⟩
     rw[PV.lst.injEq,<-key];simp[hsz]
   obtain⟨r,hr,hk⟩:=fin
   refine⟨?_,r,hr,hk⟩
   by_cases e:p=p'
   ·subst e
    exact⟨true,SeqAt.EqAt.same _,by simp[Is.inj' (n+1) _ _ _ _ _ hc ha hb]⟩
   ·exact⟨r,SeqAt.EqAt.of_refs e hr.1,hk⟩
end
def J5(K:PySem.W.Frag)(neg:Bool):R2:=fun x y H Q=>∃a b fa fb,Is K H a x fa/\Is K H b y fb/\XB 8 a b=true/\∀r:Bool,(r=true↔a=b)->Q (.bl (if neg then !r else r)) H
section
variable {X:Cx}
theorem Mv(hu:X.A.units+64<cLine):Uo X (compareOp .Eq) (J5 X.K false):=by
 intro pins s σ H x y v u Q I rx ry h
 obtain⟨a,b,fa,fb,ha,hb,hc,q⟩:=h
 obtain⟨_,r,hr,hk⟩:=TM I 8 X.A a b x y fa fb v u (by omega) hc ha hb rx ry
 exact hr.1 X.prog X.w X.xe _ ⟨.bl r,H,I,rfl,q r hk⟩
theorem J6(hu:X.A.units+64<cLine):Uo X (compareOp .NotEq) (J5 X.K true):=by
 intro pins s σ H x y v u Q I rx ry h
 obtain⟨a,b,fa,fb,ha,hb,hc,q⟩:=h
 obtain⟨_,r,hr,hk⟩:=TM I 8 X.A a b x y fa fb v u (by omega) hc ha hb rx ry
 exact hr.2 X.prog X.w X.xe _ ⟨.bl !r,H,I,rfl,q r hk⟩
end
noncomputable def YJ(neg:Bool):PV->PV->Option PV:=fun a b=>if XB 8 a b=true then some (.bl (if neg then !decide (a=b) else decide (a=b))) else none
theorem Q7(neg:Bool):RB K (J5 K neg) (YJ neg):=fun H x y a b l fa fb ha hb e Q k=>by
 unfold YJ at e
 split at e
 ·cases e
  refine⟨a,b,fa,fb,ha,hb,by assumption,fun r hr=>?_⟩
  have:r=decide (a=b):=by
   cases r with
   | true=>exact(decide_eq_true (hr.mp rfl)).symm
   | false=>exact(decide_eq_false fun z=>Bool.false_ne_true (hr.mpr z)).symm
  subst this
  exact k _ H [] (Same.refl H) (Is.bl _) fun p hp=>by simp at hp
 ·cases e
def J7(K:PySem.W.Frag)(neg:Bool):R2:=fun x y H Q=>∃a b m fa fb,Is K H a x fa/\Is K H b y fb/\SC b=some m/\(m.all fun z=>XB 8 z a)=true/\∀r:Bool,(r=true↔a∈m)->Q (.bl (if neg then !r else r)) H
section
variable {X:Cx} {pins:List (Addr×Obj)} {σ:U5} {H:Hp} {s:Shared}
theorem Ti{a:PV}{x:V}{fa:List Addr}{u:Value}{A:Around}(I:Inv X pins σ H s)(hu:A.units+18<cLine)(ha:Is K H a x fa)(rx:RelV x u):∀{m:List PV}{xs:List V}{fb:List Addr}{us:List Value},(m.all fun z=>XB 8 z a)=true->Iss K H m xs fb->Vals xs us->
  ∃e:Value->Bool,(∀y∈us,SeqAt.EqAt A s y u (e y))/\(us.any e=true↔a∈m):=fun{m xs fb us} hc h r=>by
 -- each one's answer
 have each:∀y∈us,∃t:Bool,SeqAt.EqAt A s y u t/\(t=true↔∃b,b∈m/\b=a/\∃z f,Is K H b z f/\RelV z y):=fun y hy=>by
  obtain⟨j,hj,e⟩:=List.mem_iff_getElem.mp hy
  have hl:=r.length
  have hxj:xs[j]?=some xs[j]:=List.getElem?_eq_getElem (by omega)
  obtain⟨b,f,hb,ib,_⟩:=h.get' hxj
  obtain⟨w,hw,Z2⟩:=r.get hxj
  rw[List.getElem?_eq_getElem hj] at hw;cases hw;rw[e] at Z2
  have hbm:b∈m:=List.mem_of_getElem? hb
  have cb:=List.all_eq_true.mp hc b hbm
  obtain⟨⟨t,ht,hk⟩,_⟩:=TM I 8 A b a xs[j] x f fa y u (by omega) cb ib ha Z2 rx
  refine⟨t,ht,hk.trans ⟨fun z=>⟨b,hbm,z,xs[j],f,ib,Z2⟩,fun⟨b',hb',e',z,f',i',r'⟩=>?_⟩⟩
  have ez:z=xs[j]:=r'.inj Z2
  subst ez;have cb':=List.all_eq_true.mp hc b' hb'
  subst e'
  exact Is.inj' 8 b b' _ _ _ cb ib i'
 classical
 refine⟨fun y=>if hy:y∈us then(each y hy).choose else false,fun y hy=>?_,?_⟩
 ·simp only[dif_pos hy];exact(each y hy).choose_spec.1
 ·rw[List.any_eq_true]
  constructor
  ·rintro⟨y,hy,e⟩
   rw[dif_pos hy] at e
   obtain⟨b,hb,rfl,_⟩:=(each y hy).choose_spec.2.mp e
   exact hb
  ·intro hm
   obtain⟨j,hj,e⟩:=List.mem_iff_getElem.mp hm
   obtain⟨z,f,hz,iz,_⟩:=h.get (List.getElem?_eq_getElem hj)
   obtain⟨y,hy,ry⟩:=r.get hz
   have hyu:y∈us:=List.mem_of_getElem? hy
   refine⟨y,hyu,?_⟩
   rw[dif_pos hyu]
   exact(each y hyu).choose_spec.2.mpr ⟨a,hm,rfl,z,f,e▸iz,ry⟩
end
section
variable {X:Cx}
theorem J8(hu:X.A.units+64<cLine):Uo X (compareOp .In) (J7 X.K false):=by
 intro pins s σ H x y v u Q I rx ry h
 obtain⟨a,b,m,fa,fb,ha,hb,hm,hc,q⟩:=h
 obtain⟨p,xs,fq,rfl,hp,hi,_⟩:=W9 (K:=X.K) hb hm
 cases ry
 rcases hp with hp | hp
 ·obtain⟨us,rv,t,_⟩:=I.list hp
  obtain⟨e,he,hk⟩:=Ti (A:=X.A.in1) I (by show X.A.units+1+18<cLine;omega) ha rx hc hi rv
  refine SeqAt.in_listAt e t.isList (fun w hw=>he w (by simpa using hw)) ⟨.bl _,H,I,rfl,?_⟩
  rw[show us.toArray.any e=us.any e by simp]
  exact q _ hk
 ·obtain⟨us,rv,t,_⟩:=I.tuple hp
  obtain⟨e,he,hk⟩:=Ti (A:=X.A.in1) I (by show X.A.units+1+18<cLine;omega) ha rx hc hi rv
  refine SeqAt.in_tupleAt e t (fun w hw=>he w (by simpa using hw)) ⟨.bl _,H,I,rfl,?_⟩
  rw[show us.toArray.any e=us.any e by simp]
  exact q _ hk
theorem Nc(hu:X.A.units+64<cLine):Uo X (compareOp .NotIn) (J7 X.K true):=by
 intro pins s σ H x y v u Q I rx ry h
 obtain⟨a,b,m,fa,fb,ha,hb,hm,hc,q⟩:=h
 obtain⟨p,xs,fq,rfl,hp,hi,_⟩:=W9 (K:=X.K) hb hm
 cases ry
 rcases hp with hp | hp
 ·obtain⟨us,rv,t,_⟩:=I.list hp
  obtain⟨e,he,hk⟩:=Ti (A:=X.A.in1) I (by show X.A.units+1+18<cLine;omega) ha rx hc hi rv
  refine SeqAt.notIn_listAt e t.isList (fun w hw=>he w (by simpa using hw)) ⟨.bl _,H,I,rfl,?_⟩
  rw[show us.toArray.any e=us.any e by simp]
  exact q _ hk
 ·obtain⟨us,rv,t,_⟩:=I.tuple hp
  obtain⟨e,he,hk⟩:=Ti (A:=X.A.in1) I (by show X.A.units+1+18<cLine;omega) ha rx hc hi rv
  refine SeqAt.notIn_tupleAt e t (fun w hw=>he w (by simpa using hw)) ⟨.bl _,H,I,rfl,?_⟩
  rw[show us.toArray.any e=us.any e by simp]
  exact q _ hk
end
noncomputable def RF(neg:Bool):PV->PV->Option PV:=fun a b=>(SC b).bind fun m=>if(m.all fun z=>XB 8 z a)=true then some (.bl (if neg then !decide (a∈m) else decide (a∈m))) else none
theorem Mw(neg:Bool):RB K (J7 K neg) (RF neg):=fun H x y a b l fa fb ha hb e Q k=>by
 obtain⟨m,hm,e⟩:=Zf e
 split at e
 ·cases e
  refine⟨a,b,m,fa,fb,ha,hb,hm,by assumption,fun r hr=>?_⟩
  have:r=decide (a∈m):=by
   cases r with
   | true=>exact(decide_eq_true (hr.mp rfl)).symm
   | false=>exact(decide_eq_false fun z=>Bool.false_ne_true (hr.mpr z)).symm
  subst this
  exact k _ H [] (Same.refl H) (Is.bl _) fun p hp=>by simp at hp
 ·cases e
end VL
namespace VL
open PySem PySem.Spec PyProof.Rows L2
variable {K:PySem.W.Frag}
mutual
theorem Is.dom{H:Hp}:∀(l:PV)(v:V)(fp:List Addr),Is K H l v fp->∀p∈fp,H p≠none
 | .non,_,_,h=>by simp only[Is] at h;rw[h.2];simp
 | .bl _,_,_,h=>by simp only[Is] at h;rw[h.2];simp
 | .int _,_,_,h=>by simp only[Is] at h;rw[h.2];simp
 | .str _,_,_,h=>by simp only[Is] at h;rw[h.2];simp
 | .ty _,_,_,h=>by simp only[Is] at h;rw[h.2];simp
 | .exc _,_,_,h=>by simp only[Is] at h;rw[h.2];simp
 | .tup l,v,fp,h=>by
  obtain⟨p,xs,_,_,hi⟩:=h.tup_inv
  exact Iss.dom l xs fp hi
 | .lst l,v,fp,h=>by
  obtain⟨p,xs,fq,_,hp,hi,rfl⟩:=h.lst_inv
  intro q hq
  rcases List.mem_cons.mp hq with rfl | hq
  ·rw[hp];simp
  ·exact Iss.dom l xs fq hi q hq
 | .cst l,v,fp,h=>by
  obtain⟨p,xs,_,_,hi⟩:=h.cst_inv
  exact Iss.dom l xs fp hi
 | .dK ks l,v,fp,h=>by
  obtain⟨p,kvs,fq,_,hp,_,hi,rfl⟩:=h.dK_inv
  intro q hq
  rcases List.mem_cons.mp hq with rfl | hq
  ·rcases hp with e | ⟨o,e⟩<;>rw[e]<;>simp
  ·exact Iss.dom l _ fq hi q hq
 | .dT ks l,v,fp,h=>by
  obtain⟨p,kvs,fq,_,hp,_,hi,rfl⟩:=h.dT_inv
  intro q hq
  rcases List.mem_cons.mp hq with rfl | hq
  ·rcases hp with e | ⟨o,e⟩<;>rw[e]<;>simp
  ·exact Iss.dom l _ fq hi q hq
theorem Iss.dom{H:Hp}:∀(l:List PV)(xs:List V)(fp:List Addr),Iss K H l xs fp->∀p∈fp,H p≠none
 | [],_,_,h=>by simp only[Iss] at h;rw[h.2];simp
 | l::ls,xs,fp,h=>by
  obtain⟨x,r,f1,f2,_,h1,h2,rfl⟩:=h.inv
  intro q hq
  rcases List.mem_append.mp hq with hq | hq
  ·exact Is.dom l x f1 h1 q hq
  ·exact Iss.dom ls r f2 h2 q hq
end
def Ab(Rm:Addr->Prop)(H H':Hp):Prop:=∀b o,H b=some o->¬Rm b->H' b=some o
theorem Same.ab{Rm:Addr->Prop}{H H':Hp}(s:Same H H'):Ab Rm H H':=fun b o h _=>s b o h
theorem Ab.tk{Rm:Addr->Prop}{H H':Hp}(a:Ab Rm H H')(hd:∀p,Rm p->Wc (H p)):K5 H H':=⟨fun b xs h=>a b _ h fun z=>by
 have:=hd b z
 rw[h] at this;exact this,fun b o xs h=>a b _ h fun z=>by
 have:=hd b z
 rw[h] at this;exact this,fun b o x h=>a b _ h fun z=>by
 have:=hd b z
 rw[h] at this;exact this⟩
theorem Is.ab{Rm:Addr->Prop}{H H':Hp}(a:Ab Rm H H')(hd:∀p,Rm p->Wc (H p)){l:PV}{v:V}{fp:List Addr}(n:∀p∈fp,¬Rm p)(h:Is K H l v fp):Is K H' l v fp:=
 Is.tr (a.tk hd) l v fp (fun p hp=>RdK.of fun o q=>a p o q (n p hp)) h
structure Gu(K:PySem.W.Frag)(Rm:Addr->Prop)(H1:Hp)(J:It)(ls:List PV):Prop where
 stop:∀H',Ab Rm H1 H'->J.stop ls.length H'
 go:∀H' (i:Nat) l,Ab Rm H1 H'->ls[i]?=some l->J.go i H'
 yld:∀H' (i:Nat) l x H'',Ab Rm H1 H'->ls[i]?=some l->J.yld i H' x H''->Same H' H''/\∃fp,Is K H'' l x fp/\∀p∈fp,H1 p≠none/\¬Rm p
abbrev XL:=ZO->Option (List PV)
def iF(K:PySem.W.Frag)(f:XL):TI:=fun σ H R=>∃(Rm:Addr->Prop) (s:ZO) (ls:List PV),(∀p,Rm p->Wc (H p))/\EnvIs K Rm H s σ/\f s=some ls/\∀J H1,Same H H1->Gu K Rm H1 J ls->R J H1
def VI(X:Cx)(tg e:Expr)(f:XL):Prop:=PI X tg e (iF X.K f)
section
variable {X:Cx} {tg e:Expr} {es:List Expr}
theorem PI.imp{t t':TI}(h:PI X tg e t)(i:∀σ H R,t' σ H R->t σ H R):PI X tg e t':=fun pins s σ H R I q=>h pins s σ H R I (i σ H R q)
def IA:PV->Option (List PV)
 | .lst m=>some m
 | .cst m=>some m
 | _=>none
def XH(f:XE):XL:=fun s=>(f s).bind IA
def U6(f:XE):XL:=fun s=>match f s with | some (.tup m)=>some m | _=>none
theorem Mx{a:PV}{m:List PV}(h:IA a=some m):a = .lst m\/a = .cst m:=by
 unfold IA at h;split at h
 ·cases h;exact .inl rfl
 ·cases h;exact .inr rfl
 ·cases h
theorem Nd{f:XE}{s:ZO}{m:List PV}(h:U6 f s=some m):f s=some (.tup m):=by
 unfold U6 at h;split at h
 ·cases h;assumption
 ·cases h
theorem Wr{f:XE}(h:VE X e f):VI X tg e (XH f):=PI.imp (LH h) fun σ H R ⟨Rm,s,ls,hd,env,e,k⟩=>by
 obtain⟨l,e1,e2⟩:=Zf e
 refine⟨Rm,s,l,hd,env,e1,fun v H1 fp s1 i1 n1=>?_⟩
 have hd1:∀p,Rm p->Wc (H1 p):=fun p hp=>Same.mut s1 (hd p hp)
 have main:∀a xs fq,v = .ref a->SqL X.K H1 a xs->(∀H',Ab Rm H1 H'->SqL X.K H' a xs)->Iss X.K H1 ls xs fq->(∀p∈fq,p∈fp)->∃a,v = .ref a/\(∃xs,SqL X.K H1 a xs)/\R (Ga X.K a) H1:=by
  rintro a xs fq rfl ha keep hi sub
  refine⟨a,rfl,⟨xs,ha⟩,k _ H1 s1 ⟨fun H' ab=>⟨xs,keep H' ab,by rw[hi.len];exact Nat.le_refl _⟩,fun H' i l ab hl=>?_,fun H' i l x H'' ab hl y=>?_⟩⟩
  ·obtain⟨x,f1,hx,_,_⟩:=hi.get hl
   exact⟨xs,x,keep H' ab,hx⟩
  ·obtain⟨rfl,y⟩:=y
   obtain⟨x',f1,hx,ix,sub'⟩:=hi.get hl
   have:=y xs (keep _ ab)
   rw[hx] at this;cases this
   have n1':∀p∈f1,¬Rm p:=fun p hp=>n1 p (sub p (sub' p hp))
   exact⟨Same.refl _,f1,ix.ab ab hd1 n1',fun p hp=>⟨Is.dom _ _ _ ix p hp,n1' p hp⟩⟩
 rcases Mx e2 with rfl | rfl
 ·obtain⟨a,xs,fq,rfl,ha,hi,rfl⟩:=i1.lst_inv
  exact main a xs fq rfl (SqL.of ha) (fun H' ab=>SqL.of (ab a _ ha (n1 a List.mem_cons_self))) hi fun p hp=>List.mem_cons_of_mem _ hp
 ·obtain⟨a,xs,rfl,ha,hi⟩:=i1.cst_inv
  exact main a xs fp rfl ha.sq (fun H' ab=>(ha.tr (ab.tk hd1)).sq) hi fun p hp=>hp
theorem My{f:XE}(h:VE X e f):VI X tg e (U6 f):=PI.imp (Jz h) fun σ H R ⟨Rm,s,ls,hd,env,e,k⟩=>by
 refine⟨Rm,s,.tup ls,hd,env,Nd e,fun v H1 fp s1 i1 n1=>?_⟩
 obtain⟨a,xs,rfl,ha,hi⟩:=i1.tup_inv
 have hd1:∀p,Rm p->Wc (H1 p):=fun p hp=>Same.mut s1 (hd p hp)
 have keep:∀H',Ab Rm H1 H'->SqT X.K H' a xs:=fun H' ab=>SqT.of ((ab.tk hd1).tup a xs ha)
 refine⟨a,rfl,⟨xs,SqT.of ha⟩,k _ H1 s1 ⟨fun H' ab=>⟨xs,keep H' ab,by rw[hi.len];exact Nat.le_refl _⟩,fun H' i l ab hl=>?_,fun H' i l x H'' ab hl y=>?_⟩⟩
 ·obtain⟨x,f1,hx,_,_⟩:=hi.get hl
  exact⟨xs,x,keep H' ab,hx⟩
 ·obtain⟨rfl,y⟩:=y
  obtain⟨x',f1,hx,ix,sub⟩:=hi.get hl
  have:=y xs (keep _ ab)
  rw[hx] at this;cases this
  have n1':∀p∈f1,¬Rm p:=fun p hp=>n1 p (sub p hp)
  exact⟨Same.refl _,f1,ix.ab ab hd1 n1',fun p hp=>⟨Is.dom _ _ _ ix p hp,n1' p hp⟩⟩
def WL(n:Nat):List PV:=(List.range n).map fun(i:Nat)=>PV.int (i:Int)
def VQ(lo:Int)(n:Nat):List PV:=(List.range n).map fun(i:Nat)=>PV.int (lo+(i:Int))
def ZL(fs:List XE):XL:=fun s=>match Tg fs s with | some [.int j]=>if -1000000<=j/\j<=1000000 then some (WL j.toNat) else none | _=>none
def UV(fs:List XE):XL:=fun s=>match Tg fs s with | some [.int i,.int j]=>if -1000000<=i/\i<=1000000/\-1000000<=j/\j<=1000000 then some (VQ i (j-i).toNat) else none | _=>none
theorem Ol{Rm:Addr->Prop}{H1:Hp}(lo:Int)(n:Nat):Gu K Rm H1 (IN lo n) (VQ lo n):=by
 refine⟨fun H' _=>by unfold VQ;rw[List.length_map,List.length_range];exact Nat.le_refl n,fun H' i l _ hl=>?_,fun H' i l x H'' _ hl y=>?_⟩
 ·have:=(List.getElem?_eq_some_iff.mp hl).1
  unfold VQ at this;rw[List.length_map,List.length_range] at this;exact this
 ·obtain⟨rfl,rfl⟩:=y
  have hi:=(List.getElem?_eq_some_iff.mp hl).1
  unfold VQ at hi hl;rw[List.length_map,List.length_range] at hi;rw[List.getElem?_map,List.getElem?_range hi] at hl;cases hl
  exact⟨Same.refl _,[],Is.int _,fun p hp=>by simp at hp⟩
theorem Kf(n:Nat):WL n=VQ 0 n:=by
 unfold WL VQ
 apply List.map_congr_left
 intro i _;rw[Int.zero_add]
theorem Yi{a:Expr}{fs:List XE}{p pos:Pos}(hg:Gl X "range")(hm:X.mg "range" = none)(ha:VA X [a] fs)(hs:starEach [a] X.env=[(false,eval a X.env)]:=by rfl):VI X tg (.Call (.Name "range" p) [a] [] pos) (ZL fs):=
 PI.imp (OY hg hm ha hs) fun σ H R ⟨Rm,s,ls,hd,env,e,k⟩=>by
 unfold ZL at e
 split at e
 ·split at e
  ·cases e
   rename_i j he hb
   refine⟨Rm,s,_,hd,env,he,fun vs H1 fp s1 i1 _=>?_⟩
   obtain⟨v,rfl,i⟩:=i1.one_inv
   refine⟨j,by rw[i.int_inv.1],by omega,by omega,k _ H1 s1 ?_⟩
   rw[Kf];exact Ol _ _
  ·cases e
 ·cases e
theorem Nf{a b:Expr}{fs:List XE}{p pos:Pos}(hg:Gl X "range")(hm:X.mg "range" = none)(ha:VA X [a,b] fs)(hs:starEach [a,b] X.env=[(false,eval a X.env),(false,eval b X.env)]:=by rfl)(hs2:starEach [b] X.env=[(false,eval b X.env)]:=by rfl):VI X tg (.Call (.Name "range" p) [a,b] [] pos) (UV fs):=
 PI.imp (OZ hg hm ha hs hs2) fun σ H R ⟨Rm,s,ls,hd,env,e,k⟩=>by
 unfold UV at e
 split at e
 ·split at e
  ·cases e
   rename_i i j he hb
   refine⟨Rm,s,_,hd,env,he,fun vs H1 fp s1 i1 _=>?_⟩
   obtain⟨v,w,f1,f2,rfl,iv,iw,_⟩:=i1.two_inv
   exact⟨i,j,by rw[iv.int_inv.1,iw.int_inv.1],⟨by omega,by omega,by omega,by omega⟩,k _ H1 s1 (Ol _ _)⟩
  ·cases e
 ·cases e
def WM(m:List PV):List PV:=m.zipIdx.map fun z=>.tup [.int (z.2:Nat),z.1]
def VR(m n:List PV):List PV:=(m.zip n).map fun z=>.tup [z.1,z.2]
theorem SY{m:List PV}{i:Nat}{l:PV}(h:(WM m)[i]?=some l):∃a,m[i]?=some a/\l = .tup [.int (i:Nat),a]:=by
 unfold WM at h;rw[List.getElem?_map,List.getElem?_zipIdx] at h
 cases q:m[i]? with
 | none=>rw[q] at h;cases h
 | some a=>rw[q] at h;cases h;exact⟨a,rfl,by simp⟩
theorem SZ(m:List PV):(WM m).length=m.length:=by unfold WM;rw[List.length_map,List.length_zipIdx]
theorem Qn{m n:List PV}{i:Nat}{l:PV}(h:(VR m n)[i]?=some l):∃a b,m[i]?=some a/\n[i]?=some b/\l = .tup [a,b]:=by
 unfold VR at h;rw[List.getElem?_map] at h
 cases q:(m.zip n)[i]? with
 | none=>rw[q] at h;cases h
 | some z=>
  rw[q] at h;cases h
  obtain⟨q1,q2⟩:=List.getElem?_zip_eq_some.mp q
  exact⟨z.1,z.2,q1,q2,rfl⟩
theorem Qo(m n:List PV):(VR m n).length=min m.length n.length:=by unfold VR;rw[List.length_map,List.length_zip]
def seqB:Bool->PV->Option (List PV)
 | true,.lst l=>some l
 | true,.cst l=>some l
 | false,.tup l=>some l
 | _,_=>none
theorem RG{H:Hp}{b:Bool}{l:PV}{v:V}{fp:List Addr}{m:List PV}(h:Is K H l v fp)(e:seqB b l=some m):∃p xs fq,v = .ref p/\Iss K H m xs fq/\(∀q∈fq,q∈fp)/\∀(Rm:Addr->Prop) H',Ab Rm H H'->(∀p,Rm p->Wc (H p))->(∀p∈fp,¬Rm p)->SO b K H' p xs:=by
 cases b with
 | true=>cases l with
  | lst l=>
   cases e
   obtain⟨p,xs,fq,rfl,hp,hi,rfl⟩:=h.lst_inv
   exact⟨p,xs,fq,rfl,hi,fun q hq=>List.mem_cons_of_mem _ hq,fun Rm H' ab _ n=>SqL.of (ab p _ hp (n p List.mem_cons_self))⟩
  | cst l=>
   cases e
   obtain⟨p,xs,rfl,hp,hi⟩:=h.cst_inv
   exact⟨p,xs,fp,rfl,hi,fun q hq=>hq,fun Rm H' ab hd _=>(hp.tr (ab.tk hd)).sq⟩
  | _=>cases e
 | false=>cases l with
  | tup l=>
   cases e
   obtain⟨p,xs,rfl,hp,hi⟩:=h.tup_inv
   exact⟨p,xs,fp,rfl,hi,fun q hq=>hq,fun Rm H' ab hd _=>SqT.of ((ab.tk hd).tup p xs hp)⟩
  | _=>cases e
def Y8(b:Bool)(fs:List XE):XL:=fun s=>match Tg fs s with | some [l]=>(seqB b l).map WM | _=>none
def VU(b1 b2:Bool)(fs:List XE):XL:=fun s=>match Tg fs s with | some [l,r]=>(seqB b1 l).bind fun m=>(seqB b2 r).map fun n=>VR m n | _=>none
theorem VV{elts:List Expr}{k:Nat}{tpos:Pos}(b:Bool){a:Expr}{fs:List XE}{p pos:Pos}(hg:Gl X "enumerate")(hm:X.mg "enumerate" = none)(ha:VA X [a] fs)(hs:starEach [a] X.env=[(false,eval a X.env)]:=by rfl) :
  VI X (.Tuple elts k tpos) (.Call (.Name "enumerate" p) [a] [] pos) (Y8 b fs):=PI.imp (L3 b hg hm ha hs) fun σ H R ⟨Rm,s,ls,hd,env,e,k⟩=>by
 unfold Y8 at e
 split at e
 ·rename_i l he
  obtain⟨m,e1,rfl⟩:=map_some e
  refine⟨Rm,s,_,hd,env,he,fun vs H1 fp s1 i1 n1=>?_⟩
  obtain⟨v,rfl,i⟩:=i1.one_inv
  have hd1:∀p,Rm p->Wc (H1 p):=fun p hp=>Same.mut s1 (hd p hp)
  obtain⟨a,xs,fq,rfl,hi,sub,keep⟩:=RG (K:=X.K) i e1
  have kp:=fun H' ab=>keep Rm H' ab hd1 n1
  refine⟨a,rfl,⟨xs,kp H1 (Same.ab (Same.refl H1))⟩,k _ H1 s1 ⟨fun H' ab=>⟨xs,kp H' ab,by rw[SZ,hi.len]⟩,fun H' i l ab hl=>?_,fun H' i l x H'' ab hl y=>?_⟩⟩
  ·obtain⟨c,hc,rfl⟩:=SY hl
   obtain⟨x,f1,hx,_,_⟩:=hi.get hc
   exact⟨xs,x,kp H' ab,hx⟩
  ·obtain⟨c,hc,rfl⟩:=SY hl
   obtain⟨x',f1,hx,ix,sb⟩:=hi.get hc
   obtain⟨q,z,hq,rfl,rfl,y⟩:=y
   have:=y xs (kp _ ab)
   rw[hx] at this;cases this
   have n1':∀p∈f1,¬Rm p:=fun p hp=>n1 p (sub p (sb p hp))
   refine⟨Same.new hq _,f1,Is.tup Zw ?_,fun p hp=>⟨Is.dom _ _ _ ix p hp,n1' p hp⟩⟩
   exact Iss.cons (f1:=[]) (Is.int _) (Iss.one ((ix.ab ab hd1 n1').mono (Same.new hq _)))
 ·cases e
theorem Q8{elts:List Expr}{k:Nat}{tpos:Pos}(b1 b2:Bool){a b:Expr}{fs:List XE}{p pos:Pos}(hg:Gl X "zip")(hm:X.mg "zip" = none)(ha:VA X [a,b] fs)
  (hs:starEach [a,b] X.env=[(false,eval a X.env),(false,eval b X.env)]:=by rfl) (hs2:starEach [b] X.env=[(false,eval b X.env)]:=by rfl) :
  VI X (.Tuple elts k tpos) (.Call (.Name "zip" p) [a,b] [] pos) (VU b1 b2 fs):=PI.imp (JW b1 b2 hg hm ha hs hs2) fun σ H R ⟨Rm,s,ls,hd,env,e,k⟩=>by
 unfold VU at e
 split at e
 ·rename_i l r he
  obtain⟨m,e1,e⟩:=Zf e
  obtain⟨n,e2,rfl⟩:=map_some e
  refine⟨Rm,s,_,hd,env,he,fun vs H1 fp s1 i1 n1=>?_⟩
  obtain⟨v,w,g1,g2,rfl,iv,iw,rfl⟩:=i1.two_inv
  have hd1:∀p,Rm p->Wc (H1 p):=fun p hp=>Same.mut s1 (hd p hp)
  have ng1:∀p∈g1,¬Rm p:=fun p hp=>n1 p (List.mem_append_left _ hp)
  have ng2:∀p∈g2,¬Rm p:=fun p hp=>n1 p (List.mem_append_right _ hp)
  obtain⟨a1,xs,fq,rfl,hi,sub,keep⟩:=RG (K:=X.K) iv e1
  obtain⟨a2,ys,fr,rfl,hj,sub2,keep2⟩:=RG (K:=X.K) iw e2
  have kp:=fun H' ab=>keep Rm H' ab hd1 ng1
  have kp2:=fun H' ab=>keep2 Rm H' ab hd1 ng2
  refine⟨a1,a2,rfl,⟨xs,kp H1 (Same.ab (Same.refl H1))⟩,⟨ys,kp2 H1 (Same.ab (Same.refl H1))⟩,k _ H1 s1 ⟨fun H' ab=>⟨xs,ys,kp H' ab,kp2 H' ab,?_⟩,fun H' i l ab hl=>?_,fun H' i l x H'' ab hl y=>?_⟩⟩
  ·rw[Qo,hi.len,hj.len]
   omega
  ·obtain⟨c,d,hc,hd',rfl⟩:=Qn hl
   obtain⟨x,f1,hx,_,_⟩:=hi.get hc
   obtain⟨y,f2,hy,_,_⟩:=hj.get hd'
   exact⟨xs,ys,x,y,kp H' ab,kp2 H' ab,hx,hy⟩
  ·obtain⟨c,d,hc,hd',rfl⟩:=Qn hl
   obtain⟨x',f1,hx,ix,sb⟩:=hi.get hc
   obtain⟨y',f2,hy,iy,sb2⟩:=hj.get hd'
   obtain⟨q,z,z',hq,rfl,rfl,y1,y2⟩:=y
   have:=y1 xs (kp _ ab)
   rw[hx] at this;cases this
   have:=y2 ys (kp2 _ ab)
   rw[hy] at this;cases this
   have n1':∀p∈f1,¬Rm p:=fun p hp=>ng1 p (sub p (sb p hp))
   have n2':∀p∈f2,¬Rm p:=fun p hp=>ng2 p (sub2 p (sb2 p hp))
   refine⟨Same.new hq _,f1++f2,Is.tup Zw ?_,fun p hp=>?_⟩
   ·exact Iss.cons ((ix.ab ab hd1 n1').mono (Same.new hq _)) (Iss.one ((iy.ab ab hd1 n2').mono (Same.new hq _)))
   ·rcases List.mem_append.mp hp with hp | hp
    ·exact⟨Is.dom _ _ _ ix p hp,n1' p hp⟩
    ·exact⟨Is.dom _ _ _ iy p hp,n2' p hp⟩
 ·cases e
end
inductive Tgt where
 | one (i:Nat) | many (is:List Nat)
def Tgt.slots:Tgt->List Nat
 | .one i=>[i]
 | .many is=>is
def setAll:List Nat->List PV->ZO->ZO
 | i::is,l::ls,s=>setAll is ls (s.set i (some l))
 | _,_,s=>s
def YO:List Nat->List V->U5->U5
 | i::is,l::ls,s=>YO is ls (s.set i (some l))
 | _,_,s=>s
def Xw:Tgt->PV->ZO->Option ZO
 | .one i,l,s=>some (s.set i (some l))
 | .many is,.tup ls,s=>if ls.length=is.length then some (setAll is ls s) else none
 | _,_,_=>none
def Q9:List Nat->KW
 | []=>IL
 | i::is=>KY (US i) (Q9 is)
def gT(K:PySem.W.Frag):Tgt->TG
 | .one i=>US i
 | .many is=>IM K is.length (Q9 is)
theorem TN:∀{is:List Nat}{vs:List V}{σ:U5}{H:Hp}{Q:U5->Hp->Prop},vs.length=is.length->Q (YO is vs σ) H->Q9 is vs σ H Q
 | [],[],_,_,_,_,q=>⟨rfl,q⟩
 | [],_::_,_,_,_,h,_=>by simp at h
 | _::_,[],_,_,_,h,_=>by simp at h
 | i::is,v::vs,σ,H,Q,h,q=>⟨v,vs,rfl,TN (is:=is) (vs:=vs) (by simpa using h) q⟩
theorem Pa{T:Tgt}{l:PV}{v:V}{fp:List Addr}{s s':ZO}{H:Hp}(h:Is K H l v fp)(e:Xw T l s=some s') :
  ∃ls vs fs,s'=setAll T.slots ls s/\Iss K H ls vs fs/\ls.length=T.slots.length/\(∀p∈fs,p∈fp)/\∀σ (Q:U5->Hp->Prop),Q (YO T.slots vs σ) H->gT K T v σ H Q:=by
 cases T with
 | one i=>
  cases e
  exact⟨[l],[v],fp,rfl,Iss.one h,rfl,fun p hp=>hp,fun σ Q q=>q⟩
 | many is=>
  cases l with
  | tup ls=>
   have e:(if ls.length=is.length then some (VL.setAll is ls s) else none)=some s':=e
   split at e
   ·cases e
    obtain⟨p,xs,rfl,hp,hi⟩:=h.tup_inv
    exact⟨ls,xs,fp,rfl,hi,by assumption,fun p hp=>hp,fun σ Q q=>⟨p,xs,rfl,SqT.of hp,by rw[hi.len];assumption,TN (by rw[hi.len];assumption) q⟩⟩
   ·cases e
  | _=>cases e
theorem Ws:∀{is:List Nat}{vs:List V}{σ:U5}{n:Nat},(∀i∈is,i<n)->(YO is vs σ).drop n=σ.drop n
 | [],_,_,_,_=>rfl
 | _::_,[],_,_,_=>rfl
 | i::is,v::vs,σ,n,h=>by
  show(YO is vs (σ.set i (some v))).drop n=_
  rw[Ws (fun j hj=>h j (List.mem_cons_of_mem _ hj))]
  have:=h i List.mem_cons_self
  rw[List.drop_set,if_pos this]
theorem EnvIs.set{Rm:Addr->Prop}{H:Hp}{s:ZO}{σ:U5}{i:Nat}{l:PV}{v:V}{fp:List Addr}(h:EnvIs K Rm H s σ)(hl:s.length=σ.length)(hi:Is K H l v fp)(n:∀p∈fp,¬Rm p):EnvIs K Rm H (s.set i (some l)) (σ.set i (some v)):=⟨fun j a e=>by
 rw[List.getElem?_set] at e
 by_cases hj:i=j
 ·subst hj
  rw[if_pos rfl] at e
  split at e
  ·cases e
   exact⟨v,fp,by rw[List.getElem?_set,if_pos rfl,if_pos (by omega)],hi,n⟩
  ·cases e
 ·rw[if_neg hj] at e
  obtain⟨w,f,h1,h2,h3⟩:=h.is j a e
  exact⟨w,f,by rw[List.getElem?_set,if_neg hj];exact h1,h2,h3⟩⟩
theorem EnvIs.setAll{Rm:Addr->Prop}{H:Hp}:∀{is:List Nat}{ls:List PV}{vs:List V}{fs:List Addr}{s:ZO}{σ:U5},EnvIs K Rm H s σ->s.length=σ.length->Iss K H ls vs fs->(∀p∈fs,¬Rm p)->EnvIs K Rm H (VL.setAll is ls s) (YO is vs σ)
 | [],_,_,_,_,_,h,_,_,_=>by unfold VL.setAll YO;exact h
 | i::is,[],vs,fs,s,σ,h,_,hi,_=>by
  simp only[Iss] at hi;rw[hi.1];exact h
 | i::is,l::ls,vs,fs,s,σ,h,hl,hi,n=>by
  obtain⟨x,r,f1,f2,rfl,h1,h2,rfl⟩:=hi.inv
  show EnvIs K Rm H (VL.setAll is ls (s.set i (some l))) (YO is r (σ.set i (some x)))
  exact EnvIs.setAll (h.set hl h1 fun p hp=>n p (List.mem_append_left _ hp)) (by rw[List.length_set,List.length_set];exact hl) h2 fun p hp=>n p (List.mem_append_right _ hp)
def ZK(n:Nat)(ix:List Nat)(s:ZO):ZO:=List.replicate n none++ix.map (fun i=>(s[i]?).join)
def XQ(T:Tgt)(ft:XT)(fe:XE)(s0:ZO):List PV->Option (List PV)
 | []=>some []
 | l::r=>(Xw T l s0).bind fun s1=>(ft s1).bind fun c=>if c=true then(fe s1).bind fun y=>(XQ T ft fe s0 r).map (y::·) else XQ T ft fe s0 r
def Zu(n:Nat)(ix:List Nat)(fi:XL)(T:Tgt)(ft:XT)(fe:XE):XE:=fun s=>(fi s).bind fun ls=>if ls.length<=10000 then(XQ T ft fe (ZK n ix s) ls).map .lst else none
def ZA:XT:=fun _=>some true
theorem Ng{α:Type}{o:Option (Option α)}{a:α}(h:o.join=some a):o=some (some a):=by
 cases o with
 | none=>cases h
 | some b=>cases b with
  | none=>cases h
  | some c=>cases h;rfl
theorem EnvIs.comp{Rm:Addr->Prop}{H:Hp}{s:ZO}{σ:U5}{n:Nat}{ix:List Nat}(h:EnvIs K Rm H s σ):EnvIs K Rm H (ZK n ix s) (Yn n ix σ):=⟨fun i l e=>by
 unfold ZK at e;unfold Yn
 by_cases hi:i<n
 ·rw[List.getElem?_append_left (by simpa using hi),List.getElem?_replicate,if_pos hi] at e
  cases e
 ·rw[List.getElem?_append_right (by simpa using hi),List.length_replicate,List.getElem?_map] at e
  rw[List.getElem?_append_right (by simpa using hi),List.length_replicate,List.getElem?_map]
  cases q:ix[i-n]? with
  | none=>rw[q] at e;cases e
  | some j=>
   rw[q] at e
   have e:=Ng (Option.some.inj e)
   obtain⟨v,fp,a,b,c⟩:=h.is j l e
   exact⟨v,fp,by show some ((σ[j]?).join)=_;rw[a];rfl,b,c⟩⟩
theorem Qp(n:Nat)(ix:List Nat)(s:ZO)(σ:U5):(ZK n ix s).length=(Yn n ix σ).length:=by unfold ZK Yn;simp
theorem TQ{T:Tgt}{ft:XT}{fe:XE}{s0:ZO}{l:PV}{r ys:List PV}(h:XQ T ft fe s0 (l::r)=some ys):∃s1 c,Xw T l s0=some s1/\ft s1=some c/\((c=true/\∃y zs,fe s1=some y/\XQ T ft fe s0 r=some zs/\ys=y::zs)\/(c=false/\XQ T ft fe s0 r=some ys)):=by
 unfold XQ at h
 obtain⟨s1,e1,h⟩:=Zf h
 obtain⟨c,e2,h⟩:=Zf h
 refine⟨s1,c,e1,e2,?_⟩
 cases c with
 | true=>
  rw[if_pos rfl] at h
  obtain⟨y,e3,h⟩:=Zf h
  obtain⟨zs,e4,rfl⟩:=map_some h
  exact .inl ⟨rfl,y,zs,e3,e4,rfl⟩
 | false=>
  rw[if_neg Bool.false_ne_true] at h
  exact .inr ⟨rfl,h⟩
theorem TR{α:Type}{l:List α}{i:Nat}{a:α}{r:List α}(h:l.drop i=a::r):l[i]?=some a/\l.drop (i+1)=r:=by
 constructor
 ·have:=congrArg (fun z=>z[0]?) h
  simpa [List.getElem?_drop] using this
 ·rw[<-List.drop_drop,h];rfl
section
variable {n:Nat} {ix:List Nat} {fi:XL} {T:Tgt} {ft:XT} {fe:XE}
theorem Kg(hT:∀i∈T.slots,i<n):∀σ H Q,tF K (Zu n ix fi T ft fe) σ H Q->SN n ix (iF K fi) (gT K T) (QK K ft) (tF K fe) σ H Q:=fun σ H Q ⟨Rm,s,L,hd,env,e,k⟩=>by
 obtain⟨ls,e1,e⟩:=Zf e
 split at e
 case isFalse=>cases e
 rename_i hlen
 obtain⟨ys,e2,rfl⟩:=map_some e
 refine⟨Rm,s,ls,hd,env,e1,fun J H1 s1 jis=>?_⟩
 have hd1:∀p,Rm p->Wc (H1 p):=fun p hp=>Same.mut s1 (hd p hp)
 refine⟨fun i m vs Hc=>m=ls.length-i/\i<=ls.length/\Same H1 Hc/\∃dn Ym fp,ys=dn++Ym/\dn.length<=i/\XQ T ft fe (ZK n ix s) (ls.drop i)=some Ym/\Iss K Hc dn vs fp/\∀p∈fp,¬Rm p,
  ⟨ls.length,by simp,Nat.zero_le _,Same.refl H1,[],ys,[],rfl,Nat.le_refl _,e2,Iss.nil,fun p hp=>by simp at hp⟩,?_⟩
 rintro i m vs Hc ⟨rfl,hi,sc,dn,Ym,fp,rfl,hdl,ec,iv,nv⟩
 refine⟨by rw[iv.len];exact Nat.le_of_lt (lt_size (by omega)),?_⟩
 cases q:ls.drop i with
 | nil=>
  have hil:i=ls.length:=by
   have:=congrArg List.length q
   rw[List.length_drop] at this
   simp at this;omega
  subst hil;rw[q] at ec;cases ec
  refine .inl ⟨jis.stop Hc (Same.ab sc),fun p hp=>k _ _ (p::fp) (s1.trans (sc.trans (Same.new hp _))) ?_ fun a ha z=>?_⟩
  ·rw[List.append_nil]
   exact Is.lst Zw (iv.mono (Same.new hp _))
  ·rcases List.mem_cons.mp ha with rfl | ha
   ·exact Xg (Same.mut (s1.trans sc) (hd a z)) hp
   ·exact nv a ha z
 | cons l r=>
  obtain⟨hl,hr⟩:=TR q
  have hilt:i<ls.length:=(List.getElem?_eq_some_iff.mp hl).1
  rw[q] at ec
  obtain⟨sb,c,eb,et,alt⟩:=TQ ec
  refine .inr ⟨jis.go Hc i l (Same.ab sc) hl,fun vs' H'=>Same H1 H'/\∃dn' rest' fp',dn++Ym=dn'++rest'/\dn'.length<=i+1/\XQ T ft fe (ZK n ix s) (ls.drop (i+1))=some rest'/\Iss K H' dn' vs' fp'/\∀p∈fp',¬Rm p,
   fun vs' H' h'=>⟨ls.length-(i+1),by omega,rfl,hilt,h'.1,h'.2⟩,fun x H2 y=>?_⟩
  obtain⟨s2,fx,ix',nx⟩:=jis.yld Hc i l x H2 (Same.ab sc) hl y
  have hd2:∀p,Rm p->Wc (H2 p):=fun p hp=>Same.mut (sc.trans s2) (hd1 p hp)
  obtain⟨bl,bv,bf,rfl,bi,_,bsub,buse⟩:=Pa (K:=K) ix' eb
  have env2:EnvIs K Rm H2 (ZK n ix s) (Yn n ix σ):=(env.mono (s1.trans (sc.trans s2))).comp
  have env3:=env2.setAll (is:=T.slots) (Qp n ix s σ) bi fun p hp=>(nx p (bsub p hp)).2
  refine buse _ _ ⟨Ws hT,Rm,_,c,hd2,env3,et,fun H3 s3=>?_⟩
  have hd3:∀p,Rm p->Wc (H3 p):=fun p hp=>Same.mut s3 (hd2 p hp)
  rcases alt with⟨rfl,y',zs,ey,ez,rfl⟩ | ⟨rfl,ez⟩
  ·refine He ?_
   refine⟨Rm,_,y',hd3,env3.mono s3,ey,fun v H4 f4 s4 i4 n4=>?_⟩
   refine⟨sc.trans (s2.trans (s3.trans s4)),dn++[y'],zs,fp++f4,by rw[List.append_assoc];rfl,by rw[List.length_append];simp;exact hdl,by rw[hr];exact ez,(iv.mono (s2.trans (s3.trans s4))).append (Iss.one i4),fun p hp=>?_⟩
   rcases List.mem_append.mp hp with h | h
   ·exact nv p h
   ·exact n4 p h
  ·refine Hd ?_
   exact⟨sc.trans (s2.trans s3),dn,Ym,fp,rfl,Nat.le_succ_of_le hdl,by rw[hr];exact ez,iv.mono (s2.trans s3),nv⟩
theorem Om(hT:∀i∈T.slots,i<n):∀σ H Q,tM K (Zu n ix fi T ft fe) σ H Q->SN n ix (iF K fi) (gT K T) (QK K ft) (tM K fe) σ H Q:=fun σ H Q ⟨s,L,env,e,k⟩=>by
 obtain⟨ls,e1,e⟩:=Zf e
 split at e
 case isFalse=>cases e
 rename_i hlen
 obtain⟨ys,e2,rfl⟩:=map_some e
 have hd:∀(H:Hp) p,(fun _=>False:Addr->Prop) p->Wc (H p):=fun _ _ z=>z.elim
 refine⟨fun _=>False,s,ls,hd H,env,e1,fun J H1 s1 jis=>?_⟩
 refine⟨fun i m vs Hc=>m=ls.length-i/\i<=ls.length/\Same H1 Hc/\∃dn Ym fp,ys=dn++Ym/\dn.length<=i/\XQ T ft fe (ZK n ix s) (ls.drop i)=some Ym/\Iss K Hc dn vs fp/\fp.Nodup/\∀p∈fp,H1 p=none/\Wc (Hc p),
  ⟨ls.length,by simp,Nat.zero_le _,Same.refl H1,[],ys,[],rfl,Nat.le_refl _,e2,Iss.nil,List.nodup_nil,fun p hp=>by simp at hp⟩,?_⟩
 rintro i m vs Hc ⟨rfl,hi,sc,dn,Ym,fp,rfl,hdl,ec,iv,dv,nv⟩
 refine⟨by rw[iv.len];exact Nat.le_of_lt (lt_size (by omega)),?_⟩
 cases q:ls.drop i with
 | nil=>
  have hil:i=ls.length:=by
   have:=congrArg List.length q
   rw[List.length_drop] at this
   simp at this;omega
  subst hil;rw[q] at ec;cases ec
  refine .inl ⟨jis.stop Hc (Same.ab sc),fun p hp=>k _ _ (p::fp) (s1.trans (sc.trans (Same.new hp _))) ?_ (List.nodup_cons.mpr ⟨fun z=>Xg (nv p z).2 hp,dv⟩) fun a ha=>?_⟩
  ·rw[List.append_nil]
   exact Is.lst Zw (iv.mono (Same.new hp _))
  ·rcases List.mem_cons.mp ha with rfl | ha
   ·exact⟨Same.off (s1.trans sc) hp,by rw[Zw];exact True.intro⟩
   ·exact⟨Same.off s1 (nv a ha).1,Same.mut (Same.new hp _) (nv a ha).2⟩
 | cons l r=>
  obtain⟨hl,hr⟩:=TR q
  have hilt:i<ls.length:=(List.getElem?_eq_some_iff.mp hl).1
  rw[q] at ec
  obtain⟨sb,c,eb,et,alt⟩:=TQ ec
  refine .inr ⟨jis.go Hc i l (Same.ab sc) hl,fun vs' H'=>Same H1 H'/\∃dn' rest' fp',dn++Ym=dn'++rest'/\dn'.length<=i+1/\XQ T ft fe (ZK n ix s) (ls.drop (i+1))=some rest'/\Iss K H' dn' vs' fp'/\fp'.Nodup/\∀p∈fp',H1 p=none/\Wc (H' p),
   fun vs' H' h'=>⟨ls.length-(i+1),by omega,rfl,hilt,h'.1,h'.2⟩,fun x H2 y=>?_⟩
  obtain⟨s2,fx,ix',nx⟩:=jis.yld Hc i l x H2 (Same.ab sc) hl y
  obtain⟨bl,bv,bf,rfl,bi,_,bsub,buse⟩:=Pa (K:=K) ix' eb
  have env2:EnvIs K (fun _=>False) H2 (ZK n ix s) (Yn n ix σ):=(env.mono (s1.trans (sc.trans s2))).comp
  have env3:=env2.setAll (is:=T.slots) (Qp n ix s σ) bi fun p hp=>(nx p (bsub p hp)).2
  refine buse _ _ ⟨Ws hT,fun _=>False,_,c,hd H2,env3,et,fun H3 s3=>?_⟩
  rcases alt with⟨rfl,y',zs,ey,ez,rfl⟩ | ⟨rfl,ez⟩
  ·refine He ?_
   refine⟨_,y',env3.mono s3,ey,fun v H4 f4 s4 i4 d4 n4=>?_⟩
   refine⟨sc.trans (s2.trans (s3.trans s4)),dn++[y'],zs,fp++f4,by rw[List.append_assoc];rfl,by rw[List.length_append];simp;exact hdl,by rw[hr];exact ez,(iv.mono (s2.trans (s3.trans s4))).append (Iss.one i4),List.nodup_append.mpr ⟨dv,d4,fun a ha b hb z=>?_⟩,fun p hp=>?_⟩
   ·subst z
    exact Xg (Same.mut (s2.trans s3) (nv a ha).2) (n4 a hb).1
   ·rcases List.mem_append.mp hp with h | h
    ·exact⟨(nv p h).1,Same.mut (s2.trans (s3.trans s4)) (nv p h).2⟩
    ·exact⟨Same.off (sc.trans (s2.trans s3)) (n4 p h).1,(n4 p h).2⟩
  ·refine Hd ?_
   exact⟨sc.trans (s2.trans s3),dn,Ym,fp,rfl,Nat.le_succ_of_le hdl,by rw[hr];exact ez,iv.mono (s2.trans s3),dv,fun p hp=>⟨(nv p hp).1,Same.mut (s2.trans s3) (nv p hp).2⟩⟩
end
def Hu(X:Cx)(ifs:List Expr)(f:XT):Prop:=Ma X ifs (QK X.K f)
section
variable {X:Cx} {tg elt iter c:Expr} {ifs:List Expr} {scope:Scope} {pos:Pos} {fi:XL} {T:Tgt} {ft:XT} {fe:XE}
theorem Yc:Hu X [] ZA:=fun pins s σ H Q I ⟨Rm,s',c,hd,env,e,k⟩=>by
 cases e
 exact LX pins s σ H Q I (k H (Same.refl H))
theorem On(h:VT X c ft):Hu X [c] ft:=LY h
theorem Yr(own fr:List Str)(ix:List Nat)(hcalm:X.calm=true)(hi:VI X tg iter fi)(S:Vt X.N X.env.scope scope own fr ix=true)
  (hg:∀cl C s H ex,PG (ZP X (own++fr) scope cl C s H ex) tg (gT X.K T)) (ht:∀cl C s H ex,Hu (ZP X (own++fr) scope cl C s H ex) ifs ft) (he:∀cl C s H ex,VE (ZP X (own++fr) scope cl C s H ex) elt fe)
  (hT:∀i∈T.slots,i<own.length:=by decide) (hs:∀x,foldedSetIterable iter X.env x=pure x:=by intro _;rfl):VE X (.ListComp elt [⟨tg,iter,ifs,0⟩] scope pos) (Zu own.length ix fi T ft fe):=
 PE.imp (Qf own fr ix hcalm hi S hg (fun cl C s H ex=>(show Ma (ZP X (own++fr) scope cl C s H ex) ifs (QK X.K ft) from ht cl C s H ex)) (fun cl C s H ex=>(show PE (ZP X (own++fr) scope cl C s H ex) elt (tF X.K fe) from he cl C s H ex)) hs) (Kg hT)
theorem RH(own fr:List Str)(ix:List Nat)(hcalm:X.calm=true)(hi:VI X tg iter fi)(S:Vt X.N X.env.scope scope own fr ix=true)
  (hg:∀cl C s H ex,PG (ZP X (own++fr) scope cl C s H ex) tg (gT X.K T)) (ht:∀cl C s H ex,Hu (ZP X (own++fr) scope cl C s H ex) ifs ft) (he:∀cl C s H ex,VM (ZP X (own++fr) scope cl C s H ex) elt fe)
  (hT:∀i∈T.slots,i<own.length:=by decide) (hs:∀x,foldedSetIterable iter X.env x=pure x:=by intro _;rfl):VM X (.ListComp elt [⟨tg,iter,ifs,0⟩] scope pos) (Zu own.length ix fi T ft fe):=
 PE.imp (Qf own fr ix hcalm hi S hg (fun cl C s H ex=>(show Ma (ZP X (own++fr) scope cl C s H ex) ifs (QK X.K ft) from ht cl C s H ex)) (fun cl C s H ex=>(show PE (ZP X (own++fr) scope cl C s H ex) elt (tM X.K fe) from he cl C s H ex)) hs) (Om hT)
end
def Vx(xs:List PV)(lo hi:Option Int):List PV:=(xs.drop (HT.sIx xs.length 0 lo)).take (HT.sIx xs.length xs.length hi-HT.sIx xs.length 0 lo)
theorem Iss.cut{H:Hp}{l:List PV}{xs:List V}{fp:List Addr}(lo hi:Option Int)(h:Iss K H l xs fp):∃f1,Iss K H (Vx l lo hi) (Qb xs lo hi) f1/\∀p∈f1,p∈fp:=by
 unfold Vx Qb;rw[h.len]
 obtain⟨f1,a,b⟩:=h.drop (HT.sIx l.length 0 lo)
 obtain⟨f2,c,d⟩:=a.take (HT.sIx l.length l.length hi-HT.sIx l.length 0 lo)
 exact⟨f2,c,fun p hp=>b p (d p hp)⟩
abbrev XO:=ZO->Option (Option Int)
def GO(K:PySem.W.Frag)(f:XO):TO:=fun σ H Q=>∃(Rm:Addr->Prop) (s:ZO) (i:Option Int),(∀p,Rm p->Wc (H p))/\EnvIs K Rm H s σ/\f s=some i/\∀H',Same H H'->Q i H'
def VO(X:Cx)(e:Option Expr)(f:XO):Prop:=PO X e (GO X.K f)
def Jb:XO:=fun _=>some none
def R6(f:XE):XO:=fun s=>match f s with | some (.int i)=>some (some i) | _=>none
def Nh(x:PV)(lo hi:Option Int):Option PV:=match x with | .lst l=>some (.lst (Vx l lo hi)) | .cst l=>some (.lst (Vx l lo hi)) | _=>none
def U7(x:PV)(lo hi:Option Int):Option PV:=match x with | .tup l=>if HT.sIx l.length 0 lo=0/\HT.sIx l.length l.length hi=l.length then none else some (.tup (Vx l lo hi)) | _=>none
def Oo(g:PV->Option Int->Option Int->Option PV)(a:XE)(lo hi:XO):XE:=fun s=>(a s).bind fun x=>(lo s).bind fun l=>(hi s).bind fun u=>g x l u
section
variable {X:Cx} {e:Expr} {lo hi:Option Expr} {p2 pos:Pos} {fa:XE} {fl fh:XO}
theorem Op:VO X none Jb:=fun pins s σ H Q I ⟨Rm,s',i,hd,env,e,k⟩=>by
 cases e
 exact LR pins s σ H Q I (k H (Same.refl H))
theorem Tj{e:Expr}(h:VE X e fa):VO X (some e) (R6 fa):=fun pins s σ H Q I ⟨Rm,s',i,hd,env,e,k⟩=>by
 unfold R6 at e
 split at e
 ·cases e
  rename_i j hj
  exact LS h pins s σ H Q I ⟨Rm,s',.int j,hd,env,hj,fun v H' fp sm i n=>⟨j,i.int_inv.1,k H' sm⟩⟩
 ·cases e
theorem Ni(ha:VE X e fa)(hl:VO X lo fl)(hh:VO X hi fh):VE X (.Subscript e (.Slice lo hi none p2) pos) (Oo Nh fa fl fh):=PE.imp (Qa LV ha hl hh) fun σ H Q ⟨Rm,s,l,hd,env,e,k⟩=>by
 obtain⟨x,e1,e⟩:=Zf e
 obtain⟨a,e2,e⟩:=Zf e
 obtain⟨b,e3,e⟩:=Zf e
 refine⟨Rm,s,x,hd,env,e1,fun v H1 fp s1 i1 n1=>⟨Rm,s,a,fun p hp=>Same.mut s1 (hd p hp),env.mono s1,e2,fun H2 s2=>⟨Rm,s,b,fun p hp=>Same.mut (s1.trans s2) (hd p hp),env.mono (s1.trans s2),e3,fun H3 s3=>?_⟩⟩⟩
 cases x with
 | lst l=>
  cases e
  obtain⟨p,xs,fq,rfl,hp,hi,rfl⟩:=(i1.mono (s2.trans s3)).lst_inv
  obtain⟨f1,c,d⟩:=hi.cut a b
  refine⟨p,xs,rfl,SqL.of hp,fun q hq=>k _ _ (q::f1) (s1.trans (s2.trans (s3.trans (Same.new hq _)))) (Is.lst Zw (c.mono (Same.new hq _))) fun r hr z=>?_⟩
  rcases List.mem_cons.mp hr with rfl | hr
  ·exact Xg (Same.mut (s1.trans (s2.trans s3)) (hd r z)) hq
  ·exact n1 r (List.mem_cons_of_mem _ (d r hr)) z
 | cst l=>
  cases e
  obtain⟨p,xs,rfl,hp,hi⟩:=(i1.mono (s2.trans s3)).cst_inv
  obtain⟨f1,c,d⟩:=hi.cut a b
  refine⟨p,xs,rfl,hp.sq,fun q hq=>k _ _ (q::f1) (s1.trans (s2.trans (s3.trans (Same.new hq _)))) (Is.lst Zw (c.mono (Same.new hq _))) fun r hr z=>?_⟩
  rcases List.mem_cons.mp hr with rfl | hr
  ·exact Xg (Same.mut (s1.trans (s2.trans s3)) (hd r z)) hq
  ·exact n1 r (d r hr) z
 | _=>cases e
theorem S1(ha:VE X e fa)(hl:VO X lo fl)(hh:VO X hi fh):VE X (.Subscript e (.Slice lo hi none p2) pos) (Oo U7 fa fl fh):=PE.imp (Qa JM ha hl hh) fun σ H Q ⟨Rm,s,l,hd,env,e,k⟩=>by
 obtain⟨x,e1,e⟩:=Zf e
 obtain⟨a,e2,e⟩:=Zf e
 obtain⟨b,e3,e⟩:=Zf e
 refine⟨Rm,s,x,hd,env,e1,fun v H1 fp s1 i1 n1=>⟨Rm,s,a,fun p hp=>Same.mut s1 (hd p hp),env.mono s1,e2,fun H2 s2=>⟨Rm,s,b,fun p hp=>Same.mut (s1.trans s2) (hd p hp),env.mono (s1.trans s2),e3,fun H3 s3=>?_⟩⟩⟩
 cases x with
 | tup l=>
  unfold U7 at e
  simp only at e
  split at e
  ·cases e
  ·rename_i hne
   cases e
   obtain⟨p,xs,rfl,hp,hi⟩:=(i1.mono (s2.trans s3)).tup_inv
   obtain⟨f1,c,d⟩:=hi.cut a b
   refine⟨p,xs,rfl,SqT.of hp,by rw[hi.len];exact hne,fun q hq=>k _ _ f1 (s1.trans (s2.trans (s3.trans (Same.new hq _)))) (Is.tup Zw (c.mono (Same.new hq _))) fun r hr=>n1 r (d r hr)⟩
 | _=>cases e
end
end VL
namespace VL
open PySem PySem.Spec PyProof.Rows L2
variable {K:PySem.W.Frag}
structure Rel(K:PySem.W.Frag)(O:List Nat)(H0:Hp)(fps:Nat->List Addr)(s:ZO)(σ:U5)(H:Hp):Prop where
 same:Same H0 H
 len:s.length=σ.length
 is:∀(i:Nat) l,s[i]?=some (some l)->∃v,σ[i]?=some (some v)/\Is K H l v (fps i)
 emp:∀(i:Nat),(∀l,s[i]?≠some (some l))->fps i=[]
 nd:∀i∈O,(fps i).Nodup
 own:∀i∈O,∀p∈fps i,H0 p=none/\Wc (H p)
 dis:∀i∈O,∀j,j≠i->∀p∈fps i,p∉fps j
def Ow(O:List Nat)(fps:Nat->List Addr)(p:Addr):Prop:=∃i∈O,p∈fps i
def Yz(O:List Nat)(s:ZO):ZO:=O.foldl (fun s i=>s.set i none) s
theorem TU:∀{O:List Nat}{s:ZO}{i:Nat}{l:PV},(Yz O s)[i]?=some (some l)->i∉O/\s[i]?=some (some l)
 | [],s,i,l,h=>⟨by simp,h⟩
 | o::O,s,i,l,h=>by
  obtain⟨h1,h2⟩:=TU (O:=O) (s:=s.set o none) h
  rw[List.getElem?_set] at h2
  by_cases e:o=i
  ·rw[if_pos e] at h2;split at h2<;>cases h2
  ·rw[if_neg e] at h2
   exact⟨by simp only[List.mem_cons,not_or];exact⟨fun z=>e z.symm,h1⟩,h2⟩
section
variable {O:List Nat} {H0 H H':Hp} {fps:Nat->List Addr} {s:ZO} {σ:U5}
theorem Rel.at(r:Rel K O H0 fps s σ H)(i:Nat){p:Addr}(hp:p∈fps i):∃l v,s[i]?=some (some l)/\σ[i]?=some (some v)/\Is K H l v (fps i):=by
 cases q:s[i]? with
 | none=>rw[r.emp i (fun l z=>by rw[q] at z;cases z)] at hp;simp at hp
 | some o=>cases o with
  | none=>rw[r.emp i (fun l z=>by rw[q] at z;cases z)] at hp;simp at hp
  | some l=>
   obtain⟨v,a,b⟩:=r.is i l q
   exact⟨l,v,rfl,a,b⟩
theorem Rel.dom(r:Rel K O H0 fps s σ H)(i:Nat):∀p∈fps i,H p≠none:=fun p hp=>by
 obtain⟨l,v,_,_,b⟩:=r.at i hp
 exact Is.dom _ _ _ b p hp
theorem Rel.env(r:Rel K O H0 fps s σ H):EnvIs K (fun _=>False) H s σ:=⟨fun i l e=>by
 obtain⟨v,a,b⟩:=r.is i l e
 exact⟨v,_,a,b,fun _ _ z=>z⟩⟩
theorem Rel.envO(r:Rel K O H0 fps s σ H):EnvIs K (Ow O fps) H (Yz O s) σ:=⟨fun i l e=>by
 obtain⟨n,e⟩:=TU e
 obtain⟨v,a,b⟩:=r.is i l e
 exact⟨v,_,a,b,fun p hp ⟨j,hj,hpj⟩=>r.dis j hj i (fun z=>n (z▸hj)) p hpj hp⟩⟩
theorem Rel.owMut(r:Rel K O H0 fps s σ H):∀p,Ow O fps p->Wc (H p):=fun p ⟨i,hi,hp⟩=>(r.own i hi p hp).2
theorem Rel.grow(r:Rel K O H0 fps s σ H)(e:Same H H'):Rel K O H0 fps s σ H':=
 ⟨r.same.trans e,r.len,fun i l q=>by obtain⟨v,a,b⟩:=r.is i l q;exact⟨v,a,b.mono e⟩,r.emp,r.nd,fun i hi p hp=>⟨(r.own i hi p hp).1,Same.mut e (r.own i hi p hp).2⟩,r.dis⟩
theorem Rel.less{F:Hp}(r:Rel K O F fps s σ H)(e:Same H0 F):Rel K O H0 fps s σ H:=
 ⟨e.trans r.same,r.len,r.is,r.emp,r.nd,fun i hi p hp=>⟨Same.off e (r.own i hi p hp).1,(r.own i hi p hp).2⟩,r.dis⟩
theorem Rel.weak{O':List Nat}(r:Rel K O H0 fps s σ H)(h:∀i∈O',i∈O):Rel K O' H0 fps s σ H:=
 ⟨r.same,r.len,r.is,r.emp,fun i hi=>r.nd i (h i hi),fun i hi=>r.own i (h i hi),fun i hi=>r.dis i (h i hi)⟩
open Classical in
noncomputable def WD(H:Hp)(Rm:Addr->Prop):Hp:=fun b=>if Rm b then none else H b
theorem S2{Rm:Addr->Prop}:Same (WD H Rm) H:=fun b o h=>by
 unfold WD at h
 split at h
 ·cases h
 ·exact h
theorem Rel.frame(r:Rel K O H0 fps s σ H):Rel K O (WD H (Ow O fps)) fps s σ H:=
 ⟨S2,r.len,r.is,r.emp,r.nd,fun i hi p hp=>⟨by unfold WD;rw[if_pos ⟨i,hi,hp⟩],(r.own i hi p hp).2⟩,r.dis⟩
theorem Rel.under(r:Rel K O H0 fps s σ H):Same H0 (WD H (Ow O fps)):=fun b o h=>by
 unfold WD
 rw[if_neg (fun⟨i,hi,hp⟩=>by rw[(r.own i hi b hp).1] at h;cases h)]
 exact r.same b o h
open Classical in
noncomputable def VX(fps:Nat->List Addr)(n:Nat)(i:Nat)(fp:List Addr):Nat->List Addr:=fun j=>if j=i/\i<n then fp else fps j
theorem ZT{n i j:Nat}{fp:List Addr}(h:j≠i):VX fps n i fp j=fps j:=by unfold VX;rw[if_neg (fun z=>h z.1)]
theorem RI{n i:Nat}{fp:List Addr}(h:i<n):VX fps n i fp i=fp:=by unfold VX;rw[if_pos ⟨rfl,h⟩]
theorem Rel.set(r:Rel K O H0 fps s σ H){i:Nat}{l:PV}{v:V}{fp:List Addr}(hi:Is K H l v fp)(ho:i∈O->fp.Nodup/\∀p∈fp,H0 p=none/\Wc (H p))
  (hd:∀j,j≠i->(j∈O\/i∈O)->∀p∈fp,p∉fps j):Rel K O H0 (VX fps s.length i fp) (s.set i (some l)) (σ.set i (some v)) H:=by
 by_cases hlt:i<s.length
 ·have e1:VX fps s.length i fp i=fp:=RI hlt
  refine⟨r.same,by rw[List.length_set,List.length_set];exact r.len,fun j a e=>?_,fun j h=>?_,fun j hj=>?_,fun j hj p hp=>?_,fun j hj k hk p hp=>?_⟩
  ·rw[List.getElem?_set] at e
   by_cases hj:i=j
   ·subst hj
    rw[if_pos rfl,if_pos hlt] at e;cases e;rw[e1]
    exact⟨v,by rw[List.getElem?_set,if_pos rfl,if_pos (by rw[<-r.len];exact hlt)],hi⟩
   ·rw[if_neg hj] at e
    obtain⟨w,h1,h2⟩:=r.is j a e
    rw[ZT (Ne.symm hj)]
    exact⟨w,by rw[List.getElem?_set,if_neg hj];exact h1,h2⟩
  ·by_cases hj:i=j
   ·subst hj
    exact absurd (by rw[List.getElem?_set,if_pos rfl,if_pos hlt]) (h l)
   ·rw[ZT (Ne.symm hj)]
    exact r.emp j fun a z=>h a (by rw[List.getElem?_set,if_neg hj];exact z)
  ·by_cases e:j=i
   ·subst e;rw[e1];exact(ho hj).1
   ·rw[ZT e];exact r.nd j hj
  ·by_cases e:j=i
   ·subst e;rw[e1] at hp;exact(ho hj).2 p hp
   ·rw[ZT e] at hp;exact r.own j hj p hp
  ·by_cases e:j=i
   ·subst e
    rw[e1] at hp;rw[ZT hk]
    exact hd k hk (.inr hj) p hp
   ·rw[ZT e] at hp
    by_cases e2:k=i
    ·subst e2
     rw[e1]
     exact fun z=>hd j e (.inl hj) p z hp
    ·rw[ZT e2];exact r.dis j hj k hk p hp
 ·have e1:s.set i (some l)=s:=List.set_eq_of_length_le (by omega)
  have e2:σ.set i (some v)=σ:=List.set_eq_of_length_le (by rw[<-r.len];omega)
  have e3:VX fps s.length i fp=fps:=by funext j;unfold VX;rw[if_neg (fun z=>hlt z.2)]
  rw[e1,e2,e3];exact r
theorem Rel.mutate(r:Rel K O H0 fps s σ H){i:Nat}(hi:i∈O){p:Addr}(hp:p∈fps i){o:HO}{l':PV}{v:V}{fp':List Addr}(hv:σ[i]?=some (some v))(hlt:i<s.length)
  (h':Is K (upd H p o) l' v fp') (nd:fp'.Nodup) (hm:∀q∈fp',H0 q=none/\Wc (upd H p o q)) (hd:∀j,j≠i->∀q∈fp',q∉fps j) (hmo:Wc (some o)):Rel K O H0 (VX fps s.length i fp') (s.set i (some l')) σ (upd H p o):=by
 have mu:=(r.own i hi p hp).2
 have pn:H0 p=none:=(r.own i hi p hp).1
 have e1:VX fps s.length i fp' i=fp':=RI hlt
 have tk:K5 H (upd H p o):=⟨fun b xs h=>by
  rw[upd_ne (fun z=>by rw[z] at h;rw[h] at mu;exact mu)];exact h,fun b o xs h=>by
  rw[upd_ne (fun z=>by rw[z] at h;rw[h] at mu;exact mu)];exact h,fun b o x h=>by
  rw[upd_ne (fun z=>by rw[z] at h;rw[h] at mu;exact mu)];exact h⟩
 refine⟨fun b u h=>by rw[upd_ne (Zz h pn)];exact r.same b u h,by rw[List.length_set];exact r.len,fun j a e=>?_,fun j h=>?_,fun j hj=>?_,fun j hj q hq=>?_,fun j hj k hk q hq=>?_⟩
 ·rw[List.getElem?_set] at e
  by_cases hj:i=j
  ·subst hj
   rw[if_pos rfl,if_pos hlt] at e;cases e
   rw[e1];exact⟨v,hv,h'⟩
  ·rw[if_neg hj] at e
   obtain⟨w,h1,h2⟩:=r.is j a e
   rw[ZT (Ne.symm hj)]
   refine⟨w,h1,Is.tr tk _ _ _ (fun q hq=>RdK.of fun u hu=>?_) h2⟩
   have ne:q≠p:=fun z=>r.dis i hi j (Ne.symm hj) p hp (z▸hq)
   rw[upd_ne ne];exact hu
 ·by_cases hj:i=j
  ·subst hj
   exact absurd (by rw[List.getElem?_set,if_pos rfl,if_pos hlt]) (h l')
  ·rw[ZT (Ne.symm hj)]
   exact r.emp j fun a z=>h a (by rw[List.getElem?_set,if_neg hj];exact z)
 ·by_cases e:j=i
  ·subst e;rw[e1];exact nd
  ·rw[ZT e];exact r.nd j hj
 ·by_cases e:j=i
  ·subst e;rw[e1] at hq;exact hm q hq
  ·rw[ZT e] at hq
   refine⟨(r.own j hj q hq).1,?_⟩
   have ne:q≠p:=fun z=>r.dis j hj i (Ne.symm e) q hq (z▸hp)
   rw[upd_ne ne];exact(r.own j hj q hq).2
 ·by_cases e:j=i
  ·subst e
   rw[e1] at hq;rw[ZT hk]
   exact hd k hk q hq
  ·rw[ZT e] at hq
   by_cases e2:k=i
   ·subst e2
    rw[e1]
    exact fun z=>hd j e q z hq
   ·rw[ZT e2];exact r.dis j hj k hk q hq
end
def Kep(a b:List Addr):Prop:=a=b\/a=[]
theorem Kep.refl(a:List Addr):Kep a a:=.inl rfl
theorem Kep.trans{a b c:List Addr}(h:Kep a b)(k:Kep b c):Kep a c:=by
 rcases h with rfl | h
 ·exact k
 ·exact .inr h
inductive Out where
 | nx (s:ZO) | rt (l:PV) | bk (s:ZO) | ct (s:ZO)
abbrev XS:=ZO->Option Out
def OutOk(K:PySem.W.Frag)(O W:List Nat)(H0:Hp)(fps:Nat->List Addr)(σ:U5)(D:U0):Out->Prop
 | .nx s'=>∀fps' σ' H',Rel K O H0 fps' s' σ' H'->(∀j,j∉W->σ'[j]?=σ[j]?/\Kep (fps' j) (fps j))->D.nx σ' H'
 | .bk s'=>∀fps' σ' H',Rel K O H0 fps' s' σ' H'->(∀j,j∉W->σ'[j]?=σ[j]?/\Kep (fps' j) (fps j))->D.bk σ' H'
 | .ct s'=>∀fps' σ' H',Rel K O H0 fps' s' σ' H'->(∀j,j∉W->σ'[j]?=σ[j]?/\Kep (fps' j) (fps j))->D.ct σ' H'
 | .rt l=>∀v fp H',Same H0 H'->Is K H' l v fp->fp.Nodup->(∀p∈fp,H0 p=none/\Wc (H' p))->D.rt v H'
def IB(K:PySem.W.Frag)(O W:List Nat)(f:XS):TS:=fun D σ H=>∃H0 fps s out,Rel K O H0 fps s σ H/\f s=some out/\OutOk K O W H0 fps σ D out
def VS(X:Cx)(O W:List Nat)(st:Stmt)(f:XS):Prop:=PS X st (IB X.K O W f)
def VSs(X:Cx)(O W:List Nat)(st:List Stmt)(f:XS):Prop:=PSs X st (IB X.K O W f)
theorem OutOk.same{O W W':List Nat}{H0:Hp}{fps fps1:Nat->List Addr}{σ σ1:U5}{D:U0}{out:Out}(h:OutOk K O W' H0 fps σ D out)(k:∀j,j∉W'->σ1[j]?=σ[j]?/\Kep (fps1 j) (fps j))(hs:∀j,j∉W'->j∉W):OutOk K O W H0 fps1 σ1 D out:=by
 cases out with
 | nx s'=>exact fun fps' σ' H' r q=>h fps' σ' H' r fun j hj=>⟨(q j (hs j hj)).1.trans (k j hj).1,(q j (hs j hj)).2.trans (k j hj).2⟩
 | bk s'=>exact fun fps' σ' H' r q=>h fps' σ' H' r fun j hj=>⟨(q j (hs j hj)).1.trans (k j hj).1,(q j (hs j hj)).2.trans (k j hj).2⟩
 | ct s'=>exact fun fps' σ' H' r q=>h fps' σ' H' r fun j hj=>⟨(q j (hs j hj)).1.trans (k j hj).1,(q j (hs j hj)).2.trans (k j hj).2⟩
 | rt l=>exact h
theorem OutOk.less{O W:List Nat}{H0 F:Hp}{fps:Nat->List Addr}{σ:U5}{D:U0}{out:Out}(h:OutOk K O W H0 fps σ D out)(e:Same H0 F):OutOk K O W F fps σ D out:=by
 cases out with
 | nx s'=>exact fun fps' σ' H' r q=>h fps' σ' H' (r.less e) q
 | bk s'=>exact fun fps' σ' H' r q=>h fps' σ' H' (r.less e) q
 | ct s'=>exact fun fps' σ' H' r q=>h fps' σ' H' (r.less e) q
 | rt l=>exact fun v fp H' sm i d n=>h v fp H' (e.trans sm) i d fun p hp=>⟨Same.off e (n p hp).1,(n p hp).2⟩
def Yv:XS:=fun s=>some (.nx s)
def Zt(f g:XS):XS:=fun s=>(f s).bind fun o=>match o with | .nx s'=>g s' | r=>some r
def U8(c:XT)(f g:XS):XS:=fun s=>(c s).bind fun k=>if k=true then f s else g s
def Z9(f:XE):XS:=fun s=>(f s).map .rt
def Zs(i:Nat)(f:XE):XS:=fun s=>(f s).map fun l=>.nx (s.set i (some l))
section
variable {X:Cx} {O W W1 W2:List Nat} {st:Stmt} {Ym:List Stmt} {f g:XS} {pos:Pos}
theorem PS.imp{t t':TS}(h:PS X st t)(i:∀D σ H,t' D σ H->t D σ H):PS X st t':=fun pins s σ H D I q=>h pins s σ H D I (i D σ H q)
theorem PSs.imp{t t':TS}(h:PSs X Ym t)(i:∀D σ H,t' D σ H->t D σ H):PSs X Ym t':=fun pins s σ H D I q=>h pins s σ H D I (i D σ H q)
theorem Mz:∀D σ H,IB K O W Yv D σ H->KU D σ H:=fun D σ H ⟨H0,fps,s,out,r,e,k⟩=>by
 cases e
 exact k fps σ H r fun j _=>⟨rfl,Kep.refl _⟩
theorem YB:VSs X O [] [] Yv:=PSs.imp LG Mz
theorem Zm(h:VS X O W st f):VSs X O W [st] f:=P6 h
theorem Zj(h1:VS X O W1 st f)(h2:VSs X O W2 Ym g):VSs X O (W1++W2) (st::Ym) (Zt f g):=PSs.imp (Tw h1 h2) fun D σ H ⟨H0,fps,s,out,r,e,k⟩=>by
 obtain⟨o1,e1,e⟩:=Zf e
 have sub1:∀j,j∉W1++W2->j∉W1:=fun j hj z=>hj (List.mem_append_left _ z)
 have sub2:∀j,j∉W1++W2->j∉W2:=fun j hj z=>hj (List.mem_append_right _ z)
 refine⟨H0,fps,s,o1,r,e1,?_⟩
 cases o1 with
 | nx s1=>
  intro fps1 σ1 H1 r1 q1
  exact⟨H0,fps1,s1,out,r1,e,k.same (fun j hj=>q1 j (sub1 j hj)) sub2⟩
 | bk s1=>cases e;exact fun fps' σ' H' r' q'=>k fps' σ' H' r' fun j hj=>q' j (sub1 j hj)
 | ct s1=>cases e;exact fun fps' σ' H' r' q'=>k fps' σ' H' r' fun j hj=>q' j (sub1 j hj)
 | rt l=>cases e;exact k
theorem XR{c:Expr}{a b:List Stmt}{fc:XT}(hc:VT X c fc)(ha:VSs X O W1 a f)(hb:VSs X O W2 b g):VS X O (W1++W2) (.If c a b pos) (U8 fc f g):=PS.imp (IJ hc ha hb) fun D σ H ⟨H0,fps,s,out,r,e,k⟩=>by
 obtain⟨c,e1,e⟩:=Zf e
 have sub1:∀j,j∉W1++W2->j∉W1:=fun j hj z=>hj (List.mem_append_left _ z)
 have sub2:∀j,j∉W1++W2->j∉W2:=fun j hj z=>hj (List.mem_append_right _ z)
 refine⟨fun _=>False,s,c,fun _ z=>z.elim,r.env,e1,fun H1 s1=>?_⟩
 cases c with
 | true=>
  rw[if_pos rfl] at e ⊢
  exact⟨H0,fps,s,out,r.grow s1,e,k.same (fun j _=>⟨rfl,Kep.refl _⟩) sub1⟩
 | false=>
  rw[if_neg Bool.false_ne_true] at e ⊢
  exact⟨H0,fps,s,out,r.grow s1,e,k.same (fun j _=>⟨rfl,Kep.refl _⟩) sub2⟩
theorem ZH{e:Expr}{fe:XE}(he:VM X e fe):VS X O [] (.Return (some e) pos) (Z9 fe):=PS.imp (Rk he) fun D σ H ⟨H0,fps,s,out,r,e,k⟩=>by
 obtain⟨l,e1,rfl⟩:=map_some e
 exact⟨s,l,r.env,e1,fun v H' fp sm i d n=>k v fp H' (r.same.trans sm) i d fun p hp=>⟨Same.off r.same (n p hp).1,(n p hp).2⟩⟩
theorem Kh{e:Expr}{i:Nat}(he:PE X e (U1 i))(hi:i∈O:=by decide):VS X O [] (.Return (some e) pos) (Z9 (Za i)):=PS.imp (Rk he) fun D σ H ⟨H0,fps,s,out,r,e,k⟩=>by
 obtain⟨l,e1,rfl⟩:=map_some e
 obtain⟨v,a,b⟩:=r.is i l (SV e1)
 exact⟨v,a,k v _ H r.same b (r.nd i hi) (r.own i hi)⟩
theorem Oq{t:TE}{i:Nat}{fe:XE}(ht:∀σ H Q,tM K fe σ H Q->t σ H Q):∀D σ H,IB K O [i] (Zs i fe) D σ H->QM t (US i) D σ H:=fun D σ H ⟨H0,fps,s,out,r,e,k⟩=>by
 obtain⟨l,e1,rfl⟩:=map_some e
 refine ht σ H _ ⟨s,l,r.env,e1,fun v H' fp sm is d n=>?_⟩
 refine k _ _ H' ((r.grow sm).set (i:=i) is (fun _=>⟨d,fun p hp=>⟨Same.off r.same (n p hp).1,(n p hp).2⟩⟩) fun j _ _ p hp z=>r.dom j p z (n p hp).1) fun j hj=>?_
 have:j≠i:=by simpa using hj
 exact⟨by rw[List.getElem?_set,if_neg (Ne.symm this)],.inl (ZT this)⟩
theorem Zy{i:Nat}{x:Str}{e:Expr}{fe:XE}{pos':Pos}(hN:X.N.Nodup)(hi:X.N[i]?=some x)(hx:IE X.env.scope x)(he:VM X e fe)(hs:swapsWith e (some (.Name x pos')) pos.line X.env=pure false:=by rfl)(hf:X.fn x=true\/X.env.scope.names.lookup x=some .local:=by first | exact .inl rfl | exact .inr rfl | assumption) :
  VS X O [i] (.Assign [.Name x pos'] e pos) (Zs i fe):=PS.imp (Jx hN hi hx he hs hf) (Oq fun _ _ _ h=>h)
end
def Wt(T:Tgt)(fb:XS):List PV->ZO->Option Out
 | [],s=>some (.nx s)
 | l::r,s=>(Xw T l s).bind fun s1=>(fb s1).bind fun o=>match o with | .nx s2=>Wt T fb r s2 | .ct s2=>Wt T fb r s2 | .bk s2=>some (.nx s2) | .rt v=>some (.rt v)
def Wg(O:List Nat)(fi:XL)(T:Tgt)(fb:XS):XS:=fun s=>(fi (Yz O s)).bind fun ls=>Wt T fb ls s
theorem Rel.setAll{O:List Nat}{H0 H:Hp}:∀{is:List Nat}{ls:List PV}{vs:List V}{fs:List Addr}{fps:Nat->List Addr}{s:ZO}{σ:U5},Rel K O H0 fps s σ H->Iss K H ls vs fs->ls.length=is.length->(∀i∈is,i∉O)->(∀i∈O,∀p∈fps i,p∉fs)->
  ∃fps',Rel K O H0 fps' (VL.setAll is ls s) (YO is vs σ) H/\∀j,j∉is->(YO is vs σ)[j]?=σ[j]?/\Kep (fps' j) (fps j)
 | [],ls,vs,fs,fps,s,σ,r,_,_,_,_=>⟨fps,by unfold VL.setAll YO;exact r,fun j _=>⟨by unfold YO;rfl,Kep.refl _⟩⟩
 | i::is,[],vs,fs,fps,s,σ,r,_,hl,_,_=>by simp at hl
 | i::is,l::ls,vs,fs,fps,s,σ,r,hi,hl,hO,hd=>by
  obtain⟨x,rr,f1,f2,rfl,h1,h2,rfl⟩:=hi.inv
  have hiO:=hO i List.mem_cons_self
  have r1:=r.set (i:=i) h1 (fun z=>absurd z hiO) fun j hj hjo p hp z=>by
   rcases hjo with hjo | hjo
   ·exact hd j hjo p z (List.mem_append_left _ hp)
   ·exact absurd hjo hiO
  obtain⟨fps',r2,q2⟩:=Rel.setAll (is:=is) r1 h2 (by simpa using hl) (fun j hj=>hO j (List.mem_cons_of_mem _ hj)) fun j hj p hp z=>by
   have hji:j≠i:=fun e=>hiO (by rw[<-e];exact hj)
   rw[ZT hji] at hp
   exact hd j hj p hp (List.mem_append_right _ z)
  refine⟨fps',r2,fun j hj=>?_⟩
  have hji:j≠i:=fun e=>hj (e▸List.mem_cons_self)
  obtain⟨a,b⟩:=q2 j (fun z=>hj (List.mem_cons_of_mem _ z))
  exact⟨a.trans (by rw[List.getElem?_set,if_neg (Ne.symm hji)]),b.trans (.inl (ZT hji))⟩
section
variable {O W:List Nat} {T:Tgt} {fb:XS}
theorem MA{H1:Hp}{fps:Nat->List Addr}{s:ZO}{σ:U5}{D:U0}{J:It}{ls:List PV}{out:Out}(r:Rel K O (WD H1 (Ow O fps)) fps s σ H1)(jis:Gu K (Ow O fps) H1 J ls)(e:Wt T fb ls s=some out)(hT:∀i∈T.slots,i∉O)
  (k:OutOk K O (T.slots++W) (WD H1 (Ow O fps)) fps σ D out):Gp (gT K T) (IB K O W fb) D σ J H1:=by
 have subT:∀j,j∉T.slots++W->j∉T.slots:=fun j hj z=>hj (List.mem_append_left _ z)
 have subW:∀j,j∉T.slots++W->j∉W:=fun j hj z=>hj (List.mem_append_right _ z)
 refine⟨fun i m σ' H'=>m=ls.length-i/\i<=ls.length/\∃fps' s',Rel K O (WD H1 (Ow O fps)) fps' s' σ' H'/\Wt T fb (ls.drop i) s'=some out/\∀j,j∉T.slots++W->σ'[j]?=σ[j]?/\Kep (fps' j) (fps j),
  ⟨ls.length,by simp,Nat.zero_le _,fps,s,r,e,fun j _=>⟨rfl,Kep.refl _⟩⟩,?_⟩
 rintro i m σ' H' ⟨rfl,hi,fps',s',r',e',q'⟩
 have ab:Ab (Ow O fps) H1 H':=fun b o h n=>r'.same b o (by unfold WD;rw[if_neg n];exact h)
 cases q:ls.drop i with
 | nil=>
  have hil:i=ls.length:=by
   have:=congrArg List.length q
   rw[List.length_drop] at this
   simp at this;omega
  subst hil
  rw[q] at e'
  cases e'
  exact .inl ⟨jis.stop H' ab,k fps' σ' H' r' q'⟩
 | cons l rr=>
  obtain⟨hl,hr⟩:=TR q
  have hilt:i<ls.length:=(List.getElem?_eq_some_iff.mp hl).1
  rw[q] at e'
  unfold Wt at e'
  obtain⟨sb,eb,e'⟩:=Zf e'
  obtain⟨o,eo,e'⟩:=Zf e'
  refine .inr ⟨jis.go H' i l ab hl,fun σ2 H2=>∃fps2 s2,Rel K O (WD H1 (Ow O fps)) fps2 s2 σ2 H2/\Wt T fb (ls.drop (i+1)) s2=some out/\∀j,j∉T.slots++W->σ2[j]?=σ[j]?/\Kep (fps2 j) (fps j),
   fun σ2 H2 h2=>⟨ls.length-(i+1),by omega,rfl,hilt,h2⟩,fun x H2 y=>?_⟩
  obtain⟨s2,fx,ix,nx⟩:=jis.yld H' i l x H2 ab hl y
  obtain⟨bl,bv,bf,rfl,bi,blen,bsub,buse⟩:=Pa (K:=K) ix eb
  obtain⟨fps3,r3,q3⟩:=Rel.setAll (is:=T.slots) (r'.grow s2) bi blen hT fun j hj p hp z=>by
   obtain⟨n1,n2⟩:=nx p (bsub p z)
   have:=(r'.own j hj p hp).1
   unfold WD at this;rw[if_neg n2] at this
   exact n1 this
  refine buse _ _ ⟨_,fps3,_,o,r3,eo,?_⟩
  have keep:∀j,j∉T.slots++W->(YO T.slots bv σ')[j]?=σ[j]?/\Kep (fps3 j) (fps j):=fun j hj=>⟨(q3 j (subT j hj)).1.trans (q' j hj).1,(q3 j (subT j hj)).2.trans (q' j hj).2⟩
  cases o with
  | nx s4=>exact fun fps4 σ4 H4 r4 q4=>⟨fps4,s4,r4,by rw[hr];exact e',fun j hj=>⟨(q4 j (subW j hj)).1.trans (keep j hj).1,(q4 j (subW j hj)).2.trans (keep j hj).2⟩⟩
  | ct s4=>exact fun fps4 σ4 H4 r4 q4=>⟨fps4,s4,r4,by rw[hr];exact e',fun j hj=>⟨(q4 j (subW j hj)).1.trans (keep j hj).1,(q4 j (subW j hj)).2.trans (keep j hj).2⟩⟩
  | bk s4=>
   cases e'
   exact fun fps4 σ4 H4 r4 q4=>k fps4 σ4 H4 r4 fun j hj=>⟨(q4 j (subW j hj)).1.trans (keep j hj).1,(q4 j (subW j hj)).2.trans (keep j hj).2⟩
  | rt v=>
   cases e'
   exact k
end
section
variable {X:Cx} {O W:List Nat} {tg iter:Expr} {body:List Stmt} {fi:XL} {T:Tgt} {fb:XS} {pos:Pos}
theorem Wu(hp:PassesOwn (model X.prog X.w) X.A X.env X.xe)(hc:X.calm=true)(hi:VI X tg iter fi)(hg:PG X tg (gT X.K T))(hb:VSs X O W body fb)(hT:∀i∈T.slots,i∉O:=by decide)
  (hs:∀x,foldedSetIterable iter X.env x=pure x:=by intro _;rfl):VS X O (T.slots++W) (.For tg iter body [] pos) (Wg O fi T fb):=PS.imp (JA hp hc hi hg hb hs) fun D σ H ⟨H0,fps,s,out,r,e,k⟩=>by
 obtain⟨ls,e1,e⟩:=Zf e
 refine⟨Ow O fps,Yz O s,ls,r.owMut,r.envO,e1,fun J H1 s1 jis=>?_⟩
 exact MA (r.grow s1).frame jis e hT (k.less (r.grow s1).under)
end
def Ys(c:XT)(fb:XS):Nat->ZO->Option Out
 | 0,_=>none
 | n+1,s=>(c s).bind fun k=>if k=true then(fb s).bind fun o=>match o with | .nx s2=>Ys c fb n s2 | .ct s2=>Ys c fb n s2 | .bk s2=>some (.nx s2) | .rt v=>some (.rt v) else some (.nx s)
theorem WN{c:XT}{fb:XS}:∀{n:Nat}{s:ZO}{o:Out},Ys c fb n s=some o->Ys c fb (n+1) s=some o
 | 0,_,_,h=>by cases h
 | n+1,s,o,h=>by
  unfold Ys at h ⊢
  obtain⟨k,e1,h⟩:=Zf h
  rw[e1]
  cases k with
  | false=>exact h
  | true=>
   rw[if_pos rfl] at h
   obtain⟨o1,e2,h⟩:=Zf h
   simp only[Option.bind_some,if_true,e2]
   cases o1 with
   | nx s2=>exact WN h
   | ct s2=>exact WN h
   | bk s2=>exact h
   | rt v=>exact h
theorem S3{c:XT}{fb:XS}{n m:Nat}{s:ZO}{o:Out}(h:Ys c fb n s=some o)(hm:n<=m):Ys c fb m s=some o:=by
 induction m with
 | zero=>
  have:n=0:=by omega
  subst this;exact h
 | succ m ih=>
  by_cases e:n=m+1
  ·subst e;exact h
  ·exact WN (ih (by omega))
open Classical in
noncomputable def WO(c:XT)(fb:XS):XS:=fun s=>if h:∃n,(Ys c fb n s).isSome=true then Ys c fb h.choose s else none
theorem S4{c:XT}{fb:XS}{n:Nat}{s:ZO}{o:Out}(h:Ys c fb n s=some o):WO c fb s=some o:=by
 have ex:∃n,(Ys c fb n s).isSome=true:=⟨n,by rw[h];rfl⟩
 unfold WO;rw[dif_pos ex]
 obtain⟨o',e⟩:=Option.isSome_iff_exists.mp ex.choose_spec
 rw[e]
 rcases Nat.le_total n ex.choose with hl | hl
 ·rw[S3 h hl] at e;exact e.symm
 ·rw[S3 e hl] at h;exact h
section
variable {X:Cx} {O W:List Nat} {c:Expr} {body:List Stmt} {fc:XT} {fb:XS} {pos:Pos}
theorem Qq(hp:PassesOwn (model X.prog X.w) X.A X.env X.xe)(hc:VT X c fc)(hb:VSs X O W body fb):VS X O W (.While c body [] pos) (WO fc fb):=PS.imp (N0 hp hc hb) fun D σ H ⟨H0,fps,s,out,r,e,k⟩=>by
 unfold WO at e
 split at e
 case isFalse=>cases e
 rename_i ex
 generalize ex.choose=n at e
 refine⟨fun m σ' H'=>∃fps' s',Rel X.K O H0 fps' s' σ' H'/\Ys fc fb m s'=some out/\∀j,j∉W->σ'[j]?=σ[j]?/\Kep (fps' j) (fps j),⟨n,fps,s,r,e,fun j _=>⟨rfl,Kep.refl _⟩⟩,?_⟩
 rintro m σ' H' ⟨fps',s',r',e',q'⟩
 cases m with
 | zero=>cases e'
 | succ m=>
  unfold Ys at e'
  obtain⟨b,e1,e'⟩:=Zf e'
  refine⟨fun _=>False,s',b,fun _ z=>z.elim,r'.env,e1,fun H2 s2=>?_⟩
  cases b with
  | false=>
   rw[if_neg Bool.false_ne_true] at e' ⊢
   cases e'
   exact k fps' σ' H2 (r'.grow s2) q'
  | true=>
   rw[if_pos rfl] at e' ⊢
   obtain⟨o,eo,e'⟩:=Zf e'
   refine⟨fun σ2 H2=>∃fps2 s2,Rel X.K O H0 fps2 s2 σ2 H2/\Ys fc fb m s2=some out/\∀j,j∉W->σ2[j]?=σ[j]?/\Kep (fps2 j) (fps j),fun σ2 H2 h2=>⟨m,Nat.lt_succ_self m,h2⟩,H0,fps',s',o,r'.grow s2,eo,?_⟩
   cases o with
   | nx s4=>exact fun fps4 σ4 H4 r4 q4=>⟨fps4,s4,r4,e',fun j hj=>⟨(q4 j hj).1.trans (q' j hj).1,(q4 j hj).2.trans (q' j hj).2⟩⟩
   | ct s4=>exact fun fps4 σ4 H4 r4 q4=>⟨fps4,s4,r4,e',fun j hj=>⟨(q4 j hj).1.trans (q' j hj).1,(q4 j hj).2.trans (q' j hj).2⟩⟩
   | bk s4=>
    cases e'
    exact fun fps4 σ4 H4 r4 q4=>k fps4 σ4 H4 r4 fun j hj=>⟨(q4 j hj).1.trans (q' j hj).1,(q4 j hj).2.trans (q' j hj).2⟩
   | rt v=>cases e';exact k
end
end VL
namespace VL
open PySem PySem.Spec PyProof.Rows L2
variable {K:PySem.W.Frag}
section
variable {O:List Nat} {H0 H H':Hp} {fps:Nat->List Addr} {s:ZO} {σ:U5}
theorem Rel.lst_at(r:Rel K O H0 fps s σ H){i:Nat}(hi:i∈O){m:List PV}(e:s[i]?=some (some (.lst m))):∃p xs fq,σ[i]?=some (some (.ref p))/\H p=some (.lst xs)/\Iss K H m xs fq/\fps i=p::fq:=by
 obtain⟨v,a,b⟩:=r.is i _ e
 obtain⟨p,xs,fq,rfl,hp,hm,ef⟩:=b.lst_inv
 exact⟨p,xs,fq,a,hp,hm,ef⟩
theorem Uy{α:Type}{l:List α}{i:Nat}{a:α}(h:l[i]?=some a):i<l.length:=(List.getElem?_eq_some_iff.mp h).1
theorem TK.upd'{p:Addr}{o:HO}(mu:Wc (H p)):K5 H (L2.upd H p o):=⟨fun b xs h=>by
 rw[upd_ne (fun z=>by rw[z] at h;rw[h] at mu;exact mu)];exact h,fun b o xs h=>by
 rw[upd_ne (fun z=>by rw[z] at h;rw[h] at mu;exact mu)];exact h,fun b o x h=>by
 rw[upd_ne (fun z=>by rw[z] at h;rw[h] at mu;exact mu)];exact h⟩
theorem RdK.upd_ne{p q:Addr}{o:HO}(ne:q≠p):RdK H (L2.upd H p o) q:=RdK.of fun u hu=>by rw[L2.upd_ne ne];exact hu
theorem Rel.relist(r:Rel K O H0 fps s σ H){i:Nat}(hi:i∈O){m m':List PV}(e:s[i]?=some (some (.lst m))){p:Addr}{fq fq':List Addr}{xs':List V}(ef:fps i=p::fq)(hv:σ[i]?=some (some (.ref p)))
  (h':Iss K H m' xs' fq') (nd:(p::fq').Nodup) (hf:∀q∈fq',q∈fq\/((H0 q=none/\Wc (H q))/\∀j,q∉fps j)):Rel K O H0 (VX fps s.length i (p::fq')) (s.set i (some (.lst m'))) σ (L2.upd H p (.lst xs')):=by
 have hp:p∈fps i:=by rw[ef];exact List.mem_cons_self
 have mu:=(r.own i hi p hp).2
 have np:p∉fq':=(List.nodup_cons.mp nd).1
 refine r.mutate hi hp hv (Uy e) (Is.lst Zw (Iss.tr (TK.upd' mu) _ _ _ (fun q hq=>RdK.upd_ne fun z=>np (z▸hq)) h')) nd (fun q hq=>?_) (fun j hj q hq z=>?_) True.intro
 ·rcases List.mem_cons.mp hq with rfl | hq
  ·exact⟨(r.own i hi q hp).1,by rw[Zw];exact True.intro⟩
  ·have ne:q≠p:=fun z=>np (z▸hq)
   rw[L2.upd_ne ne]
   rcases hf q hq with h | h
   ·exact r.own i hi q (by rw[ef];exact List.mem_cons_of_mem _ h)
   ·exact h.1
 ·rcases List.mem_cons.mp hq with rfl | hq
  ·exact r.dis i hi j hj q hp z
  ·rcases hf q hq with h | h
   ·exact r.dis i hi j hj q (by rw[ef];exact List.mem_cons_of_mem _ h) z
   ·exact h.2 j z
end
def NV(s:ZO)(i:Nat):Option (List PV):=match s[i]? with | some (some (.lst m))=>some m | _=>none
def NW:PV->Option Int
 | .int k=>some k
 | _=>none
def HJ:PV->Option (List PV)
 | .lst k=>some k
 | _=>none
theorem VY{s:ZO}{i:Nat}{m:List PV}(h:NV s i=some m):s[i]?=some (some (.lst m)):=by
 unfold NV at h;split at h
 ·cases h;assumption
 ·cases h
theorem VZ{a:PV}{k:Int}(h:NW a=some k):a = .int k:=by
 unfold NW at h;split at h
 ·cases h;rfl
 ·cases h
theorem MB{a:PV}{k:List PV}(h:HJ a=some k):a = .lst k:=by
 unfold HJ at h;split at h
 ·cases h;rfl
 ·cases h
def gd(c:Bool):Option Unit:=if c=true then some () else none
theorem Tk{c:Bool}{u:Unit}(h:gd c=some u):c=true:=by
 unfold gd at h;split at h
 ·assumption
 ·cases h
def XZ(i:Nat)(f:XE):XS:=fun s=>(f s).bind fun l=>(NV s i).bind fun m=>(gd (decide (m.length<=10000))).bind fun _=>some (.nx (s.set i (some (.lst (m++[l])))))
def Wv(i:Nat)(fk:XE)(f:XE):XS:=fun s=>(fk s).bind fun k=>(f s).bind fun l=>(NW k).bind fun k=>(NV s i).bind fun m=>(gd (ZV m&&ZR l&&decide (0<=k/\k<=1000000/\m.length<=10000))).bind fun _=>some (.nx (s.set i (some (.lst (m.take k.toNat++l::m.drop k.toNat)))))
def Uz(i:Nat)(fk:XE)(f:XE):XS:=fun s=>(f s).bind fun l=>(fk s).bind fun k=>(NW k).bind fun k=>(NV s i).bind fun m=>(gd (ZV m&&ZR l)).bind fun _=>(R5 m.length k).map fun j=>.nx (s.set i (some (.lst (m.set j l))))
section
variable {X:Cx} {O:List Nat} {i:Nat} {st:Stmt} {f fk:XE}
theorem GF{H:Hp}{p:Addr}{xs:List V}(h:H p=some (.lst xs)):Gk K "list" (.ref p) H:=.inl ⟨rfl,_,SqL.of h⟩
theorem Os{s:ZO}{σ:U5}{fps:Nat->List Addr}{fp:List Addr}:∀j,j∉[i]->σ[j]?=σ[j]?/\Kep (VX fps s.length i fp j) (fps j):=fun j hj=>⟨rfl,.inl (ZT (by simpa using hj))⟩
theorem S5(h:PS X st (P7 (Gm X.K "list" Oc (U1 i) (Vn (tM X.K f) N3))))(hi:i∈O:=by decide):VS X O [i] st (XZ i f):=PS.imp h fun D σ H ⟨H0,fps,s,out,r,e,k⟩=>by
 obtain⟨l,e1,e⟩:=Zf e
 obtain⟨m,em,e⟩:=Zf e
 obtain⟨_,eg,e⟩:=Zf e
 have em:=VY em
 have hlen:=of_decide_eq_true (Tk eg)
 cases e
 obtain⟨p,xs,fq,hv,hp,hm,ef⟩:=r.lst_at hi em
 refine⟨.ref p,hv,GF hp,s,l,r.env,e1,fun y H2 fe s2 i2 d2 n2=>?_⟩
 refine⟨p,xs,y,rfl,rfl,s2 _ _ hp,by rw[hm.len];exact lt_size (by omega),?_⟩
 have r2:=r.grow s2
 have fr:∀q∈fe,∀j,q∉fps j:=fun q hq j z=>r.dom j q z (n2 q hq).1
 refine k _ _ _ (r2.relist hi em ef hv ((hm.mono s2).append (Iss.one i2)) ?_ fun q hq=>?_) Os
 ·have nd:=r.nd i hi
  rw[ef] at nd;rw[<-List.cons_append]
  exact List.nodup_append.mpr ⟨nd,d2,fun a ha b hb z=>fr b hb i (by rw[ef,<-z];exact ha)⟩
 ·rcases List.mem_append.mp hq with h | h
  ·exact .inl h
  ·exact .inr ⟨⟨Same.off r.same (n2 q h).1,(n2 q h).2⟩,fr q h⟩
theorem Iss.pureEq{H:Hp}{l:List PV}{xs:List V}{fp:List Addr}(h:Iss K H l xs fp)(hp:ZV l=true):Iss K H l xs []:=by
 have:=Iss.pure _ _ _ hp h
 subst this;exact h
theorem Pb{l:List PV}(n:Nat)(h:ZV l=true):ZV (l.take n)=true:=by
 rw[We,List.all_eq_true] at *
 exact fun x hx=>h x (List.mem_of_mem_take hx)
theorem Pc{l:List PV}(n:Nat)(h:ZV l=true):ZV (l.drop n)=true:=by
 rw[We,List.all_eq_true] at *
 exact fun x hx=>h x (List.mem_of_mem_drop hx)
theorem S6(h:PS X st (P7 (Gm X.K "list" Oe (U1 i) (Vn (tF X.K fk) (Vn (tF X.K f) N3)))))(hi:i∈O:=by decide):VS X O [i] st (Wv i fk f):=PS.imp h fun D σ H ⟨H0,fps,s,out,r,e,k⟩=>by
 obtain⟨kk,e0,e⟩:=Zf e
 obtain⟨l,e1,e⟩:=Zf e
 obtain⟨ki,ek,e⟩:=Zf e
 obtain⟨m,em,e⟩:=Zf e
 obtain⟨_,eg,e⟩:=Zf e
 rw[VZ ek] at e0;have em:=VY em;have hc:=Tk eg;simp only[Bool.and_eq_true,decide_eq_true_eq] at hc
 obtain⟨⟨pm,pl⟩,k0,k1,hlen⟩:=hc
 cases e
 obtain⟨p,xs,fq,hv,hp,hm,ef⟩:=r.lst_at hi em
 refine⟨.ref p,hv,GF hp,fun _=>False,s,_,fun _ z=>z.elim,r.env,e0,fun z H1 fz s1 i1 _=>⟨fun _=>False,s,l,fun _ z=>z.elim,r.env.mono s1,e1,fun y H2 fe s2 i2 _=>?_⟩⟩
 have s12:=s1.trans s2
 obtain⟨rfl,_⟩:=i1.int_inv
 have:=Is.pure _ _ _ pl i2
 subst this
 refine⟨p,xs,ki,y,rfl,rfl,s12 _ _ hp,k0,by omega,by rw[hm.len];exact lt_size (by omega),?_⟩
 have hm':=(hm.mono s12).pureEq pm
 obtain⟨f1,a1,_⟩:=hm'.take ki.toNat
 obtain⟨f2,a2,_⟩:=hm'.drop ki.toNat
 have a1:=a1.pureEq (Pb _ pm)
 have a2:=a2.pureEq (Pc _ pm)
 exact k _ _ _ ((r.grow s12).relist hi em ef hv (a1.append (Iss.cons i2 a2)) (by simp) fun q hq=>by simp at hq) Os
theorem MC(h:PS X st (QM (tF X.K f) (Jw (U1 i) (tF X.K fk) N8)))(hi:i∈O:=by decide):VS X O [i] st (Uz i fk f):=PS.imp h fun D σ H ⟨H0,fps,s,out,r,e,k⟩=>by
 obtain⟨l,e0,e⟩:=Zf e
 obtain⟨kk,e1,e⟩:=Zf e
 obtain⟨ki,ek,e⟩:=Zf e
 obtain⟨m,em,e⟩:=Zf e
 obtain⟨_,eg,e⟩:=Zf e
 rw[VZ ek] at e1;have em:=VY em;have hc:=Tk eg;simp only[Bool.and_eq_true] at hc
 obtain⟨pm,pl⟩:=hc
 obtain⟨j,ej,rfl⟩:=map_some e
 obtain⟨p,xs,fq,hv,hp,hm,ef⟩:=r.lst_at hi em
 refine⟨fun _=>False,s,l,fun _ z=>z.elim,r.env,e0,fun y H1 fy s1 i1 _=>?_⟩
 refine⟨.ref p,hv,fun _=>False,s,_,fun _ z=>z.elim,r.env.mono s1,e1,fun z H2 fz s2 i2 _=>?_⟩
 have s12:=s1.trans s2
 obtain⟨rfl,_⟩:=i2.int_inv
 have:=Is.pure _ _ _ pl i1
 subst this
 refine⟨p,xs,ki,j,rfl,rfl,s12 _ _ hp,by rw[hm.len];exact ej,?_⟩
 exact k _ _ _ ((r.grow s12).relist hi em ef hv (Iss.setP j pm pl ((hm.mono s12).pureEq pm) (i1.mono s2)) (by simp) fun q hq=>by simp at hq) Os
end
theorem Iss.setRow{H:Hp}{o:List V}:∀{m:List PV}{xs:List V}{fq:List Addr}{j:Nat}{n n':List PV}{q:Addr},Iss K H m xs fq->m[j]?=some (.lst n)->xs[j]?=some (.ref q)->fq.Nodup->Wc (H q)->ZV n=true->Iss K (L2.upd H q (.lst o)) n' o []->
  Iss K (L2.upd H q (.lst o)) (m.set j (.lst n')) xs fq
 | [],_,_,_,_,_,_,_,e,_,_,_,_,_=>by simp at e
 | a::m,xs,fq,0,n,n',q,h,e,ex,nd,mu,pn,h'=>by
  obtain⟨x,r,f1,f2,rfl,h1,h2,rfl⟩:=h.inv
  simp at e ex
  subst e ex
  obtain⟨p',zs,fz,e,hp,hz,rfl⟩:=h1.lst_inv
  cases e
  have:=Iss.pure _ _ _ pn hz
  subst this
  have nq:q∉f2:=(List.nodup_cons.mp nd).1
  exact Iss.cons (Is.lst Zw h') (Iss.tr (TK.upd' mu) _ _ _ (fun z hz=>RdK.upd_ne fun e=>nq (e▸hz)) h2)
 | a::m,xs,fq,j+1,n,n',q,h,e,ex,nd,mu,pn,h'=>by
  obtain⟨x,r,f1,f2,rfl,h1,h2,rfl⟩:=h.inv
  simp at e ex
  obtain⟨nd1,nd2,nd3⟩:=List.nodup_append.mp nd
  obtain⟨y,fy,hy,iy,suby⟩:=h2.get e
  rw[ex] at hy;cases hy
  obtain⟨p',zs,fz,e',_,_,rfl⟩:=iy.lst_inv
  cases e'
  have nq:q∉f1:=fun z=>nd3 q z q (suby q List.mem_cons_self) rfl
  exact Iss.cons (Is.tr (TK.upd' mu) _ _ _ (fun z hz=>RdK.upd_ne fun e=>nq (e▸hz)) h1) (Iss.setRow h2 e ex nd2 mu pn h')
def Ww(i:Nat)(fa fb:XE)(f:XE):XS:=fun s=>(f s).bind fun l=>(fa s).bind fun a=>(fb s).bind fun b=>(NW a).bind fun a=>(NW b).bind fun b=>(NV s i).bind fun m=>(R5 m.length a).bind fun j=>(m[j]?).bind fun r=>(HJ r).bind fun n=>
 (gd (ZV n&&ZR l)).bind fun _=>(R5 n.length b).map fun c=>.nx (s.set i (some (.lst (m.set j (.lst (n.set c l))))))
end VL
namespace VL
open PySem PySem.Spec PyProof.Rows L2
variable {K:PySem.W.Frag}
section
variable {X:Cx} {a b c d:Expr} {fa fb fc fd:XE} {pos:Pos}
theorem MD(hu:X.A.units+64<cLine)(ha:VE X a fa)(hb:VE X b fb):VE X (.Compare a [.Eq] [b] pos) (Zi (YJ false) fa fb):=Mi (Mv hu) (Q7 false) ha hb (Vs _)
theorem V0(hu:X.A.units+64<cLine)(ha:VE X a fa)(hb:VE X b fb):VT X (.Compare a [.Eq] [b] pos) (xB (Zi (YJ false) fa fb)):=Vw (Mv hu) (Q7 false) ha hb (Vs _)
theorem Ot(hu:X.A.units+64<cLine)(ha:VE X a fa)(hb:VE X b fb):VT X (.Compare a [.NotEq] [b] pos) (xB (Zi (YJ true) fa fb)):=Vw (J6 hu) (Q7 true) ha hb (Vs _)
theorem Hv(hu:X.A.units+64<cLine)(ha:VE X a fa)(hb:VE X b fb)(hm:behindInMarks .In b=false:=by with_unfolding_all rfl):VT X (.Compare a [.In] [b] pos) (xB (Zi (RF false) fa fb)):=Vw (J8 hu) (Mw false) ha hb hm
theorem Qr(hu:X.A.units+64<cLine)(ha:VE X a fa)(hb:VE X b fb)(hm:behindInMarks .NotIn b=false:=by with_unfolding_all rfl):VT X (.Compare a [.NotIn] [b] pos) (xB (Zi (RF true) fa fb)):=Vw (Nc hu) (Mw true) ha hb hm
def Jc:PV->Option Bool
 | .bl c=>some c
 | _=>none
end
section
variable {X:Cx} {a b:Expr} {fa fb:XE} {pos:Pos}
def gCat:PV->PV->Option PV
 | .lst m,.lst n=>if m.length+n.length<=10000 then some (.lst (m++n)) else none
 | _,_=>none
def ME:PV->PV->Option PV
 | .lst m,.int k=>if ZV m=true/\-1000000<=k/\k<=1000000/\m.length*k.toNat<=10000 then some (.lst (List.replicate k.toNat m).flatten) else none
 | _,_=>none
theorem Iss.rep{H:Hp}{m:List PV}{xs:List V}(h:Iss K H m xs []):∀k:Nat,Iss K H (List.replicate k m).flatten (List.replicate k xs).flatten []
 | 0=>Iss.nil
 | k+1=>by
  rw[List.replicate_succ,List.replicate_succ,List.flatten_cons,List.flatten_cons]
  exact h.append (Iss.rep h k)
theorem J9(ha:VE X a fa)(hb:VE X b fb):VM X (.BinOp a .Mult b pos) (Zi ME fa fb):=PE.imp (K1 JR ha hb) fun σ H Q ⟨s,l,env,e,k⟩=>by
 obtain⟨x',y',e1,e2,e⟩:=Qk e
 refine⟨fun _=>False,s,x',fun _ z=>z.elim,env,e1,fun x H1 f1 s1 i1 _=>⟨fun _=>False,s,y',fun _ z=>z.elim,env.mono s1,e2,fun y H2 f2 s2 i2 _=>?_⟩⟩
 cases x' with
 | lst m=>cases y' with
  | int n=>
   have e:(if ZV m=true/\-1000000<=n/\n<=1000000/\m.length*n.toNat<=10000 then some (PV.lst (List.replicate n.toNat m).flatten) else none)=some l:=e
   split at e
   case isFalse=>cases e
   rename_i hl
   cases e
   obtain⟨p,xs,fq,rfl,hp,hi,rfl⟩:=i1.lst_inv
   refine⟨p,n,xs,rfl,i2.int_inv.1,s2 _ _ hp,by omega,by omega,by rw[hi.len];exact Nat.le_of_lt (lt_size hl.2.2.2),fun q hq=>?_⟩
   refine k _ _ [q] (s1.trans (s2.trans (Same.new hq _))) (Is.lst Zw ((Iss.rep ((hi.mono s2).pureEq hl.1) n.toNat).mono (Same.new hq _))) (by simp) fun r hr=>?_
   rw[List.mem_singleton.mp hr]
   exact⟨Same.off (s1.trans s2) hq,by rw[Zw];exact True.intro⟩
  | _=>cases e
 | _=>cases e
end
theorem Iss.fps{H:Hp}:∀{ls:List PV}{vs:List V}{fp:List Addr},Iss K H ls vs fp->∃fps:Nat->List Addr,(∀(i:Nat) l,ls[i]?=some l->∃v,vs[i]?=some v/\Is K H l v (fps i))/\∀i,ls.length<=i->fps i=[]
 | [],vs,fp,h=>⟨fun _=>[],fun i l e=>by simp at e,fun _ _=>rfl⟩
 | a::ls,vs,fp,h=>by
  obtain⟨x,r,f1,f2,rfl,h1,h2,rfl⟩:=h.inv
  obtain⟨fps,p1,p2⟩:=h2.fps
  refine⟨fun i=>match i with | 0=>f1 | k+1=>fps k,fun i l e=>?_,fun i hi=>?_⟩
  ·cases i with
   | zero=>simp at e;subst e;exact⟨x,rfl,h1⟩
   | succ k=>
    obtain⟨v,a,b⟩:=p1 k l (by simpa using e)
    exact⟨v,by simpa using a,b⟩
  ·cases i with
   | zero=>simp at hi
   | succ k=>exact p2 k (by simpa using hi)
def ZY(m:Nat)(ls:List PV):ZO:=ls.map some++List.replicate (m-ls.length) none
def XC:Out->Option PV
 | .rt v=>some v
 | .nx _=>some .non
 | _=>none
def YZ(m:Nat)(f:XS):List PV->Option PV:=fun ls=>(f (ZY m ls)).bind XC
theorem Ki{N:List Str}{n:Nat}{O W:List Nat}{f:XS}{vs:List V}{H:Hp}{Q:VK}{E:XK}(hO:∀i∈O,n<=i)(h:YI K (YZ N.length f) n vs H Q E):IB K O W f { nx:=fun _ H'=>Q .non H',rt:=Q } (L2.start N vs) H:=by
 obtain⟨hl,ls,fp,l,hi,e,q⟩:=h
 obtain⟨out,e1,e2⟩:=Zf e
 obtain⟨fps,p1,p2⟩:=hi.fps
 have hlen:=hi.len
 have hout:∀i:Nat,ls.length<=i->∀l,(ZY N.length ls)[i]?≠some (some l):=fun i hi l z=>by
  unfold ZY at z;rw[List.getElem?_append_right (by simpa using hi),List.getElem?_replicate] at z
  split at z<;>cases z
 have rel:Rel K O H fps (ZY N.length ls) (L2.start N vs) H:=by
  refine⟨Same.refl H,?_,fun i a z=>?_,fun i hne=>?_,fun i hi=>?_,fun i hi p hp=>?_,fun i hi j hj p hp=>?_⟩
  ·unfold ZY L2.start;simp[hlen]
  ·by_cases hil:i<ls.length
   ·unfold ZY at z
    rw[List.getElem?_append_left (by simpa using hil),List.getElem?_map] at z
    cases q:ls[i]? with
    | none=>rw[q] at z;cases z
    | some b=>
     rw[q] at z;cases z
     obtain⟨v,a1,b1⟩:=p1 i a q
     refine⟨v,?_,b1⟩
     unfold L2.start
     rw[List.getElem?_append_left (by simpa [hlen] using hil),List.getElem?_map,a1];rfl
   ·exact absurd z (hout i (by omega) a)
  ·by_cases hil:i<ls.length
   ·exact absurd (by unfold ZY;rw[List.getElem?_append_left (by simpa using hil),List.getElem?_map,List.getElem?_eq_getElem hil];rfl) (hne ls[i])
   ·exact p2 i (by omega)
  ·rw[p2 i (by have:=hO i hi;omega)];exact List.nodup_nil
  ·rw[p2 i (by have:=hO i hi;omega)] at hp;simp at hp
  ·rw[p2 i (by have:=hO i hi;omega)] at hp;simp at hp
 refine⟨H,fps,ZY N.length ls,out,rel,e1,?_⟩
 cases out with
 | nx s'=>
  cases e2
  exact fun fps' σ' H' r' _=>q .non H' [] r'.same Is.non List.nodup_nil fun p hp=>by simp at hp
 | rt v=>
  cases e2
  exact fun v fp H' sm i d n=>q v H' fp sm i d n
 | bk s'=>cases e2
 | ct s'=>cases e2
section
variable {P:Program} {w:World} {mg:Str->Option Value} {base:Heap}
theorem Z3{x:Str}{st:Stmt}{N ps:List Str}{k n:Nat}{O W:List Nat}(m:Nat)(f:XS)(D:Def K mg x st)(S:Zx N ps (Zk st))
  (hb:∀(kV doc pm:Value)(an:Option Addr)(cdv ct:Value)(us:List Value),us.length=ps.length->bindArgs (PySem.W.fnOf x x (XF st) (YH st) (Zk st) .none kV doc pm an cdv ct) ⟨us,[]⟩=pure (ps.zip us))
  (hn:ps.length=n) (hm:N.length=m) (hO:∀i∈O,n<=i)
  (hbody:∀(fa:Addr)(cdv:Value)(A:Around)(outer:List Env)(s:Shared)(H:Hp)(E:XK),Room k (A.deeper (envOfC x (Zk st) s.heap.objs.size fa cdv))->VSs (Sw Od P w K mg base N x (Zk st) fa cdv A outer s H E).nox O W (YH st) f) :
  YU P w K mg base x ps (YI K (YZ m f) n) (k+1):=by
 subst hm
 refine D.cal S hb (fun vs H Q E h=>by rw[hn];exact h.1) fun fa cdv A outer s H vs Q E hr h=>⟨_,hbody fa cdv A outer s H E hr,Ki hO h⟩
end
end VL
namespace VL
open PySem PySem.Spec PyProof.Rows L2
variable {K:PySem.W.Frag}
section
variable {X:Cx} {O:List Nat} {tg elt iter:Expr} {ifs:List Expr} {scope:Scope} {pos:Pos} {fi:XL} {T:Tgt} {ft:XT} {fe:XE}
theorem Ou(own fr:List Str)(ix:List Nat){i:Nat}{y:Str}{py spos:Pos}(hN:X.N.Nodup)(hy:X.N[i]?=some y)(hloc:X.env.scope.names.lookup y=some .local)(hcalm:X.calm=true)(hi:VI X tg iter fi)(S:Vt X.N X.env.scope scope own fr ix=true)
  (hg:∀cl C s H ex,PG (ZP X (own++fr) scope cl C s H ex) tg (gT X.K T)) (ht:∀cl C s H ex,Hu (ZP X (own++fr) scope cl C s H ex) ifs ft) (he:∀cl C s H ex,VM (ZP X (own++fr) scope cl C s H ex) elt fe)
  (hT:∀i∈T.slots,i<own.length:=by decide)
  (hsw:swapsWith (.ListComp elt [⟨tg,iter,ifs,0⟩] scope pos) (some (.Name y py)) spos.line X.env=pure true:=by rfl)
  (hs:∀x,foldedSetIterable iter X.env x=pure x:=by intro _;rfl):VS X O [i] (.Assign [.Name y py] (.ListComp elt [⟨tg,iter,ifs,0⟩] scope pos) spos) (Zs i (Zu own.length ix fi T ft fe)):=
 PS.imp (Mf own fr ix hN hy hloc hcalm hi S hg (fun cl C s H ex=>(show Ma (ZP X (own++fr) scope cl C s H ex) ifs (QK X.K ft) from ht cl C s H ex)) (fun cl C s H ex=>(show PE (ZP X (own++fr) scope cl C s H ex) elt (tM X.K fe) from he cl C s H ex)) hsw hs) (Oq (Om hT))
end
section
variable {P:Program} {w:World} {mg:Str->Option Value} {base:Heap}
theorem MF{st:Stmt}{x:Str}{D:List PV->Option PV}{k:Nat}{fa:Addr}(Df:Def K mg "law" st)(hfa:mg "law" = some (.ref fa))
  (hb:∀(kV doc pm:Value)(an:Option Addr)(cdv ct u:Value),bindArgs (PySem.W.fnOf "law" "law" (XF st) (YH st) (Zk st) .none kV doc pm an cdv ct) ⟨[u],[]⟩=pure [(x,u)])
  (H:∀(base:Heap)(f:Addr)(fd:FuncData),K.In base->base.Ns mainGlobals mg->Fun K "law" "law" st f fd->U2 P w K mg base Od k f fd [x] (YI K D 1)) :
  ∃fd:FuncData,(∀(s:Shared)(u:Value),BindsTo s fd ⟨[u],[]⟩ [(x,u)])/\∀base:Heap,K.In base->base.Ns mainGlobals mg->U2 P w K mg base Od k fa fd [x] (YI K D 1):=by
 obtain⟨f,fd,hm,F⟩:=Df.ex
 have e:=hfa.symm.trans hm;cases e
 refine⟨fd,?_,fun base h1 h2=>H base fa fd h1 h2 F⟩
 obtain⟨oc,od,kV,doc,pm,an,cdv,ct,osl,rfl,lk,hcd⟩:=F.ex
 exact fun s u=>.of_eq (hb kV doc pm an cdv ct u)
end
theorem Ia{H:Hp}{a:Addr}{ns:List Int}{D:List PV->Option PV}{E:XK}(hD:D [.cst (iL ns)]=some (.bl true))(hO:JS H)(hS:SqL K H a (ns.map V.int)):YI K D 1 [.ref a] H (fun v _=>v = .bl true) E:=by
 have cs:CsK K H a (ns.map V.int):=by
  rcases hS with h | h
  ·rcases h with h | ⟨o,h⟩
   ·rcases hO a with z | ⟨o,xs,z⟩
    ·rw[h] at z;cases z
    ·rw[h] at z;cases z
   ·exact .inl ⟨o,h⟩
  ·exact .inr h
 exact⟨rfl,[.cst (iL ns)],[],.bl true,Iss.one (Is.cst cs (Iss.ofInts ns)),hD,fun v H' fq _ i _ _=>i.bl_inv.1⟩
end VL
namespace VL
open PySem L2
@[simp] theorem WP(i:Nat)(s:ZO):Za i s=(s[i]?).join:=rfl
@[simp] theorem eC_def(l:PV)(s:ZO):eC l s=some l:=rfl
@[simp] theorem Y0(g:PV->PV->Option PV)(a b:XE)(s:ZO):Zi g a b s=(a s).bind fun x=>(b s).bind fun y=>g x y:=rfl
@[simp] theorem eUn_def(g:PV->Option PV)(a:XE)(s:ZO):Lz g a s=(a s).bind g:=rfl
@[simp] theorem Xh(f:XE)(s:ZO):eP f s=(f s).bind fun l=>if ZR l=true then some l else none:=rfl
@[simp] theorem RJ(s:ZO):Tg [] s=some []:=rfl
@[simp] theorem ZD(f:XE)(fs:List XE)(s:ZO):Tg (f::fs) s=(f s).bind fun x=>(Tg fs s).map (x::·):=rfl
@[simp] theorem ZX(D:List PV->Option PV)(fs:List XE)(s:ZO):Ze D fs s=(Tg fs s).bind D:=rfl
@[simp] theorem MG(fs:List XE)(s:ZO):RE fs s=(Tg fs s).map .tup:=rfl
@[simp] theorem MH(fs:List XE)(s:ZO):Wf fs s=(Tg fs s).map .lst:=rfl
@[simp] theorem Kj(g:PV->Option Int->Option Int->Option PV)(a:XE)(lo hi:XO)(s:ZO):Oo g a lo hi s=(a s).bind fun x=>(lo s).bind fun l=>(hi s).bind fun u=>g x l u:=rfl
@[simp] theorem xoN_def(s:ZO):Jb s=some none:=rfl
@[simp] theorem gI_ii(g:Int->Int->Int)(i j:Int):gI g (.int i) (.int j)=some (.int (g i j)):=rfl
@[simp] theorem gB_ii(g:Int->Int->Bool)(i j:Int):gB g (.int i) (.int j)=some (.bl (g i j)):=rfl
@[simp] theorem Ib(C:Int->Int->Prop)[∀i j,Decidable (C i j)](g:Int->Int->Int)(i j:Int):Mj C g (.int i) (.int j)=if C i j then some (.int (g i j)) else none:=rfl
@[simp] theorem gIx_ti(l:List PV)(i:Int):Yb (.tup l) (.int i)=Ur l i:=rfl
@[simp] theorem gIx_li(l:List PV)(i:Int):Yb (.lst l) (.int i)=Ur l i:=rfl
@[simp] theorem gIx_ci(l:List PV)(i:Int):Yb (.cst l) (.int i)=Ur l i:=rfl
@[simp] theorem YG(f:XE)(s:ZO):xB f s=(f s).bind Jc:=by
 unfold xB
 cases f s with
 | none=>rfl
 | some a=>cases a<;>rfl
@[simp] theorem Ic(b:Bool):Jc (.bl b)=some b:=rfl
@[simp] theorem Qs(a b:XT)(s:ZO):VJ a b s=(a s).bind fun c=>if c=true then b s else some false:=rfl
@[simp] theorem RK(a b:XT)(s:ZO):Ly a b s=(a s).bind fun c=>if c=true then some true else b s:=rfl
@[simp] theorem TV(a:XT)(s:ZO):RA a s=(a s).map not:=rfl
@[simp] theorem eAnd_def(a b:XE)(s:ZO):Gq a b s=(xB a s).bind fun c=>if c=true then b s else some (.bl false):=rfl
@[simp] theorem Ov(a b:XE)(s:ZO):Hn a b s=(xB a s).bind fun c=>if c=true then some (.bl true) else b s:=rfl
@[simp] theorem eNot_def(a:XE)(s:ZO):Gr a s=(xB a s).map fun c=>.bl !c:=rfl
@[simp] theorem V1(c:XT)(a b:XE)(s:ZO):O9 c a b s=(c s).bind fun k=>if k=true then a s else b s:=rfl
@[simp] theorem eIsN_def(neg:Bool)(a:XE)(s:ZO):Na neg a s=(a s).bind (Mq neg):=rfl
@[simp] theorem sNext_def(s:ZO):Yv s=some (.nx s):=rfl
@[simp] theorem Qt(f g:XS)(s:ZO):Zt f g s=(f s).bind fun o=>match o with | .nx s'=>g s' | r=>some r:=rfl
@[simp] theorem Z4(c:XT)(f g:XS)(s:ZO):U8 c f g s=(c s).bind fun k=>if k=true then f s else g s:=rfl
@[simp] theorem MI(f:XE)(s:ZO):Z9 f s=(f s).map .rt:=rfl
@[simp] theorem ZE(i:Nat)(f:XE)(s:ZO):Zs i f s=(f s).map fun l=>.nx (s.set i (some l)):=rfl
@[simp] theorem retO_rt(v:PV):XC (.rt v)=some v:=rfl
@[simp] theorem pureV_int(i:Int):ZR (.int i)=true:=rfl
@[simp] theorem pureV_bl(i:Bool):ZR (.bl i)=true:=rfl
@[simp] theorem pureV_str(i:Str):ZR (.str i)=true:=rfl
@[simp] theorem pureV_non:ZR .non=true:=rfl
@[simp] theorem Nj(l:List PV):ZR (.tup l)=ZV l:=by rw[ZR]
@[simp] theorem pureL_nil:ZV []=true:=rfl
@[simp] theorem pureL_cons(a:PV)(l:List PV):ZV (a::l)=(ZR a&&ZV l):=rfl
theorem Nk{α:Type}{l:List α}{f:α->PV}(h:∀a∈l,ZR (f a)=true):ZV (l.map f)=true:=by
 rw[We,List.all_map,List.all_eq_true];exact h
@[simp] theorem pureL_iL(l:List Int):ZV (l.map PV.int)=true:=XI l
abbrev pP(l:List Int):PV:=.tup (iL l)
abbrev wP(W:List (List Int)):PV:=.tup (W.map pP)
@[simp] theorem Qu(W:List (List Int)):ZV (W.map pP)=true:=Nk fun a _=>by simp
theorem Pd{l:List Int}{k:Nat}(h:k<l.length):(iL l)[k]?=some (.int (Zr l k)):=by
 rw[List.getElem?_map,List.getElem?_eq_getElem h];simp[Zr,List.getD_eq_getElem?_getD,List.getElem?_eq_getElem h]
theorem Y5{l:List Int}{k:Nat}(h:k<l.length):Ur (iL l) (k:Int)=some (.int (Zr l k)):=W7 (Pd h)
theorem V2{W:List (List Int)}{k:Nat}(h:k<W.length):Ur (W.map pP) (k:Int)=some (pP (ZF W k)):=by
 refine W7 ?_
 rw[List.getElem?_map,Qg h];rfl
@[simp] theorem MJ(l:List Int):Xn [.tup (l.map PV.int)]=some (.int l.sum):=by
 simp[Xn,SC,XY l]
@[simp] theorem Pe(l:List Int):Xn [.lst (l.map PV.int)]=some (.int l.sum):=by
 simp[Xn,SC,XY l]
@[simp] theorem gLen_t(l:List PV):YF [.tup l]=some (.int l.length):=rfl
@[simp] theorem gLen_l(l:List PV):YF [.lst l]=some (.int l.length):=rfl
@[simp] theorem gLen_c(l:List PV):YF [.cst l]=some (.int l.length):=rfl
@[simp] theorem MK(l:List PV):Ya [.lst l]=some (.tup l):=rfl
@[simp] theorem gTuple_t(l:List PV):Ya [.tup l]=some (.tup l):=rfl
@[simp] theorem ML(l:List PV):X8 [.tup l]=if ZV l=true then some (.lst l) else none:=rfl
@[simp] theorem MM(l:List PV):X8 [.lst l]=if ZV l=true then some (.lst l) else none:=rfl
@[simp] theorem gMin2_ii(i j:Int):Qm [.int i,.int j]=some (.int (if j<i then j else i)):=rfl
@[simp] theorem gMax2_ii(i j:Int):Ht [.int i,.int j]=some (.int (if j>i then j else i)):=rfl
@[simp] theorem gInt1_b(c:Bool):K8 [.bl c]=some (.int (if c then 1 else 0)):=rfl
@[simp] theorem gInt1_i(c:Int):K8 [.int c]=some (.int c):=rfl
@[simp] theorem gInst_ii(i:Int):WB [.int i,.ty "int"]=some (.bl true):=rfl
@[simp] theorem gInst_ib(i:Int):WB [.int i,.ty "bool"]=some (.bl false):=rfl
@[simp] theorem gInst_tt(l:List PV):WB [.tup l,.ty "tuple"]=some (.bl true):=rfl
@[simp] theorem gInst_ll(l:List PV):WB [.lst l,.ty "list"]=some (.bl true):=rfl
theorem Kk(n:Nat)(i j:Int):XB (n+1) (.int i) (.int j)=true:=rfl
@[simp] theorem gEq_ii(neg:Bool)(i j:Int):YJ neg (.int i) (.int j)=some (.bl (if neg then !decide (i=j) else decide (i=j))):=by
 unfold YJ;rw[if_pos (Kk 7 i j)]
 congr 2
 cases neg<;>simp
theorem S7{α:Type}{T:Tgt}{ft:XT}{fe:XE}{s0:ZO}{q g:α->PV}:∀{ls:List α},(∀a∈ls,∃s1,Xw T (q a) s0=some s1/\ft s1=some true/\fe s1=some (g a))->XQ T ft fe s0 (ls.map q)=some (ls.map g)
 | [],_=>rfl
 | a::r,h=>by
  obtain⟨s1,h1,h2,h3⟩:=h a List.mem_cons_self
  have ih:=S7 (ls:=r) fun b hb=>h b (List.mem_cons_of_mem _ hb)
  rw[List.map_cons,List.map_cons];unfold XQ;rw[h1];simp only[Option.bind_some,h2,if_true,h3,ih,Option.map_some]
theorem V3{α:Type}{T:Tgt}{ft:XT}{fe:XE}{s0:ZO}{q g:α->PV}{c:α->Bool}:∀{ls:List α},(∀a∈ls,∃s1,Xw T (q a) s0=some s1/\ft s1=some (c a)/\(c a=true->fe s1=some (g a)))->XQ T ft fe s0 (ls.map q)=some ((ls.filter c).map g)
 | [],_=>rfl
 | a::r,h=>by
  obtain⟨s1,h1,h2,h3⟩:=h a List.mem_cons_self
  have ih:=V3 (ls:=r) fun b hb=>h b (List.mem_cons_of_mem _ hb)
  rw[List.map_cons];unfold XQ;rw[h1];simp only[Option.bind_some,h2]
  cases hc:c a with
  | true=>simp[h3 hc,ih,hc]
  | false=>simp[ih,hc]
theorem Z6{α:Type}{n:Nat}{ix:List Nat}{fi:XL}{T:Tgt}{ft:XT}{fe:XE}{s:ZO}(ls:List α)(q g:α->PV)(hfi:fi s=some (ls.map q))(hl:ls.length<=10000)
  (h:∀a∈ls,∃s1,Xw T (q a) (ZK n ix s)=some s1/\ft s1=some true/\fe s1=some (g a)):Zu n ix fi T ft fe s=some (.lst (ls.map g)):=by
 unfold Zu;rw[hfi];simp only[Option.bind_some,List.length_map,if_pos hl,S7 h,Option.map_some]
theorem V4{α:Type}{n:Nat}{ix:List Nat}{fi:XL}{T:Tgt}{ft:XT}{fe:XE}{s:ZO}(ls:List α)(q g:α->PV)(c:α->Bool)(hfi:fi s=some (ls.map q))(hl:ls.length<=10000)
  (h:∀a∈ls,∃s1,Xw T (q a) (ZK n ix s)=some s1/\ft s1=some (c a)/\(c a=true->fe s1=some (g a))):Zu n ix fi T ft fe s=some (.lst ((ls.filter c).map g)):=by
 unfold Zu;rw[hfi];simp only[Option.bind_some,List.length_map,if_pos hl,V3 h,Option.map_some]
theorem Xx{T:Tgt}{fb:XS}:∀{ls:List PV}{s:ZO}(Jv:Nat->ZO->Prop),Jv 0 s->(∀(i:Nat) l st,ls[i]?=some l->Jv i st->∃s1 s2,Xw T l st=some s1/\fb s1=some (.nx s2)/\Jv (i+1) s2)->
  ∃s',Wt T fb ls s=some (.nx s')/\Jv ls.length s'
 | [],s,Jv,h0,_=>⟨s,rfl,h0⟩
 | l::r,s,Jv,h0,h=>by
  obtain⟨s1,s2,a,b,c⟩:=h 0 l s rfl h0
  obtain⟨s',d,e⟩:=Xx (ls:=r) (s:=s2) (fun i=>Jv (i+1)) c fun i l' st hl hi=>h (i+1) l' st (by simpa using hl) hi
  refine⟨s',?_,e⟩
  unfold Wt;rw[a];simp only[Option.bind_some,b];exact d
theorem WQ{n i:Nat}{l:PV}(h:(WL n)[i]?=some l):i<n/\l = .int (i:Int):=by
 have hi:=(List.getElem?_eq_some_iff.mp h).1
 unfold WL at hi h;rw[List.length_map,List.length_range] at hi;rw[List.getElem?_map,List.getElem?_range hi] at h
 exact⟨hi,(Option.some.inj h).symm⟩
theorem MN{lo:Int}{n i:Nat}{l:PV}(h:(VQ lo n)[i]?=some l):i<n/\l = .int (lo+(i:Int)):=by
 have hi:=(List.getElem?_eq_some_iff.mp h).1
 unfold VQ at hi h;rw[List.length_map,List.length_range] at hi;rw[List.getElem?_map,List.getElem?_range hi] at h
 exact⟨hi,(Option.some.inj h).symm⟩
@[simp] theorem TW(n:Nat):(WL n).length=n:=by unfold WL;simp
@[simp] theorem MO(lo:Int)(n:Nat):(VQ lo n).length=n:=by unfold VQ;simp
@[simp] theorem bindT_one(i:Nat)(l:PV)(s:ZO):Xw (.one i) l s=some (s.set i (some l)):=rfl
theorem Nl(i j:Nat)(a b:PV)(s:ZO):Xw (.many [i,j]) (.tup [a,b]) s=some ((s.set i (some a)).set j (some b)):=rfl
theorem UW(m:List PV):WM m=(List.range m.length).map fun(i:Nat)=>.tup [.int (i:Int),m.getD i .non]:=by
 apply List.ext_getElem?
 intro i;rw[List.getElem?_map]
 by_cases h:i<m.length
 ·have:(WM m)[i]?=some (.tup [.int (i:Int),m[i]]):=by
   unfold WM;rw[List.getElem?_map,List.getElem?_zipIdx,List.getElem?_eq_getElem h]
   simp
  rw[this,List.getElem?_range h];simp[List.getD_eq_getElem?_getD,List.getElem?_eq_getElem h]
 ·rw[List.getElem?_eq_none (by rw[SZ];omega),List.getElem?_eq_none (by simpa using h)];rfl
theorem Vy(m n:List PV)(h:n.length=m.length):VR m n=(List.range m.length).map fun(i:Nat)=>.tup [m.getD i .non,n.getD i .non]:=by
 apply List.ext_getElem?
 intro i;rw[List.getElem?_map]
 by_cases hi:i<m.length
 ·have:(VR m n)[i]?=some (.tup [m[i],n[i]]):=by
   unfold VR
   rw[List.getElem?_map,List.getElem?_zip_eq_some (z:=(m[i],n[i])) |>.mpr ⟨List.getElem?_eq_getElem hi,List.getElem?_eq_getElem (by omega)⟩]
   rfl
  rw[this,List.getElem?_range hi];simp[List.getD_eq_getElem?_getD,List.getElem?_eq_getElem hi,List.getElem?_eq_getElem (show i<n.length by omega)]
 ·rw[List.getElem?_eq_none (by rw[Qo];omega),List.getElem?_eq_none (by simpa using hi)];rfl
theorem Va(l:List Int)(i:Nat)(h:i<l.length):(iL l).getD i .non = .int (Zr l i):=by
 rw[List.getD_eq_getElem?_getD,Pd h];rfl
@[simp] theorem Kl(f:XE)(s:ZO):ZL [f] s=(f s).bind fun a=>(NW a).bind fun j=>if -1000000<=j/\j<=1000000 then some (WL j.toNat) else none:=by
 unfold ZL
 cases h:f s with
 | none=>simp[h]
 | some a=>cases a<;>simp[h,NW]
@[simp] theorem Km(f g:XE)(s:ZO):UV [f,g] s=(f s).bind fun a=>(g s).bind fun b=>(NW a).bind fun i=>(NW b).bind fun j=>if -1000000<=i/\i<=1000000/\-1000000<=j/\j<=1000000 then some (VQ i (j-i).toNat) else none:=by
 unfold UV
 cases h:f s with
 | none=>simp[h]
 | some a=>cases h2:g s with
  | none=>simp[h,h2]
  | some b=>cases a<;>cases b<;>simp[h,h2,NW]
@[simp] theorem V5(i:Int):NW (.int i)=some i:=rfl
@[simp] theorem Kn(i:List PV):HJ (.lst i)=some i:=rfl
@[simp] theorem xEnum_def(b:Bool)(f:XE)(s:ZO):Y8 b [f] s=(f s).bind fun l=>(seqB b l).map WM:=by
 unfold Y8
 cases h:f s<;>simp[h]
@[simp] theorem xZip_def(b1 b2:Bool)(f g:XE)(s:ZO):VU b1 b2 [f,g] s=(f s).bind fun l=>(g s).bind fun r=>(seqB b1 l).bind fun m=>(seqB b2 r).map fun n=>VR m n:=by
 unfold VU
 cases h:f s<;>cases h2:g s<;>simp[h,h2]
@[simp] theorem seqB_f(l:List PV):seqB false (.tup l)=some l:=rfl
@[simp] theorem seqB_t(l:List PV):seqB true (.lst l)=some l:=rfl
@[simp] theorem seqB_c(l:List PV):seqB true (.cst l)=some l:=rfl
@[simp] theorem xLst_def(f:XE)(s:ZO):XH f s=(f s).bind IA:=rfl
@[simp] theorem asS_l(l:List PV):IA (.lst l)=some l:=rfl
@[simp] theorem asS_c(l:List PV):IA (.cst l)=some l:=rfl
theorem MP{f:XE}{s:ZO}{l:List PV}(h:f s=some (.tup l)):U6 f s=some l:=by unfold U6;rw[h]
@[simp] theorem sFor_def(O:List Nat)(fi:XL)(T:Tgt)(fb:XS)(s:ZO):Wg O fi T fb s=(fi (Yz O s)).bind fun ls=>Wt T fb ls s:=rfl
@[simp] theorem xTrue_def(s:ZO):ZA s=some true:=rfl
theorem Yj{f:XE}{s:ZO}{n:Nat}(h:f s=some (.int (n:Int)))(hn:n<=10000):ZL [f] s=some (WL n):=by
 rw[Kl,h];simp only[Option.bind_some,V5];rw[if_pos ⟨by omega,by omega⟩,Int.toNat_natCast]
theorem Nm{f g:XE}{s:ZO}{i j:Int}(h:f s=some (.int i))(h':g s=some (.int j))(hi : -10000<=i/\i<=10000)(hj : -10000<=j/\j<=10000):UV [f,g] s=some (VQ i (j-i).toNat):=by
 rw[Km,h,h'];simp only[Option.bind_some,V5];rw[if_pos ⟨by omega,by omega,by omega,by omega⟩]
theorem Pf{i j:Int}(h0 : -10000<=i)(h:i<=10000):CMul i j:=by
 refine .inl ?_
 have e:(2^64:Int)=18446744073709551616:=by decide
 rw[e];omega
theorem Tl{c:Bool}(h:c=true):gd c=some ():=by unfold gd;rw[if_pos h]
theorem TX{i:Nat}{f:XE}{s:ZO}{m:List PV}{l:PV}(h:f s=some l)(hm:NV s i=some m)(hl:m.length<=10000):XZ i f s=some (.nx (s.set i (some (.lst (m++[l]))))):=by
 unfold XZ;rw[h];simp only[Option.bind_some,hm,Tl (decide_eq_true hl)]
theorem TY{i:Nat}{fk f:XE}{s:ZO}{m:List PV}{l:PV}{k:Int}(hk:fk s=some (.int k))(h:f s=some l)(hm:NV s i=some m)(hp:ZV m=true)(hq:ZR l=true)(h0:0<=k)(h1:k<=1000000)(hl:m.length<=10000) :
  Wv i fk f s=some (.nx (s.set i (some (.lst (m.take k.toNat++l::m.drop k.toNat))))):=by
 unfold Wv;rw[hk,h]
 have c:(ZV m&&ZR l&&decide (0<=k/\k<=1000000/\m.length<=10000))=true:=by rw[hp,hq,decide_eq_true ⟨h0,h1,hl⟩];rfl
 simp only[Option.bind_some,V5,hm,Tl c]
theorem Nn{i:Nat}{fk f:XE}{s:ZO}{m:List PV}{l:PV}{k:Int}{j:Nat}(h:f s=some l)(hk:fk s=some (.int k))(hm:NV s i=some m)(hp:ZV m=true)(hq:ZR l=true)(hj:R5 m.length k=some j) :
  Uz i fk f s=some (.nx (s.set i (some (.lst (m.set j l))))):=by
 unfold Uz;rw[hk,h]
 have c:(ZV m&&ZR l)=true:=by rw[hp,hq];rfl
 simp only[Option.bind_some,V5,hm,Tl c,hj,Option.map_some]
theorem TZ{i:Nat}{fa fb f:XE}{s:ZO}{m n:List PV}{l:PV}{a b:Int}{j c:Nat}(h:f s=some l)(ha:fa s=some (.int a))(hb:fb s=some (.int b))(hm:NV s i=some m)(hj:R5 m.length a=some j)(hn:m[j]?=some (.lst n))(hp:ZV n=true)(hq:ZR l=true)(hc:R5 n.length b=some c) :
  Ww i fa fb f s=some (.nx (s.set i (some (.lst (m.set j (.lst (n.set c l))))))):=by
 unfold Ww;rw[h,ha,hb]
 have cc:(ZV n&&ZR l)=true:=by rw[hp,hq];rfl
 simp only[Option.bind_some,V5,Kn,hm,hj,hn,Tl cc,hc,Option.map_some]
theorem V6{n k:Nat}(h:k<n):R5 n (k:Int)=some k:=by
 unfold R5
 rw[if_pos (by omega),if_pos (by omega)];rfl
theorem Ie{i j:Int}(h0:0<j)(h:j<=10000):Rl i j:=⟨h0,by omega⟩
@[simp] theorem CMul_l{i j:Int}(h : -(2^64)<i/\i<2^64):CMul i j:=.inl h
end VL
namespace VL
open PySem PySem.Spec PyProof.Rows L2
variable {K:PySem.W.Frag}
def Jd(K:PySem.W.Frag):R2:=fun x y H Q=>∃a b xs ys,x = .ref a/\y = .ref b/\SqT K H a xs/\SqT K H b ys/\xs.length+ys.length<=sizeLine/\
 (xs=[]->Q (.ref b) H)/\(ys=[]->Q (.ref a) H)/\∀p,H p=none->Q (.ref p) (upd H p (.tup (xs++ys)))
theorem Ox{X:Cx}:Uo X (binaryOp .Add) (Jd X.K):=by
 intro pins s σ H x y v u Q I rx ry h
 obtain⟨a,b,xs,ys,rfl,rfl,ha,hb,hz,q0,q1,q2⟩:=h
 by_cases hx:xs=[]
 ·cases rx
  cases ry
  obtain⟨its,r1,p1,_⟩:=I.tuple ha
  obtain⟨its2,r2,p2,_⟩:=I.tuple hb
  obtain⟨⟨cls,dd,data,sl⟩,ho,hc,n,hd⟩:=id p1
  obtain⟨⟨cls2,dd2,data2,sl2⟩,ho2,hc2,n2,hd2⟩:=id p2
  simp only at hc hd hc2 hd2
  subst hc hd hc2 hd2
  exact concat_meets ⟨_,ho,rfl⟩ ⟨_,ho2,rfl⟩ noFill_tuple_add seq_tuple_add PySem.F.slot_tuple_add PySem.F.entry_tuple_add (PySem.F.args_tuple_add_2 _ _)
   (tuple_addW0 a b its.toArray its2.toArray n n2 dd dd2 sl sl2 (by simp[r1.nil_iff.mpr hx])) ⟨ho,ho2,.ref b,H,I,rfl,q0 hx⟩
 ·exact LT _ _ _ _ _ _ _ _ _ I rx ry ⟨a,b,xs,ys,rfl,rfl,ha,hb,hx,hz,q1,fun _=>q2⟩
def WC:PV->PV->Option PV
 | .tup m,.tup n=>if m.length+n.length<=10000 then some (.tup (m++n)) else none
 | _,_=>none
theorem Oy:RB K (Jd K) WC:=fun H x y a b l fa fb ha hb e Q k=>by
 cases a with
 | tup m=>cases b with
  | tup n=>
   have e:(if m.length+n.length<=10000 then some (PV.tup (m++n)) else none)=some l:=e
   split at e
   case isFalse=>cases e
   rename_i hl
   cases e
   obtain⟨p,xs,rfl,hp,hi⟩:=ha.tup_inv
   obtain⟨p',ys,rfl,hp',hi'⟩:=hb.tup_inv
   refine⟨p,p',xs,ys,rfl,rfl,SqT.of hp,SqT.of hp',by rw[hi.len,hi'.len];exact Nat.le_of_lt (lt_size hl),fun z=>?_,fun z=>?_,fun q hq=>?_⟩
   ·have:m=[]:=List.length_eq_zero_iff.mp (by rw[<-hi.len,z];rfl)
    subst this
    exact k _ _ fb (Same.refl _) hb fun r hr=>.inr (.inl hr)
   ·have:n=[]:=List.length_eq_zero_iff.mp (by rw[<-hi'.len,z];rfl)
    subst this;rw[List.append_nil] at k
    exact k _ _ fa (Same.refl _) ha fun r hr=>.inl hr
   ·exact k _ _ (fa++fb) (Same.new hq _) (Is.tup Zw ((hi.append hi').mono (Same.new hq _))) fun r hr=>(List.mem_append.mp hr).elim .inl fun z=>.inr (.inl z)
  | _=>cases e
 | _=>cases e
end VL
namespace PW
open PySem L2 VL
noncomputable def UA:XS:=(Z9 (eP (Ze Xn [(Zi Yb (Za 0) (Za 1))])))
noncomputable def XJ:List PV->Option PV:=YZ 2 UA
noncomputable def Pg:XS:=(Z9 (eP (Ze Xn [(Zu 2 [1,2] (Y8 false [(Zi Yb (Za 0) (Za 2))]) (.many [0,1]) ZA (Zi Vm (Za 1) (Zi Xe (Zi Yb (Za 2) (Za 0)) (Zi Yb (Za 2) (Za 3)))))])))
noncomputable def UB:List PV->Option PV:=YZ 3 Pg
noncomputable def MQ:XS:=(Z9 (eP (Ze Ya [(Zu 2 [0,2] (Y8 false [(Za 1)]) (.many [0,1]) ZA (Zi ZW (Za 1) (Ze UB [(Za 2),(Za 3),(Za 0)])))])))
noncomputable def WR:List PV->Option PV:=YZ 3 MQ
noncomputable def Ph:XS:=(Z9 (eP (Ze Ya [(Zu 2 [] (VU false false [(Za 0),(Za 1)]) (.many [0,1]) ZA (Zi ZW (Za 0) (Za 1)))])))
noncomputable def WS:List PV->Option PV:=YZ 2 Ph
end PW
namespace VL
open PySem PySem.Spec PyProof.Rows L2
def YX:List Int->Int
 | []=>0
 | [x]=>x
 | x::y::r=>if YX (y::r)<x then YX (y::r) else x
theorem Vb:∀{l:List Int},l≠[]->YX l∈l/\∀x∈l,YX l<=x
 | [],h=>absurd rfl h
 | [x],_=>by simp[YX]
 | x::y::r,_=>by
  obtain⟨a,b⟩:=Vb (l:=y::r) (by simp)
  unfold YX
  split
  ·rename_i h
   refine⟨List.mem_cons_of_mem _ a,fun z hz=>?_⟩
   rcases List.mem_cons.mp hz with rfl | hz
   ·omega
   ·exact b z hz
  ·rename_i h
   refine⟨by simp,fun z hz=>?_⟩
   rcases List.mem_cons.mp hz with rfl | hz
   ·omega
   ·have:=b z hz;omega
theorem Oz{l:List Int}{m:Int}(h:m∈l)(g:∀x∈l,m<=x):YX l=m:=by
 obtain⟨a,b⟩:=Vb (l:=l) (by intro z;subst z;simp at h)
 have:=b m h
 have:=g _ a
 omega
theorem T0(val:Nat->Int):∀k,argBest (fun i j=>decide (val i<val j)) k<=k/\∀j,j<=k->val (argBest (fun i j=>decide (val i<val j)) k)<=val j
 | 0=>⟨Nat.le_refl _,fun j hj=>by rw[Nat.le_zero.mp hj];exact Int.le_refl _⟩
 | k+1=>by
  obtain⟨a,b⟩:=T0 val k
  unfold argBest
  split
  ·rename_i h
   have h:=of_decide_eq_true h
   refine⟨Nat.le_refl _,fun j hj=>?_⟩
   by_cases e:j=k+1
   ·subst e;exact Int.le_refl _
   ·have:=b j (by omega);omega
  ·rename_i h
   have h:¬_:=fun z=>h (decide_eq_true z)
   refine⟨by omega,fun j hj=>?_⟩
   by_cases e:j=k+1
   ·subst e;omega
   ·exact b j (by omega)
def MR(f:List Int->Int)(K:PySem.W.Frag):List V->Hp->VK->Prop:=fun xs H Q=>∃(b:Bool) (p:Addr) (ns:List Int),xs=[.ref p]/\ns≠[]/\SO b K H p (ns.map V.int)/\Q (.int (f ns)) H
section
variable {X:Cx}
theorem S8(hc:X.calm=true):Wd X (.builtin "min") (MR YX X.K):=by
 intro pins s σ H xs us Q I r h
 obtain⟨b,p,ns,rfl,hne,hq,q⟩:=h
 obtain⟨u,rfl,rx⟩:=SE r
 cases rx
 obtain⟨its,rv,hseq,hz⟩:=I.seqB hq
 have hp:p<s.heap.objs.size:=let⟨_,e⟩:=hseq.has;Heap.lt_size e
 have hl:=rv.length;rw[List.length_map] at hl
 have hpos:0<ns.length:=List.length_pos_iff.mpr hne
 have hval:∀(i:Nat)(v:Value),its.toArray[i]?=some v->∃t,v=Value.int (ns.getD i 0) t:=fun(i:Nat) (v:Value) hv=>by
  have hv:its[i]?=some v:=by simpa using hv
  have hi:i<ns.length:=by rw[hl];exact(List.getElem?_eq_some_iff.mp hv).1
  obtain⟨u,hu,ru⟩:=rv.get (i:=i) (x:=.int ns[i]) (by rw[List.getElem?_map,List.getElem?_eq_getElem hi];rfl)
  rw[hv] at hu;cases hu
  obtain⟨t,rfl⟩:=ru
  refine⟨t,?_⟩
  show Value.int ns[i] t=Value.int (ns.getD i 0) t
  rw[List.getD_eq_getElem?_getD,List.getElem?_eq_getElem hi];rfl
 refine call_min_walk (YL hseq ?_)
 refine⟨_,_,_,_,_,_,fun i j=>decide (ns.getD i 0<ns.getD j 0),rfl,Walks.seqB (A:=X.A.in1) b (I.ok.hd hc) s.heap.objs.size p (Nat.ne_of_lt hp) its.toArray,⟨IterB.new (Heap.get?_push_size _ rfl),hseq.at fun o e=>Heap.get?_push_of_some _ e⟩,fun c hcm=>?_,by rw[List.size_toArray,<-hl];exact hpos,CmpOf.ints_lt (fun i=>ns.getD i 0) hval,fun v h' tk hv hk=>?_⟩
 ·show c<(s.heap.push _).objs.size
  rw[Heap.size_push]
  rcases List.mem_cons.mp hcm with rfl | hcm
  ·exact Nat.lt_succ_self _
  ·rw[List.mem_singleton.mp hcm];exact Nat.lt_succ_of_lt hp
 ·obtain⟨t,rfl⟩:=hval _ _ hv
  obtain⟨g1,g2⟩:=T0 (fun i=>ns.getD i 0) (its.toArray.size-1)
  rw[List.size_toArray,<-hl] at g1 g2
  have e:YX ns=ns.getD (argBest (fun i j=>decide (ns.getD i 0<ns.getD j 0)) (its.toArray.size-1)) 0:=by
   rw[List.size_toArray,<-hl]
   refine Oz ?_ fun x hx=>?_
   ·rw[List.getD_eq_getElem?_getD,List.getElem?_eq_getElem (by omega)]
    exact List.getElem_mem _
   ·obtain⟨j,hj,ej⟩:=List.getElem_of_mem hx
    have:=g2 j (by omega)
    rw[List.getD_eq_getElem?_getD (i:=j),List.getElem?_eq_getElem hj,ej] at this;exact this
  refine⟨.int (YX ns),H,I.kept (fun c o hco=>hk c o ?_ (Heap.get?_push_of_some _ hco)),⟨t,by rw[e]⟩,q⟩
  intro hm;rw[List.mem_singleton.mp hm] at hco
  exact absurd (Heap.lt_size hco) (Nat.lt_irrefl _)
end
def OA(f:List Int->Int):List PV->Option PV
 | [l]=>(SC l).bind fun m=>(WH m).bind fun ns=>if ns=[] then none else some (.int (f ns))
 | _=>none
abbrev T1:List PV->Option PV:=OA YX
theorem Ko{K:PySem.W.Frag}(f:List Int->Int):RC K (MR f K) (OA f):=fun H vs ls l fp h e Q k=>by
 unfold OA at e
 split at e
 ·obtain⟨m,e1,e2⟩:=Zf e
  obtain⟨ns,e3,e4⟩:=Zf e2
  split at e4
  ·cases e4
  ·rename_i hne
   cases e4
   obtain⟨v,rfl,i⟩:=h.one_inv
   obtain⟨p,xs,fq,rfl,hp,hi,hs⟩:=W9 (K:=K) i e1
   have em:=WI e3;subst em
   obtain⟨rfl,rfl⟩:=hi.iL
   obtain⟨b,hb⟩:=Mu hp
   exact⟨b,p,ns,rfl,hne,hb,k _ H [] (Same.refl H) (Is.int _) fun p hp=>by simp at hp⟩
 ·cases e
theorem OB{K:PySem.W.Frag}:RC K (MR YX K) T1:=Ko YX
theorem OC(f:List Int->Int){l:List Int}(h:l≠[]):OA f [pP l]=some (.int (f l)):=by
 show(WH (iL l)).bind _=_
 rw[XY];simp only[Option.bind_some];rw[if_neg h]
variable {K:PySem.W.Frag}
def HK(mg:Str->Option Value)(x:Str)(k:Int):Prop:=∃t,mg x=some (Value.int k t)
theorem MS{X:Cx}{x:Str}{k:Int}{pos:Pos}(hg:Gl X x)(hm:HK X.mg x k)(hd:(x==("__debug__" : Str))=false:=by decide):VE X (.Name x pos) (eC (.int k)):=by
 obtain⟨t,e⟩:=hm
 exact O8 (LC hg e (v:=.int k) ⟨t,rfl⟩ hd) fun _=>Is.int k
end VL
namespace VL
open PySem PySem.Spec PyProof.Rows L2
variable {K:PySem.W.Frag}
def IC(K:PySem.W.Frag)(D:List PV->Option PV)(n:Nat):Sp:=fun vs H Q _=>vs.length=n/\∃v0 vr l0 ls fp0 l',vs=v0::vr/\Is K H l0 v0 fp0/\fp0.Nodup/\(∀p∈fp0,Wc (H p))/\Iss K H ls vr []/\D (l0::ls)=some l'/\
 ∀H' fq,Same (WD H (·∈fp0)) H'->Is K H' l' v0 fq->fq.Nodup->(∀p∈fq,WD H (·∈fp0) p=none/\Wc (H' p))->Q .non H'
def Ig(K:PySem.W.Frag)(O W:List Nat)(H0:Hp)(fps:Nat->List Addr)(σ:U5)(D:U0):Out->Prop
 | .nx s'=>∀fps' σ' H',Rel K O H0 fps' s' σ' H'->σ'[0]?=σ[0]?->D.nx σ' H'
 | _=>True
def Ih(K:PySem.W.Frag)(O W:List Nat)(f:XS):TS:=fun D σ H=>∃H0 fps s s',Rel K O H0 fps s σ H/\f s=some (.nx s')/\Ig K O W H0 fps σ D (.nx s')
def HL(X:Cx)(O W:List Nat)(st:Stmt)(f:XS):Prop:=PS X st (Ih X.K O W f)
def Kp(X:Cx)(O W:List Nat)(st:List Stmt)(f:XS):Prop:=PSs X st (Ih X.K O W f)
section
variable {X:Cx} {O W W1 W2:List Nat} {st:Stmt} {Ym:List Stmt} {f g:XS} {pos:Pos}
theorem VS.vs0(h:VS X O W st f)(hw:0∉W:=by decide):HL X O W st f:=PS.imp h fun D σ H ⟨H0,fps,s,s',r,e,k⟩=>⟨H0,fps,s,.nx s',r,e,fun fps' σ' H' r' q=>k fps' σ' H' r' (q 0 hw).1⟩
theorem MT(h:HL X O W st f):Kp X O W [st] f:=P6 h
theorem S9(h1:HL X O W1 st f)(h2:Kp X O W2 Ym g):Kp X O (W1++W2) (st::Ym) (Zt f g):=PSs.imp (Tw h1 h2) fun D σ H ⟨H0,fps,s,s',r,e,k⟩=>by
 obtain⟨o1,e1,e⟩:=Zf e
 cases o1 with
 | nx s1=>exact⟨H0,fps,s,s1,r,e1,fun fps1 σ1 H1 r1 q1=>⟨H0,fps1,s1,s',r1,e,fun fps' σ' H' r' q'=>k fps' σ' H' r' (q'.trans q1)⟩⟩
 | bk s1=>cases e
 | ct s1=>cases e
 | rt l=>cases e
theorem T2{fe fa fb:XE}(h:PS X st (QM (tF X.K fe) (Jw (KZ (JN X.K) (U1 0) (tF X.K fa)) (tF X.K fb) N8)))(hi:0∈O:=by decide):HL X O [0] st (Ww 0 fa fb fe):=PS.imp h fun D σ H ⟨H0,fps,s,s',r,e,k⟩=>by
 obtain⟨l,e0,e⟩:=Zf e
 obtain⟨a,e1,e⟩:=Zf e
 obtain⟨b,e2,e⟩:=Zf e
 obtain⟨ai,ea,e⟩:=Zf e
 obtain⟨bi,eb,e⟩:=Zf e
 obtain⟨m,em,e⟩:=Zf e
 obtain⟨j,ej,e⟩:=Zf e
 obtain⟨Z2,en,e⟩:=Zf e
 obtain⟨n,er,e⟩:=Zf e
 obtain⟨_,eg,e⟩:=Zf e
 rw[VZ ea] at e1;rw[VZ eb] at e2;rw[MB er] at en;have em:=VY em;have hc:=Tk eg;simp only[Bool.and_eq_true] at hc
 obtain⟨pn,pl⟩:=hc
 obtain⟨c,ec,e⟩:=map_some e
 cases e
 obtain⟨p,xs,fq,hv,hp,hm,ef⟩:=r.lst_at hi em
 refine⟨fun _=>False,s,l,fun _ z=>z.elim,r.env,e0,fun y H1 fy s1 i1 _=>?_⟩
 refine⟨.ref p,hv,fun _=>False,s,_,fun _ z=>z.elim,r.env.mono s1,e1,fun z H2 fz s2 i2 _=>?_⟩
 obtain⟨rfl,_⟩:=i2.int_inv
 have s12:=s1.trans s2
 obtain⟨q,f1,hq,iq,subq⟩:=(hm.mono s12).get en
 obtain⟨qa,zs,fz',rfl,hqa,hz,rfl⟩:=id iq.lst_inv
 refine⟨p,xs,ai,.ref qa,rfl,rfl,SqL.of (s12 _ _ hp),?_,fun _=>False,s,_,fun _ z=>z.elim,r.env.mono s12,e2,fun w H3 fw s3 i3 _=>?_⟩
 ·unfold Ur;rw[hm.len,ej];exact hq
 obtain⟨rfl,_⟩:=i3.int_inv
 have s123:=s12.trans s3;have r3:=r.grow s123
 have hqf:qa∈fps 0:=by rw[ef];exact List.mem_cons_of_mem _ (subq qa List.mem_cons_self)
 have mu:=(r3.own 0 hi qa hqf).2
 have hqa3:H3 qa=some (.lst zs):=s3 _ _ hqa
 have:=Is.pure _ _ _ pl i1
 subst this
 refine⟨qa,zs,bi,c,rfl,rfl,hqa3,by rw[hz.len];exact ec,?_⟩
 have nd:=r.nd 0 hi;rw[ef] at nd
 have hqp:qa≠p:=fun z=>(List.nodup_cons.mp nd).1 (z▸subq qa List.mem_cons_self)
 have newrow:Iss X.K (L2.upd H3 qa (.lst (zs.set c y))) (n.set c l) (zs.set c y) []:=Iss.tr (TK.upd' mu) _ _ _ (fun q hq=>by simp at hq) (Iss.setP c pn pl ((hz.mono s3).pureEq pn) (i1.mono (s2.trans s3)))
 have rows:=Iss.setRow (hm.mono s123) en hq (List.nodup_cons.mp nd).2 mu pn newrow
 refine k _ _ _ (r3.mutate (o:=.lst (zs.set c y)) (l':=.lst (m.set j (.lst (n.set c l)))) (fp':=p::fq) hi hqf hv (Uy em) (Is.lst (by rw[L2.upd_ne (Ne.symm hqp)];exact s123 _ _ hp) rows) nd (fun q hq=>?_) (fun j hj q hq z=>r.dis 0 hi j hj q (by rw[ef];exact hq) z) True.intro) rfl
 refine⟨(r.own 0 hi q (by rw[ef];exact hq)).1,?_⟩
 by_cases e:q=qa
 ·subst e;rw[Zw];exact True.intro
 ·rw[L2.upd_ne e];exact(r3.own 0 hi q (by rw[ef];exact hq)).2
end
def Hw:Out->Option PV
 | .nx s=>match s[0]? with | some (some l)=>some l | _=>none
 | _=>none
def ID(m:Nat)(f:XS):List PV->Option PV:=fun ls=>if ZV (ls.drop 1)=true then(f (ZY m ls)).bind Hw else none
theorem MU{N:List Str}{n:Nat}{W:List Nat}{f:XS}{vs:List V}{H:Hp}{Q:VK}{E:XK}(h:IC K (ID N.length f) n vs H Q E):Ih K [0] W f { nx:=fun _ H'=>Q .non H',rt:=Q } (L2.start N vs) H:=by
 obtain⟨hl,v0,vr,l0,lr,fp0,l',rfl,i0,nd0,mu0,hir,e,q⟩:=h
 unfold ID at e
 split at e
 case isFalse=>cases e
 obtain⟨out,e1,e2⟩:=Zf e
 have hi:Iss K H (l0::lr) (v0::vr) (fp0++[]):=Iss.cons i0 hir
 have hlen:=hi.len
 generalize hls:l0::lr=ls at *
 have hout:∀i:Nat,ls.length<=i->∀l,(ZY N.length ls)[i]?≠some (some l):=fun i hi l z=>by
  unfold ZY at z;rw[List.getElem?_append_right (by simpa using hi),List.getElem?_replicate] at z
  split at z<;>cases z
 have rel:Rel K [0] (WD H (·∈fp0)) (fun i=>if i=0 then fp0 else []) (ZY N.length ls) (L2.start N (v0::vr)) H:=by
  refine⟨S2,?_,fun i a z=>?_,fun i hne=>?_,fun i hi=>?_,fun i hi p hp=>?_,fun i hi j hj p hp=>?_⟩
  ·have hq:vr.length+1=ls.length:=hlen
   unfold ZY L2.start;simp;omega
  ·by_cases hil:i<ls.length
   ·unfold ZY at z
    rw[List.getElem?_append_left (by simpa using hil),List.getElem?_map] at z
    cases q:ls[i]? with
    | none=>rw[q] at z;cases z
    | some b=>
     rw[q] at z;cases z
     cases i with
     | zero=>
      rw[<-hls] at q
      simp at q;subst q
      exact⟨v0,by unfold L2.start;simp,by simpa using i0⟩
     | succ i=>
      rw[<-hls] at q
      obtain⟨v,f1,a1,b1,b2⟩:=hir.get (i:=i) (a:=a) (by simpa using q)
      have:f1=[]:=by cases f1 with | nil=>rfl | cons x r=>exact absurd (b2 x List.mem_cons_self) (by simp)
      subst this
      refine⟨v,?_,by simpa using b1⟩
      unfold L2.start
      rw[List.getElem?_append_left (by rw[List.length_map,hlen];exact hil),List.getElem?_map]
      simp[a1]
   ·exact absurd z (hout i (by omega) a)
  ·by_cases hil:i<ls.length
   ·exact absurd (by unfold ZY;rw[List.getElem?_append_left (by simpa using hil),List.getElem?_map,List.getElem?_eq_getElem hil];rfl) (hne ls[i])
   ·have:i≠0:=by rw[<-hls] at hil;simp at hil;omega
    simp[this]
  ·simp at hi;subst hi;simpa using nd0
  ·simp at hi;subst hi
   have hp:p∈fp0:=by simpa using hp
   exact⟨by unfold WD;rw[if_pos hp],mu0 p hp⟩
  ·simp at hi;subst hi
   simp[hj]
 cases out with
 | nx s'=>
  have e2:(match s'[0]? with | some (some l)=>some l | _=>none)=some l':=e2
  split at e2
  case h_2=>cases e2
  rename_i l es
  cases e2
  refine⟨_,_,_,s',rel,e1,fun fps' σ' H' r' q'=>?_⟩
  obtain⟨v,a,b⟩:=r'.is 0 _ es
  rw[q'] at a
  have:v=v0:=by unfold L2.start at a;simp at a;exact a.symm
  subst this
  exact q H' (fps' 0) r'.same b (r'.nd 0 (by simp)) fun p hp=>r'.own 0 (by simp) p hp
 | rt v=>cases e2
 | bk s'=>cases e2
 | ct s'=>cases e2
section
variable {P:Program} {w:World} {mg:Str->Option Value} {base:Heap}
theorem Kq{x:Str}{st:Stmt}{N ps:List Str}{k n:Nat}{W:List Nat}(m:Nat)(f:XS)(D:Def K mg x st)(S:Zx N ps (Zk st))
  (hb:∀(kV doc pm:Value)(an:Option Addr)(cdv ct:Value)(us:List Value),us.length=ps.length->bindArgs (PySem.W.fnOf x x (XF st) (YH st) (Zk st) .none kV doc pm an cdv ct) ⟨us,[]⟩=pure (ps.zip us))
  (hn:ps.length=n) (hm:N.length=m)
  (hbody:∀(fa:Addr)(cdv:Value)(A:Around)(outer:List Env)(s:Shared)(H:Hp)(E:XK),Room k (A.deeper (envOfC x (Zk st) s.heap.objs.size fa cdv))->Kp (Sw Od P w K mg base N x (Zk st) fa cdv A outer s H E).nox [0] W (YH st) f) :
  YU P w K mg base x ps (IC K (ID m f) n) (k+1):=by
 subst hm
 refine D.cal S hb (fun vs H Q E h=>by rw[hn];exact h.1) fun fa cdv A outer s H vs Q E hr h=>⟨_,hbody fa cdv A outer s H E hr,MU h⟩
end
def Qv(i:Nat)(D:List PV->Option PV)(fs:List XE):XS:=fun s=>match s[i]? with
 | some (some l0)=>(Tg fs s).bind fun ls=>if ZV ls=true then(D (l0::ls)).map fun l'=>.nx (s.set i (some l')) else none
 | _=>none
theorem MV{X:Cx}{O:List Nat}{i:Nat}{st:Stmt}{D:List PV->Option PV}{n:Nat}{fs:List XE}(h:PS X st (P7 (N5 (IC X.K D n) [] E0 (Vn (U1 i) (HI X.K fs)))))(hn:fs.length+1=n:=by rfl)(hi:i∈O:=by decide):VS X O [i] st (Qv i D fs):=PS.imp h fun D' σ H ⟨H0,fps,s,out,r,e,k⟩=>by
 unfold Qv at e
 split at e
 case h_2=>cases e
 rename_i l0 e0
 obtain⟨ls,e1,e⟩:=Zf e
 split at e
 case isFalse=>cases e
 rename_i pls
 obtain⟨l',e2,rfl⟩:=map_some e
 obtain⟨v0,hv,iv⟩:=r.is i _ e0
 refine⟨v0,hv,fun _=>False,s,ls,fun _ z=>z.elim,r.env,e1,fun vs H1 fp s1 i1 _=>?_⟩
 have:=Iss.pure _ _ _ pls i1
 subst this
 show IC X.K D n ((v0::vs)++[]) H1 _ E0
 rw[List.append_nil];have r1:=r.grow s1
 refine⟨by rw[List.length_cons,i1.len,Wq e1];exact hn,v0,vs,l0,ls,fps i,l',rfl,iv.mono s1,r.nd i hi,fun p hp=>(r1.own i hi p hp).2,i1,e2,fun H' fq sm iq ndq nq=>?_⟩
 have hlt:i<s.length:=Uy e0
 have keep:∀b o,b∉fps i->H1 b=some o->H' b=some o:=fun b o hb ho=>sm b o (by unfold WD;rw[if_neg hb];exact ho)
 have tk:K5 H1 H':=⟨fun b xs hb=>keep b _ (fun z=>by have:=(r1.own i hi b z).2;rw[hb] at this;exact this) hb,fun b o xs hb=>keep b _ (fun z=>by have:=(r1.own i hi b z).2;rw[hb] at this;exact this) hb,fun b o xs hb=>keep b _ (fun z=>by have:=(r1.own i hi b z).2;rw[hb] at this;exact this) hb⟩
 have hfq:∀p∈fq,p∈fps i\/H1 p=none:=fun p hp=>by
  have:=(nq p hp).1
  unfold WD at this
  split at this
  ·exact .inl (by assumption)
  ·exact .inr this
 have fr:∀j,j≠i->∀p∈fq,p∉fps j:=fun j hj p hp z=>by
  rcases hfq p hp with h | h
  ·exact r1.dis i hi j hj p h z
  ·exact r1.dom j p z h
 have e1':VX fps s.length i fq i=fq:=RI hlt
 refine k (VX fps s.length i fq) σ H' ⟨fun b u hb=>keep b u (fun z=>by rw[(r1.own i hi b z).1] at hb;cases hb) (r1.same b u hb),by rw[List.length_set];exact r.len,fun j a e=>?_,fun j h=>?_,fun j hj=>?_,fun j hj q hq=>?_,fun j hj k' hk q hq=>?_⟩ Os
 ·rw[List.getElem?_set] at e
  by_cases hj:i=j
  ·subst hj
   rw[if_pos rfl,if_pos hlt] at e;cases e
   rw[e1'];exact⟨v0,hv,iq⟩
  ·rw[if_neg hj] at e
   obtain⟨w,h1,h2⟩:=r1.is j a e
   rw[ZT (Ne.symm hj)]
   refine⟨w,h1,Is.tr tk _ _ _ (fun q hq=>RdK.of fun u hu=>?_) h2⟩
   exact keep q u (fun z=>r1.dis i hi j (Ne.symm hj) q z hq) hu
 ·by_cases hj:i=j
  ·subst hj
   exact absurd (by rw[List.getElem?_set,if_pos rfl,if_pos hlt]) (h l')
  ·rw[ZT (Ne.symm hj)]
   exact r.emp j fun a z=>h a (by rw[List.getElem?_set,if_neg hj];exact z)
 ·by_cases e:j=i
  ·subst e;rw[e1'];exact ndq
  ·rw[ZT e];exact r.nd j hj
 ·by_cases e:j=i
  ·subst e;rw[e1'] at hq
   refine⟨?_,(nq q hq).2⟩
   rcases hfq q hq with h | h
   ·exact(r1.own j hj q h).1
   ·exact Same.off r1.same h
  ·rw[ZT e] at hq
   refine⟨(r.own j hj q hq).1,?_⟩
   have mu:=(r1.own j hj q hq).2
   have nin:q∉fps i:=fun z=>r1.dis j hj i (Ne.symm e) q hq z
   cases hh:H1 q with
   | none=>exact absurd hh (r1.dom j q hq)
   | some o=>rw[keep q o nin hh,<-hh];exact mu
 ·by_cases e:j=i
  ·subst e
   rw[e1'] at hq;rw[ZT hk]
   exact fr k' hk q hq
  ·rw[ZT e] at hq
   by_cases e2:k'=i
   ·subst e2
    rw[e1']
    exact fun z=>fr j e q z hq
   ·rw[ZT e2];exact r.dis j hj k' hk q hq
end VL
namespace VL
open PySem PySem.Spec PyProof.Rows L2
variable {K:PySem.W.Frag}
def CMulW(i j:Int):Prop:=i.natAbs.log2<67108863/\j.natAbs.log2<67108863
def V7(i j:Int):Prop:=j≠0/\j.natAbs.log2<9000
instance (i j:Int):Decidable (CMulW i j):=by unfold CMulW;infer_instance
instance (i j:Int):Decidable (V7 i j):=by unfold V7;infer_instance
theorem OD(i:Int):Builtin.Int.intBits i<=i.natAbs.log2+1:=by
 unfold Builtin.Int.intBits
 split
 ·exact Nat.zero_le _
 ·exact Nat.le_refl _
theorem CMulW.ok{i j:Int}(h:CMulW i j):IntMulOk i j:=by
 unfold IntMulOk Builtin.Int.intTooBig;have h1:=OD i;have h2:=OD j;have h3:=h.1;have h4:=h.2
 have:decide (((Builtin.Int.intBits i:Int)+(Builtin.Int.intBits j:Int))>(bitsLine:Int))=false:=decide_eq_false (by
  have e:(bitsLine:Int)=134217728:=rfl
  rw[e];omega)
 rw[this]
 simp
section
variable {X:Cx} {a b:Expr} {fa fb:XE} {pos:Pos}
theorem Kr:Uo X (binaryOp .Mult) (rI CMulW fun i j=>.int (i*j)):=Iz fun _ _ _ _ _ _ _ hc q=>mul_int q hc.ok
theorem MW:Uo X (binaryOp .FloorDiv) (rI V7 fun i j=>.int (i.fdiv j)):=Iz fun _ _ _ _ _ _ _ hc q=>floordiv_int hc.1 q (.inl (PyProof.noPylong_of_log2 hc.2))
abbrev V8:=Mj CMulW (· * ·)
abbrev UX:=Mj V7 Int.fdiv
theorem Vc(ha:VE X a fa)(hb:VE X b fb):VE X (.BinOp a .Mult b pos) (Zi V8 fa fb):=Vq Kr (SW _ _) ha hb
theorem WT(ha:VE X a fa)(hb:VE X b fb):VE X (.BinOp a .FloorDiv b pos) (Zi UX fa fb):=Vq MW (SW _ _) ha hb
end
theorem T3:∀{ns:List Int}{n:Int},n∈ns->n.natAbs.log2<=PySem.W.WData.weightAll (ns.map .int)
 | m::r,n,h=>by
  rw[List.map_cons];simp only[PySem.W.WData.weightAll,PySem.W.WData.weight]
  rcases List.mem_cons.mp h with rfl | h
  ·by_cases h0:n=0
   ·subst h0
    have:Nat.log2 (Int.natAbs 0)=0:=by decide +kernel
    omega
   ·rw[if_neg (by simpa using h0)];omega
  ·have:=T3 h
   omega
open PySem.W PySem.Calls in
theorem law_walkB{l:PySem.W.OpenLaw}{q:Program}{loose:List Str}{XP:(Str->Option Value)->Heap->Prop}{YP:World->Heap->Prop}{d:DefRec}{KK:Params->PySem.W.Frag}{x:Str}{D:List PV->Option PV}(k:Nat)(hn:l.most=some 63)(hdf:d.params.defaults=[])
  (hr:Room k callerA) (hD:∀ns:List Int,ns.length<=63->(∀n∈ns,n.natAbs.log2<=1048576)->D [.cst (iL ns)]=some (.bl true))
  (hY:∀(w:World)(h:Heap),YP w h->(KK w.params).In h)
  (F:∀(w:World)(mg:Str->Option Value)(fa:Addr)(h:Heap),(KK w.params).In h->h.Ns mainGlobals mg->mg d.name=some (.ref fa)->
   ∃fd:FuncData,(∀(s:Shared)(u:Value),BindsTo s fd ⟨[u],[]⟩ [(x,u)])/\∀base:Heap,(KK w.params).In base->base.Ns mainGlobals mg->U2 l.prog w (KK w.params) mg base Od k fa fd [x] (YI (KK w.params) D 1)) :
  PySem.W.WalkO q loose XP YP l.row.toRowW d [] (fun f vs=>PySem.call f vs):=by
 intro w s₀ s₁ mg mb gr yy fa o pm cd doc dv kv ho hd hcd hdd hmg hgen args vals as hpre hlay hrd hwl hlo
 obtain rfl:dv = .none:=Dflts.none hdd hdf
 obtain rfl:kv = .none:=Dflts.noKw hdd
 obtain⟨a,vs,ns,rfl,rfl,hobj,hints,hlen⟩:=Att.script_of hn hpre hwl
 have hw:∀n∈ns,n.natAbs.log2<=1048576:=fun n h=>by
  have h1:(WData.list (ns.map WData.int)).layable=true:=List.all_eq_true.mp hlay _ (List.mem_singleton.mpr rfl)
  unfold WData.layable at h1
  have h2:=of_decide_eq_true (Bool.and_eq_true_iff.mp h1).2
  have h3:WData.weightAll (ns.map WData.int)<=1048576:=by simpa [WData.weight] using h2
  exact Nat.le_trans (T3 h) h3
 have kx:=hY w _ yy
 obtain⟨fd,hb,hF⟩:=F w mg fa _ kx gr.T.g hmg
 refine enter_call (codeAny_mono (L2.law_call kx gr.T.g gr.T.b gr.T.builtins gr.T.nolimit hgen hobj hints (Nat.le_trans hlen (by decide)) hr hF hb (fun H hO hS=>Ia (hD ns hlen hw) hO hS) fun H e s' z=>z) fun r s' hq=>?_)
 obtain⟨rfl,h2,h3,h4⟩:=hq
 exact⟨.inl ⟨.bool true,.bool true,[],rfl,fun _=>rfl,.bool true,Att.post_true l _,fun _=>⟨List.Pairwise.nil,fun _ hm=>(nomatch hm)⟩⟩,h2,h3,h4⟩
end VL
namespace VL
open PySem PySem.Spec PyProof.Rows L2
variable {K:PySem.W.Frag}
theorem Iss.getS{H:Hp}:∀{l:List PV}{xs:List V}{fp:List Addr}{i:Nat}{a:PV},Iss K H l xs fp->l[i]?=some a->∃x f1,xs[i]?=some x/\Is K H a x f1/\f1.Sublist fp
 | [],xs,fp,i,a,h,e=>by simp at e
 | l::ls,xs,fp,0,a,h,e=>by
  obtain⟨x,r,f1,f2,rfl,h1,_,rfl⟩:=h.inv
  simp at e;subst e
  exact⟨x,f1,rfl,h1,List.sublist_append_left _ _⟩
 | l::ls,xs,fp,i+1,a,h,e=>by
  obtain⟨x,r,f1,f2,rfl,_,h2,rfl⟩:=h.inv
  obtain⟨y,g,h3,h4,h5⟩:=h2.getS (i:=i) (a:=a) (by simpa using e)
  exact⟨y,g,by simpa using h3,h4,h5.trans (List.sublist_append_right _ _)⟩
def WU(i:Nat)(f0:XE)(a b:Nat):XS:=fun s=>(f0 s).bind fun l0=>match s[i]? with
 | some (some (.tup m))=>(m[a]?).bind fun la=>(m[b]?).bind fun lb=>if ZR l0=true/\ZR la=true then some (.rt (.tup [l0,la,lb])) else none
 | _=>none
theorem T4{X:Cx}{O:List Nat}{e:Expr}{i a b:Nat}{f0:XE}{pos:Pos}(he:PE X e (JJ (Vn (tF X.K f0) (Vn (KZ (LU X.K) (U1 i) (tF X.K (eC (.int (a:Int))))) (Vn (KZ (LU X.K) (U1 i) (tF X.K (eC (.int (b:Int))))) N3)))))(hi:i∈O:=by decide):VS X O [] (.Return (some e) pos) (WU i f0 a b):=PS.imp (Rk he) fun D σ H ⟨H0,fps,s,out,r,e,k⟩=>by
 obtain⟨l0,e0,e⟩:=Zf e
 split at e
 case h_2=>cases e
 rename_i m em
 obtain⟨la,ea,e⟩:=Zf e
 obtain⟨lb,eb,e⟩:=Zf e
 split at e
 case isFalse=>cases e
 rename_i pu
 cases e
 obtain⟨v,hv,iv⟩:=r.is i _ em
 obtain⟨p,xs,rfl,hp,hm⟩:=iv.tup_inv
 refine⟨fun _=>False,s,l0,fun _ z=>z.elim,r.env,e0,fun v0 H1 f1 s1 i1 _=>?_⟩
 have:=Is.pure _ _ _ pu.1 i1
 subst this
 refine⟨.ref p,hv,fun _=>False,s,_,fun _ z=>z.elim,r.env.mono s1,rfl,fun y1 H2 fy1 s2 j1 _=>?_⟩
 obtain⟨rfl,_⟩:=j1.int_inv
 have s12:=s1.trans s2
 obtain⟨xa,fa,hxa,ia,suba⟩:=(hm.mono s12).getS ea
 have:=Is.pure _ _ _ pu.2 ia
 subst this
 refine⟨p,xs,(a:Int),xa,rfl,rfl,SqT.of (s12 _ _ hp),W7 hxa,.ref p,hv,fun _=>False,s,_,fun _ z=>z.elim,r.env.mono s12,rfl,fun y2 H3 fy2 s3 j2 _=>?_⟩
 obtain⟨rfl,_⟩:=j2.int_inv
 have s123:=s12.trans s3
 obtain⟨xb,fb,hxb,ib,subb⟩:=(hm.mono s123).getS eb
 refine⟨p,xs,(b:Int),xb,rfl,rfl,SqT.of (s123 _ _ hp),W7 hxb,(by show 3<=sizeLine;decide),fun q hq=>?_⟩
 have sn:Same H3 (upd H3 q (.tup [v0,xa,xb])):=Same.new hq _
 have r3:=r.grow s123
 refine k _ fb _ (r3.same.trans sn) (Is.tup Zw ?_) ((r.nd i hi).sublist subb) fun z hz=>?_
 ·have h1:=Iss.cons (i1.mono (s2.trans (s3.trans sn))) (Iss.cons (ia.mono (s3.trans sn)) (Iss.one (ib.mono sn)))
  simpa using h1
 ·have:=r3.own i hi z (subb.subset hz)
  exact⟨this.1,Same.mut sn this.2⟩
def Ii(K:PySem.W.Frag)(H0:Hp)(D:U0):Out->Prop
 | .nx _=>∀σ' H',Same H0 H'->D.nx σ' H'
 | .rt l=>∀v fp H',Same H0 H'->Is K H' l v fp->fp.Nodup->(∀p∈fp,H0 p=none/\Wc (H' p))->D.rt v H'
 | _=>False
def Hx(K:PySem.W.Frag)(O:List Nat)(f:XS):TS:=fun D σ H=>∃H0 fps s out,Rel K O H0 fps s σ H/\f s=some out/\Ii K H0 D out
def No(X:Cx)(O:List Nat)(st:List Stmt)(f:XS):Prop:=PSs X st (Hx X.K O f)
section
variable {X:Cx} {O O' W:List Nat} {st:Stmt} {Ym:List Stmt} {f g:XS}
theorem VSs.r(h:VSs X O W Ym f):No X O Ym f:=PSs.imp h fun D σ H ⟨H0,fps,s,out,r,e,k⟩=>⟨H0,fps,s,out,r,e,by
 cases out with
 | nx s'=>exact fun fps' σ' H' r' _=>k σ' H' r'.same
 | rt l=>exact k
 | bk s'=>exact k.elim
 | ct s'=>exact k.elim⟩
theorem Y9(h1:VS X O W st f)(h2:No X O Ym g):No X O (st::Ym) (Zt f g):=PSs.imp (Tw h1 h2) fun D σ H ⟨H0,fps,s,out,r,e,k⟩=>by
 obtain⟨o1,e1,e⟩:=Zf e
 refine⟨H0,fps,s,o1,r,e1,?_⟩
 cases o1 with
 | nx s1=>exact fun fps1 σ1 H1 r1 _=>⟨H0,fps1,s1,out,r1,e,k⟩
 | bk s1=>cases e;exact k.elim
 | ct s1=>cases e;exact k.elim
 | rt l=>cases e;exact k
theorem Np(h:No X O' Ym g)(hs:∀i∈O',i∈O:=by decide):No X O Ym g:=PSs.imp h fun D σ H ⟨H0,fps,s,out,r,e,k⟩=>⟨H0,fps,s,out,r.weak hs,e,k⟩
end
theorem Nq{N:List Str}{n:Nat}{O:List Nat}{vs:List V}{H:Hp}{ls:List PV}{fp:List Addr}(hO:∀i∈O,n<=i)(hl:vs.length=n)(hi:Iss K H ls vs fp):∃fps,Rel K O H fps (ZY N.length ls) (L2.start N vs) H:=by
 obtain⟨fps,p1,p2⟩:=hi.fps
 have hlen:=hi.len
 have hout:∀i:Nat,ls.length<=i->∀l,(ZY N.length ls)[i]?≠some (some l):=fun i hi l z=>by
  unfold ZY at z;rw[List.getElem?_append_right (by simpa using hi),List.getElem?_replicate] at z
  split at z<;>cases z
 refine⟨fps,Same.refl H,?_,fun i a z=>?_,fun i hne=>?_,fun i hi=>?_,fun i hi p hp=>?_,fun i hi j hj p hp=>?_⟩
 ·unfold ZY L2.start;simp[hlen]
 ·by_cases hil:i<ls.length
  ·unfold ZY at z
   rw[List.getElem?_append_left (by simpa using hil),List.getElem?_map] at z
   cases q:ls[i]? with
   | none=>rw[q] at z;cases z
   | some b=>
    rw[q] at z;cases z
    obtain⟨v,a1,b1⟩:=p1 i a q
    refine⟨v,?_,b1⟩
    unfold L2.start
    rw[List.getElem?_append_left (by simpa [hlen] using hil),List.getElem?_map,a1];rfl
  ·exact absurd z (hout i (by omega) a)
 ·by_cases hil:i<ls.length
  ·exact absurd (by unfold ZY;rw[List.getElem?_append_left (by simpa using hil),List.getElem?_map,List.getElem?_eq_getElem hil];rfl) (hne ls[i])
  ·exact p2 i (by omega)
 ·rw[p2 i (by have:=hO i hi;omega)];exact List.nodup_nil
 ·rw[p2 i (by have:=hO i hi;omega)] at hp;simp at hp
 ·rw[p2 i (by have:=hO i hi;omega)] at hp;simp at hp
theorem MX{N:List Str}{n:Nat}{O:List Nat}{f:XS}{vs:List V}{H:Hp}{Q:VK}{E:XK}(hO:∀i∈O,n<=i)(h:YI K (YZ N.length f) n vs H Q E):Hx K O f { nx:=fun _ H'=>Q .non H',rt:=Q } (L2.start N vs) H:=by
 obtain⟨hl,ls,fp,l,hi,e,q⟩:=h
 obtain⟨out,e1,e2⟩:=Zf e
 obtain⟨fps,rel⟩:=Nq (N:=N) hO hl hi
 refine⟨H,fps,ZY N.length ls,out,rel,e1,?_⟩
 cases out with
 | nx s'=>
  cases e2
  exact fun σ' H' sm=>q .non H' [] sm Is.non List.nodup_nil fun p hp=>by simp at hp
 | rt v=>
  cases e2
  exact fun v fp H' sm i d n=>q v H' fp sm i d n
 | bk s'=>cases e2
 | ct s'=>cases e2
section
variable {P:Program} {w:World} {mg:Str->Option Value} {base:Heap}
theorem Ks{x:Str}{st:Stmt}{N ps:List Str}{k n:Nat}{O:List Nat}{fa:Addr}{fd:FuncData}(m:Nat)(f:XS)(F:Fun K x x st fa fd)(S:Zx N ps (Zk st))
  (hn:ps.length=n) (hm:N.length=m) (hO:∀i∈O,n<=i)
  (hbody:∀(fa:Addr)(cdv:Value)(A:Around)(outer:List Env)(s:Shared)(H:Hp)(E:XK),Room k (A.deeper (envOfC x (Zk st) s.heap.objs.size fa cdv))->No (Sw Od P w K mg base N x (Zk st) fa cdv A outer s H E).nox O (YH st) f) :
  U2 P w K mg base Od (k+1) fa fd ps (YI K (YZ m f) n):=by
 subst hm
 refine F.ok S (fun vs H Q E h=>by rw[hn];exact h.1) fun cdv A outer s H vs Q E hr h=>⟨_,hbody fa cdv A outer s H E hr,?_⟩
 exact MX hO h
end
end VL
namespace VL
open PySem PySem.Spec PyProof.Rows L2
def MY(i:Nat)(f0:XE):XS:=fun s=>(f0 s).bind fun l0=>match s[i]? with
 | some (some l)=>if ZR l0=true then some (.rt (.tup [l0,l])) else none
 | _=>none
theorem MZ{X:Cx}{O:List Nat}{e:Expr}{i:Nat}{f0:XE}{pos:Pos}(he:PE X e (JJ (Vn (tF X.K f0) (Vn (U1 i) N3))))(hi:i∈O:=by decide):VS X O [] (.Return (some e) pos) (MY i f0):=PS.imp (Rk he) fun D σ H ⟨H0,fps,s,out,r,e,k⟩=>by
 obtain⟨l0,e0,e⟩:=Zf e
 split at e
 case h_2=>cases e
 rename_i l em
 split at e
 case isFalse=>cases e
 rename_i pu
 cases e
 obtain⟨v,hv,iv⟩:=r.is i _ em
 refine⟨fun _=>False,s,l0,fun _ z=>z.elim,r.env,e0,fun v0 H1 f1 s1 i1 _=>?_⟩
 have:=Is.pure _ _ _ pu i1
 subst this
 refine⟨v,hv,(by show 2<=sizeLine;decide),fun q hq=>?_⟩
 have sn:Same H1 (upd H1 q (.tup [v0,v])):=Same.new hq _
 have r3:=r.grow s1
 refine k _ (fps i) _ (r3.same.trans sn) (Is.tup Zw ?_) (r.nd i hi) fun z hz=>?_
 ·have h1:=Iss.cons (i1.mono sn) (Iss.one ((iv.mono s1).mono sn))
  simpa using h1
 ·have:=r3.own i hi z hz
  exact⟨this.1,Same.mut sn this.2⟩
end VL
namespace PW
open PySem L2 VL
noncomputable def WV:XS:=(Zt (U8 (xB (Zi Oh (Za 1) (Ze YF [(Za 0)]))) (Z9 (eP (Zi Yb (Za 0) (Za 1)))) Yv)
  (Z9 (eP (Zi Y4 (Zi Vm (Zi ZW (Zi ZW (Zi Vm (Za 1) (Za 1)) (Zi Vm (eC (.int 3)) (Za 1))) (eC (.int 1))) (eC (.int 5003))) (eC (.int 1999))))))
noncomputable def Zp:List PV->Option PV:=YZ 2 WV
noncomputable def V9:XS:=(Zt (Zs 3 (eP (Zi Rz (Za 0) (eC (.int 2)))))
  (Zt (U8 (VJ (xB (Zi (YJ false) (Zi Y4 (Za 0) (eC (.int 2))) (eC (.int 1)))) (xB (Zi NU (Za 0) (Zi Vv (eC (.int 10)) (eC (.int 9)))))) (Zt (Wg [] (ZL [(Za 1)]) (.one 4) (Zs 3 (eP (Zi Rz (Za 3) (eC (.int 1000))))))
  (Z9 (eP (Zi Y4 (Za 3) (Za 2))))) Yv)
  (Zt (Zs 3 (eP (Zi ZW (Zi Y4 (Za 3) (eC (.int 999979))) (Zi Vm (eC (.int 1009)) (Za 1)))))
  (Zt (Zs 3 (eP (Zi Y4 (Zi ZW (Zi Vm (Za 3) (Za 3)) (Zi Vm (eC (.int 40503)) (Za 3))) (eC (.int 999983)))))
  (Z9 (eP (Zi Y4 (Zi Rz (Zi Y4 (Zi ZW (Zi Vm (Za 3) (Za 3)) (Zi Vm (eC (.int 7)) (Za 1))) (eC (.int 999961))) (eC (.int 11))) (Za 2))))))))
noncomputable def Zl:List PV->Option PV:=YZ 5 V9
noncomputable def Tm:XS:=(Zt (Zs 4 (eP (Ze Qm [(eC (.int 9)),(Zi ZW (Zi Yb (Zi Yb (Za 0) (Za 1)) (Za 2)) (Za 3))])))
  (Zt (Ww 0 (Za 1) (Za 2) (Za 4))
  (Ww 0 (Za 2) (Za 1) (Za 4))))
noncomputable def Wx:List PV->Option PV:=ID 5 Tm
noncomputable def Tn:XS:=(Zt (Zs 2 (Ze Zp [(Za 0),(eC (.int 0))]))
  (Zt (Zs 3 (eP (Zi ZW (eC (.int 1)) (Ze Zl [(Za 2),(eC (.int 0)),(Za 1)]))))
  (Zt (Zs 4 (Zu 1 [3] (ZL [(Za 3)]) (.one 0) ZA (Zi ME (Wf [(eC (.int 0))]) (Za 1))))
  (Zt (Zs 5 (Wf []))
  (Zt (Wg [4,5] (ZL [(Za 3)]) (.one 6) (Wv 5 (Ze Zl [(Ze Zp [(Za 0),(Zi ZW (eC (.int 6)) (Za 6))]),(eC (.int 10)),(Zi ZW (Za 6) (eC (.int 1)))]) (Za 6)))
  (Zt (Wg [4,5] (UV [(eC (.int 1)),(Za 3)]) (.one 6) (Zt (Zs 7 (Ze Zp [(Za 0),(Za 6)]))
  (Qv 4 Wx [(Zi Yb (Za 5) (Za 6)),(Zi Yb (Za 5) (Ze Zl [(Za 7),(eC (.int 1)),(Za 6)])),(Zi ZW (eC (.int 1)) (Ze Zl [(Za 7),(eC (.int 2)),(eC (.int 3))]))])))
  (Zt (U8 (xB (Zi NU (Za 3) (eC (.int 1)))) (Wg [4,5] (ZL [(Ze Zl [(Za 2),(eC (.int 3)),(eC (.int 6))])]) (.one 6) (Zt (Zs 7 (Ze Zp [(Za 0),(Zi ZW (eC (.int 7)) (Za 6))]))
  (Zt (Zs 8 (Ze Zl [(Za 7),(eC (.int 4)),(Za 3)]))
  (Zt (Zs 9 (eP (Zi Y4 (Zi ZW (Zi ZW (Za 8) (eC (.int 1))) (Ze Zl [(Za 7),(eC (.int 5)),(Zi Xe (Za 3) (eC (.int 1)))])) (Za 3))))
  (Qv 4 Wx [(Za 8),(Za 9),(Zi ZW (eC (.int 1)) (Ze Zl [(Za 7),(eC (.int 6)),(eC (.int 2))]))]))))) Yv)
  (Z9 (eP (Ze Ya [(Zu 1 [] (XH (Za 4)) (.one 0) ZA (Ze Ya [(Za 0)]))]))))))))))
noncomputable def Vd:List PV->Option PV:=YZ 10 Tn
noncomputable def Ve:XS:=(Zt (U8 (xB (Zi (YJ false) (Zi Y4 (Za 0) (eC (.int 5))) (eC (.int 4)))) (Z9 (eP (Zi Xe (Zi Y4 (Zi V8 (Za 0) (Za 0)) (Zi V8 (eC (.int 2)) (Zi Vv (eC (.int 10)) (eC (.int 29))))) (Zi Vv (eC (.int 10)) (eC (.int 29)))))) Yv)
  (Zt (U8 (xB (Zi (YJ false) (Zi Y4 (Za 0) (eC (.int 5))) (eC (.int 3)))) (Z9 (eP (Zi Xe (Zi Y4 (Zi UX (Za 0) (eC (.int 5))) (eC (.int 2001))) (eC (.int 1000))))) Yv)
  (Z9 (eP (Zi Xe (Zi Y4 (Zi UX (Za 0) (eC (.int 5))) (eC (.int 13))) (eC (.int 6)))))))
noncomputable def Yo:List PV->Option PV:=YZ 1 Ve
noncomputable def UC:XS:=(Z9 (eP (Ze Ya [(Zu 1 [0,1] (ZL [(Za 2)]) (.one 0) ZA (Ze Yo [(Ze Zp [(Za 1),(Zi ZW (Za 2) (Za 0))])]))])))
noncomputable def Xr:List PV->Option PV:=YZ 3 UC
noncomputable def Vf:XS:=(Z9 (eP (Ze Xn [(Zu 1 [0,1] (XH (Za 2)) (.one 0) ZA (Zi Yb (Zi Yb (Za 1) (Za 2)) (Za 0)))])))
noncomputable def Wh:List PV->Option PV:=YZ 3 Vf
noncomputable def Y1:XS:=(Zt (Wg [] (Y8 false [(Za 1)]) (.many [3,4]) (U8 (VJ (xB (Zi (RF true) (Za 3) (Za 2))) (xB (Zi Oh (Za 4) (Ze Wh [(Za 0),(Za 3),(Za 2)])))) (Z9 (eP (Za 3))) Yv))
  (Z9 (eP (eC .non))))
noncomputable def ZU:List PV->Option PV:=YZ 5 Y1
noncomputable def To:XS:=(Zt (Zs 3 (Wf [(eP (Za 2))]))
  (Zt (Zs 4 (Ze ZU [(Za 0),(Za 1),(Za 3)]))
  (Zt (WO (xB (Na true (Za 4))) (Zt (XZ 3 (eP (Za 4)))
  (Zs 4 (Ze ZU [(Za 0),(Za 1),(Za 3)]))))
  (Z9 (Za 3)))))
noncomputable def Ua:List PV->Option PV:=YZ 5 To
noncomputable def Vg:XS:=(Z9 (Zu 2 [1] (Y8 false [(Za 0)]) (.many [0,1]) (VJ (xB (Zi (YJ true) (Za 0) (Za 2))) (xB (Zi Oh (Za 1) (eC (.int 0))))) (eP (Za 0))))
noncomputable def YE:List PV->Option PV:=YZ 2 Vg
noncomputable def Vh:XS:=(Z9 (eP (Ze Ya [(Zu 2 [3,1,2,0] (VU false false [(Za 0),(Za 1)]) (.many [0,1]) ZA (Zi UX (Zi Xe (Zi V8 (Zi Yb (Za 3) (Za 4)) (Za 0)) (Zi V8 (Zi Yb (Za 5) (Za 4)) (Za 1))) (Za 2)))])))
noncomputable def Xa:List PV->Option PV:=YZ 4 Vh
noncomputable def Ub:XS:=(Zt (Zs 1 (Ze X8 [(Za 0)]))
  (Zt (Zs 2 (eP (eC (.int 1))))
  (Zt (Wg [1] (ZL [(Ze YF [(Za 0)])]) (.one 3) (Zt (Zs 4 (eP (Zi Yb (Za 1) (Za 3))))
  (Zt (Zs 1 (Zu 2 [3,4,2] (Y8 true [(Za 1)]) (.many [0,1]) ZA (eP (O9 (xB (Zi (YJ false) (Za 0) (Za 2))) (Za 1) (Ze Xa [(Za 1),(Za 3),(Za 2),(Za 4)])))))
  (Zs 2 (eP (Zi Yb (Za 4) (Za 3)))))))
  (MY 1 (Za 2)))))
noncomputable def Wi:List PV->Option PV:=YZ 5 Ub
noncomputable def Xi:XS:=(Zt (Zs 2 (Ze Wi [(Zu 2 [] (VU false false [(Za 0),(Za 1)]) (.many [0,1]) ZA (Zi WC (Za 0) (RE [(Za 1)])))]))
  (Z9 (Zu 1 [2] (XH (Zi Yb (Za 2) (eC (.int 1)))) (.one 0) ZA (eP (Zi UX (Zi Yb (Za 0) (Lz SB (eC (.int 1)))) (Zi Yb (Za 1) (eC (.int 0))))))))
noncomputable def Yt:List PV->Option PV:=YZ 3 Xi
noncomputable def Uc:XS:=(Z9 (eP (Ze Ya [(Zu 1 [1,0] (XH (Za 2)) (.one 0) ZA (O9 (xB (Zi (YJ false) (Za 0) (Za 1))) (Ze XJ [(Za 2),(Za 1)]) (Lz SB (Zi Yb (Zi Yb (Za 2) (Za 1)) (Za 0)))))])))
noncomputable def WW:List PV->Option PV:=YZ 3 Uc
noncomputable def YQ:XS:=(Zt (Zs 2 (Zu 1 [1] (ZL [(Ze YF [(Za 0)])]) (.one 0) (xB (Zi (YJ true) (Za 0) (Za 1))) (eP (Za 0))))
  (Z9 (eP (Ze Ya [(Zu 1 [0,2] (XH (Za 2)) (.one 0) ZA (Ze WW [(Za 1),(Za 0),(Za 2)]))]))))
noncomputable def Z7:List PV->Option PV:=YZ 3 YQ
noncomputable def Vi:XS:=(Zt (Zs 3 (eP (Zi WC (Oo U7 (Za 1) Jb (R6 (Za 2))) (Oo U7 (Za 1) (R6 (Zi ZW (Za 2) (eC (.int 1)))) Jb))))
  (Zt (Zs 4 (Ze Yt [(Ze Z7 [(Za 0),(Za 2)]),(Za 3)]))
  (Zt (Wv 4 (Za 2) (eC (.int 0)))
  (Z9 (eP (Ze Ya [(Za 4)]))))))
noncomputable def Xs:List PV->Option PV:=YZ 5 Vi
noncomputable def X0:XS:=(Z9 (eP (Ze Ya [(Zu 1 [1] (ZL [(Ze YF [(Za 0)])]) (.one 0) ZA (O9 (xB (Zi (RF false) (Za 0) (Za 1))) (Lz SB (eC (.int 1))) (eC (.int 0))))])))
noncomputable def YN:List PV->Option PV:=YZ 2 X0
noncomputable def RL:XS:=(Zt (Zs 1 (eP (Ze T1 [(Za 0)])))
  (Z9 (eP (Ze Ya [(Zu 1 [1] (U6 (Za 0)) (.one 0) ZA (Zi Xe (Za 0) (Za 1)))]))))
noncomputable def Vj:List PV->Option PV:=YZ 2 RL
noncomputable def Ud:XS:=(Zt (Zs 3 (Ze Xs [(Za 0),(Za 1),(Za 2)]))
  (Zt (Zs 4 (Ze WR [(Za 0),(Za 1),(Za 3)]))
  (Zt (Zs 5 (Ze YE [(Za 4),(Za 2)]))
  (Zt (WO (xB (Zi NU (Ze YF [(Za 5)]) (eC (.int 0)))) (Zt (Zs 6 (Ze YN [(Za 0),(Za 5)]))
  (Zt (Zs 3 (Ze WS [(Za 3),(Za 6)]))
  (Zt (Zs 4 (Ze WR [(Za 0),(Za 4),(Za 6)]))
  (Zs 5 (Ze YE [(Za 4),(Za 2)]))))))
  (Z9 (RE [(Ze Vj [(Za 3)]),(eP (Za 4)),(Ze Ua [(Za 0),(Za 4),(Za 2)])]))))))
noncomputable def Wj:List PV->Option PV:=YZ 7 Ud
noncomputable def Tp:XS:=(Zt (Zs 3 (Wf []))
  (Zt (Wg [3] (ZL [(Ze YF [(Za 0)])]) (.one 4) (Zt (Zs 5 (eP (Ze Xn [(Zu 1 [0,4,2] (ZL [(Ze YF [(Za 0)])]) (.one 0) ZA (Zi Vm (Zi Yb (Zi Yb (Za 1) (Za 2)) (Za 0)) (Zi Xe (Zi Yb (Za 3) (Za 2)) (Zi Yb (Za 3) (Za 0)))))])))
  (XZ 3 (eP (Zi Xe (Zi Yb (Za 1) (Za 4)) (Za 5))))))
  (Z9 (eP (Ze Ya [(Za 3)])))))
noncomputable def X1:List PV->Option PV:=YZ 6 Tp
noncomputable def Vk:XS:=(Zt (U8 (xB (Zi (YJ false) (Zi Y4 (Za 0) (eC (.int 4))) (eC (.int 3)))) (Z9 (eP (Zi Xe (Zi Y4 (Zi V8 (Za 0) (Za 0)) (Zi V8 (eC (.int 2)) (Zi Vv (eC (.int 10)) (eC (.int 26))))) (Zi Vv (eC (.int 10)) (eC (.int 26)))))) Yv)
  (Z9 (eP (Zi Xe (Zi Y4 (Zi UX (Za 0) (eC (.int 4))) (eC (.int 9))) (eC (.int 4))))))
noncomputable def Wk:List PV->Option PV:=YZ 1 Vk
noncomputable def Vz:XS:=(Z9 (eP (Ze Ya [(Zu 1 [0,1] (ZL [(Za 2)]) (.one 0) ZA (Ze Wk [(Ze Zp [(Za 1),(Zi ZW (Za 2) (Za 0))])]))])))
noncomputable def ZZ:List PV->Option PV:=YZ 3 Vz
noncomputable def Xb:XS:=(Zt (Zs 2 (Ze Wj [(Za 0),(Za 1),(eC (.int 0))]))
  (Zt (U8 (xB (Zi JZ (Zi Yb (Zi Yb (Za 2) (eC (.int 1))) (eC (.int 0))) (eC (.int 0)))) (WU 2 (eC (.str "free")) 0 1) Yv)
  (WU 2 (eC (.str "never")) 0 2)))
noncomputable def Xc:List PV->Option PV:=YZ 3 Xb
end PW
namespace L2
open PySem PySem.Spec PyProof.Rows
abbrev WJ:=Addr->Obj->List (List Tc×V)->It
end L2
namespace PW
open PySem L2 VL
noncomputable def Ue:XS:=(Zt (Zs 2 (Ze Xc [(Za 0),(Za 1)]))
  (Zt (U8 (Ly (RA (xB (Ze WB [(Za 2),(eC (.ty "tuple"))]))) (Ly (xB (Zi (YJ true) (Ze YF [(Za 2)]) (eC (.int 3)))) (RA (xB (Ze WB [(Zi Yb (Za 2) (eC (.int 0))),(eC (.ty "str"))]))))) (Z9 (eP (eC (.str "")))) Yv)
  (Z9 (eP (Zi Yb (Za 2) (eC (.int 0)))))))
noncomputable def Yu:List PV->Option PV:=YZ 3 Ue
noncomputable def X2:XS:=(Zt (Zs 3 (eP (Zi ZW (Zi Xe (Zi Rz (Ze Xn [(Zu 1 [] (U6 (Za 0)) (.one 0) ZA (Ze Xn [(Za 0)]))]) (eC (.int 2))) (Ze YF [(Za 0)])) (eC (.int 1)))))
  (Zt (U8 (xB (Zi (RF true) (Za 2) (Wf [(eC (.str "free")),(eC (.str "never"))]))) (Z9 (eP (eC (.bl false)))) Yv)
  (Zt (U8 (xB (Zi Oh (Ze Xn [(Za 1)]) (eC (.int 0)))) (Z9 (eP (Zi (YJ false) (Za 2) (eC (.str "never"))))) Yv)
  (Z9 (eP (Hn (Zi (YJ false) (Za 2) (eC (.str "free"))) (Zi Oh (Ze Xn [(Za 1)]) (Za 3))))))))
noncomputable def Yy:List PV->Option PV:=YZ 4 X2
noncomputable def OE:XS:=(Zt (Zs 1 (Ze Vd [(Za 0),(eC (.int 7))]))
  (Zt (Zs 2 (eP (Ze YF [(Za 1)])))
  (Zt (Zs 3 (Ze Xr [(Za 0),(eC (.int 13)),(Za 2)]))
  (Zt (U8 (xB (Zi (YJ false) (Ze Zl [(Ze Zp [(Za 0),(eC (.int 12))]),(eC (.int 7)),(eC (.int 2))]) (eC (.int 0)))) (Zs 3 (eP (Ze Ya [(Zu 1 [0] (ZL [(Za 2)]) (.one 0) ZA (Zi Xe (Ze Zl [(Ze Zp [(Za 1),(Zi ZW (eC (.int 13)) (Za 0))]),(eC (.int 8)),(eC (.int 8))]) (eC (.int 3))))]))) Yv)
  (Zt (Zs 4 (Ze Yu [(Za 1),(Za 3)]))
  (Zt (U8 (RA (xB (Ze Yy [(Za 1),(Za 3),(Za 4)]))) (Z9 (eP (eC (.bl false)))) Yv)
  (Zt (Zs 5 (Ze X8 [(Ze ZZ [(Za 0),(eC (.int 20)),(Za 2)])]))
  (Zt (Wg [5] (XH (Oo Nh (Za 0) (R6 (eC (.int 27))) (R6 (eC (.int 62))))) (.one 6) (Zt (Zs 7 (Ze Zl [(Za 6),(eC (.int 8)),(Za 2)]))
  (Uz 5 (Za 7) (Zi ZW (Zi Yb (Za 5) (Za 7)) (eC (.int 1))))))
  (Zt (Wg [] (XH (Wf [(Ze ZZ [(Za 0),(eC (.int 27)),(Za 2)]),(Za 5)])) (.one 8) (Zt (Zs 9 (Ze X1 [(Za 1),(Za 3),(Za 8)]))
  (U8 (Ly (VJ (xB (Zi (YJ false) (Za 4) (eC (.str "never")))) (xB (Zi JZ (Ze T1 [(Za 9)]) (eC (.int 0))))) (xB (Zi (YJ true) (Ze Yu [(Za 1),(Za 9)]) (Za 4)))) (Z9 (eP (eC (.bl false)))) Yv)))
  (Zt (Zs 10 (eP (Ze Ya [(Zu 1 [3,0] (ZL [(Za 2)]) (.one 0) ZA (Zi ZW (Zi Yb (Za 1) (Za 0)) (Zi Y4 (Ze Q5 [(Ze Yo [(Ze Zp [(Za 2),(Zi ZW (eC (.int 34)) (Za 0))])])]) (Zi Vv (eC (.int 10)) (eC (.int 28))))))])))
  (Zt (Zs 11 (Ze Yu [(Za 1),(Za 10)]))
  (Zt (U8 (xB (Zi (YJ false) (Za 4) (eC (.str "free")))) (Z9 (eP (Zi (YJ false) (Za 11) (eC (.str "free"))))) Yv)
  (Z9 (Ze Yy [(Za 1),(Za 10),(Za 11)]))))))))))))))
noncomputable def D_law:List PV->Option PV:=YZ 12 OE
def VD(i:Nat):Stmt:=PySem.Challenge.pw_purseweb_k35_whole_free_or_never.main.body.getD i (.Pass ⟨0,0,0,0⟩)
section
variable {P:Program} {w:World} {K:PySem.W.Frag} {mg:Str->Option Value} {base:Heap}
abbrev T5:Stmt:=VD 27
theorem Nr:Zx (["_law_script_here","_law_k"]:List Str) (["_law_script_here","_law_k"]:List Str) (Zk T5):=⟨rfl,rfl,rfl,by decide +kernel,rfl,by decide +kernel,by decide +kernel⟩
theorem Nt(Df:Def K mg "_law_cell" T5)(B:Vu mg):YU P w K mg base "_law_cell" (["_law_script_here","_law_k"]:List Str) (YI K Zp 2) 1:=
 Z3 (O:=[]) (k:=0) 2 WV Df Nr (fun _ _ _ _ _ _ us hl=>match us,hl with | [_,_],_=>rfl) rfl rfl (by decide) (fun fa cdv A outer s H E hr=>
  (Zj (XR (Oi (Zd (pv 1)) (ZI YW X7 rfl B.len (by decide +kernel) (Zc (Zd (pv 0)) Zg))) (Zm (ZH (VE.pure (ZG (Zd (pv 0)) (Zd (pv 1)))))) YB)
  (Zm (ZH (VE.pure (YM (X6 (Yh (Yh (X6 (Zd (pv 1)) (Zd (pv 1))) (X6 Zh (Zd (pv 1)))) Zh) Zh) Zh))))))
abbrev T6:Stmt:=VD 28
theorem sc_l_part:Zx (["_law_cell_here","_law_turn","_law_many","_law_x","_law_k"]:List Str) (["_law_cell_here","_law_turn","_law_many"]:List Str) (Zk T6):=⟨rfl,rfl,rfl,by decide +kernel,rfl,by decide +kernel,by decide +kernel⟩
theorem Nu(Df:Def K mg "_law_part" T6)(B:Vu mg):YU P w K mg base "_law_part" (["_law_cell_here","_law_turn","_law_many"]:List Str) (YI K Zl 3) 1:=
 Z3 (O:=[]) (k:=0) 5 V9 Df sc_l_part (fun _ _ _ _ _ _ us hl=>match us,hl with | [_,_,_],_=>rfl) rfl rfl (by decide) (fun fa cdv A outer s H E hr=>
  (Zj (Zy (i:=3) sc_l_part.nd rfl (Or.inl rfl) (VE.pure (Td (Zd (pv 0)) Zh)))
  (Zj (XR (VW.vt (RD (V0 hr.units (YM (Zd (pv 0)) Zh) Zh) (Tf (Mm (Zd (pv 0)) (Ux Zh Zh))))) (Zj (Wu PassesOwn.never rfl (Yi rfl B.range (Zc (Zd (pv 1)) Zg)) (Zv (i:=4) sc_l_part.nd rfl (Or.inl rfl)) (Zm (Zy (i:=3) sc_l_part.nd rfl (Or.inl rfl) (VE.pure (Td (Zd (pv 3)) Zh)))))
  (Zm (ZH (VE.pure (YM (Zd (pv 3)) (Zd (pv 2))))))) YB)
  (Zj (Zy (i:=3) sc_l_part.nd rfl (Or.inl rfl) (VE.pure (Yh (YM (Zd (pv 3)) Zh) (X6 Zh (Zd (pv 1))))))
  (Zj (Zy (i:=3) sc_l_part.nd rfl (Or.inl rfl) (VE.pure (YM (Yh (X6 (Zd (pv 3)) (Zd (pv 3))) (X6 Zh (Zd (pv 3)))) Zh)))
  (Zm (ZH (VE.pure (YM (Td (YM (Yh (X6 (Zd (pv 3)) (Zd (pv 3))) (X6 Zh (Zd (pv 1)))) Zh) Zh) (Zd (pv 2)))))))))))
abbrev RM:Stmt:=VD 29
theorem sc_l_tie:Zx (["_law_times","_law_one","_law_other","_law_more","_law_many"]:List Str) (["_law_times","_law_one","_law_other","_law_more"]:List Str) (Zk RM):=⟨rfl,rfl,rfl,by decide +kernel,rfl,by decide +kernel,by decide +kernel⟩
theorem M0(Df:Def K mg "_law_tie" RM)(B:Vu mg):YU P w K mg base "_law_tie" (["_law_times","_law_one","_law_other","_law_more"]:List Str) (IC K Wx 4) 1:=
 Kq (k:=0) 5 Tm Df sc_l_tie (fun _ _ _ _ _ _ us hl=>match us,hl with | [_,_,_,_],_=>rfl) rfl rfl (fun fa cdv A outer s H E hr=>
  (S9 (VS.vs0 (Zy (i:=4) sc_l_tie.nd rfl (Or.inl rfl) (VE.pure (ZI (O2 rfl) Ke rfl B.min (by decide +kernel) (Zc Zh (Zc (Yh (ZG (ZG (Zd (pv 0)) (Zd (pv 1))) (Zd (pv 2))) (Zd (pv 3))) Zg))))))
  (S9 (T2 (QN (Zd (pv 4)) (QL (TB ix_list (pv 0) (Zd (pv 1)) (fun _ _=>rfl)) (Zd (pv 2)) TC)))
  (MT (T2 (QN (Zd (pv 4)) (QL (TB ix_list (pv 0) (Zd (pv 2)) (fun _ _=>rfl)) (Zd (pv 1)) TC)))))))
abbrev RN:Stmt:=VD 30
theorem sc_l_web:Zx (["_law_script_here","_law_most","_law_first","_law_houses","_law_times","_law_spots","_law_k","_law_cell_here","_law_one","_law_other"]:List Str) (["_law_script_here","_law_most"]:List Str) (Zk RN):=⟨rfl,rfl,rfl,by decide +kernel,rfl,by decide +kernel,by decide +kernel⟩
theorem M1(Df:Def K mg "_law_web" RN)(B:Vu mg)(C_m_cell:YU P w K mg base "_law_cell" (["_law_script_here","_law_k"]:List Str) (YI K Zp 2) 1)(C_l_part:YU P w K mg base "_law_part" (["_law_cell_here","_law_turn","_law_many"]:List Str) (YI K Zl 3) 1)(C_l_tie:YU P w K mg base "_law_tie" (["_law_times","_law_one","_law_other","_law_more"]:List Str) (IC K Wx 4) 1):YU P w K mg base "_law_web" (["_law_script_here","_law_most"]:List Str) (YI K Vd 2) 2:=
 Z3 (O:=[4,5]) (k:=1) 10 Tn Df sc_l_web (fun _ _ _ _ _ _ us hl=>match us,hl with | [_,_],_=>rfl) rfl rfl (by decide) (fun fa cdv A outer s H E hr=>
  (Zj (Zy (i:=2) sc_l_web.nd rfl (Or.inl rfl) (Zn C_m_cell (hr.mono (by decide)) rfl (Zc (Zd (pv 0)) (Zc Zh Zg))))
  (Zj (Zy (i:=3) sc_l_web.nd rfl (Or.inr rfl) (VE.pure (Yh Zh (VM.ve (Zn C_l_part (hr.mono (by decide)) rfl (Zc (Zd (pv 2)) (Zc Zh (Zc (Zd (pv 1)) Zg))))))))
  (Zj (Ou (["_law_k"]:List Str) (["_law_houses"]:List Str) [3] (i:=4) sc_l_web.nd rfl rfl rfl (Yi rfl B.range (Zc (Zd (pv 3)) Zg)) (by kernel_rfl) (fun _ _ _ _ _=>(Zv (i:=0) (show((["_law_k"]:List Str)++(["_law_houses"]:List Str)).Nodup by decide +kernel) rfl (Or.inl rfl) (.inr rfl))) (fun _ _ _ _ _=>Yc) (fun _ _ _ _ _=>(J9 (Q3 (Zc Zh Zg)) (Zd (pv 1)))))
  (Zj (Zy (i:=5) sc_l_web.nd rfl (Or.inl rfl) (Q4 Th))
  (Zj (Wu PassesOwn.never rfl (Yi rfl B.range (Zc (Zd (pv 3)) Zg)) (Zv (i:=6) sc_l_web.nd rfl (Or.inl rfl)) (Zm (S6 (W6 (Ob PySem.F.plainAttrs_list PySem.F.slot_list_insert PySem.F.type_list_insert SR (pv 5) (Yl (VM.ve (Zn C_l_part (hr.mono (by decide)) rfl (Zc (VM.ve (Zn C_m_cell (hr.mono (by decide)) rfl (Zc (Zd (pv 0)) (Zc (Yh Zh (Zd (pv 6))) Zg)))) (Zc Zh (Zc (Yh (Zd (pv 6)) Zh) Zg))))) (Yl (Zd (pv 6)) Wn)))))))
  (Zj (Wu PassesOwn.never rfl (Nf rfl B.range (Zc Zh (Zc (Zd (pv 3)) Zg))) (Zv (i:=6) sc_l_web.nd rfl (Or.inl rfl)) (Zj (Zy (i:=7) sc_l_web.nd rfl (Or.inl rfl) (Zn C_m_cell (hr.mono (by decide)) rfl (Zc (Zd (pv 0)) (Zc (Zd (pv 6)) Zg))))
  (Zm (MV (W6 (QW C_l_tie (hr.mono (by decide)) rfl (Yl (pv 4) (Zc (ZG (Zd (pv 5)) (Zd (pv 6))) (Zc (ZG (Zd (pv 5)) (VM.ve (Zn C_l_part (hr.mono (by decide)) rfl (Zc (Zd (pv 7)) (Zc Zh (Zc (Zd (pv 6)) Zg)))))) (Zc (Yh Zh (VM.ve (Zn C_l_part (hr.mono (by decide)) rfl (Zc (Zd (pv 7)) (Zc Zh (Zc Zh Zg)))))) Zg))))))))))
  (Zj (XR (Mm (Zd (pv 3)) Zh) (Zm (Wu PassesOwn.never rfl (Yi rfl B.range (Zc (VM.ve (Zn C_l_part (hr.mono (by decide)) rfl (Zc (Zd (pv 2)) (Zc Zh (Zc Zh Zg))))) Zg)) (Zv (i:=6) sc_l_web.nd rfl (Or.inl rfl)) (Zj (Zy (i:=7) sc_l_web.nd rfl (Or.inl rfl) (Zn C_m_cell (hr.mono (by decide)) rfl (Zc (Zd (pv 0)) (Zc (Yh Zh (Zd (pv 6))) Zg))))
  (Zj (Zy (i:=8) sc_l_web.nd rfl (Or.inl rfl) (Zn C_l_part (hr.mono (by decide)) rfl (Zc (Zd (pv 7)) (Zc Zh (Zc (Zd (pv 3)) Zg)))))
  (Zj (Zy (i:=9) sc_l_web.nd rfl (Or.inl rfl) (VE.pure (YM (Yh (Yh (Zd (pv 8)) Zh) (VM.ve (Zn C_l_part (hr.mono (by decide)) rfl (Zc (Zd (pv 7)) (Zc Zh (Zc (Xq (Zd (pv 3)) Zh) Zg)))))) (Zd (pv 3)))))
  (Zm (MV (W6 (QW C_l_tie (hr.mono (by decide)) rfl (Yl (pv 4) (Zc (Zd (pv 8)) (Zc (Zd (pv 9)) (Zc (Yh Zh (VM.ve (Zn C_l_part (hr.mono (by decide)) rfl (Zc (Zd (pv 7)) (Zc Zh (Zc Zh Zg)))))) Zg))))))))))))) YB)
  (Zm (ZH (VE.pure (Z5 ZB Yk rfl B.tuple (by decide +kernel) (Zc (Yr (["_law_row"]:List Str) ([]:List Str) [] rfl (Wr (Zd (pv 4))) (by kernel_rfl) (fun _ _ _ _ _=>(Zv (i:=0) (show((["_law_row"]:List Str)++([]:List Str)).Nodup by decide +kernel) rfl (Or.inl rfl) (.inr rfl))) (fun _ _ _ _ _=>Yc) (fun _ _ _ _ _=>(Z5 ZB Yk rfl B.tuple (by decide +kernel) (Zc (Zd (pv 0)) Zg)))) Zg)))))))))))))
abbrev UD:Stmt:=VD 31
theorem Pi:Zx (["_law_cell_here"]:List Str) (["_law_cell_here"]:List Str) (Zk UD):=⟨rfl,rfl,rfl,by decide +kernel,rfl,by decide +kernel,by decide +kernel⟩
theorem Pj(Df:Def K mg "_law_coins" UD)(B:Vu mg):YU P w K mg base "_law_coins" (["_law_cell_here"]:List Str) (YI K Yo 1) 1:=
 Z3 (O:=[]) (k:=0) 1 Ve Df Pi (fun _ _ _ _ _ _ us hl=>match us,hl with | [_],_=>rfl) rfl rfl (by decide) (fun fa cdv A outer s H E hr=>
  (Zj (XR (V0 hr.units (YM (Zd (pv 0)) Zh) Zh) (Zm (ZH (VE.pure (Xq (YM (Vc (Zd (pv 0)) (Zd (pv 0))) (Vc Zh (Ux Zh Zh))) (Ux Zh Zh))))) YB)
  (Zj (XR (V0 hr.units (YM (Zd (pv 0)) Zh) Zh) (Zm (ZH (VE.pure (Xq (YM (WT (Zd (pv 0)) Zh) Zh) Zh)))) YB)
  (Zm (ZH (VE.pure (Xq (YM (WT (Zd (pv 0)) Zh) Zh) Zh)))))))
abbrev UE:Stmt:=VD 32
theorem Pk:Zx (["_law_script_here","_law_at","_law_houses"]:List Str) (["_law_script_here","_law_at","_law_houses"]:List Str) (Zk UE):=⟨rfl,rfl,rfl,by decide +kernel,rfl,by decide +kernel,by decide +kernel⟩
theorem Pl(Df:Def K mg "_law_purse" UE)(B:Vu mg)(C_m_coins:YU P w K mg base "_law_coins" (["_law_cell_here"]:List Str) (YI K Yo 1) 1)(C_m_cell:YU P w K mg base "_law_cell" (["_law_script_here","_law_k"]:List Str) (YI K Zp 2) 1):YU P w K mg base "_law_purse" (["_law_script_here","_law_at","_law_houses"]:List Str) (YI K Xr 3) 2:=
 Z3 (O:=[]) (k:=1) 3 UC Df Pk (fun _ _ _ _ _ _ us hl=>match us,hl with | [_,_,_],_=>rfl) rfl rfl (by decide) (fun fa cdv A outer s H E hr=>
  (Zm (ZH (VE.pure (Z5 ZB Yk rfl B.tuple (by decide +kernel) (Zc (Yr (["_law_k"]:List Str) (["_law_script_here","_law_at"]:List Str) [0,1] rfl (Yi rfl B.range (Zc (Zd (pv 2)) Zg)) (by kernel_rfl) (fun _ _ _ _ _=>(Zv (i:=0) (show((["_law_k"]:List Str)++(["_law_script_here","_law_at"]:List Str)).Nodup by decide +kernel) rfl (Or.inl rfl) (.inr rfl))) (fun _ _ _ _ _=>Yc) (fun _ _ _ _ _=>(VM.ve (Zn C_m_coins (hr.mono (by decide)) rfl (Zc (VM.ve (Zn C_m_cell (hr.mono (by decide)) rfl (Zc (Zd (pv 1)) (Zc (Yh (Zd (pv 2)) (Zd (pv 0))) Zg)))) Zg))))) Zg))))))
abbrev UF:Stmt:=VD 15
theorem Pm:Zx (["row","by","place","divisor"]:List Str) (["row","by","place","divisor"]:List Str) (Zk UF):=⟨rfl,rfl,rfl,by decide +kernel,rfl,by decide +kernel,by decide +kernel⟩
theorem Pn(Df:Def K mg "reduced" UF)(B:Vu mg):YU P w K mg base "reduced" (["row","by","place","divisor"]:List Str) (YI K Xa 4) 1:=
 Z3 (O:=[]) (k:=0) 4 Vh Df Pm (fun _ _ _ _ _ _ us hl=>match us,hl with | [_,_,_,_],_=>rfl) rfl rfl (by decide) (fun fa cdv A outer s H E hr=>
  (Zm (ZH (VE.pure (Z5 ZB Yk rfl B.tuple (by decide +kernel) (Zc (Yr (["number","other"]:List Str) (["divisor","by","place","row"]:List Str) [3,1,2,0] rfl (Q8 false false rfl B.zip (Zc (Zd (pv 0)) (Zc (Zd (pv 1)) Zg))) (by kernel_rfl) (fun _ _ _ _ _=>(WG (n:=2) rfl (Yf (Zv (i:=0) (show((["number","other"]:List Str)++(["divisor","by","place","row"]:List Str)).Nodup by decide +kernel) rfl (Or.inl rfl) (.inr rfl)) (Yf (Zv (i:=1) (show((["number","other"]:List Str)++(["divisor","by","place","row"]:List Str)).Nodup by decide +kernel) rfl (Or.inl rfl) (.inr rfl)) XX)))) (fun _ _ _ _ _=>Yc) (fun _ _ _ _ _=>(WT (Xq (Vc (ZG (Zd (pv 3)) (Zd (pv 4))) (Zd (pv 0))) (Vc (ZG (Zd (pv 5)) (Zd (pv 4))) (Zd (pv 1)))) (Zd (pv 2))))) Zg))))))
abbrev T7:Stmt:=VD 14
theorem sc_evened:Zx (["rows","left","divisor","place","by"]:List Str) (["rows"]:List Str) (Zk T7):=⟨rfl,rfl,rfl,by decide +kernel,rfl,by decide +kernel,by decide +kernel⟩
theorem Nv(Df:Def K mg "evened" T7)(B:Vu mg)(C_reduced:YU P w K mg base "reduced" (["row","by","place","divisor"]:List Str) (YI K Xa 4) 1):YU P w K mg base "evened" (["rows"]:List Str) (YI K Wi 1) 2:=
 Z3 (O:=[1]) (k:=1) 5 Ub Df sc_evened (fun _ _ _ _ _ _ us hl=>match us,hl with | [_],_=>rfl) rfl rfl (by decide) (fun fa cdv A outer s H E hr=>
  (Zj (Zy (i:=1) sc_evened.nd rfl (Or.inl rfl) (SX VG Ql rfl B.list (by decide +kernel) (Zc (Zd (pv 0)) Zg)))
  (Zj (Zy (i:=2) sc_evened.nd rfl (Or.inr rfl) (VE.pure Zh))
  (Zj (Wu PassesOwn.never rfl (Yi rfl B.range (Zc (ZI YW X7 rfl B.len (by decide +kernel) (Zc (Zd (pv 0)) Zg)) Zg)) (Zv (i:=3) sc_evened.nd rfl (Or.inr rfl)) (Zj (Zy (i:=4) sc_evened.nd rfl (Or.inr rfl) (VE.pure (ZG (Zd (pv 1)) (Zd (pv 3)))))
  (Zj (Ou (["at","row"]:List Str) (["place","by","divisor"]:List Str) [3,4,2] (i:=1) sc_evened.nd rfl rfl rfl (VV true rfl B.enumerate (Zc (Zd (pv 1)) Zg)) (by kernel_rfl) (fun _ _ _ _ _=>(WG (n:=2) rfl (Yf (Zv (i:=0) (show((["at","row"]:List Str)++(["place","by","divisor"]:List Str)).Nodup by decide +kernel) rfl (Or.inl rfl) (.inr rfl)) (Yf (Zv (i:=1) (show((["at","row"]:List Str)++(["place","by","divisor"]:List Str)).Nodup by decide +kernel) rfl (Or.inl rfl) (.inr rfl)) XX)))) (fun _ _ _ _ _=>Yc) (fun _ _ _ _ _=>(VE.pure (Mp (V0 hr.units (Zd (pv 0)) (Zd (pv 2))) (Zd (pv 1)) (VM.ve (Zn C_reduced (hr.mono (by decide)) rfl (Zc (Zd (pv 1)) (Zc (Zd (pv 3)) (Zc (Zd (pv 2)) (Zc (Zd (pv 4)) Zg))))))))))
  (Zm (Zy (i:=2) sc_evened.nd rfl (Or.inr rfl) (VE.pure (ZG (Zd (pv 4)) (Zd (pv 3)))))))))
  (Zm (MZ (Ty (Yl (Zd (pv 2)) (Yl (pv 1) Wn)))))))))
abbrev XU:Stmt:=VD 13
theorem sc_solved_below:Zx (["square","column","told"]:List Str) (["square","column"]:List Str) (Zk XU):=⟨rfl,rfl,rfl,by decide +kernel,rfl,by decide +kernel,by decide +kernel⟩
theorem U9(Df:Def K mg "solved_below" XU)(B:Vu mg)(C_evened:YU P w K mg base "evened" (["rows"]:List Str) (YI K Wi 1) 2):YU P w K mg base "solved_below" (["square","column"]:List Str) (YI K Yt 2) 3:=
 Z3 (O:=[]) (k:=2) 3 Xi Df sc_solved_below (fun _ _ _ _ _ _ us hl=>match us,hl with | [_,_],_=>rfl) rfl rfl (by decide) (fun fa cdv A outer s H E hr=>
  (Zj (Zy (i:=2) sc_solved_below.nd rfl (Or.inr rfl) (Zn C_evened (hr.mono (by decide)) rfl (Zc (Yr (["row","number"]:List Str) ([]:List Str) [] rfl (Q8 false false rfl B.zip (Zc (Zd (pv 0)) (Zc (Zd (pv 1)) Zg))) (by kernel_rfl) (fun _ _ _ _ _=>(WG (n:=2) rfl (Yf (Zv (i:=0) (show((["row","number"]:List Str)++([]:List Str)).Nodup by decide +kernel) rfl (Or.inl rfl) (.inr rfl)) (Yf (Zv (i:=1) (show((["row","number"]:List Str)++([]:List Str)).Nodup by decide +kernel) rfl (Or.inl rfl) (.inr rfl)) XX)))) (fun _ _ _ _ _=>Yc) (fun _ _ _ _ _=>(Vq Ox Oy (Zd (pv 0)) (J2 (Zc (Zd (pv 1)) Zg))))) Zg)))
  (Zm (ZH (RH (["row"]:List Str) (["told"]:List Str) [2] rfl (Wr (ZG (Zd (pv 2)) Zh)) (by kernel_rfl) (fun _ _ _ _ _=>(Zv (i:=0) (show((["row"]:List Str)++(["told"]:List Str)).Nodup by decide +kernel) rfl (Or.inl rfl) (.inr rfl))) (fun _ _ _ _ _=>Yc) (fun _ _ _ _ _=>(VE.pure (WT (ZG (Zd (pv 0)) (Q2 Zh)) (ZG (Zd (pv 1)) Zh)))))))))
abbrev UG:Stmt:=VD 6
theorem Po:Zx (["web","house"]:List Str) (["web","house"]:List Str) (Zk UG):=⟨rfl,rfl,rfl,by decide +kernel,rfl,by decide +kernel,by decide +kernel⟩
theorem Pp(Df:Def K mg "ties_at" UG)(B:Vu mg):YU P w K mg base "ties_at" (["web","house"]:List Str) (YI K XJ 2) 1:=
 Z3 (O:=[]) (k:=0) 2 UA Df Po (fun _ _ _ _ _ _ us hl=>match us,hl with | [_,_],_=>rfl) rfl rfl (by decide) (fun fa cdv A outer s H E hr=>
  (Zm (ZH (VE.pure (ZI (Y7 rfl) WK rfl B.sum (by decide +kernel) (Zc (ZG (Zd (pv 0)) (Zd (pv 1))) Zg))))))
abbrev T8:Stmt:=VD 18
theorem Nw:Zx (["web","house","others"]:List Str) (["web","house","others"]:List Str) (Zk T8):=⟨rfl,rfl,rfl,by decide +kernel,rfl,by decide +kernel,by decide +kernel⟩
theorem Nx(Df:Def K mg "row_of" T8)(B:Vu mg)(C_ties_at:YU P w K mg base "ties_at" (["web","house"]:List Str) (YI K XJ 2) 1):YU P w K mg base "row_of" (["web","house","others"]:List Str) (YI K WW 3) 2:=
 Z3 (O:=[]) (k:=1) 3 Uc Df Nw (fun _ _ _ _ _ _ us hl=>match us,hl with | [_,_,_],_=>rfl) rfl rfl (by decide) (fun fa cdv A outer s H E hr=>
  (Zm (ZH (VE.pure (Z5 ZB Yk rfl B.tuple (by decide +kernel) (Zc (Yr (["other"]:List Str) (["house","web"]:List Str) [1,0] rfl (Wr (Zd (pv 2))) (by kernel_rfl) (fun _ _ _ _ _=>(Zv (i:=0) (show((["other"]:List Str)++(["house","web"]:List Str)).Nodup by decide +kernel) rfl (Or.inl rfl) (.inr rfl))) (fun _ _ _ _ _=>Yc) (fun _ _ _ _ _=>(Mp (V0 hr.units (Zd (pv 0)) (Zd (pv 1))) (VM.ve (Zn C_ties_at (hr.mono (by decide)) rfl (Zc (Zd (pv 2)) (Zc (Zd (pv 1)) Zg)))) (Q2 (ZG (ZG (Zd (pv 2)) (Zd (pv 1))) (Zd (pv 0))))))) Zg))))))
abbrev Xt:Stmt:=VD 17
theorem sc_square_without:Zx (["web","base","others"]:List Str) (["web","base"]:List Str) (Zk Xt):=⟨rfl,rfl,rfl,by decide +kernel,rfl,by decide +kernel,by decide +kernel⟩
theorem Uf(Df:Def K mg "square_without" Xt)(B:Vu mg)(C_row_of:YU P w K mg base "row_of" (["web","house","others"]:List Str) (YI K WW 3) 2):YU P w K mg base "square_without" (["web","base"]:List Str) (YI K Z7 2) 3:=
 Z3 (O:=[]) (k:=2) 3 YQ Df sc_square_without (fun _ _ _ _ _ _ us hl=>match us,hl with | [_,_],_=>rfl) rfl rfl (by decide) (fun fa cdv A outer s H E hr=>
  (Zj (Zy (i:=2) sc_square_without.nd rfl (Or.inr rfl) (RH (["house"]:List Str) (["base"]:List Str) [1] rfl (Yi rfl B.range (Zc (ZI YW X7 rfl B.len (by decide +kernel) (Zc (Zd (pv 0)) Zg)) Zg)) (by kernel_rfl) (fun _ _ _ _ _=>(Zv (i:=0) (show((["house"]:List Str)++(["base"]:List Str)).Nodup by decide +kernel) rfl (Or.inl rfl) (.inr rfl))) (fun _ _ _ _ _=>(On (Ot hr.units (Zd (pv 0)) (Zd (pv 1))))) (fun _ _ _ _ _=>(VE.pure (Zd (pv 0))))))
  (Zm (ZH (VE.pure (Z5 ZB Yk rfl B.tuple (by decide +kernel) (Zc (Yr (["house"]:List Str) (["web","others"]:List Str) [0,2] rfl (Wr (Zd (pv 2))) (by kernel_rfl) (fun _ _ _ _ _=>(Zv (i:=0) (show((["house"]:List Str)++(["web","others"]:List Str)).Nodup by decide +kernel) rfl (Or.inl rfl) (.inr rfl))) (fun _ _ _ _ _=>Yc) (fun _ _ _ _ _=>(VM.ve (Zn C_row_of (hr.mono (by decide)) rfl (Zc (Zd (pv 1)) (Zc (Zd (pv 0)) (Zc (Zd (pv 2)) Zg))))))) Zg)))))))
abbrev UH:Stmt:=VD 21
theorem sc_nearing:Zx (["web","purse","base","column","script"]:List Str) (["web","purse","base"]:List Str) (Zk UH):=⟨rfl,rfl,rfl,by decide +kernel,rfl,by decide +kernel,by decide +kernel⟩
theorem Pq(Df:Def K mg "nearing" UH)(B:Vu mg)(C_solved_below:YU P w K mg base "solved_below" (["square","column"]:List Str) (YI K Yt 2) 3)(C_square_without:YU P w K mg base "square_without" (["web","base"]:List Str) (YI K Z7 2) 3):YU P w K mg base "nearing" (["web","purse","base"]:List Str) (YI K Xs 3) 4:=
 Z3 (O:=[4]) (k:=3) 5 Vi Df sc_nearing (fun _ _ _ _ _ _ us hl=>match us,hl with | [_,_,_],_=>rfl) rfl rfl (by decide) (fun fa cdv A outer s H E hr=>
  (Zj (Zy (i:=3) sc_nearing.nd rfl (Or.inl rfl) (VE.pure (Vq Ox Oy (S1 (Zd (pv 1)) Op (Tj (Zd (pv 2)))) (S1 (Zd (pv 1)) (Tj (Yh (Zd (pv 2)) Zh)) Op))))
  (Zj (Zy (i:=4) sc_nearing.nd rfl (Or.inl rfl) (Zn C_solved_below (hr.mono (by decide)) rfl (Zc (VM.ve (Zn C_square_without (hr.mono (by decide)) rfl (Zc (Zd (pv 0)) (Zc (Zd (pv 2)) Zg)))) (Zc (Zd (pv 3)) Zg))))
  (Zj (S6 (W6 (Ob PySem.F.plainAttrs_list PySem.F.slot_list_insert PySem.F.type_list_insert SR (pv 4) (Yl (Zd (pv 2)) (Yl Zh Wn)))))
  (Zm (ZH (VE.pure (Z5 ZB Yk rfl B.tuple (by decide +kernel) (Zc (Zd (pv 4)) Zg)))))))))
abbrev Pr:Stmt:=VD 9
theorem Kt:Zx (["web","script","house"]:List Str) (["web","script","house"]:List Str) (Zk Pr):=⟨rfl,rfl,rfl,by decide +kernel,rfl,by decide +kernel,by decide +kernel⟩
theorem Ku(Df:Def K mg "gain" Pr)(B:Vu mg):YU P w K mg base "gain" (["web","script","house"]:List Str) (YI K UB 3) 1:=
 Z3 (O:=[]) (k:=0) 3 Pg Df Kt (fun _ _ _ _ _ _ us hl=>match us,hl with | [_,_,_],_=>rfl) rfl rfl (by decide) (fun fa cdv A outer s H E hr=>
  (Zm (ZH (VE.pure (ZI (Y7 rfl) WK rfl B.sum (by decide +kernel) (Zc (Yr (["other","times"]:List Str) (["script","house"]:List Str) [1,2] rfl (VV false rfl B.enumerate (Zc (ZG (Zd (pv 0)) (Zd (pv 2))) Zg)) (by kernel_rfl) (fun _ _ _ _ _=>(WG (n:=2) rfl (Yf (Zv (i:=0) (show((["other","times"]:List Str)++(["script","house"]:List Str)).Nodup by decide +kernel) rfl (Or.inl rfl) (.inr rfl)) (Yf (Zv (i:=1) (show((["other","times"]:List Str)++(["script","house"]:List Str)).Nodup by decide +kernel) rfl (Or.inl rfl) (.inr rfl)) XX)))) (fun _ _ _ _ _=>Yc) (fun _ _ _ _ _=>(X6 (Zd (pv 1)) (Xq (ZG (Zd (pv 2)) (Zd (pv 0))) (ZG (Zd (pv 2)) (Zd (pv 3))))))) Zg))))))
abbrev M3:Stmt:=VD 8
theorem Ij:Zx (["web","purse","script"]:List Str) (["web","purse","script"]:List Str) (Zk M3):=⟨rfl,rfl,rfl,by decide +kernel,rfl,by decide +kernel,by decide +kernel⟩
theorem Ik(Df:Def K mg "run" M3)(B:Vu mg)(C_gain:YU P w K mg base "gain" (["web","script","house"]:List Str) (YI K UB 3) 1):YU P w K mg base "run" (["web","purse","script"]:List Str) (YI K WR 3) 2:=
 Z3 (O:=[]) (k:=1) 3 MQ Df Ij (fun _ _ _ _ _ _ us hl=>match us,hl with | [_,_,_],_=>rfl) rfl rfl (by decide) (fun fa cdv A outer s H E hr=>
  (Zm (ZH (VE.pure (Z5 ZB Yk rfl B.tuple (by decide +kernel) (Zc (Yr (["house","coins"]:List Str) (["web","script"]:List Str) [0,2] rfl (VV false rfl B.enumerate (Zc (Zd (pv 1)) Zg)) (by kernel_rfl) (fun _ _ _ _ _=>(WG (n:=2) rfl (Yf (Zv (i:=0) (show((["house","coins"]:List Str)++(["web","script"]:List Str)).Nodup by decide +kernel) rfl (Or.inl rfl) (.inr rfl)) (Yf (Zv (i:=1) (show((["house","coins"]:List Str)++(["web","script"]:List Str)).Nodup by decide +kernel) rfl (Or.inl rfl) (.inr rfl)) XX)))) (fun _ _ _ _ _=>Yc) (fun _ _ _ _ _=>(Yh (Zd (pv 1)) (VM.ve (Zn C_gain (hr.mono (by decide)) rfl (Zc (Zd (pv 2)) (Zc (Zd (pv 3)) (Zc (Zd (pv 0)) Zg)))))))) Zg))))))
abbrev UI:Stmt:=VD 4
theorem Ps:Zx (["purse","base"]:List Str) (["purse","base"]:List Str) (Zk UI):=⟨rfl,rfl,rfl,by decide +kernel,rfl,by decide +kernel,by decide +kernel⟩
theorem Pt(Df:Def K mg "in_debt" UI)(B:Vu mg):YU P w K mg base "in_debt" (["purse","base"]:List Str) (YI K YE 2) 1:=
 Z3 (O:=[]) (k:=0) 2 Vg Df Ps (fun _ _ _ _ _ _ us hl=>match us,hl with | [_,_],_=>rfl) rfl rfl (by decide) (fun fa cdv A outer s H E hr=>
  (Zm (ZH (RH (["house","coins"]:List Str) (["base"]:List Str) [1] rfl (VV false rfl B.enumerate (Zc (Zd (pv 0)) Zg)) (by kernel_rfl) (fun _ _ _ _ _=>(WG (n:=2) rfl (Yf (Zv (i:=0) (show((["house","coins"]:List Str)++(["base"]:List Str)).Nodup by decide +kernel) rfl (Or.inl rfl) (.inr rfl)) (Yf (Zv (i:=1) (show((["house","coins"]:List Str)++(["base"]:List Str)).Nodup by decide +kernel) rfl (Or.inl rfl) (.inr rfl)) XX)))) (fun _ _ _ _ _=>(On (VW.vt (RD (Ot hr.units (Zd (pv 0)) (Zd (pv 2))) (Tf (Oi (Zd (pv 1)) Zh)))))) (fun _ _ _ _ _=>(VE.pure (Zd (pv 0))))))))
abbrev WX:Stmt:=VD 22
theorem RO:Zx (["web","houses"]:List Str) (["web","houses"]:List Str) (Zk WX):=⟨rfl,rfl,rfl,by decide +kernel,rfl,by decide +kernel,by decide +kernel⟩
theorem RP(Df:Def K mg "borrowing" WX)(B:Vu mg):YU P w K mg base "borrowing" (["web","houses"]:List Str) (YI K YN 2) 1:=
 Z3 (O:=[]) (k:=0) 2 X0 Df RO (fun _ _ _ _ _ _ us hl=>match us,hl with | [_,_],_=>rfl) rfl rfl (by decide) (fun fa cdv A outer s H E hr=>
  (Zm (ZH (VE.pure (Z5 ZB Yk rfl B.tuple (by decide +kernel) (Zc (Yr (["house"]:List Str) (["houses"]:List Str) [1] rfl (Yi rfl B.range (Zc (ZI YW X7 rfl B.len (by decide +kernel) (Zc (Zd (pv 0)) Zg)) Zg)) (by kernel_rfl) (fun _ _ _ _ _=>(Zv (i:=0) (show((["house"]:List Str)++(["houses"]:List Str)).Nodup by decide +kernel) rfl (Or.inl rfl) (.inr rfl))) (fun _ _ _ _ _=>Yc) (fun _ _ _ _ _=>(Mp (Hv hr.units (Zd (pv 0)) (Zd (pv 1))) (Q2 Zh) Zh))) Zg))))))
abbrev Pu:Stmt:=VD 11
theorem Kv:Zx (["one","other"]:List Str) (["one","other"]:List Str) (Zk Pu):=⟨rfl,rfl,rfl,by decide +kernel,rfl,by decide +kernel,by decide +kernel⟩
theorem Kw(Df:Def K mg "plus" Pu)(B:Vu mg):YU P w K mg base "plus" (["one","other"]:List Str) (YI K WS 2) 1:=
 Z3 (O:=[]) (k:=0) 2 Ph Df Kv (fun _ _ _ _ _ _ us hl=>match us,hl with | [_,_],_=>rfl) rfl rfl (by decide) (fun fa cdv A outer s H E hr=>
  (Zm (ZH (VE.pure (Z5 ZB Yk rfl B.tuple (by decide +kernel) (Zc (Yr (["first","second"]:List Str) ([]:List Str) [] rfl (Q8 false false rfl B.zip (Zc (Zd (pv 0)) (Zc (Zd (pv 1)) Zg))) (by kernel_rfl) (fun _ _ _ _ _=>(WG (n:=2) rfl (Yf (Zv (i:=0) (show((["first","second"]:List Str)++([]:List Str)).Nodup by decide +kernel) rfl (Or.inl rfl) (.inr rfl)) (Yf (Zv (i:=1) (show((["first","second"]:List Str)++([]:List Str)).Nodup by decide +kernel) rfl (Or.inl rfl) (.inr rfl)) XX)))) (fun _ _ _ _ _=>Yc) (fun _ _ _ _ _=>(Yh (Zd (pv 0)) (Zd (pv 1))))) Zg))))))
abbrev RQ:Stmt:=VD 10
theorem sc_least:Zx (["script","lowest"]:List Str) (["script"]:List Str) (Zk RQ):=⟨rfl,rfl,rfl,by decide +kernel,rfl,by decide +kernel,by decide +kernel⟩
theorem M4(Df:Def K mg "least" RQ)(B:Vu mg):YU P w K mg base "least" (["script"]:List Str) (YI K Vj 1) 1:=
 Z3 (O:=[]) (k:=0) 2 RL Df sc_least (fun _ _ _ _ _ _ us hl=>match us,hl with | [_],_=>rfl) rfl rfl (by decide) (fun fa cdv A outer s H E hr=>
  (Zj (Zy (i:=1) sc_least.nd rfl (Or.inr rfl) (VE.pure (ZI (S8 rfl) OB rfl B.min (by decide +kernel) (Zc (Zd (pv 0)) Zg))))
  (Zm (ZH (VE.pure (Z5 ZB Yk rfl B.tuple (by decide +kernel) (Zc (Yr (["often"]:List Str) (["lowest"]:List Str) [1] rfl (My (Zd (pv 0))) (by kernel_rfl) (fun _ _ _ _ _=>(Zv (i:=0) (show((["often"]:List Str)++(["lowest"]:List Str)).Nodup by decide +kernel) rfl (Or.inl rfl) (.inr rfl))) (fun _ _ _ _ _=>Yc) (fun _ _ _ _ _=>(Xq (Zd (pv 0)) (Zd (pv 1))))) Zg)))))))
abbrev UJ:Stmt:=VD 3
theorem Pv:Zx (["web","house","others"]:List Str) (["web","house","others"]:List Str) (Zk UJ):=⟨rfl,rfl,rfl,by decide +kernel,rfl,by decide +kernel,by decide +kernel⟩
theorem Pw(Df:Def K mg "ties_to" UJ)(B:Vu mg):YU P w K mg base "ties_to" (["web","house","others"]:List Str) (YI K Wh 3) 1:=
 Z3 (O:=[]) (k:=0) 3 Vf Df Pv (fun _ _ _ _ _ _ us hl=>match us,hl with | [_,_,_],_=>rfl) rfl rfl (by decide) (fun fa cdv A outer s H E hr=>
  (Zm (ZH (VE.pure (ZI (Y7 rfl) WK rfl B.sum (by decide +kernel) (Zc (Yr (["other"]:List Str) (["web","house"]:List Str) [0,1] rfl (Wr (Zd (pv 2))) (by kernel_rfl) (fun _ _ _ _ _=>(Zv (i:=0) (show((["other"]:List Str)++(["web","house"]:List Str)).Nodup by decide +kernel) rfl (Or.inl rfl) (.inr rfl))) (fun _ _ _ _ _=>Yc) (fun _ _ _ _ _=>(ZG (ZG (Zd (pv 1)) (Zd (pv 2))) (Zd (pv 0))))) Zg))))))
abbrev XD:Stmt:=VD 2
theorem sc_house_to_burn:Zx (["web","purse","fire","house","coins"]:List Str) (["web","purse","fire"]:List Str) (Zk XD):=⟨rfl,rfl,rfl,by decide +kernel,rfl,by decide +kernel,by decide +kernel⟩
theorem UK(Df:Def K mg "house_to_burn" XD)(B:Vu mg)(C_ties_to:YU P w K mg base "ties_to" (["web","house","others"]:List Str) (YI K Wh 3) 1):YU P w K mg base "house_to_burn" (["web","purse","fire"]:List Str) (YI K ZU 3) 2:=
 Z3 (O:=[]) (k:=1) 5 Y1 Df sc_house_to_burn (fun _ _ _ _ _ _ us hl=>match us,hl with | [_,_,_],_=>rfl) rfl rfl (by decide) (fun fa cdv A outer s H E hr=>
  (Zj (Wu PassesOwn.never rfl (VV false rfl B.enumerate (Zc (Zd (pv 1)) Zg)) (WG (n:=2) rfl (Yf (Zv (i:=3) sc_house_to_burn.nd rfl (Or.inl rfl)) (Yf (Zv (i:=4) sc_house_to_burn.nd rfl (Or.inl rfl)) XX))) (Zm (XR (VW.vt (RD (Qr hr.units (Zd (pv 3)) (Zd (pv 2))) (Tf (Oi (Zd (pv 4)) (VM.ve (Zn C_ties_to (hr.mono (by decide)) rfl (Zc (Zd (pv 0)) (Zc (Zd (pv 3)) (Zc (Zd (pv 2)) Zg))))))))) (Zm (ZH (VE.pure (Zd (pv 3))))) YB)))
  (Zm (ZH (VE.pure JY)))))
abbrev RS:Stmt:=VD 1
theorem sc_burnt:Zx (["web","purse","base","fire","house"]:List Str) (["web","purse","base"]:List Str) (Zk RS):=⟨rfl,rfl,rfl,by decide +kernel,rfl,by decide +kernel,by decide +kernel⟩
theorem M5(Df:Def K mg "burnt" RS)(B:Vu mg)(C_house_to_burn:YU P w K mg base "house_to_burn" (["web","purse","fire"]:List Str) (YI K ZU 3) 2):YU P w K mg base "burnt" (["web","purse","base"]:List Str) (YI K Ua 3) 3:=
 Z3 (O:=[3]) (k:=2) 5 To Df sc_burnt (fun _ _ _ _ _ _ us hl=>match us,hl with | [_,_,_],_=>rfl) rfl rfl (by decide) (fun fa cdv A outer s H E hr=>
  (Zj (Zy (i:=3) sc_burnt.nd rfl (Or.inl rfl) (Q4 (VN (VE.pure (Zd (pv 2))) Th)))
  (Zj (Zy (i:=4) sc_burnt.nd rfl (Or.inl rfl) (Zn C_house_to_burn (hr.mono (by decide)) rfl (Zc (Zd (pv 0)) (Zc (Zd (pv 1)) (Zc (Zd (pv 3)) Zg)))))
  (Zj (Qq PassesOwn.never (Kd (Zd (pv 4))) (Zj (S5 (W6 (Ob PySem.F.plainAttrs_list PySem.F.slot_list_append PySem.F.type_list_append SL (pv 3) (Yl (VE.pure (Zd (pv 4))) Wn))))
  (Zm (Zy (i:=4) sc_burnt.nd rfl (Or.inl rfl) (Zn C_house_to_burn (hr.mono (by decide)) rfl (Zc (Zd (pv 0)) (Zc (Zd (pv 1)) (Zc (Zd (pv 3)) Zg))))))))
  (Zm (Kh (pv 3)))))))
abbrev T9:Stmt:=VD 20
theorem sc_settle:Zx (["web","purse","base","script","near","indebted","step"]:List Str) (["web","purse","base"]:List Str) (Zk T9):=⟨rfl,rfl,rfl,by decide +kernel,rfl,by decide +kernel,by decide +kernel⟩
theorem Ny(Df:Def K mg "settle" T9)(B:Vu mg)(C_nearing:YU P w K mg base "nearing" (["web","purse","base"]:List Str) (YI K Xs 3) 4)(C_run:YU P w K mg base "run" (["web","purse","script"]:List Str) (YI K WR 3) 2)(C_in_debt:YU P w K mg base "in_debt" (["purse","base"]:List Str) (YI K YE 2) 1)(C_borrowing:YU P w K mg base "borrowing" (["web","houses"]:List Str) (YI K YN 2) 1)(C_plus:YU P w K mg base "plus" (["one","other"]:List Str) (YI K WS 2) 1)(C_burnt:YU P w K mg base "burnt" (["web","purse","base"]:List Str) (YI K Ua 3) 3)(C_least:YU P w K mg base "least" (["script"]:List Str) (YI K Vj 1) 1):YU P w K mg base "settle" (["web","purse","base"]:List Str) (YI K Wj 3) 5:=
 Z3 (O:=[]) (k:=4) 7 Ud Df sc_settle (fun _ _ _ _ _ _ us hl=>match us,hl with | [_,_,_],_=>rfl) rfl rfl (by decide) (fun fa cdv A outer s H E hr=>
  (Zj (Zy (i:=3) sc_settle.nd rfl (Or.inl rfl) (Zn C_nearing (hr.mono (by decide)) rfl (Zc (Zd (pv 0)) (Zc (Zd (pv 1)) (Zc (Zd (pv 2)) Zg)))))
  (Zj (Zy (i:=4) sc_settle.nd rfl (Or.inl rfl) (Zn C_run (hr.mono (by decide)) rfl (Zc (Zd (pv 0)) (Zc (Zd (pv 1)) (Zc (Zd (pv 3)) Zg)))))
  (Zj (Zy (i:=5) sc_settle.nd rfl (Or.inl rfl) (Zn C_in_debt (hr.mono (by decide)) rfl (Zc (Zd (pv 4)) (Zc (Zd (pv 2)) Zg))))
  (Zj (Qq PassesOwn.never (Mm (ZI YW X7 rfl B.len (by decide +kernel) (Zc (Zd (pv 5)) Zg)) Zh) (Zj (Zy (i:=6) sc_settle.nd rfl (Or.inl rfl) (Zn C_borrowing (hr.mono (by decide)) rfl (Zc (Zd (pv 0)) (Zc (Zd (pv 5)) Zg))))
  (Zj (Zy (i:=3) sc_settle.nd rfl (Or.inl rfl) (Zn C_plus (hr.mono (by decide)) rfl (Zc (Zd (pv 3)) (Zc (Zd (pv 6)) Zg))))
  (Zj (Zy (i:=4) sc_settle.nd rfl (Or.inl rfl) (Zn C_run (hr.mono (by decide)) rfl (Zc (Zd (pv 0)) (Zc (Zd (pv 4)) (Zc (Zd (pv 6)) Zg)))))
  (Zm (Zy (i:=5) sc_settle.nd rfl (Or.inl rfl) (Zn C_in_debt (hr.mono (by decide)) rfl (Zc (Zd (pv 4)) (Zc (Zd (pv 2)) Zg)))))))))
  (Zm (ZH (J3 (VN (Zn C_least (hr.mono (by decide)) rfl (Zc (Zd (pv 3)) Zg)) (VN (VE.pure (Zd (pv 4))) (VN (Zn C_burnt (hr.mono (by decide)) rfl (Zc (Zd (pv 0)) (Zc (Zd (pv 4)) (Zc (Zd (pv 2)) Zg)))) Th)))))))))))
abbrev WY:Stmt:=VD 25
theorem sc_m_cleared:Zx (["web","purse","told"]:List Str) (["web","purse"]:List Str) (Zk WY):=⟨rfl,rfl,rfl,by decide +kernel,rfl,by decide +kernel,by decide +kernel⟩
theorem RT(Df:Def K mg "cleared" WY)(B:Vu mg)(Z_BASE:HK mg "BASE" 0)(C_settle:YU P w K mg base "settle" (["web","purse","base"]:List Str) (YI K Wj 3) 5):YU P w K mg base "cleared" (["web","purse"]:List Str) (YI K Xc 2) 6:=
 Z3 (O:=[2]) (k:=5) 3 Xb Df sc_m_cleared (fun _ _ _ _ _ _ us hl=>match us,hl with | [_,_],_=>rfl) rfl rfl (by decide) (fun fa cdv A outer s H E hr=>
  (Zj (Zy (i:=2) sc_m_cleared.nd rfl (Or.inl rfl) (Zn C_settle (hr.mono (by decide)) rfl (Zc (Zd (pv 0)) (Zc (Zd (pv 1)) (Zc (MS rfl Z_BASE) Zg)))))
  (Zj (XR (K6 (ZG (ZG (Zd (pv 2)) Zh) (MS rfl Z_BASE)) Zh) (Zm (T4 (a:=0) (b:=1) (Ty (Yl X5 (Yl (TB ix_tup (pv 2) Zh (fun _ _=>rfl)) (Yl (TB ix_tup (pv 2) Zh (fun _ _=>rfl)) Wn)))))) YB)
  (Zm (T4 (a:=0) (b:=2) (Ty (Yl X5 (Yl (TB ix_tup (pv 2) Zh (fun _ _=>rfl)) (Yl (TB ix_tup (pv 2) Zh (fun _ _=>rfl)) Wn)))))))))
abbrev Sa:Stmt:=VD 37
theorem sc_l_word:Zx (["_law_web_here","_law_purse_here","_law_found"]:List Str) (["_law_web_here","_law_purse_here"]:List Str) (Zk Sa):=⟨rfl,rfl,rfl,by decide +kernel,rfl,by decide +kernel,by decide +kernel⟩
theorem Nz(Df:Def K mg "_law_word" Sa)(B:Vu mg)(C_m_cleared:YU P w K mg base "cleared" (["web","purse"]:List Str) (YI K Xc 2) 6):YU P w K mg base "_law_word" (["_law_web_here","_law_purse_here"]:List Str) (YI K Yu 2) 7:=
 Z3 (O:=[]) (k:=6) 3 Ue Df sc_l_word (fun _ _ _ _ _ _ us hl=>match us,hl with | [_,_],_=>rfl) rfl rfl (by decide) (fun fa cdv A outer s H E hr=>
  (Zj (Zy (i:=2) sc_l_word.nd rfl (Or.inl rfl) (Zn C_m_cleared (hr.mono (by decide)) rfl (Zc (Zd (pv 0)) (Zc (Zd (pv 1)) Zg))))
  (Zj (XR (VW.vt (Mo (Q0 (QY (ZI UU Oj rfl B.isinstance (by decide +kernel) (Zc (Zd (pv 2)) (Zc (K9 rfl B.tuple (by decide +kernel)) Zg))))) (Mo (Ot hr.units (ZI YW X7 rfl B.len (by decide +kernel) (Zc (Zd (pv 2)) Zg)) Zh) (Mn (Q0 (QY (ZI UU Oj rfl B.isinstance (by decide +kernel) (Zc (ZG (Zd (pv 2)) Zh) (Zc (K9 rfl B.str (by decide +kernel)) Zg))))))))) (Zm (ZH (VE.pure X5))) YB)
  (Zm (ZH (VE.pure (ZG (Zd (pv 2)) Zh)))))))
abbrev WZ:Stmt:=VD 38
theorem sc_l_bounded:Zx (["_law_web_here","_law_purse_here","_law_word_here","_law_rings"]:List Str) (["_law_web_here","_law_purse_here","_law_word_here"]:List Str) (Zk WZ):=⟨rfl,rfl,rfl,by decide +kernel,rfl,by decide +kernel,by decide +kernel⟩
theorem RU(Df:Def K mg "_law_bounded" WZ)(B:Vu mg):YU P w K mg base "_law_bounded" (["_law_web_here","_law_purse_here","_law_word_here"]:List Str) (YI K Yy 3) 1:=
 Z3 (O:=[]) (k:=0) 4 X2 Df sc_l_bounded (fun _ _ _ _ _ _ us hl=>match us,hl with | [_,_,_],_=>rfl) rfl rfl (by decide) (fun fa cdv A outer s H E hr=>
  (Zj (Zy (i:=3) sc_l_bounded.nd rfl (Or.inl rfl) (VE.pure (Yh (Xq (Td (ZI (Y7 rfl) WK rfl B.sum (by decide +kernel) (Zc (Yr (["_law_row"]:List Str) ([]:List Str) [] rfl (My (Zd (pv 0))) (by kernel_rfl) (fun _ _ _ _ _=>(Zv (i:=0) (show((["_law_row"]:List Str)++([]:List Str)).Nodup by decide +kernel) rfl (Or.inl rfl) (.inr rfl))) (fun _ _ _ _ _=>Yc) (fun _ _ _ _ _=>(ZI (Y7 rfl) WK rfl B.sum (by decide +kernel) (Zc (Zd (pv 0)) Zg)))) Zg)) Zh) (ZI YW X7 rfl B.len (by decide +kernel) (Zc (Zd (pv 0)) Zg))) Zh)))
  (Zj (XR (Qr hr.units (Zd (pv 2)) (Q3 (Zc X5 (Zc X5 Zg)))) (Zm (ZH (VE.pure Mh))) YB)
  (Zj (XR (Oi (ZI (Y7 rfl) WK rfl B.sum (by decide +kernel) (Zc (Zd (pv 1)) Zg)) Zh) (Zm (ZH (VE.pure (MD hr.units (Zd (pv 2)) X5)))) YB)
  (Zm (ZH (VE.pure (Ho (MD hr.units (Zd (pv 2)) X5) (J1 (Hl (ZI (Y7 rfl) WK rfl B.sum (by decide +kernel) (Zc (Zd (pv 1)) Zg)) (Zd (pv 3))))))))))))
abbrev UL:Stmt:=VD 33
theorem Px:Zx (["_law_cell_here"]:List Str) (["_law_cell_here"]:List Str) (Zk UL):=⟨rfl,rfl,rfl,by decide +kernel,rfl,by decide +kernel,by decide +kernel⟩
theorem Py(Df:Def K mg "_law_often" UL)(B:Vu mg):YU P w K mg base "_law_often" (["_law_cell_here"]:List Str) (YI K Wk 1) 1:=
 Z3 (O:=[]) (k:=0) 1 Vk Df Px (fun _ _ _ _ _ _ us hl=>match us,hl with | [_],_=>rfl) rfl rfl (by decide) (fun fa cdv A outer s H E hr=>
  (Zj (XR (V0 hr.units (YM (Zd (pv 0)) Zh) Zh) (Zm (ZH (VE.pure (Xq (YM (Vc (Zd (pv 0)) (Zd (pv 0))) (Vc Zh (Ux Zh Zh))) (Ux Zh Zh))))) YB)
  (Zm (ZH (VE.pure (Xq (YM (WT (Zd (pv 0)) Zh) Zh) Zh))))))
abbrev VB:Stmt:=VD 34
theorem Qw:Zx (["_law_script_here","_law_at","_law_houses"]:List Str) (["_law_script_here","_law_at","_law_houses"]:List Str) (Zk VB):=⟨rfl,rfl,rfl,by decide +kernel,rfl,by decide +kernel,by decide +kernel⟩
theorem Qx(Df:Def K mg "_law_script" VB)(B:Vu mg)(C_m_often:YU P w K mg base "_law_often" (["_law_cell_here"]:List Str) (YI K Wk 1) 1)(C_m_cell:YU P w K mg base "_law_cell" (["_law_script_here","_law_k"]:List Str) (YI K Zp 2) 1):YU P w K mg base "_law_script" (["_law_script_here","_law_at","_law_houses"]:List Str) (YI K ZZ 3) 2:=
 Z3 (O:=[]) (k:=1) 3 Vz Df Qw (fun _ _ _ _ _ _ us hl=>match us,hl with | [_,_,_],_=>rfl) rfl rfl (by decide) (fun fa cdv A outer s H E hr=>
  (Zm (ZH (VE.pure (Z5 ZB Yk rfl B.tuple (by decide +kernel) (Zc (Yr (["_law_k"]:List Str) (["_law_script_here","_law_at"]:List Str) [0,1] rfl (Yi rfl B.range (Zc (Zd (pv 2)) Zg)) (by kernel_rfl) (fun _ _ _ _ _=>(Zv (i:=0) (show((["_law_k"]:List Str)++(["_law_script_here","_law_at"]:List Str)).Nodup by decide +kernel) rfl (Or.inl rfl) (.inr rfl))) (fun _ _ _ _ _=>Yc) (fun _ _ _ _ _=>(VM.ve (Zn C_m_often (hr.mono (by decide)) rfl (Zc (VM.ve (Zn C_m_cell (hr.mono (by decide)) rfl (Zc (Zd (pv 1)) (Zc (Yh (Zd (pv 2)) (Zd (pv 0))) Zg)))) Zg))))) Zg))))))
abbrev RV:Stmt:=VD 35
theorem sc_l_run:Zx (["_law_web_here","_law_purse_here","_law_often_here","_law_coins_here","_law_k","_law_out"]:List Str) (["_law_web_here","_law_purse_here","_law_often_here"]:List Str) (Zk RV):=⟨rfl,rfl,rfl,by decide +kernel,rfl,by decide +kernel,by decide +kernel⟩
theorem M6(Df:Def K mg "_law_run" RV)(B:Vu mg):YU P w K mg base "_law_run" (["_law_web_here","_law_purse_here","_law_often_here"]:List Str) (YI K X1 3) 1:=
 Z3 (O:=[3]) (k:=0) 6 Tp Df sc_l_run (fun _ _ _ _ _ _ us hl=>match us,hl with | [_,_,_],_=>rfl) rfl rfl (by decide) (fun fa cdv A outer s H E hr=>
  (Zj (Zy (i:=3) sc_l_run.nd rfl (Or.inl rfl) (Q4 Th))
  (Zj (Wu PassesOwn.never rfl (Yi rfl B.range (Zc (ZI YW X7 rfl B.len (by decide +kernel) (Zc (Zd (pv 0)) Zg)) Zg)) (Zv (i:=4) sc_l_run.nd rfl (Or.inr rfl)) (Zj (Zy (i:=5) sc_l_run.nd rfl (Or.inl rfl) (VE.pure (ZI (Y7 rfl) WK rfl B.sum (by decide +kernel) (Zc (Yr (["_law_j"]:List Str) (["_law_web_here","_law_k","_law_often_here"]:List Str) [0,4,2] rfl (Yi rfl B.range (Zc (ZI YW X7 rfl B.len (by decide +kernel) (Zc (Zd (pv 0)) Zg)) Zg)) (by kernel_rfl) (fun _ _ _ _ _=>(Zv (i:=0) (show((["_law_j"]:List Str)++(["_law_web_here","_law_k","_law_often_here"]:List Str)).Nodup by decide +kernel) rfl (Or.inl rfl) (.inr rfl))) (fun _ _ _ _ _=>Yc) (fun _ _ _ _ _=>(X6 (ZG (ZG (Zd (pv 1)) (Zd (pv 2))) (Zd (pv 0))) (Xq (ZG (Zd (pv 3)) (Zd (pv 2))) (ZG (Zd (pv 3)) (Zd (pv 0))))))) Zg))))
  (Zm (S5 (W6 (Ob PySem.F.plainAttrs_list PySem.F.slot_list_append PySem.F.type_list_append SL (pv 3) (Yl (VE.pure (Xq (ZG (Zd (pv 1)) (Zd (pv 4))) (Zd (pv 5)))) Wn)))))))
  (Zm (ZH (VE.pure (Z5 ZB Yk rfl B.tuple (by decide +kernel) (Zc (Zd (pv 3)) Zg))))))))
abbrev M7:Stmt:=VD 39
theorem sc_law:Zx (["_law_script_here","_law_web_here","_law_houses","_law_purse_here","_law_word_here","_law_often_here","_law_cell_here","_law_house","_law_some","_law_coins_here","_law_more","_law_other"]:List Str) (["_law_script_here"]:List Str) (Zk M7):=⟨rfl,rfl,rfl,by decide +kernel,rfl,by decide +kernel,by decide +kernel⟩
theorem Il{ff:Addr}{fd:FuncData}(Fn:Fun K "law" "law" M7 ff fd)(B:Vu mg)(C_l_web:YU P w K mg base "_law_web" (["_law_script_here","_law_most"]:List Str) (YI K Vd 2) 2)(C_l_purse:YU P w K mg base "_law_purse" (["_law_script_here","_law_at","_law_houses"]:List Str) (YI K Xr 3) 2)(C_l_part:YU P w K mg base "_law_part" (["_law_cell_here","_law_turn","_law_many"]:List Str) (YI K Zl 3) 1)(C_m_cell:YU P w K mg base "_law_cell" (["_law_script_here","_law_k"]:List Str) (YI K Zp 2) 1)(C_l_word:YU P w K mg base "_law_word" (["_law_web_here","_law_purse_here"]:List Str) (YI K Yu 2) 7)(C_l_bounded:YU P w K mg base "_law_bounded" (["_law_web_here","_law_purse_here","_law_word_here"]:List Str) (YI K Yy 3) 1)(C_l_script:YU P w K mg base "_law_script" (["_law_script_here","_law_at","_law_houses"]:List Str) (YI K ZZ 3) 2)(C_l_run:YU P w K mg base "_law_run" (["_law_web_here","_law_purse_here","_law_often_here"]:List Str) (YI K X1 3) 1)(C_m_coins:YU P w K mg base "_law_coins" (["_law_cell_here"]:List Str) (YI K Yo 1) 1):U2 P w K mg base Od 8 ff fd (["_law_script_here"]:List Str) (YI K D_law 1):=
 Ks (O:=[5]) (k:=7) 12 OE Fn sc_law rfl rfl (by decide) (fun fa cdv A outer s H E hr=>
  (Y9 (Zy (i:=1) sc_law.nd rfl (Or.inl rfl) (Zn C_l_web (hr.mono (by decide)) rfl (Zc (Zd (pv 0)) (Zc Zh Zg))))
  (Y9 (Zy (i:=2) sc_law.nd rfl (Or.inl rfl) (VE.pure (ZI YW X7 rfl B.len (by decide +kernel) (Zc (Zd (pv 1)) Zg))))
  (Y9 (Zy (i:=3) sc_law.nd rfl (Or.inr rfl) (Zn C_l_purse (hr.mono (by decide)) rfl (Zc (Zd (pv 0)) (Zc Zh (Zc (Zd (pv 2)) Zg)))))
  (Y9 (XR (V0 hr.units (VM.ve (Zn C_l_part (hr.mono (by decide)) rfl (Zc (VM.ve (Zn C_m_cell (hr.mono (by decide)) rfl (Zc (Zd (pv 0)) (Zc Zh Zg)))) (Zc Zh (Zc Zh Zg))))) Zh) (Zm (Zy (i:=3) sc_law.nd rfl (Or.inr rfl) (VE.pure (Z5 ZB Yk rfl B.tuple (by decide +kernel) (Zc (Yr (["_law_k"]:List Str) (["_law_script_here"]:List Str) [0] rfl (Yi rfl B.range (Zc (Zd (pv 2)) Zg)) (by kernel_rfl) (fun _ _ _ _ _=>(Zv (i:=0) (show((["_law_k"]:List Str)++(["_law_script_here"]:List Str)).Nodup by decide +kernel) rfl (Or.inl rfl) (.inr rfl))) (fun _ _ _ _ _=>Yc) (fun _ _ _ _ _=>(Xq (VM.ve (Zn C_l_part (hr.mono (by decide)) rfl (Zc (VM.ve (Zn C_m_cell (hr.mono (by decide)) rfl (Zc (Zd (pv 1)) (Zc (Yh Zh (Zd (pv 0))) Zg)))) (Zc Zh (Zc Zh Zg))))) Zh))) Zg))))) YB)
  (Y9 (Zy (i:=4) sc_law.nd rfl (Or.inl rfl) (Zn C_l_word (hr.mono (by decide)) rfl (Zc (Zd (pv 1)) (Zc (Zd (pv 3)) Zg))))
  (Y9 (XR (Q0 (QY (VM.ve (Zn C_l_bounded (hr.mono (by decide)) rfl (Zc (Zd (pv 1)) (Zc (Zd (pv 3)) (Zc (Zd (pv 4)) Zg))))))) (Zm (ZH (VE.pure Mh))) YB)
  (Y9 (Zy (i:=5) sc_law.nd rfl (Or.inl rfl) (SX VG Ql rfl B.list (by decide +kernel) (Zc (VM.ve (Zn C_l_script (hr.mono (by decide)) rfl (Zc (Zd (pv 0)) (Zc Zh (Zc (Zd (pv 2)) Zg))))) Zg)))
  (Y9 (Wu PassesOwn.never rfl (Wr (Ni (Zd (pv 0)) (Tj Zh) (Tj Zh))) (Zv (i:=6) sc_law.nd rfl (Or.inl rfl)) (Zj (Zy (i:=7) sc_law.nd rfl (Or.inl rfl) (Zn C_l_part (hr.mono (by decide)) rfl (Zc (Zd (pv 6)) (Zc Zh (Zc (Zd (pv 2)) Zg)))))
  (Zm (MC (QN (Yh (ZG (Zd (pv 5)) (Zd (pv 7))) Zh) (QL (pv 5) (Zd (pv 7)) TC))))))
  (Np (O':=[]) (VSs.r (Zj (Wu PassesOwn.never rfl (Wr (Q3 (Zc (VM.ve (Zn C_l_script (hr.mono (by decide)) rfl (Zc (Zd (pv 0)) (Zc Zh (Zc (Zd (pv 2)) Zg))))) (Zc (Zd (pv 5)) Zg)))) (Zv (i:=8) sc_law.nd rfl (Or.inl rfl)) (Zj (Zy (i:=9) sc_law.nd rfl (Or.inl rfl) (Zn C_l_run (hr.mono (by decide)) rfl (Zc (Zd (pv 1)) (Zc (Zd (pv 3)) (Zc (Zd (pv 8)) Zg)))))
  (Zm (XR (VW.vt (Mo (VW.vt (RD (V0 hr.units (Zd (pv 4)) X5) (Tf (K6 (ZI (S8 rfl) OB rfl B.min (by decide +kernel) (Zc (Zd (pv 9)) Zg)) Zh)))) (Mn (Ot hr.units (VM.ve (Zn C_l_word (hr.mono (by decide)) rfl (Zc (Zd (pv 1)) (Zc (Zd (pv 9)) Zg)))) (Zd (pv 4)))))) (Zm (ZH (VE.pure Mh))) YB))))
  (Zj (Zy (i:=10) sc_law.nd rfl (Or.inl rfl) (VE.pure (Z5 ZB Yk rfl B.tuple (by decide +kernel) (Zc (Yr (["_law_k"]:List Str) (["_law_purse_here","_law_script_here"]:List Str) [3,0] rfl (Yi rfl B.range (Zc (Zd (pv 2)) Zg)) (by kernel_rfl) (fun _ _ _ _ _=>(Zv (i:=0) (show((["_law_k"]:List Str)++(["_law_purse_here","_law_script_here"]:List Str)).Nodup by decide +kernel) rfl (Or.inl rfl) (.inr rfl))) (fun _ _ _ _ _=>Yc) (fun _ _ _ _ _=>(Yh (ZG (Zd (pv 1)) (Zd (pv 0))) (YM (ZI N2 J4 rfl B.abs (by decide +kernel) (Zc (VM.ve (Zn C_m_coins (hr.mono (by decide)) rfl (Zc (VM.ve (Zn C_m_cell (hr.mono (by decide)) rfl (Zc (Zd (pv 2)) (Zc (Yh Zh (Zd (pv 0))) Zg)))) Zg))) Zg)) (Ux Zh Zh))))) Zg))))
  (Zj (Zy (i:=11) sc_law.nd rfl (Or.inl rfl) (Zn C_l_word (hr.mono (by decide)) rfl (Zc (Zd (pv 1)) (Zc (Zd (pv 10)) Zg))))
  (Zj (XR (V0 hr.units (Zd (pv 4)) X5) (Zm (ZH (VE.pure (MD hr.units (Zd (pv 11)) X5)))) YB)
  (Zm (ZH (Zn C_l_bounded (hr.mono (by decide)) rfl (Zc (Zd (pv 1)) (Zc (Zd (pv 10)) (Zc (Zd (pv 11)) Zg)))))))))))))))))))))
end
end PW
namespace PW
open L2 VL
theorem Pz{W:List (List Int)}{h:Nat}(hh:h<W.length):XJ [wP W,.int (h:Int)]=some (.int (ZF W h).sum):=by
 simp[XJ,UA,YZ,ZY,V2 hh]
def Qy(a b:List Int):List Int:=(List.range a.length).map fun i=>Zr a i+Zr b i
def Kx(a b:List Int):List Int:=(List.range a.length).map fun i=>Zr a i-Zr b i
theorem Ky{a b:List Int}(h:b.length=a.length)(hl:a.length<=1000):WS [pP a,pP b]=some (pP (Qy a b)):=by
 have hz:VR (iL a) (iL b)=(List.range a.length).map fun(i:Nat)=>.tup [.int (Zr a i),.int (Zr b i)]:=by
  rw[Vy _ _ (by simpa using h),List.length_map]
  apply List.map_congr_left
  intro i hi;have hi:=List.mem_range.mp hi;rw[Va a i hi,Va b i (by omega)]
 have hc:Zu 2 [] (VU false false [Za 0,Za 1]) (.many [0,1]) ZA (Zi ZW (Za 0) (Za 1)) [some (pP a),some (pP b)]=some (.lst (iL (Qy a b))):=by
  rw[Z6 (List.range a.length) (fun(i:Nat)=>.tup [.int (Zr a i),.int (Zr b i)]) (fun i=>.int (Zr a i+Zr b i)) (by simp[hz]) (by simp;omega) (fun i _=>⟨_,rfl,rfl,by simp[setAll,ZK]⟩)]
  simp[Qy]
 simp[WS,Ph,YZ,ZY,hc]
theorem Tq(l:List Int):WM (iL l)=(List.range l.length).map fun(i:Nat)=>.tup [.int (i:Int),.int (Zr l i)]:=by
 rw[UW,List.length_map]
 apply List.map_congr_left
 intro i hi;rw[Va l i (List.mem_range.mp hi)]
def Xj(W:List (List Int))(S:List Int)(h:Nat):Int:=((List.range W.length).map fun i=>Yd W h i*(Zr S i-Zr S h)).sum
theorem Kz{W:List (List Int)}{S:List Int}{h:Nat}(ok:Z1 W)(hh:h<W.length)(hs:S.length=W.length):UB [wP W,pP S,.int (h:Int)]=some (.int (Xj W S h)):=by
 have hr:=ok.sq h hh;have hf:=ok.few
 have hc:Zu 2 [1,2] (Y8 false [Zi Yb (Za 0) (Za 2)]) (.many [0,1]) ZA (Zi Vm (Za 1) (Zi Xe (Zi Yb (Za 2) (Za 0)) (Zi Yb (Za 2) (Za 3)))) [some (wP W),some (pP S),some (.int (h:Int))]=some (.lst (iL ((List.range W.length).map fun i=>Yd W h i*(Zr S i-Zr S h)))):=by
  rw[Z6 (List.range W.length) (fun(i:Nat)=>.tup [.int (i:Int),.int (Yd W h i)]) (fun i=>.int (Yd W h i*(Zr S i-Zr S h))) (by simp[V2 hh,Tq,hr];intro a _;rfl) (by simp;omega) (fun i hi=>?_)]
  ·simp
  ·have hi:=List.mem_range.mp hi
   refine⟨_,rfl,rfl,?_⟩
   have b1:=ok.lo h i hh hi;have b2:=ok.hi h i hh hi
   have hm:∀j,CMul (Yd W h i) j:=fun j=>Pf (by omega) (by omega)
   simp[setAll,ZK,Y5 (show i<S.length by omega),Y5 (show h<S.length by omega),hm]
 simp[UB,Pg,YZ,ZY,hc,Xj,-List.map_map]
def ZC(W:List (List Int))(D S:List Int):List Int:=(List.range D.length).map fun h=>Zr D h+Xj W S h
theorem M8{W:List (List Int)}{D S:List Int}(ok:Z1 W)(hd:D.length=W.length)(hs:S.length=W.length):WR [wP W,pP D,pP S]=some (pP (ZC W D S)):=by
 have hf:=ok.few
 have hc:Zu 2 [0,2] (Y8 false [Za 1]) (.many [0,1]) ZA (Zi ZW (Za 1) (Ze UB [Za 2,Za 3,Za 0])) [some (wP W),some (pP D),some (pP S)]=some (.lst (iL (ZC W D S))):=by
  rw[Z6 (List.range D.length) (fun(i:Nat)=>.tup [.int (i:Int),.int (Zr D i)]) (fun h=>.int (Zr D h+Xj W S h)) (by simp[Tq]) (by simp;omega) (fun i hi=>?_)]
  ·simp[ZC]
  ·have hi:=List.mem_range.mp hi
   refine⟨_,rfl,rfl,?_⟩
   simp[setAll,ZK,Kz ok (show i<W.length by omega) hs]
 simp[WR,MQ,YZ,ZY,hc]
def tk(e:GM):List Tc:=[.inl (e.1:Int),.inl (e.2.1:Int)]
def UM(W:List (List Int)):Prop:=∀P:Nat->Prop,(∀a b,a<W.length->b<W.length->0<Yd W a b->(P a↔P b))->∀i j,i<W.length->j<W.length->(P i↔P j)
theorem Sb:∀{l m:List Int},l.Nodup->(∀x∈l,x∈m)->l.length<=m.length
 | [],m,_,_=>Nat.zero_le _
 | x::r,m,nd,h=>by
  have hx:x∈m:=h x (by simp)
  have nd':=List.nodup_cons.mp nd
  have:=Sb (l:=r) (m:=m.erase x) nd'.2 fun y hy=>(List.mem_erase_of_ne (show y≠x from fun z=>nd'.1 (by rw[<-z];exact hy))).mpr (h y (by simp[hy]))
  rw[List.length_erase_of_mem hx] at this;have hp:=List.length_pos_of_mem hx
  rw[List.length_cons];omega
theorem Gv{n:Nat}{l:List Int}(nd:l.Nodup)(h:∀x∈l,∃k:Nat,k<n/\x=(k:Int))(hl:l.length=n){j:Nat}(hj:j<n):(j:Int)∈l:=by
 by_cases q:(j:Int)∈l
 ·exact q
 ·have:=Sb (l:=(j:Int)::l) (m:=(List.range n).map fun(k:Nat)=>(k:Int)) (List.nodup_cons.mpr ⟨q,nd⟩) (fun x hx=>by
   rcases List.mem_cons.mp hx with rfl | hx
   ·exact List.mem_map.mpr ⟨j,List.mem_range.mpr hj,rfl⟩
   ·obtain⟨k,hk,rfl⟩:=h x hx
    exact List.mem_map.mpr ⟨k,List.mem_range.mpr hk,rfl⟩)
  rw[List.length_cons,List.length_map,List.length_range] at this;omega
def rL(M:List (List Int)):List PV:=M.map fun r=>.lst (iL r)
theorem PB{M:List (List Int)}{a:Nat}(h:a<M.length):(rL M)[a]?=some (.lst (iL (ZF M a))):=by
 unfold rL
 rw[List.getElem?_map,Qg h];rfl
theorem M9{M:List (List Int)}{a b:Nat}{t:Int}:(rL M).set a (.lst ((iL (ZF M a)).set b (.int t)))=rL (Uw M a b t):=by
 unfold rL Uw;rw[List.map_set]
 show _=(List.map (fun r=>PV.lst (iL r)) M).set a (PV.lst (((ZF M a).set b t).map PV.int))
 rw[List.map_set]
theorem La(l:List Int)(k:Nat)(x:Int):(iL l).take k++PV.int x::(iL l).drop k=iL (l.take k++x::l.drop k):=by
 show(l.map PV.int).take k++PV.int x::(l.map PV.int).drop k=(l.take k++x::l.drop k).map PV.int
 rw[List.map_append,List.map_cons,List.map_take,List.map_drop]
theorem Je(neg:Bool)(a:Int)(l:List Int):RF neg (.int a) (.lst (iL l))=some (.bl (if neg then !decide (a∈l) else decide (a∈l))):=by
 unfold RF
 have c:((iL l).all fun z=>XB 8 z (.int a))=true:=by
  rw[List.all_map,List.all_eq_true]
  intro x _;rfl
 show(some (iL l)).bind _=_
 simp only[Option.bind_some,if_pos c]
 have:decide (PV.int a∈iL l)=decide (a∈l):=decide_eq_decide.mpr (by
  rw[List.mem_map];constructor
  ·rintro⟨x,hx,e⟩;cases e;exact hx
  ·intro h;exact⟨a,h,rfl⟩)
 rw[this]
theorem ZN{f g:XS}{s s1:ZO}(e1:f s=some (.nx s1)):Zt f g s=g s1:=by
 simp only[Qt,e1,Option.bind_some]
theorem Qz(a b:List Int):(Qy a b).length=a.length:=by simp[Qy]
theorem Lb(a b:List Int):(Kx a b).length=a.length:=by simp[Kx]
theorem Yg(W:List (List Int))(D S:List Int):(ZC W D S).length=D.length:=by simp[ZC]
theorem Sc{a b:List Int}{i:Nat}(h:i<a.length):Zr (Qy a b) i=Zr a i+Zr b i:=ZS h
theorem Lc{a b:List Int}{i:Nat}(h:i<a.length):Zr (Kx a b) i=Zr a i-Zr b i:=ZS h
theorem Xy{W:List (List Int)}{a b:List Int}{i:Nat}(h:i<a.length):Zr (ZC W a b) i=Zr a i+Xj W b i:=ZS h
theorem Ug{a b:List Int}(hl:a.length=b.length)(h:∀i,i<a.length->Zr a i=Zr b i):a=b:=by
 rw[<-Uv a,<-Uv b,hl]
 apply List.map_congr_left
 intro i hi
 exact h i (by rw[hl];exact List.mem_range.mp hi)
theorem RW{W:List (List Int)}(ok:Z1 W){i:Nat}(hi:i<W.length):(ZF W i).sum=((List.range W.length).map fun j=>Yd W i j).sum:=by
 rw[<-Ry (ZF W i),ok.sq i hi];rfl
theorem XM{n m:Nat}{ix:List Nat}{fi:XL}{ft:XT}{fe:XE}{s:ZO}(g:Nat->Int)(hfi:fi s=some (WL m))(hm:m<=1000)(h:∀i:Nat,i<m->∃s1,Xw (.one 0) (.int (i:Int)) (ZK n ix s)=some s1/\ft s1=some true/\fe s1=some (.int (g i))) :
  Zu n ix fi (.one 0) ft fe s=some (.lst (iL ((List.range m).map g))):=by
 rw[Z6 (List.range m) (fun(i:Nat)=>.int (i:Int)) (fun i=>.int (g i)) hfi (by simp;omega) (fun i hi=>h i (List.mem_range.mp hi))]
 simp
theorem Sd(f g:Nat->Int)(n:Nat):((List.range n).map fun i=>f i+g i).sum=((List.range n).map f).sum+((List.range n).map g).sum:=by
 induction n with
 | zero=>rfl
 | succ n ih=>rw[Yq,Yq,Yq,ih];omega
theorem Qj(f:Nat->Nat->Int)(n m:Nat):((List.range n).map fun i=>((List.range m).map fun j=>f i j).sum).sum=((List.range m).map fun j=>((List.range n).map fun i=>f i j).sum).sum:=by
 induction n with
 | zero=>
  have:((List.range m).map fun j=>((List.range 0).map fun i=>f i j).sum).sum=0:=by
   have:=W8 0 m
   simpa using this
  rw[this];rfl
 | succ n ih=>
  rw[Yq,ih,<-Sd]
  apply YD
  intro j _;rw[Yq]
theorem Qi{f:Nat->Int}{n:Nat}(h:∀i,i<n->f i=0):((List.range n).map f).sum=0:=by
 rw[YD h,W8,Int.mul_zero]
theorem NA{W:List (List Int)}{S U T:List Int}{h:Nat}(e:∀i,i<W.length->Zr T i=Zr S i+Zr U i)(hh:h<W.length):Xj W T h=Xj W S h+Xj W U h:=by
 unfold Xj;rw[<-Sd]
 apply YD
 intro i hi;rw[e i hi,e h hh,<-Int.mul_add]
 congr 1
 omega
theorem RX{W:List (List Int)}{D S U T:List Int}(hd:D.length=W.length)(e:∀i,i<W.length->Zr T i=Zr S i+Zr U i):ZC W (ZC W D S) U=ZC W D T:=Ug (by simp[Yg]) fun i hi=>by
 rw[Yg,Yg] at hi
 rw[Xy (by rw[Yg];exact hi),Xy hi,Xy hi,NA e (by omega)]
 omega
theorem NB{W:List (List Int)}{S T:List Int}{h:Nat}(c:Int)(e:∀i,i<W.length->Zr T i=Zr S i+c)(hh:h<W.length):Xj W T h=Xj W S h:=by
 unfold Xj
 apply YD
 intro i hi;rw[e i hi,e h hh]
 congr 1
 omega
theorem NC{W:List (List Int)}{S:List Int}{h:Nat}(e:∀i,i<W.length->Zr S i=0)(hh:h<W.length):Xj W S h=0:=by
 unfold Xj
 apply Qi
 intro i hi;rw[e i hi,e h hh]
 simp
theorem Ld{W:List (List Int)}{D S:List Int}(hd:D.length=W.length)(e:∀i,i<W.length->Zr S i=0):ZC W D S=D:=Ug (by simp[Yg]) fun i hi=>by
 rw[Yg] at hi;rw[Xy hi,NC e (by omega),Int.add_zero]
theorem Lf{W:List (List Int)}(ok:Z1 W)(S:List Int):((List.range W.length).map fun h=>Xj W S h).sum=0:=by
 have e1:((List.range W.length).map fun h=>Xj W S h).sum=((List.range W.length).map fun i=>((List.range W.length).map fun j=>Yd W i j*Zr S j).sum).sum-((List.range W.length).map fun i=>((List.range W.length).map fun j=>Yd W i j*Zr S i).sum).sum:=by
  rw[<-Of]
  apply YD
  intro i _;unfold Xj;rw[<-Of]
  apply YD
  intro j _;rw[Int.mul_sub]
 have e2:((List.range W.length).map fun i=>((List.range W.length).map fun j=>Yd W i j*Zr S i).sum).sum=((List.range W.length).map fun i=>((List.range W.length).map fun j=>Yd W i j*Zr S j).sum).sum:=by
  rw[Qj]
  apply YD
  intro i hi
  apply YD
  intro j hj;rw[ok.sym j i hj hi]
 rw[e1,e2];omega
theorem OF{W:List (List Int)}{D S:List Int}(ok:Z1 W)(hd:D.length=W.length):(ZC W D S).sum=D.sum:=by
 unfold ZC;rw[Sd,Ry,hd,Lf ok,Int.add_zero]
theorem nth_set{l:List Int}{h i:Nat}{v:Int}(hi:i<l.length):Zr (l.set h v) i=if i=h then v else Zr l i:=by
 unfold Zr;rw[List.getD_eq_getElem?_getD,List.getD_eq_getElem?_getD,List.getElem?_set]
 by_cases e:h=i
 ·subst e
  rw[if_pos rfl,if_pos rfl,if_pos hi];rfl
 ·rw[if_neg e,if_neg (Ne.symm e)]
theorem KA{n i:Nat}(c:Int)(hi:i<n):Zr (List.replicate n c) i=c:=by
 unfold Zr
 rw[List.getD_eq_getElem?_getD,List.getElem?_replicate,if_pos hi];rfl
theorem Im(l:List Int)(k:Nat):Vx (iL l) none (some (k:Int))=iL (l.take k):=by
 unfold Vx;rw[HT.sIx_none,HT.sIx_nat,List.length_map,List.drop_zero,Nat.sub_zero,<-List.map_take]
 congr 1
 by_cases h:k<=l.length
 ·rw[Nat.min_eq_left h]
 ·rw[Nat.min_eq_right (by omega),List.take_of_length_le (Nat.le_refl _),List.take_of_length_le (by omega)]
theorem Io(l:List Int)(k:Nat):Vx (iL l) (some (k:Int)) none=iL (l.drop k):=by
 unfold Vx;rw[HT.sIx_none,HT.sIx_nat,List.length_map,<-List.map_drop,<-List.map_take]
 congr 1
 by_cases h:k<=l.length
 ·rw[Nat.min_eq_left h,List.take_of_length_le (by rw[List.length_drop];omega)]
 ·rw[Nat.min_eq_right (by omega),List.drop_eq_nil_of_le (Nat.le_refl _),List.drop_eq_nil_of_le (by omega)];simp
theorem Lg(l:List Int)(lo hi:Option Int):∃m:List Int,Vx (iL l) lo hi=iL m/\m.length<=l.length:=by
 refine⟨(l.drop (HT.sIx l.length 0 lo)).take (HT.sIx l.length l.length hi-HT.sIx l.length 0 lo),?_,?_⟩
 ·unfold Vx
  rw[List.length_map,<-List.map_drop,<-List.map_take]
 ·rw[List.length_take,List.length_drop];omega
theorem Tr{l:List Int}{i:Nat}(h:i<l.length):Zr l i∈l:=by
 unfold Zr;rw[List.getD_eq_getElem?_getD,List.getElem?_eq_getElem h]
 exact List.getElem_mem h
theorem RY{l:List Int}{x:Int}(h:x∈l):∃i,i<l.length/\Zr l i=x:=by
 obtain⟨i,hi,e⟩:=List.getElem_of_mem h
 refine⟨i,hi,?_⟩
 unfold Zr
 rw[List.getD_eq_getElem?_getD,List.getElem?_eq_getElem hi,e];rfl
theorem ND{l l':List Int}(c:Int)(hl:l'.length=l.length)(hp:0<l.length)(e:∀i,i<l.length->Zr l' i=Zr l i+c):YX l'=YX l+c:=by
 obtain⟨a,b⟩:=Vb (l:=l) (List.length_pos_iff.mp hp)
 obtain⟨i,hi,ei⟩:=RY a
 refine Oz ?_ fun x hx=>?_
 ·have:=Tr (l:=l') (i:=i) (by omega)
  rw[e i hi,ei] at this;exact this
 ·obtain⟨j,hj,ej⟩:=RY hx
  have h1:=b _ (Tr (l:=l) (i:=j) (by omega))
  rw[e j (by omega)] at ej;omega
def Xk(l:List Int):List Int:=(List.range l.length).map fun i=>Zr l i-YX l
theorem Se(l:List Int):(Xk l).length=l.length:=by simp[Xk]
theorem Sf{l:List Int}{i:Nat}(h:i<l.length):Zr (Xk l) i=Zr l i-YX l:=ZS h
theorem NE{W:List (List Int)}{D S T:List Int}(c:Int)(hd:D.length=W.length)(e:∀i,i<W.length->Zr T i=Zr S i+c):ZC W D T=ZC W D S:=Ug (by simp[Yg]) fun i hi=>by
 rw[Yg] at hi;rw[Xy hi,Xy hi,NB c e (by omega)]
theorem QA{f g:XS}{s:ZO}{v:PV}(e1:f s=some (.rt v)):Zt f g s=some (.rt v):=by rw[Qt,e1];rfl
def ZJ(ns:List Int)(k:Nat):Int:=if k<ns.length then Zr ns k else((k:Int)*k+3*k+1)*5003%1999
section
variable {s:ZO} {f g:XE} {a b:Int} {C:Int->Int->Prop} [∀i j,Decidable (C i j)] {op:Int->Int->Int}
theorem vC(h1:f s=some (.int a))(h2:g s=some (.int b))(c:C a b):Zi (Mj C op) f g s=some (.int (op a b)):=by
 rw[Y0,h1,h2];simp only[Option.bind_some,Ib,if_pos c]
theorem vI(h1:f s=some (.int a))(h2:g s=some (.int b)):Zi (gI op) f g s=some (.int (op a b)):=by
 rw[Y0,h1,h2];rfl
theorem vP(h1:f s=some (.int a)):eP f s=some (.int a):=by
 rw[Xh,h1];rfl
theorem Wl{v:PV}(h1:f s=some v):Z9 f s=some (.rt v):=by
 rw[MI,h1];rfl
end
theorem YR{ns:List Int}(h:ns.length<=63){k:Nat}(hk:k<=100):Zp [.cst (iL ns),.int (k:Int)]=some (.int (ZJ ns k)):=by
 unfold ZJ
 by_cases q:k<ns.length
 ·simp[Zp,WV,YZ,ZY,q,Y5 q]
 ·have c1:CMul (k:Int) (k:Int):=Pf (by omega) (by omega)
  have c2:CMul 3 (k:Int):=.inl (by omega)
  have c3:CMul ((k:Int)*k+3*k+1) 5003:=.inr (by omega)
  have e1:U8 (xB (Zi Oh (Za 1) (Ze YF [(Za 0)]))) (Z9 (eP (Zi Yb (Za 0) (Za 1)))) Yv [some (.cst (iL ns)),some (.int (k:Int))]=some (.nx [some (.cst (iL ns)),some (.int (k:Int))]):=by simp[q]
  show YZ 2 WV _=_
  unfold WV
  show(Zt _ _ [some (.cst (iL ns)),some (.int (k:Int))]).bind XC=_
  rw[ZN e1,if_neg q,Wl (vP (vC (vC (vI (vI (vC rfl rfl c1) (vC rfl rfl c2)) rfl) rfl c3) rfl (by decide)))];rfl
theorem Sg{ns:List Int}(hb:∀n∈ns,n.natAbs.log2<=1048576)(k:Nat):(ZJ ns k).natAbs.log2<=1048576:=by
 unfold ZJ
 split
 ·exact hb _ (Tr (by assumption))
 ·generalize ((k:Int)*k+3*k+1)*5003=z
  have h0:=Int.emod_nonneg z (show(1999:Int)≠0 by decide)
  have h1:=Int.emod_lt_of_pos z (show(0:Int)<1999 by decide)
  have:(z%1999).natAbs.log2<=1048576:=by
   by_cases h:(z%1999).natAbs=0
   ·rw[h];decide +kernel
   ·have:=(Nat.log2_lt (k:=11) h).mpr (by omega)
    omega
  exact this
theorem Xl(c:Int){t m:Nat}(ht:t<=100)(hm:0<m):∃v:Nat,v<m/\Zl [.int c,.int (t:Int),.int (m:Int)]=some (.int (v:Int)):=by
 have hm':(0:Int)<(m:Int):=by omega
 have fin:∀x:Int,∃v:Nat,v<m/\x%(m:Int)=(v:Int):=fun x=>by
  have h0:=Int.emod_nonneg x (show(m:Int)≠0 by omega)
  have h1:=Int.emod_lt_of_pos x hm'
  exact⟨(x%(m:Int)).toNat,by omega,by omega⟩
 have e1:Zs 3 (eP (Zi Rz (Za 0) (eC (.int 2)))) [some (.int c),some (.int (t:Int)),some (.int (m:Int)),none,none]=some (.nx [some (.int c),some (.int (t:Int)),some (.int (m:Int)),some (.int (c/2)),none]):=by simp[Rl]
 show ∃v:Nat,v<m/\YZ 5 V9 _=_
 unfold V9
 show ∃v:Nat,v<m/\(Zt _ _ [some (.int c),some (.int (t:Int)),some (.int (m:Int)),none,none]).bind XC=_
 rw[ZN e1]
 by_cases q:c%2=1/\1000000000<c
 ·obtain⟨s',h1,x,y,e⟩:=Xx (T:=.one 4) (fb:=Zs 3 (eP (Zi Rz (Za 3) (eC (.int 1000))))) (ls:=WL t) (s:=[some (.int c),some (.int (t:Int)),some (.int (m:Int)),some (.int (c/2)),none])
   (fun i st=>∃x y,st=[some (.int c),some (.int (t:Int)),some (.int (m:Int)),some (.int x),y]) ⟨_,_,rfl⟩ (by
    rintro i l st hl ⟨x,y,rfl⟩
    obtain⟨hi,rfl⟩:=WQ hl
    refine⟨_,_,rfl,?_,x/1000,some (.int (i:Int)),rfl⟩
    simp[Rl])
  subst e
  obtain⟨v,hv,ev⟩:=fin x
  refine⟨v,hv,?_⟩
  have hr:ZL [Za 1] [some (.int c),some (.int (t:Int)),some (.int (m:Int)),some (.int (c/2)),none]=some (WL t):=Yj (by simp) (by omega)
  have e2:Wg [] (ZL [Za 1]) (.one 4) (Zs 3 (eP (Zi Rz (Za 3) (eC (.int 1000))))) [some (.int c),some (.int (t:Int)),some (.int (m:Int)),some (.int (c/2)),none]=some (.nx [some (.int c),some (.int (t:Int)),some (.int (m:Int)),some (.int x),y]):=by
   show(ZL [Za 1] [some (.int c),some (.int (t:Int)),some (.int (m:Int)),some (.int (c/2)),none]).bind _=_
   rw[hr];exact h1
  rw[QA (v:=.int (v:Int))]
  ·rfl
  ·rw[Z4]
   have:(VJ (xB (Zi (YJ false) (Zi Y4 (Za 0) (eC (.int 2))) (eC (.int 1)))) (xB (Zi NU (Za 0) (Zi Vv (eC (.int 10)) (eC (.int 9)))))) [some (.int c),some (.int (t:Int)),some (.int (m:Int)),some (.int (c/2)),none]=some true:=by
    simp[q.1,Rq,q.2]
   rw[this];simp only[Option.bind_some,if_true];rw[ZN e2];simp[hm,ev]
 ·have:(VJ (xB (Zi (YJ false) (Zi Y4 (Za 0) (eC (.int 2))) (eC (.int 1)))) (xB (Zi NU (Za 0) (Zi Vv (eC (.int 10)) (eC (.int 9)))))) [some (.int c),some (.int (t:Int)),some (.int (m:Int)),some (.int (c/2)),none]=some false:=by
   by_cases q1:c%2=1
   ·have:¬1000000000<c:=fun z=>q ⟨q1,z⟩
    simp[q1,Rq,this]
   ·simp[q1]
  rw[ZN (s1:=[some (.int c),some (.int (t:Int)),some (.int (m:Int)),some (.int (c/2)),none]) (by rw[Z4,this];rfl)]
  generalize hx1:c/2%999979+1009*(t:Int)=x1
  have b1:0<=x1/\x1<2000000:=by
   have h0:=Int.emod_nonneg (c/2) (show(999979:Int)≠0 by decide)
   have h1:=Int.emod_lt_of_pos (c/2) (show(0:Int)<999979 by decide)
   omega
  generalize hx2:(x1*x1+40503*x1)%999983=x2
  have b2:0<=x2/\x2<2000000:=by
   have h0:=Int.emod_nonneg (x1*x1+40503*x1) (show(999983:Int)≠0 by decide)
   have h1:=Int.emod_lt_of_pos (x1*x1+40503*x1) (show(0:Int)<999983 by decide)
   omega
  have cm1:CMul 1009 (t:Int):=.inl (by omega)
  have cm2:CMul x1 x1:=.inl (by omega)
  have cm3:CMul 40503 x1:=.inl (by omega)
  have cm4:CMul x2 x2:=.inl (by omega)
  have cm5:CMul 7 (t:Int):=.inl (by omega)
  obtain⟨v,hv,ev⟩:=fin ((x2*x2+7*(t:Int))%999961/11)
  refine⟨v,hv,?_⟩
  rw[ZN (s1:=[some (.int c),some (.int (t:Int)),some (.int (m:Int)),some (.int x1),none]) (by simp[cm1,hx1]),ZN (s1:=[some (.int c),some (.int (t:Int)),some (.int (m:Int)),some (.int x2),none]) (by simp[cm2,cm3,hx2])]
  simp[cm4,cm5,Rl,hm,ev]
def RZ(M:List (List Int))(a b:Nat)(t:Int):List (List Int):=Uw (Uw M a b t) b a t
theorem R0{n:Nat}{M:List (List Int)}{a b:Nat}{t:Int}(ok:MatOk n M)(ha:a<n)(hb:b<n)(i j:Nat):Yd (RZ M a b t) i j=if b=i/\a=j then t else if a=i/\b=j then t else Yd M i j:=by
 obtain⟨l1,r1⟩:=Wp (t:=t) (b:=b) ok.len ok.row ha
 unfold RZ;rw[Qh l1 r1 hb ha,Qh ok.len ok.row ha hb]
theorem Lh{n:Nat}{M:List (List Int)}{a b:Nat}{t:Int}(ok:MatOk n M)(ha:a<n)(hb:b<n)(hab:a≠b)(h1:0<=t)(h9:t<=9):MatOk n (RZ M a b t):=by
 obtain⟨l1,r1⟩:=Wp (t:=t) (b:=b) ok.len ok.row ha
 obtain⟨l2,r2⟩:=Wp (t:=t) (b:=a) l1 r1 hb
 have E:=R0 (t:=t) ok ha hb
 refine⟨l2,r2,fun i j hi hj=>?_,fun i j hi hj=>?_,fun i j hi hj=>?_,fun i hi=>?_⟩
 ·have:=ok.lo i j hi hj
  rw[E];split<;>(try split)<;>omega
 ·have:=ok.hi i j hi hj
  rw[E];split<;>(try split)<;>omega
 ·have:=ok.sym i j hi hj
  rw[E,E]
  by_cases p:b=i/\a=j
  ·rw[if_pos p]
   by_cases p2:b=j/\a=i
   ·rw[if_pos p2]
   ·rw[if_neg p2,if_pos ⟨p.2,p.1⟩]
  ·rw[if_neg p]
   by_cases p2:a=i/\b=j
   ·rw[if_pos p2,if_pos ⟨p2.2,p2.1⟩]
   ·rw[if_neg p2,if_neg (fun z=>p2 ⟨z.2,z.1⟩),if_neg (fun z=>p ⟨z.2,z.1⟩)];exact this
 ·rw[E,if_neg (fun z=>hab (by omega)),if_neg (fun z=>hab (by omega))];exact ok.dia i hi
theorem QB{n:Nat}{M:List (List Int)}{a b:Nat}{k:Int}(ok:MatOk n M)(ha:a<n)(hb:b<n):Wx [.lst (rL M),.int (a:Int),.int (b:Int),.int k]=some (.lst (rL (RZ M a b (if Yd M a b+k<9 then Yd M a b+k else 9)))):=by
 have lenM:(rL M).length=n:=by unfold rL;rw[List.length_map];exact ok.len
 generalize ht:(if Yd M a b+k<9 then Yd M a b+k else 9)=t
 have i1:Ur (rL M) (a:Int)=some (.lst (iL (ZF M a))):=W7 (PB (by rw[ok.len];exact ha))
 have i2:Ur (iL (ZF M a)) (b:Int)=some (.int (Yd M a b)):=Y5 (by rw[ok.row a ha];exact hb)
 have sh:=Wp (t:=t) (b:=b) ok.len ok.row ha
 have lenM2:(rL (Uw M a b t)).length=n:=by unfold rL;rw[List.length_map];exact sh.1
 have e1:Zs 4 (eP (Ze Qm [(eC (.int 9)),(Zi ZW (Zi Yb (Zi Yb (Za 0) (Za 1)) (Za 2)) (Za 3))])) [some (.lst (rL M)),some (.int (a:Int)),some (.int (b:Int)),some (.int k),none]=some (.nx [some (.lst (rL M)),some (.int (a:Int)),some (.int (b:Int)),some (.int k),some (.int t)]):=by
  simp[i1,i2,ht]
 have e2:Ww 0 (Za 1) (Za 2) (Za 4) [some (.lst (rL M)),some (.int (a:Int)),some (.int (b:Int)),some (.int k),some (.int t)]=some (.nx [some (.lst (rL (Uw M a b t))),some (.int (a:Int)),some (.int (b:Int)),some (.int k),some (.int t)]):=by
  rw[TZ (l:=.int t) (a:=(a:Int)) (b:=(b:Int)) (j:=a) (c:=b) (m:=rL M) (n:=iL (ZF M a)) rfl rfl rfl rfl (V6 (by rw[lenM];exact ha)) (PB (by rw[ok.len];exact ha)) (XI _) rfl (V6 (by rw[List.length_map,ok.row a ha];exact hb)),M9]
  rfl
 have e3:Ww 0 (Za 2) (Za 1) (Za 4) [some (.lst (rL (Uw M a b t))),some (.int (a:Int)),some (.int (b:Int)),some (.int k),some (.int t)]=some (.nx [some (.lst (rL (RZ M a b t))),some (.int (a:Int)),some (.int (b:Int)),some (.int k),some (.int t)]):=by
  rw[TZ (l:=.int t) (a:=(b:Int)) (b:=(a:Int)) (j:=b) (c:=a) (m:=rL (Uw M a b t)) (n:=iL (ZF (Uw M a b t) b)) rfl rfl rfl rfl (V6 (by rw[lenM2];exact hb)) (PB (by rw[sh.1];exact hb)) (XI _) rfl (V6 (by rw[List.length_map,sh.2 b hb];exact ha)),M9]
  rfl
 show ID 5 Tm _=_
 unfold ID;rw[if_pos (by rfl)];unfold Tm
 show(Zt _ _ [some (.lst (rL M)),some (.int (a:Int)),some (.int (b:Int)),some (.int k),none]).bind Hw=_
 rw[ZN e1,ZN e2,e3];rfl
theorem OG{i:Nat}{D:List PV->Option PV}{fs:List XE}{s:ZO}{l0 l':PV}{ls:List PV}(h0:s[i]?=some (some l0))(h1:Tg fs s=some ls)(hp:ZV ls=true)(h2:D (l0::ls)=some l'):Qv i D fs s=some (.nx (s.set i (some l'))):=by
 unfold Qv;rw[h0];simp only[h1,Option.bind_some,hp,if_true,h2,Option.map_some]
theorem NF{s:ZO}{n:Nat}(h:s[3]?=some (some (.int (n:Int))))(hn:n<=7):Zu 1 [3] (ZL [Za 3]) (.one 0) ZA (Zi ME (Wf [eC (.int 0)]) (Za 1)) s=some (.lst (rL (List.replicate n (List.replicate n 0)))):=by
 rw[Z6 (List.range n) (fun(i:Nat)=>.int (i:Int)) (fun _=>.lst (iL (List.replicate n 0))) (Yj (by simp[h]) (by omega)) (by simp;omega) (fun i _=>⟨_,rfl,rfl,?_⟩)]
 ·unfold rL
  rw[List.map_const',List.length_range,List.map_replicate]
 ·have e:ME (.lst [.int 0]) (.int (n:Int))=some (.lst (iL (List.replicate n 0))):=by
   show(if ZV [PV.int 0]=true/\(-1000000:Int)<=(n:Int)/\(n:Int)<=1000000/\[PV.int 0].length*((n:Int)).toNat<=10000 then some (PV.lst (List.replicate ((n:Int)).toNat [PV.int 0]).flatten) else none)=_
   rw[if_pos ⟨rfl,by omega,by omega,by simp;omega⟩,Int.toNat_natCast,Mg]
   simp
  simp[ZK,h,e]
def Grown(M:List (List Int))(l:List Int)(k:Nat):Prop:=∀j,1<=j->j<k->∃j',j'<j/\0<Yd M (Zr l j).toNat (Zr l j').toNat
theorem Grown.mono{M M':List (List Int)}{l:List Int}{k:Nat}(h:Grown M l k)(g:∀i j,0<Yd M i j->0<Yd M' i j):Grown M' l k:=fun j h1 h2=>by
 obtain⟨j',a,b⟩:=h j h1 h2
 exact⟨j',a,g _ _ b⟩
theorem Grown.conn{M:List (List Int)}{l:List Int}{n:Nat}(h:Grown M l n)(hl:M.length=n)(nk:NamesOk n l):UM M:=by
 intro P hP i j hi hj
 rw[hl] at hi hj
 have h0:0<n:=by omega
 have lt:∀x,x<n->(Zr l x).toNat<M.length:=fun x hx=>by have:=nk.at hx;omega
 have all:∀k,k<n->(P (Zr l k).toNat↔P (Zr l 0).toNat):=by
  intro k
  induction k using Nat.strongRecOn with
  | ind k ih=>
   intro hk
   by_cases q:k=0
   ·subst q;exact Iff.rfl
   ·obtain⟨j',a,b⟩:=h k (by omega) hk
    exact(hP _ _ (lt k hk) (lt j' (by omega)) b).trans (ih j' a (by omega))
 have at':∀i,i<n->∃x,x<n/\(Zr l x).toNat=i:=fun i hi=>by
  have:=Gv (n:=n) nk.nd (fun x hx=>⟨x.toNat,by have:=nk.hi x hx;have:=nk.lo x hx;omega,by have:=nk.lo x hx;omega⟩) nk.len hi
  obtain⟨x,hx,e⟩:=RY this
  exact⟨x,by rw[<-nk.len];exact hx,by rw[e];rfl⟩
 obtain⟨x,hx,rfl⟩:=at' i hi
 obtain⟨y,hy,rfl⟩:=at' j hj
 exact(all x hx).trans (all y hy).symm
theorem OH{n:Nat}{M:List (List Int)}{a b:Nat}{t:Int}(ok:MatOk n M)(ha:a<n)(hb:b<n)(ht:0<t):(∀i j,0<Yd M i j->0<Yd (RZ M a b t) i j)/\0<Yd (RZ M a b t) a b:=by
 refine⟨fun i j h=>?_,?_⟩
 ·rw[R0 ok ha hb];split
  ·exact ht
  ·split
   ·exact ht
   ·exact h
 ·rw[R0 ok ha hb];split
  ·exact ht
  ·rw[if_pos ⟨rfl,rfl⟩];exact ht
def XV(ns:List Int)(mo n:Nat)(M:List (List Int))(sp:List Int)(x6 x7 x8 x9:Option PV):ZO:=[some (.cst (iL ns)),some (.int (mo:Int)),some (.int (ZJ ns 0)),some (.int (n:Int)),some (.lst (rL M)),some (.lst (iL sp)),x6,x7,x8,x9]
noncomputable abbrev HM:XS:=Wv 5 (Ze Zl [(Ze Zp [(Za 0),(Zi ZW (eC (.int 6)) (Za 6))]),(eC (.int 10)),(Zi ZW (Za 6) (eC (.int 1)))]) (Za 6)
noncomputable abbrev HN:XS:=Zt (Zs 7 (Ze Zp [(Za 0),(Za 6)]))
  (Qv 4 Wx [(Zi Yb (Za 5) (Za 6)),(Zi Yb (Za 5) (Ze Zl [(Za 7),(eC (.int 1)),(Za 6)])),(Zi ZW (eC (.int 1)) (Ze Zl [(Za 7),(eC (.int 2)),(eC (.int 3))]))])
noncomputable abbrev HP:XS:=(Zt (Zs 7 (Ze Zp [(Za 0),(Zi ZW (eC (.int 7)) (Za 6))]))
  (Zt (Zs 8 (Ze Zl [(Za 7),(eC (.int 4)),(Za 3)]))
  (Zt (Zs 9 (eP (Zi Y4 (Zi ZW (Zi ZW (Za 8) (eC (.int 1))) (Ze Zl [(Za 7),(eC (.int 5)),(Zi Xe (Za 3) (eC (.int 1)))])) (Za 3))))
  (Qv 4 Wx [(Za 8),(Za 9),(Zi ZW (eC (.int 1)) (Ze Zl [(Za 7),(eC (.int 6)),(eC (.int 2))]))]))))
theorem Ip{ns:List Int}{mo n:Nat}{M:List (List Int)}{sp:List Int}{x7 x8 x9:Option PV}{i:Nat}(hns:ns.length<=63)(hi:i<7)(nk:NamesOk i sp) :
  ∃sp',NamesOk (i+1) sp'/\HM (XV ns mo n M sp (some (.int (i:Int))) x7 x8 x9)=some (.nx (XV ns mo n M sp' (some (.int (i:Int))) x7 x8 x9)):=by
 obtain⟨v,hv,ev⟩:=Xl (ZJ ns (6+i)) (t:=10) (m:=i+1) (by omega) (by omega)
 have ec:=YR hns (k:=6+i) (by omega)
 refine⟨sp.take v++(i:Int)::sp.drop v,nk.ins v,?_⟩
 unfold HM
 rw[TY (k:=(v:Int)) (l:=.int (i:Int)) (m:=iL sp) ?_ rfl rfl (XI sp) rfl (by omega) (by omega) (by rw[List.length_map,nk.len];omega),Int.toNat_natCast,La]
 ·rfl
 ·have h1:((6+i:Nat):Int)=6+(i:Int):=by omega
  have h2:((i+1:Nat):Int)=(i:Int)+1:=by omega
  rw[h1] at ec;rw[h2] at ev;simp[XV,ec];exact ev
theorem Iq{ns:List Int}{mo n:Nat}{M:List (List Int)}{sp:List Int}{x7 x8 x9:Option PV}{k:Nat}(hns:ns.length<=63)(hn:n<=7)(h1:1<=k)(hk:k<n)(nk:NamesOk n sp)(ok:MatOk n M)(gr:Grown M sp k) :
  ∃M' y7,MatOk n M'/\Grown M' sp (k+1)/\HN (XV ns mo n M sp (some (.int (k:Int))) x7 x8 x9)=some (.nx (XV ns mo n M' sp (some (.int (k:Int))) y7 x8 x9)):=by
 obtain⟨v,hv,ev⟩:=Xl (ZJ ns k) (t:=1) (m:=k) (by omega) (by omega)
 obtain⟨w,hw,ew⟩:=Xl (ZJ ns k) (t:=2) (m:=3) (by omega) (by omega)
 have ec:=YR hns (k:=k) (by omega)
 have na:=nk.at (x:=k) hk
 have nb:=nk.at (x:=v) (by omega)
 have ne:=nk.ne (x:=k) (y:=v) hk (by omega) (by omega)
 obtain⟨a,ea⟩:∃a:Nat,Zr sp k=(a:Int):=⟨(Zr sp k).toNat,by omega⟩
 obtain⟨b,eb⟩:∃b:Nat,Zr sp v=(b:Int):=⟨(Zr sp v).toNat,by omega⟩
 have ha:a<n:=by omega
 have hb:b<n:=by omega
 have et:=QB (k:=1+(w:Int)) ok ha hb
 have lo:=ok.lo a b ha hb
 generalize ht:(if Yd M a b+(1+(w:Int))<9 then Yd M a b+(1+(w:Int)) else 9)=t at et
 have t0:0<t/\t<=9:=by rw[<-ht];split<;>omega
 have ia:=Y5 (l:=sp) (k:=k) (by rw[nk.len];exact hk)
 have ib:=Y5 (l:=sp) (k:=v) (by rw[nk.len];omega)
 rw[ea] at ia;rw[eb] at ib
 obtain⟨g1,g2⟩:=OH ok ha hb t0.1
 refine⟨RZ M a b t,some (.int (ZJ ns k)),Lh ok ha hb (by omega) (by omega) t0.2,fun j h1 h2=>?_,?_⟩
 ·by_cases q:j<k
  ·exact(gr.mono g1) j h1 q
  ·have:j=k:=by omega
   subst this
   exact⟨v,hv,by rw[ea,eb];exact g2⟩
 ·have e1:Zs 7 (Ze Zp [(Za 0),(Za 6)]) (XV ns mo n M sp (some (.int (k:Int))) x7 x8 x9)=some (.nx (XV ns mo n M sp (some (.int (k:Int))) (some (.int (ZJ ns k))) x8 x9)):=by
   simp[XV,ec]
  unfold HN
  rw[ZN e1,OG (i:=4) (l0:=.lst (rL M)) (ls:=[.int (a:Int),.int (b:Int),.int (1+(w:Int))]) rfl ?_ rfl et]
  ·rfl
  ·have ev':Zl [PV.int (ZJ ns k),PV.int 1,PV.int (k:Int)]=some (.int (v:Int)):=ev
   have ew':Zl [PV.int (ZJ ns k),PV.int 2,PV.int 3]=some (.int (w:Int)):=ew
   simp[XV,ia,ib,ev',ew']
theorem Ir{ns:List Int}{mo n:Nat}{M:List (List Int)}{sp:List Int}{x7 x8 x9:Option PV}{i:Nat}(hns:ns.length<=63)(hn:n<=7)(h2:2<=n)(hi:i<6)(ok:MatOk n M) :
  ∃M' y7 y8 y9,MatOk n M'/\(∀i j,0<Yd M i j->0<Yd M' i j)/\HP (XV ns mo n M sp (some (.int (i:Int))) x7 x8 x9)=some (.nx (XV ns mo n M' sp (some (.int (i:Int))) y7 y8 y9)):=by
 generalize hc:ZJ ns (7+i)=c
 obtain⟨a,ha,ea⟩:=Xl c (t:=4) (m:=n) (by omega) (by omega)
 obtain⟨d,hd,ed⟩:=Xl c (t:=5) (m:=n-1) (by omega) (by omega)
 obtain⟨w,hw,ew⟩:=Xl c (t:=6) (m:=2) (by omega) (by omega)
 have ec:=YR hns (k:=7+i) (by omega)
 rw[hc] at ec
 obtain⟨b,hb,hab,eb⟩:∃b:Nat,b<n/\a≠b/\((a:Int)+1+(d:Int))%(n:Int)=(b:Int):=by
  refine⟨(a+1+d)%n,Nat.mod_lt _ (by omega),?_,?_⟩
  ·by_cases q:a+1+d<n
   ·rw[Nat.mod_eq_of_lt q];omega
   ·rw[Nat.mod_eq_sub_mod (by omega),Nat.mod_eq_of_lt (by omega)];omega
  ·have:((a:Int)+1+(d:Int))=((a+1+d:Nat):Int):=by omega
   rw[this];exact(Int.natCast_emod _ _).symm
 have et:=QB (k:=1+(w:Int)) ok ha hb
 have lo:=ok.lo a b ha hb
 generalize ht:(if Yd M a b+(1+(w:Int))<9 then Yd M a b+(1+(w:Int)) else 9)=t at et
 have t0:0<t/\t<=9:=by rw[<-ht];split<;>omega
 obtain⟨g1,g2⟩:=OH ok ha hb t0.1
 refine⟨RZ M a b t,some (.int c),some (.int (a:Int)),some (.int (b:Int)),Lh ok ha hb hab (by omega) t0.2,g1,?_⟩
 have h1:((7+i:Nat):Int)=7+(i:Int):=by omega
 rw[h1] at ec
 have e1:Zs 7 (Ze Zp [(Za 0),(Zi ZW (eC (.int 7)) (Za 6))]) (XV ns mo n M sp (some (.int (i:Int))) x7 x8 x9)=some (.nx (XV ns mo n M sp (some (.int (i:Int))) (some (.int c)) x8 x9)):=by
  simp[XV,ec]
 have ea':Zl [PV.int c,PV.int 4,PV.int (n:Int)]=some (.int (a:Int)):=ea
 have e2:Zs 8 (Ze Zl [(Za 7),(eC (.int 4)),(Za 3)]) (XV ns mo n M sp (some (.int (i:Int))) (some (.int c)) x8 x9)=some (.nx (XV ns mo n M sp (some (.int (i:Int))) (some (.int c)) (some (.int (a:Int))) x9)):=by
  simp[XV,ea']
 have hn1:((n-1:Nat):Int)=(n:Int)-1:=by omega
 rw[hn1] at ed
 have ed':Zl [PV.int c,PV.int 5,PV.int ((n:Int)-1)]=some (.int (d:Int)):=ed
 have n0:0<n:=by omega
 have e3:Zs 9 (eP (Zi Y4 (Zi ZW (Zi ZW (Za 8) (eC (.int 1))) (Ze Zl [(Za 7),(eC (.int 5)),(Zi Xe (Za 3) (eC (.int 1)))])) (Za 3))) (XV ns mo n M sp (some (.int (i:Int))) (some (.int c)) (some (.int (a:Int))) x9)=some (.nx (XV ns mo n M sp (some (.int (i:Int))) (some (.int c)) (some (.int (a:Int))) (some (.int (b:Int))))):=by
  simp[XV,ed',n0,eb]
 have ew':Zl [PV.int c,PV.int 6,PV.int 2]=some (.int (w:Int)):=ew
 unfold HP
 rw[ZN e1,ZN e2,ZN e3,OG (i:=4) (l0:=.lst (rL M)) (ls:=[.int (a:Int),.int (b:Int),.int (1+(w:Int))]) rfl ?_ rfl et]
 ·rfl
 ·simp[XV,ew']
theorem Li{ns:List Int}(hns:ns.length<=63){mo:Nat}(h1:1<=mo)(h7:mo<=7):∃W,Vd [.cst (iL ns),.int (mo:Int)]=some (wP W)/\Z1 W/\UM W/\W.length<=mo:=by
 obtain⟨p0,hp0,ep0⟩:=Xl (ZJ ns 0) (t:=0) (m:=mo) (by omega) (by omega)
 have ep0':Zl [PV.int (ZJ ns 0),PV.int 0,PV.int (mo:Int)]=some (.int (p0:Int)):=ep0
 have ec0:=YR hns (k:=0) (by omega)
 have ec0':Zp [PV.cst (iL ns),PV.int 0]=some (.int (ZJ ns 0)):=ec0
 obtain⟨n,hn⟩:∃n:Nat,n=1+p0:=⟨_,rfl⟩
 have hn':(1:Int)+(p0:Int)=(n:Int):=by omega
 let Z:=List.replicate n (List.replicate n (0:Int))
 have e1:Zs 2 (Ze Zp [(Za 0),(eC (.int 0))]) [some (.cst (iL ns)),some (.int (mo:Int)),none,none,none,none,none,none,none,none]=some (.nx [some (.cst (iL ns)),some (.int (mo:Int)),some (.int (ZJ ns 0)),none,none,none,none,none,none,none]):=by simp[ec0']
 have e2:Zs 3 (eP (Zi ZW (eC (.int 1)) (Ze Zl [(Za 2),(eC (.int 0)),(Za 1)]))) [some (.cst (iL ns)),some (.int (mo:Int)),some (.int (ZJ ns 0)),none,none,none,none,none,none,none]=some (.nx [some (.cst (iL ns)),some (.int (mo:Int)),some (.int (ZJ ns 0)),some (.int (n:Int)),none,none,none,none,none,none]):=by simp[ep0',hn']
 have e3:Zs 4 (Zu 1 [3] (ZL [(Za 3)]) (.one 0) ZA (Zi ME (Wf [(eC (.int 0))]) (Za 1))) [some (.cst (iL ns)),some (.int (mo:Int)),some (.int (ZJ ns 0)),some (.int (n:Int)),none,none,none,none,none,none]=some (.nx [some (.cst (iL ns)),some (.int (mo:Int)),some (.int (ZJ ns 0)),some (.int (n:Int)),some (.lst (rL Z)),none,none,none,none,none]):=by
  rw[ZE,NF (n:=n) rfl (by omega)];rfl
 have e4:Zs 5 (Wf []) [some (.cst (iL ns)),some (.int (mo:Int)),some (.int (ZJ ns 0)),some (.int (n:Int)),some (.lst (rL Z)),none,none,none,none,none]=some (.nx (XV ns mo n Z [] none none none none)):=by simp[XV]
 -- the houses' order
 obtain⟨s5,f5,sp,x6,hs5,nk⟩:=Xx (T:=.one 6) (fb:=HM) (ls:=WL n) (s:=XV ns mo n Z [] none none none none)
  (fun i st=>∃sp x6,st=XV ns mo n Z sp x6 none none none/\NamesOk i sp) ⟨[],none,rfl,NamesOk.nil⟩ (by
   rintro i l st hl ⟨sp,x6,rfl,nk⟩
   obtain⟨hi,rfl⟩:=WQ hl
   obtain⟨sp',nk',e⟩:=Ip (mo:=mo) (n:=n) (M:=Z) (x7:=none) (x8:=none) (x9:=none) hns (by omega) nk
   exact⟨_,_,rfl,e,sp',_,rfl,nk'⟩)
 subst hs5;rw[TW] at nk
 have e5:Wg [4,5] (ZL [(Za 3)]) (.one 6) HM (XV ns mo n Z [] none none none none)=some (.nx (XV ns mo n Z sp x6 none none none)):=by
  show(ZL [Za 3] (Yz [4,5] (XV ns mo n Z [] none none none none))).bind _=_
  rw[Yj (n:=n) (by simp[XV,Yz]) (by omega)];exact f5
 -- each to one ahead
 obtain⟨s6,f6,M,y6,y7,hs6,okM,gr⟩:=Xx (T:=.one 6) (fb:=HN) (ls:=VQ 1 (n-1)) (s:=XV ns mo n Z sp x6 none none none)
  (fun i st=>∃M y6 y7,st=XV ns mo n M sp y6 y7 none none/\MatOk n M/\Grown M sp (i+1)) ⟨Z,x6,none,rfl,MatOk.zero n,fun j h1 h2=>by omega⟩ (by
   rintro i l st hl ⟨M,y6,y7,rfl,okM,gr⟩
   obtain⟨hi,rfl⟩:=MN hl
   have hk:(1:Int)+(i:Int)=((i+1:Nat):Int):=by omega
   rw[hk]
   obtain⟨M',z7,ok',gr',e⟩:=Iq (mo:=mo) (x7:=y7) (x8:=none) (x9:=none) (k:=i+1) hns (by omega) (by omega) (by omega) nk okM gr
   exact⟨_,_,rfl,e,M',_,z7,rfl,ok',gr'⟩)
 subst hs6;rw[MO] at gr
 have e6:Wg [4,5] (UV [(eC (.int 1)),(Za 3)]) (.one 6) HN (XV ns mo n Z sp x6 none none none)=some (.nx (XV ns mo n M sp y6 y7 none none)):=by
  show(UV [eC (.int 1),Za 3] (Yz [4,5] (XV ns mo n Z sp x6 none none none))).bind _=_
  rw[Nm (i:=1) (j:=(n:Int)) rfl (by simp[XV,Yz]) (by omega) (by omega)]
  have:((n:Int)-1).toNat=n-1:=by omega
  rw[this];exact f6
 have gr0:Grown M sp n:=fun j h1 h2=>gr j h1 (by omega)
 -- more ties
 obtain⟨p3,hp3,ep3⟩:=Xl (ZJ ns 0) (t:=3) (m:=6) (by omega) (by omega)
 have ep3':Zl [PV.int (ZJ ns 0),PV.int 3,PV.int 6]=some (.int (p3:Int)):=ep3
 have e7:∃M' z6 z7 z8 z9,MatOk n M'/\Grown M' sp n/\U8 (xB (Zi NU (Za 3) (eC (.int 1)))) (Wg [4,5] (ZL [(Ze Zl [(Za 2),(eC (.int 3)),(eC (.int 6))])]) (.one 6) HP) Yv (XV ns mo n M sp y6 y7 none none)=some (.nx (XV ns mo n M' sp z6 z7 z8 z9)):=by
  by_cases q:1<n
  ·obtain⟨s7,f7,M',z6,z7,z8,z9,hs7,ok',gr'⟩:=Xx (T:=.one 6) (fb:=HP) (ls:=WL p3) (s:=XV ns mo n M sp y6 y7 none none)
    (fun i st=>∃M' z6 z7 z8 z9,st=XV ns mo n M' sp z6 z7 z8 z9/\MatOk n M'/\Grown M' sp n) ⟨M,y6,y7,none,none,rfl,okM,gr0⟩ (by
     rintro i l st hl ⟨M',z6,z7,z8,z9,rfl,ok',gr'⟩
     obtain⟨hi,rfl⟩:=WQ hl
     obtain⟨M2,u7,u8,u9,ok2,g2,e⟩:=Ir (mo:=mo) (sp:=sp) (x7:=z7) (x8:=z8) (x9:=z9) (i:=i) hns (by omega) (by omega) (by omega) ok'
     exact⟨_,_,rfl,e,M2,_,u7,u8,u9,rfl,ok2,gr'.mono g2⟩)
   subst hs7
   refine⟨M',z6,z7,z8,z9,ok',gr',?_⟩
   have c:xB (Zi NU (Za 3) (eC (.int 1))) (XV ns mo n M sp y6 y7 none none)=some true:=by
    have q':(1:Int)<(n:Int):=by omega
    simp[XV,q,q']
   rw[Z4,c];simp only[Option.bind_some,if_true]
   show(ZL [Ze Zl [Za 2,eC (.int 3),eC (.int 6)]] (Yz [4,5] (XV ns mo n M sp y6 y7 none none))).bind _=_
   rw[Yj (n:=p3) (by simp[XV,Yz,ep3']) (by omega)];exact f7
  ·refine⟨M,y6,y7,none,none,okM,gr0,?_⟩
   have c:xB (Zi NU (Za 3) (eC (.int 1))) (XV ns mo n M sp y6 y7 none none)=some false:=by
    have q':¬(1:Int)<(n:Int):=by omega
    simp[XV,q']
   rw[Z4,c];rfl
 obtain⟨M',z6,z7,z8,z9,ok',gr',e7⟩:=e7
 refine⟨M',?_,ok'.web (by omega) (by omega),gr'.conn ok'.len nk,by rw[ok'.len];omega⟩
 have hc2:Zu 1 [] (XH (Za 4)) (.one 0) ZA (Ze Ya [Za 0]) (XV ns mo n M' sp z6 z7 z8 z9)=some (.lst (M'.map pP)):=by
  rw[Z6 M' (fun r=>.lst (iL r)) pP (by simp[XV,rL]) (by rw[ok'.len];omega) (fun r _=>⟨_,rfl,rfl,by simp[ZK]⟩)]
 show YZ 10 Tn _=_
 unfold Tn
 show(Zt _ _ [some (.cst (iL ns)),some (.int (mo:Int)),none,none,none,none,none,none,none,none]).bind XC=_
 rw[ZN e1,ZN e2,ZN e3,ZN e4,ZN e5,ZN e6,ZN e7,Wl (v:=wP M')]
 ·rfl
 ·rw[Xh,ZX,ZD,hc2]
  simp
def Xo(c:Int):Int:=if c%5=4 then c*c%(2*10^29)-10^29 else if c%5=3 then c.fdiv 5%2001-1000 else c.fdiv 5%13-6
theorem Vl{z:Int}(h:z.natAbs<2^1000):z.natAbs.log2<67108863:=by
 by_cases h0:z.natAbs=0
 ·rw[h0];decide +kernel
 ·have:=(Nat.log2_lt h0).mpr h
  omega
theorem Sh{c:Int}(h:c.natAbs.log2<=1048576):Yo [.int c]=some (.int (Xo c)):=by
 have c1:CMulW c c:=⟨by omega,by omega⟩
 have c2:CMulW 2 (10^29):=⟨Vl (by decide),Vl (by decide)⟩
 have c3:V7 c 5:=⟨by decide,by decide +kernel⟩
 have p:∀s:ZO,Zi Vv (eC (.int 10)) (eC (.int 29)) s=some (.int (10^29)):=fun s=>vC (a:=10) (b:=29) (C:=Rq) (op:=fun i j=>i^j.toNat) rfl rfl (by decide)
 show YZ 1 Ve _=_
 unfold Ve Xo
 show(Zt _ _ [some (.int c)]).bind XC=_
 by_cases h4:c%5=4
 ·rw[if_pos h4,QA (v:=.int (c*c%(2*10^29)-10^29))]
  ·rfl
  ·have t:xB (Zi (YJ false) (Zi Y4 (Za 0) (eC (.int 5))) (eC (.int 4))) [some (.int c)]=some true:=by simp[h4]
   rw[Z4,t];simp only[Option.bind_some,if_true]
   exact Wl (vP (vI (vC (vC rfl rfl c1) (vC rfl (p _) c2) (by decide)) (p _)))
 ·have t:xB (Zi (YJ false) (Zi Y4 (Za 0) (eC (.int 5))) (eC (.int 4))) [some (.int c)]=some false:=by simp[h4]
  rw[if_neg h4,ZN (s1:=[some (.int c)]) (by rw[Z4,t];rfl)]
  by_cases h3:c%5=3
  ·rw[if_pos h3,QA (v:=.int (c.fdiv 5%2001-1000))]
   ·rfl
   ·have t:xB (Zi (YJ false) (Zi Y4 (Za 0) (eC (.int 5))) (eC (.int 3))) [some (.int c)]=some true:=by simp[h3]
    rw[Z4,t];simp only[Option.bind_some,if_true]
    exact Wl (vP (vI (vC (vC rfl rfl c3) rfl (by decide)) rfl))
  ·have t:xB (Zi (YJ false) (Zi Y4 (Za 0) (eC (.int 5))) (eC (.int 3))) [some (.int c)]=some false:=by simp[h3]
   rw[if_neg h3,ZN (s1:=[some (.int c)]) (by rw[Z4,t];rfl),Wl (vP (vI (vC (vC rfl rfl c3) rfl (by decide)) rfl))]
   rfl
theorem PD(c:Int) : -(10^29)<=Xo c/\Xo c<=10^29:=by
 unfold Xo
 split
 ·have h0:=Int.emod_nonneg (c*c) (show(2*10^29:Int)≠0 by decide)
  have h1:=Int.emod_lt_of_pos (c*c) (show(0:Int)<2*10^29 by decide)
  constructor<;>omega
 ·split
  ·have h0:=Int.emod_nonneg (c.fdiv 5) (show(2001:Int)≠0 by decide)
   have h1:=Int.emod_lt_of_pos (c.fdiv 5) (show(0:Int)<2001 by decide)
   constructor<;>omega
  ·have h0:=Int.emod_nonneg (c.fdiv 5) (show(13:Int)≠0 by decide)
   have h1:=Int.emod_lt_of_pos (c.fdiv 5) (show(0:Int)<13 by decide)
   constructor<;>omega
def VC(ns:List Int)(a n:Nat):List Int:=(List.range n).map fun k=>Xo (ZJ ns (a+k))
theorem NG(ns:List Int)(a n:Nat):(VC ns a n).length=n:=by simp[VC]
theorem PF{ns:List Int}(hns:ns.length<=63)(hb:∀n∈ns,n.natAbs.log2<=1048576){a n:Nat}(ha:a<=60)(hn:n<=7):Xr [.cst (iL ns),.int (a:Int),.int (n:Int)]=some (pP (VC ns a n)):=by
 have hc:Zu 1 [0,1] (ZL [Za 2]) (.one 0) ZA (Ze Yo [Ze Zp [Za 1,Zi ZW (Za 2) (Za 0)]]) [some (.cst (iL ns)),some (.int (a:Int)),some (.int (n:Int))]=some (.lst (iL (VC ns a n))):=by
  rw[XM (fun i=>Xo (ZJ ns (a+i))) (Yj (n:=n) (by simp) (by omega)) (by omega) fun i hi=>⟨_,rfl,rfl,?_⟩]
  ·rfl
  ·have e1:=YR hns (k:=a+i) (by omega)
   have h1:((a+i:Nat):Int)=(a:Int)+(i:Int):=by omega
   rw[h1] at e1;simp[ZK,e1,Sh (Sg hb (a+i))]
 simp[Xr,UC,YZ,ZY,hc]
def nL(l:List Nat):List Int:=l.map fun(i:Nat)=>(i:Int)
theorem Lj{y:Nat}{l:List Nat}:(y:Int)∈nL l↔y∈l:=by
 unfold nL;rw[List.mem_map]
 exact⟨fun⟨a,h,e⟩=>by rw[show y=a by omega];exact h,fun h=>⟨y,h,rfl⟩⟩
def ZQ(W:List (List Int))(h:Nat)(F:List Nat):Int:=(F.map fun o=>Yd W h o).sum
theorem PH{W:List (List Int)}{h i j k:Nat}{F:List Nat}{s:ZO}(ok:Z1 W)(hh:h<W.length)(hF:∀x∈F,x<W.length)(hl:F.length<=100)(e0:s[i]?=some (some (wP W)))(e1:s[j]?=some (some (.int (h:Int))))(e2:s[k]?=some (some (.lst (iL (nL F))))) :
  Ze Xn [(Zu 1 [i,j] (XH (Za k)) (.one 0) ZA (Zi Yb (Zi Yb (Za 1) (Za 2)) (Za 0)))] s=some (.int (ZQ W h F)):=by
 have hc:Zu 1 [i,j] (XH (Za k)) (.one 0) ZA (Zi Yb (Zi Yb (Za 1) (Za 2)) (Za 0)) s=some (.lst (iL (F.map fun o=>Yd W h o))):=by
  rw[Z6 F (fun(o:Nat)=>.int (o:Int)) (fun o=>.int (Yd W h o)) (by simp[e2,nL]) (by omega) (fun o ho=>⟨_,rfl,rfl,?_⟩)]
  ·simp
  ·have hr:=ok.sq h hh
   have:=Y5 (l:=ZF W h) (k:=o) (by rw[hr];exact hF o ho)
   simp[ZK,e0,e1,V2 hh,this];rfl
 simp only[ZX,ZD,RJ,hc,Option.bind_some,Option.map_some]
 exact Pe _
theorem PJ{W:List (List Int)}{h:Nat}{F:List Nat}(ok:Z1 W)(hh:h<W.length)(hF:∀x∈F,x<W.length)(hl:F.length<=100):Wh [wP W,.int (h:Int),.lst (iL (nL F))]=some (.int (ZQ W h F)):=by
 show YZ 3 Vf _=_
 unfold Vf
 show(Z9 _ [some (wP W),some (.int (h:Int)),some (.lst (iL (nL F)))]).bind XC=_
 rw[Wl (vP (PH (i:=0) (j:=1) (k:=2) ok hh hF hl rfl rfl rfl))];rfl
theorem Ra{α:Type}{T:Tgt}{fb:XS}{q g:α->PV}{c:α->Bool}(S:ZO->Prop):∀{ls:List α}{s:ZO},(∀a∈ls,∀s,S s->∃s1,Xw T (q a) s=some s1/\((c a=true->fb s1=some (.rt (g a)))/\(c a=false->∃s2,fb s1=some (.nx s2)/\S s2)))->S s->
  match ls.find? c with | some a=>Wt T fb (ls.map q) s=some (.rt (g a)) | none=>∃s',Wt T fb (ls.map q) s=some (.nx s')/\S s'
 | [],s,_,h0=>⟨s,rfl,h0⟩
 | a::r,s,h,h0=>by
  obtain⟨s1,e1,ht,hf⟩:=h a List.mem_cons_self s h0
  rw[List.find?_cons]
  cases ca:c a with
  | true=>
   show Wt T fb (q a::r.map q) s=_
   unfold Wt;rw[e1];simp only[Option.bind_some,ht ca]
  | false=>
   obtain⟨s2,e2,h2⟩:=hf ca
   have ih:=Ra S (ls:=r) (s:=s2) (fun b hb=>h b (List.mem_cons_of_mem _ hb)) h2
   have e:Wt T fb ((a::r).map q) s=Wt T fb (r.map q) s2:=by
    show Wt T fb (q a::r.map q) s=_
    unfold Wt;rw[e1];simp only[Option.bind_some,e2]
    cases r.map q<;>rfl
   rw[e];exact ih
def Xp(W:List (List Int))(D:List Int)(F:List Nat):Option Nat:=(List.range W.length).find? fun h=>!decide (h∈F)&&decide (Zr D h<ZQ W h F)
def UN:Option Nat->PV
 | none=>.non
 | some h=>.int (h:Int)
theorem PK(y:Nat)(l:List Nat):RF true (.int (y:Int)) (.lst (iL (nL l)))=some (.bl (!decide (y∈l))):=by
 rw[Je]
 have:=Lj (y:=y) (l:=l)
 simp[this]
theorem KB(y:Nat)(l:List Nat):RF false (.int (y:Int)) (.lst (iL (nL l)))=some (.bl (decide (y∈l))):=by
 rw[Je]
 have:=Lj (y:=y) (l:=l)
 simp[this]
theorem UO{W:List (List Int)}{D:List Int}{F:List Nat}(ok:Z1 W)(hd:D.length=W.length)(hF:∀x∈F,x<W.length)(hl:F.length<=100):ZU [wP W,pP D,.lst (iL (nL F))]=some (UN (Xp W D F)):=by
 have hf:=ok.few
 have key:=Ra (T:=.many [3,4]) (fb:=U8 (VJ (xB (Zi (RF true) (Za 3) (Za 2))) (xB (Zi Oh (Za 4) (Ze Wh [(Za 0),(Za 3),(Za 2)])))) (Z9 (eP (Za 3))) Yv) (q:=fun(i:Nat)=>.tup [.int (i:Int),.int (Zr D i)]) (g:=fun(i:Nat)=>.int (i:Int)) (c:=fun h=>!decide (h∈F)&&decide (Zr D h<ZQ W h F))
  (fun st=>∃x y,st=[some (wP W),some (pP D),some (.lst (iL (nL F))),x,y]) (ls:=List.range W.length) (s:=[some (wP W),some (pP D),some (.lst (iL (nL F))),none,none]) (by
   rintro h hh st ⟨x,y,rfl⟩
   have hh:=List.mem_range.mp hh;have et:=PJ ok hh hF hl
   refine⟨_,rfl,fun hc=>?_,fun hc=>?_⟩
   ·simp only[Bool.and_eq_true,Bool.not_eq_true',decide_eq_false_iff_not,decide_eq_true_eq] at hc
    simp[setAll,PK,hc.1,et,hc.2]
   ·refine⟨[some (wP W),some (pP D),some (.lst (iL (nL F))),some (.int (h:Int)),some (.int (Zr D h))],?_,_,_,rfl⟩
    by_cases q:h∈F
    ·simp[setAll,PK,q]
    ·have:¬Zr D h<ZQ W h F:=fun z=>by simp[q,z] at hc
     simp[setAll,PK,q,et,this]) ⟨_,_,rfl⟩
 have en:Y8 false [Za 1] [some (wP W),some (pP D),some (.lst (iL (nL F))),none,none]=some ((List.range W.length).map fun(i:Nat)=>.tup [.int (i:Int),.int (Zr D i)]):=by
  have:=Tq D
  rw[hd] at this;simp[this]
 show YZ 5 Y1 _=_
 unfold Y1
 show(Zt (Wg [] _ _ _) _ [some (wP W),some (pP D),some (.lst (iL (nL F))),none,none]).bind XC=_
 unfold Xp
 cases q:(List.range W.length).find? fun h=>!decide (h∈F)&&decide (Zr D h<ZQ W h F) with
 | some h=>
  rw[q] at key;rw[QA (v:=.int (h:Int))]
  ·rfl
  ·show(Y8 false [Za 1] [some (wP W),some (pP D),some (.lst (iL (nL F))),none,none]).bind _=_
   rw[en];exact key
 | none=>
  rw[q] at key
  obtain⟨s',k1,x,y,rfl⟩:=key
  rw[ZN (s1:=[some (wP W),some (pP D),some (.lst (iL (nL F))),x,y])]
  ·rfl
  ·show(Y8 false [Za 1] [some (wP W),some (pP D),some (.lst (iL (nL F))),none,none]).bind _=_
   rw[en];exact k1
theorem Iu{c:XT}{fb:XS}(Jv:ZO->Prop)(μ:ZO->Nat)(step:∀st,Jv st->c st=some false\/(c st=some true/\∃s2,fb st=some (.nx s2)/\Jv s2/\μ s2<μ st)){s:ZO}(h0:Jv s) :
  ∃s',WO c fb s=some (.nx s')/\Jv s'/\c s'=some false:=by
 have gen:∀(k:Nat)(st:ZO),μ st<k->Jv st->∃s',Ys c fb k st=some (.nx s')/\Jv s'/\c s'=some false:=by
  intro k
  induction k with
  | zero=>intro st h;omega
  | succ k ih=>
   intro st hk hJ
   rcases step st hJ with hc | ⟨hc,s2,e,hJ2,hm⟩
   ·exact⟨st,by unfold Ys;rw[hc];rfl,hJ,hc⟩
   ·obtain⟨s',a,b,d⟩:=ih s2 (by omega) hJ2
    refine⟨s',?_,b,d⟩
    unfold Ys;rw[hc];simp only[Option.bind_some,if_true,e];exact a
 obtain⟨s',a,b,d⟩:=gen (μ s+1) s (by omega) h0
 exact⟨s',S4 a,b,d⟩
structure Burn(W:List (List Int))(D:List Int)(b:Nat)(F:List Nat):Prop where
 nd:F.Nodup
 lt:∀x∈F,x<W.length
 hd:F[0]?=some b
 st:∀k,1<=k->k<F.length->Xp W D (F.take k)=F[k]?
theorem Burn.len{W:List (List Int)}{D:List Int}{b:Nat}{F:List Nat}(h:Burn W D b F):F.length<=W.length:=by
 have nd:(nL F).Nodup:=List.Pairwise.map _ (fun a b z=>by omega) h.nd
 have:=Sb (l:=nL F) (m:=nL (List.range W.length)) nd fun y hy=>by
  obtain⟨a,ha,rfl⟩:=List.mem_map.mp hy
  exact List.mem_map.mpr ⟨a,List.mem_range.mpr (h.lt a ha),rfl⟩
 simpa [nL] using this
theorem Burn.pos{W:List (List Int)}{D:List Int}{b:Nat}{F:List Nat}(h:Burn W D b F):1<=F.length:=(List.getElem?_eq_some_iff.mp h.hd).1
theorem Burn.one{W:List (List Int)}{D:List Int}{b:Nat}(hb:b<W.length):Burn W D b [b]:=⟨by simp,fun x hx=>by rw[List.mem_singleton.mp hx];exact hb,rfl,fun k h1 h2=>by simp at h2;omega⟩
theorem Si{W:List (List Int)}{D:List Int}{F:List Nat}{h:Nat}(e:Xp W D F=some h):h<W.length/\h∉F/\Zr D h<ZQ W h F:=by
 have h1:=List.find?_some e
 have h2:=List.mem_of_find?_eq_some e
 simp only[Bool.and_eq_true,Bool.not_eq_true',decide_eq_false_iff_not,decide_eq_true_eq] at h1
 exact⟨List.mem_range.mp h2,h1⟩
theorem PL{W:List (List Int)}{D:List Int}{F:List Nat}(e:Xp W D F=none){h:Nat}(hh:h<W.length)(hF:h∉F):ZQ W h F<=Zr D h:=by
 have:=List.find?_eq_none.mp e h (List.mem_range.mpr hh)
 simp[hF] at this;exact this
theorem Burn.add{W:List (List Int)}{D:List Int}{b h:Nat}{F:List Nat}(B:Burn W D b F)(e:Xp W D F=some h):Burn W D b (F++[h]):=by
 obtain⟨h1,h2,_⟩:=Si e
 have hp:=B.pos
 refine⟨?_,fun x hx=>?_,?_,fun k k1 k2=>?_⟩
 ·rw[List.nodup_append]
  exact⟨B.nd,by simp,fun a ha c hc z=>by rw[List.mem_singleton.mp hc] at z;exact h2 (z▸ha)⟩
 ·rcases List.mem_append.mp hx with hx | hx
  ·exact B.lt x hx
  ·rw[List.mem_singleton.mp hx];exact h1
 ·rw[List.getElem?_append_left (by omega)];exact B.hd
 ·rw[List.length_append,List.length_singleton] at k2
  by_cases q:k<F.length
  ·rw[List.take_append_of_le_length (by omega),List.getElem?_append_left q];exact B.st k k1 q
  ·have:k=F.length:=by omega
   subst this;rw[List.take_left',e,List.getElem?_append_right (by omega)]
   ·simp
   ·rfl
theorem Lk{W:List (List Int)}{D:List Int}{b:Nat}(ok:Z1 W)(hd:D.length=W.length)(hb:b<W.length):∃F,Ua [wP W,pP D,.int (b:Int)]=some (.lst (iL (nL F)))/\Burn W D b F/\Xp W D F=none:=by
 have hf:=ok.few
 have hn:∀F:List Nat,Burn W D b F->ZU [wP W,pP D,.lst (iL (nL F))]=some (UN (Xp W D F)):=fun F B=>UO ok hd B.lt (by have:=B.len;omega)
 obtain⟨s',q1,⟨F,rfl,B⟩,q3⟩:=Iu (c:=xB (Na true (Za 4))) (fb:=Zt (XZ 3 (eP (Za 4))) (Zs 4 (Ze ZU [(Za 0),(Za 1),(Za 3)])))
  (fun st=>∃F,st=[some (wP W),some (pP D),some (.int (b:Int)),some (.lst (iL (nL F))),some (UN (Xp W D F))]/\Burn W D b F)
  (fun st=>match st[3]? with | some (some (PV.lst l))=>8-l.length | _=>0) (by
   rintro st ⟨F,rfl,B⟩
   cases e:Xp W D F with
   | none=>exact .inl (by simp[Mq,UN])
   | some h=>
    have B':=B.add e;have hl:=B'.len;rw[List.length_append,List.length_singleton] at hl
    refine .inr ⟨by simp[Mq,UN],[some (wP W),some (pP D),some (.int (b:Int)),some (.lst (iL (nL (F++[h])))),some (UN (Xp W D (F++[h])))],?_,⟨F++[h],rfl,B'⟩,?_⟩
    ·have e1:XZ 3 (eP (Za 4)) [some (wP W),some (pP D),some (.int (b:Int)),some (.lst (iL (nL F))),some (UN (some h))]=some (.nx [some (wP W),some (pP D),some (.int (b:Int)),some (.lst (iL (nL (F++[h])))),some (UN (some h))]):=by
      rw[TX (m:=iL (nL F)) (l:=.int (h:Int)) rfl rfl (by simp[nL];omega)]
      simp[nL]
     have e2:Zs 4 (Ze ZU [(Za 0),(Za 1),(Za 3)]) [some (wP W),some (pP D),some (.int (b:Int)),some (.lst (iL (nL (F++[h])))),some (UN (some h))]=some (.nx [some (wP W),some (pP D),some (.int (b:Int)),some (.lst (iL (nL (F++[h])))),some (UN (Xp W D (F++[h])))]):=by
      have:=hn _ B'
      generalize hh:iL (nL (F++[h]))=z at this ⊢
      simp[this]
     rw[ZN e1,e2]
    ·show 8-(iL (nL (F++[h]))).length<8-(iL (nL F)).length
     simp[nL];omega) (s:=[some (wP W),some (pP D),some (.int (b:Int)),some (.lst (iL (nL [b]))),some (UN (Xp W D [b]))]) ⟨[b],rfl,Burn.one hb⟩
 have en:Xp W D F=none:=by
  cases e:Xp W D F with
  | none=>rfl
  | some h=>rw[e] at q3;simp[Mq,UN] at q3
 refine⟨F,?_,B,en⟩
 have e1:Zs 3 (Wf [(eP (Za 2))]) [some (wP W),some (pP D),some (.int (b:Int)),none,none]=some (.nx [some (wP W),some (pP D),some (.int (b:Int)),some (.lst (iL (nL [b]))),none]):=by simp[nL]
 have e2:Zs 4 (Ze ZU [(Za 0),(Za 1),(Za 3)]) [some (wP W),some (pP D),some (.int (b:Int)),some (.lst (iL (nL [b]))),none]=some (.nx [some (wP W),some (pP D),some (.int (b:Int)),some (.lst (iL (nL [b]))),some (UN (Xp W D [b]))]):=by
  have:=hn _ (Burn.one hb)
  generalize hh:iL (nL [b])=z at this ⊢
  simp[this]
 show YZ 5 To _=_
 unfold To
 show(Zt _ _ [some (wP W),some (pP D),some (.int (b:Int)),none,none]).bind XC=_
 rw[ZN e1,ZN e2,ZN q1];rfl
def Xd(D:List Int)(b:Nat):List Nat:=(List.range D.length).filter fun h=>!decide (h=b)&&decide (Zr D h<0)
theorem Sj{D:List Int}{b:Nat}(hl:D.length<=1000):YE [pP D,.int (b:Int)]=some (.lst (iL (nL (Xd D b)))):=by
 have en:Y8 false [Za 0] [some (pP D),some (.int (b:Int))]=some ((List.range D.length).map fun(i:Nat)=>.tup [.int (i:Int),.int (Zr D i)]):=by
  have:=Tq D
  simp[this]
 have hc:Zu 2 [1] (Y8 false [(Za 0)]) (.many [0,1]) (VJ (xB (Zi (YJ true) (Za 0) (Za 2))) (xB (Zi Oh (Za 1) (eC (.int 0))))) (eP (Za 0)) [some (pP D),some (.int (b:Int))]=some (.lst (iL (nL (Xd D b)))):=by
  rw[V4 (List.range D.length) (fun(i:Nat)=>.tup [.int (i:Int),.int (Zr D i)]) (fun(i:Nat)=>.int (i:Int)) (fun h=>!decide (h=b)&&decide (Zr D h<0)) en (by simp;omega) fun y hy=>⟨[some (.int (y:Int)),some (.int (Zr D y)),some (.int (b:Int))],by simp[ZK,Nl],?_,fun _=>by simp⟩]
  ·unfold nL Xd iL
   rw[List.map_map];rfl
  ·by_cases q:y=b
   ·subst q;simp
   ·have q':¬(y:Int)=(b:Int):=by omega
    simp[q,q']
 show YZ 2 Vg _=_
 unfold Vg
 show(Z9 _ [some (pP D),some (.int (b:Int))]).bind XC=_
 rw[Wl hc];rfl
theorem debt_nil{D:List Int}{b:Nat}:Xd D b=[]↔∀h,h<D.length->h≠b->0<=Zr D h:=by
 unfold Xd;rw[List.filter_eq_nil_iff];constructor
 ·intro h x hx hb
  have:=h x (List.mem_range.mpr hx)
  simp[hb] at this;exact this
 ·intro h x hx
  by_cases q:x=b
  ·simp[q]
  ·have:=h x (List.mem_range.mp hx) q
   simp[q];omega
theorem Ll{D:List Int}{b h:Nat}:h∈Xd D b↔h<D.length/\h≠b/\Zr D h<0:=by
 unfold Xd;rw[List.mem_filter,List.mem_range]
 simp
end PW
namespace PW
def sN:Nat->(Nat->Int)->Int
 | 0,_=>0
 | n+1,f=>sN n f+f n
theorem Zq{f g:Nat->Int}:∀{n:Nat},(∀i,i<n->f i=g i)->sN n f=sN n g
 | 0,_=>rfl
 | n+1,h=>by
  show sN n f+f n=sN n g+g n
  rw[Zq fun i hi=>h i (by omega),h n (by omega)]
theorem Uh{f:Nat->Int}{n:Nat}(h:∀i,i<n->f i=0):sN n f=0:=by
 rw[Zq (g:=fun _=>0) h]
 clear h
 induction n with
 | zero=>rfl
 | succ n ih=>show sN n _+0=0;rw[ih];rfl
theorem YV(f g:Nat->Int):∀n,sN n (fun i=>f i+g i)=sN n f+sN n g
 | 0=>rfl
 | n+1=>by
  show sN n _+(f n+g n)=(sN n f+f n)+(sN n g+g n)
  rw[YV f g n];omega
theorem Z8(c:Int)(f:Nat->Int):∀n,sN n (fun i=>c*f i)=c*sN n f
 | 0=>by show(0:Int)=c*0;simp
 | n+1=>by
  show sN n _+c*f n=c*(sN n f+f n)
  rw[Z8 c f n,Int.mul_add]
theorem Ts(f:Nat->Nat->Int)(m:Nat):∀n,sN n (fun i=>sN m (f i))=sN m (fun j=>sN n fun i=>f i j)
 | 0=>by
  show(0:Int)=sN m fun _=>0
  rw[Uh (fun _ _=>rfl)]
 | n+1=>by
  show sN n (fun i=>sN m (f i))+sN m (f n)=sN m (fun j=>(sN n fun i=>f i j)+f n j)
  rw[YV,Ts f m n]
theorem Y2{f:Nat->Int}{k:Nat}:∀{n:Nat},k<n->(∀i,i<n->i≠k->f i=0)->sN n f=f k
 | 0,h,_=>by omega
 | n+1,h,z=>by
  show sN n f+f n=f k
  by_cases q:k=n
  ·subst q
   rw[Uh fun i hi=>z i (by omega) (by omega)];omega
  ·rw[Y2 (n:=n) (by omega) fun i hi=>z i (by omega),z n (by omega) (by omega)];omega
theorem Lm{f:Nat->Int}{k:Nat}:∀{n:Nat},k+1<n->(∀i,i<n->i≠k->i≠k+1->f i=0)->sN n f=f k+f (k+1)
 | 0,h,_=>by omega
 | n+1,h,z=>by
  show sN n f+f n=_
  by_cases q:k+1=n
  ·subst q
   rw[Y2 (k:=k) (by omega) fun i hi hk=>z i (by omega) hk (by omega)]
  ·rw[Lm (n:=n) (by omega) fun i hi=>z i (by omega),z n (by omega) (by omega) (by omega)];omega
theorem X3(f:Nat->Int)(n:Nat):((List.range n).map f).sum=sN n f:=by
 induction n with
 | zero=>rfl
 | succ n ih=>rw[List.range_succ,List.map_append,List.sum_append,ih];simp[sN]
abbrev Mt:=Nat->Nat->Int
def Ta(i:Nat)(A:Mt):Mt:=fun r c=>A (if r<i then r else r+1) (c+1)
def sg:Nat->Int
 | 0=>1
 | n+1=>- sg n
def XW:Nat->Mt->Int
 | 0,_=>1
 | n+1,A=>sN (n+1) fun i=>sg i*A i 0*XW n (Ta i A)
theorem Xz(n:Nat)(A:Mt):XW (n+1) A=sN (n+1) fun i=>sg i*A i 0*XW n (Ta i A):=rfl
theorem XN:∀{n:Nat}{A B:Mt},(∀r c,r<n->c<n->A r c=B r c)->XW n A=XW n B
 | 0,_,_,_=>rfl
 | n+1,A,B,h=>by
  rw[Xz,Xz]
  refine Zq fun i hi=>?_
  rw[h i 0 hi (by omega),XN (n:=n) (A:=Ta i A) (B:=Ta i B) fun r c hr hc=>?_];unfold Ta
  exact h _ _ (by split<;>omega) (by omega)
theorem OI:∀{n:Nat}{A B C:Mt}{k:Nat}{x y:Int},k<n->(∀r c,r<n->c<n->r≠k->A r c=C r c/\B r c=C r c)->(∀c,c<n->C k c=x*A k c+y*B k c)->XW n C=x*XW n A+y*XW n B
 | 0,_,_,_,k,_,_,h,_,_=>by omega
 | n+1,A,B,C,k,x,y,hk,h1,h2=>by
  rw[Xz,Xz,Xz,<-Z8,<-Z8,<-YV]
  refine Zq fun i hi=>?_
  by_cases q:i=k
  ·subst q
   have e1:XW n (Ta i A)=XW n (Ta i C):=XN fun r c hr hc=>by
    unfold Ta
    exact(h1 _ _ (by split<;>omega) (by omega) (by split<;>omega)).1
   have e2:XW n (Ta i B)=XW n (Ta i C):=XN fun r c hr hc=>by
    unfold Ta
    exact(h1 _ _ (by split<;>omega) (by omega) (by split<;>omega)).2
   rw[e1,e2,h2 0 (by omega),Int.mul_add,Int.add_mul];simp only[Int.mul_assoc,Int.mul_left_comm]
  ·obtain⟨a1,a2⟩:=h1 i 0 hi (by omega) q
   have e:XW n (Ta i C)=x*XW n (Ta i A)+y*XW n (Ta i B):=OI (k:=if k<i then k else k-1) (by split<;>omega) (fun r c hr hc hrk=>by
    unfold Ta
    exact h1 _ _ (by split<;>omega) (by omega) (by split at hrk<;>split<;>omega)) (fun c hc=>by
    have e:(if(if k<i then k else k-1)<i then(if k<i then k else k-1) else(if k<i then k else k-1)+1)=k:=by split<;>(try split)<;>omega
    unfold Ta;rw[e]
    exact h2 (c+1) (by omega))
   rw[a1,a2,e,Int.mul_add];simp only[Int.mul_assoc,Int.mul_left_comm]
theorem Tt:∀{n:Nat}{A:Mt}{k:Nat},k+1<n->(∀c,c<n->A k c=A (k+1) c)->XW n A=0
 | 0,_,k,h,_=>by omega
 | n+1,A,k,hk,he=>by
  rw[Xz,Lm hk]
  ·have e:XW n (Ta k A)=XW n (Ta (k+1) A):=XN fun r c hr hc=>by
    unfold Ta
    by_cases q:r<k
    ·rw[if_pos q,if_pos (by omega)]
    ·rw[if_neg q]
     by_cases q2:r=k
     ·subst q2
      rw[if_pos (by omega)]
      exact(he (c+1) (by omega)).symm
     ·rw[if_neg (by omega)]
   rw[e,he 0 (by omega)]
   show sg k*_*_ + - sg k*_*_=0
   rw[Int.neg_mul,Int.neg_mul];omega
  ·intro i hi h1 h2
   rw[Tt (n:=n) (A:=Ta i A) (k:=if k+1<i then k else k-1) (by split<;>omega) fun c hc=>?_,Int.mul_zero]
   have e1:(if(if k+1<i then k else k-1)<i then(if k+1<i then k else k-1) else(if k+1<i then k else k-1)+1)=k:=by split<;>(try split)<;>omega
   have e2:(if(if k+1<i then k else k-1)+1<i then(if k+1<i then k else k-1)+1 else(if k+1<i then k else k-1)+1+1)=k+1:=by split<;>(try split)<;>omega
   unfold Ta;rw[e1,e2]
   exact he (c+1) (by omega)
def WE(k:Nat)(v:Nat->Int)(A:Mt):Mt:=fun r=>if r=k then v else A r
theorem YC(k:Nat)(v:Nat->Int)(A:Mt):WE k v A k=v:=by unfold WE;rw[if_pos rfl]
theorem X9{k r:Nat}(v:Nat->Int)(A:Mt)(h:r≠k):WE k v A r=A r:=by unfold WE;rw[if_neg h]
theorem Ui{n k:Nat}{A:Mt}{u v:Nat->Int}{x y:Int}(hk:k<n):XW n (WE k (fun c=>x*u c+y*v c) A)=x*XW n (WE k u A)+y*XW n (WE k v A):=
 OI hk (fun r c _ _ h=>by rw[X9 _ _ h,X9 _ _ h,X9 _ _ h];exact⟨rfl,rfl⟩) (fun c _=>by rw[YC,YC,YC])
def HQ(k:Nat)(A:Mt):Mt:=WE k (A (k+1)) (WE (k+1) (A k) A)
theorem KC{n k:Nat}{A:Mt}(hk:k+1<n):XW n (HQ k A) = - XW n A:=by
 have two:∀u v:Nat->Int,XW n (WE k (fun c=>1*u c+1*v c) (WE (k+1) (fun c=>1*u c+1*v c) A))=0:=fun u v=>Tt hk fun c _=>by
  rw[YC,X9 _ _ (by omega),YC]
 have same:∀u:Nat->Int,XW n (WE k u (WE (k+1) u A))=0:=fun u=>Tt hk fun c _=>by
  rw[YC,X9 _ _ (by omega),YC]
 have comm:∀u v:Nat->Int,WE k u (WE (k+1) v A)=WE (k+1) v (WE k u A):=fun u v=>by
  funext r
  unfold WE
  by_cases q:r=k
  ·rw[if_pos q,if_neg (by omega),if_pos q]
  ·rw[if_neg q]
   by_cases q2:r=k+1
   ·rw[if_pos q2,if_pos q2]
   ·rw[if_neg q2,if_neg q2,if_neg q]
 have h:=two (A k) (A (k+1))
 rw[Ui (by omega),comm,Ui hk,comm,Ui hk,<-comm,<-comm,<-comm,<-comm,same,same] at h
 have e:WE k (A k) (WE (k+1) (A (k+1)) A)=A:=by
  funext r
  unfold WE
  by_cases q:r=k
  ·rw[if_pos q,q]
  ·rw[if_neg q]
   by_cases q2:r=k+1
   ·rw[if_pos q2,q2]
   ·rw[if_neg q2]
 rw[e] at h;unfold HQ;omega
theorem W0:∀(d:Nat){n i:Nat}{A:Mt},i+1+d<n->(∀c,c<n->A i c=A (i+1+d) c)->XW n A=0
 | 0,n,i,A,h,e=>Tt h e
 | d+1,n,i,A,h,e=>by
  have h1:XW n (HQ (i+1+d) A)=0:=W0 d (n:=n) (i:=i) (by omega) fun c hc=>by
   unfold HQ;rw[X9 _ _ (by omega),X9 _ _ (by omega),YC]
   exact e c hc
  rw[KC (by omega)] at h1;omega
theorem QC{n i j:Nat}{A:Mt}(hi:i<n)(hj:j<n)(hij:i≠j)(e:∀c,c<n->A i c=A j c):XW n A=0:=by
 rcases Nat.lt_or_gt_of_ne hij with h | h
 ·exact W0 (j-i-1) (i:=i) (by omega) fun c hc=>by rw[show i+1+(j-i-1)=j by omega];exact e c hc
 ·exact W0 (i-j-1) (i:=j) (by omega) fun c hc=>by rw[show j+1+(i-j-1)=i by omega];exact(e c hc).symm
theorem QD:∀{n:Nat}{A:Mt},(∀c,c<n->A n c=0)->XW (n+1) A=A n n*XW n A
 | 0,A,_=>by
  show 0+1*A 0 0*1=A 0 0*1
  omega
 | n+1,A,h=>by
  rw[Xz (n+1)]
  show sN (n+1) _+sg (n+1)*A (n+1) 0*_=_
  rw[h 0 (by omega),Int.mul_zero,Int.zero_mul,Int.add_zero,Xz n,<-Z8]
  refine Zq fun i hi=>?_
  rw[QD (n:=n) (A:=Ta i A) fun c hc=>?_]
  ·have e:Ta i A n n=A (n+1) (n+1):=by unfold Ta;rw[if_neg (by omega)]
   rw[e];simp only[Int.mul_assoc,Int.mul_left_comm]
  ·unfold Ta;rw[if_neg (by omega)];exact h (c+1) (by omega)
theorem Sk{n j:Nat}{A:Mt}{a:Nat->Int}{v:Nat->Nat->Int}(hj:j<n):∀m,XW n (WE j (fun c=>sN m fun k=>a k*v k c) A)=sN m fun k=>a k*XW n (WE j (v k) A)
 | 0=>by
  have:XW n (WE j (fun c=>0*(0:Int)+0*(0:Int)) A)=0*XW n (WE j (fun _=>0) A)+0*XW n (WE j (fun _=>0) A):=Ui (u:=fun _=>0) (v:=fun _=>0) hj
  simp only[Int.zero_mul,Int.add_zero] at this;exact this
 | m+1=>by
  have:=Ui (n:=n) (A:=A) (u:=fun c=>sN m fun k=>a k*v k c) (v:=v m) (x:=1) (y:=a m) hj
  simp only[Int.one_mul] at this
  show XW n (WE j (fun c=>(sN m fun k=>a k*v k c)+a m*v m c) A)=_
  rw[this,Sk hj m];rfl
theorem KD{n j:Nat}{A:Mt}{a:Nat->Int}(hj:j<n):XW n (WE j (fun c=>sN n fun k=>a k*A k c) A)=a j*XW n A:=by
 rw[Sk hj n,Y2 (k:=j) hj]
 ·have:WE j (A j) A=A:=by funext r;unfold WE;split<;>simp_all
  rw[this]
 ·intro i hi hij
  rw[QC (i:=i) (j:=j) hi hj hij fun c _=>by rw[X9 _ _ hij,YC],Int.mul_zero]
def QE(n:Nat)(A:Mt)(i j:Nat):Int:=XW n (WE j (fun c=>if c=i then 1 else 0) A)
theorem KF{n:Nat}{A:Mt}{j:Nat}(hj:j<n)(v:Nat->Int):sN n (fun i=>v i*QE n A i j)=XW n (WE j v A):=by
 unfold QE;rw[<-Sk (v:=fun i c=>if c=i then 1 else 0) hj n]
 refine XN fun r c hr hc=>?_
 unfold WE
 split
 ·show sN n (fun k=>v k*if c=k then 1 else 0)=v c
  rw[Y2 (k:=c) hc]
  ·simp
  ·intro i hi hic
   rw[if_neg (fun z=>hic z.symm),Int.mul_zero]
 ·rfl
theorem OJ{n:Nat}{A:Mt}{k j:Nat}(hk:k<n)(hj:j<n):sN n (fun i=>A k i*QE n A i j)=if k=j then XW n A else 0:=by
 rw[KF hj]
 split
 ·rename_i h
  subst h
  have:WE k (A k) A=A:=by funext r;unfold WE;split<;>simp_all
  rw[this]
 ·rename_i h
  exact QC (i:=k) (j:=j) hk hj h fun c _=>by rw[X9 _ _ h,YC]
theorem UP{f:Nat->Int}{q:Nat}:∀{m:Nat},q<=m->(∀k,q<=k->k<m->f k=0)->sN m f=sN q f
 | 0,h,_=>by rw[show q=0 by omega]
 | m+1,h,z=>by
  by_cases e:q=m+1
  ·rw[e]
  ·show sN m f+f m=_
   rw[UP (m:=m) (by omega) (fun k h1 h2=>z k h1 (by omega)),z m (by omega) (by omega)];omega
theorem OK{f:Nat->Int}{q i:Nat}:∀{m:Nat},q<=i->i<m->(∀k,q<=k->k<m->k≠i->f k=0)->sN m f=sN q f+f i
 | 0,_,h,_=>by omega
 | m+1,hq,hi,z=>by
  show sN m f+f m=_
  by_cases e:i=m
  ·subst e
   rw[UP (q:=q) (by omega) fun k h1 h2=>z k h1 (by omega) (by omega)]
  ·rw[OK (m:=m) hq (by omega) (fun k h1 h2=>z k h1 (by omega)),z m (by omega) (by omega) (fun q=>e q.symm)];omega
def Xf(m:Nat)(X:Mt):Nat->Mt×Int
 | 0=>(X,1)
 | p+1=>(fun i j=>if i=p then(Xf m X p).1 i j else((Xf m X p).1 p p*(Xf m X p).1 i j-(Xf m X p).1 i p*(Xf m X p).1 p j).fdiv (Xf m X p).2,(Xf m X p).1 p p)
structure Iv(m:Nat)(A X:Mt):Prop where
 sym:∀i j,i<m->j<m->A i j=A j i
 inj:∀p,p<=m->∀z:Nat->Int,(∀j,j<p->sN p (fun k=>z k*A k j)=0)->∀k,k<p->z k=0
 ext:∀i j,i<m->j<m->X i j=A i j
structure Gw(m p:Nat)(X:Mt)(E:Mt)(d:Int)(i:Nat)(a:Nat->Int):Prop where
 off:∀k,k<m->p<=k->k≠i->a k=0
 on:p<=i->a i=d
 val:∀j,j<=m->E i j=sN m (fun k=>a k*X k j)
 uni:∀j,j<p->E i j=if i=j then d else 0
structure Iw(m:Nat)(A X:Mt)(p:Nat)(E:Mt)(d:Int):Prop where
 de:d=XW p A
 nz:d≠0
 row:∀i,i<m->∃a,Gw m p X E d i a
theorem Sl{m:Nat}{A X:Mt}{p:Nat}{E:Mt}{d:Int}(ok:Iv m A X)(hp:p<m)(I:Iw m A X p E d) :
  Iw m A X (p+1) (fun i j=>if i=p then E i j else(E p p*E i j-E i p*E p j).fdiv d) (E p p)/\∀i j,i<m->j<=m->i≠p->∃q,E p p*E i j-E i p*E p j=d*q:=by
 obtain⟨ap,Rp⟩:=I.row p hp
 have hd:=I.nz
 -- the pivot's row
 have rowp:∀j,j<m->E p j=sN (p+1) (fun k=>ap k*A k j):=fun j hj=>by
  rw[Rp.val j (by omega),UP (q:=p+1) (by omega) fun k h1 h2=>by rw[Rp.off k h2 (by omega) (by omega),Int.zero_mul]]
  exact Zq fun k hk=>by rw[ok.ext k j (by omega) hj]
 have pd:E p p=XW (p+1) A:=by
  have h1:=KD (n:=p+1) (j:=p) (A:=A) (a:=ap) (by omega)
  have h2:=QD (n:=p) (A:=WE p (fun c=>sN (p+1) fun k=>ap k*A k c) A) fun c hc=>by
   rw[YC]
   show sN (p+1) (fun k=>ap k*A k c)=0
   rw[<-rowp c (by omega),Rp.uni c hc,if_neg (by omega)]
  have h3:XW p (WE p (fun c=>sN (p+1) fun k=>ap k*A k c) A)=XW p A:=XN fun r c hr hc=>by rw[X9 _ _ (by omega)]
  rw[YC,h3,h1,Rp.on (Nat.le_refl p),<-I.de] at h2
  have h4:d*XW (p+1) A=E p p*d:=by
   rw[h2]
   show sN (p+1) (fun k=>ap k*A k p)*d=_
   rw[<-rowp p hp]
  have h5:d*(XW (p+1) A)=d*E p p:=by rw[h4,Int.mul_comm]
  exact(Int.eq_of_mul_eq_mul_left hd h5).symm
 have pz:E p p≠0:=fun z=>by
  have:=ok.inj (p+1) (by omega) ap (fun j hj=>by
   rw[<-rowp j (by omega)]
   by_cases q:j=p
   ·rw[q];exact z
   ·rw[Rp.uni j (by omega),if_neg (by omega)]) p (by omega)
  rw[Rp.on (Nat.le_refl p)] at this
  exact hd this
 -- the other rows
 have other:∀i,i<m->i≠p->∃b:Nat->Int,(∀k,k<m->p+1<=k->k≠i->b k=0)/\(p+1<=i->b i=E p p)/\(∀l,l<p+1->sN m (fun k=>b k*A k l)=if i=l then E p p else 0)/\∀j,j<=m->E p p*E i j-E i p*E p j=d*sN m (fun k=>b k*X k j):=by
  intro i hi hip
  obtain⟨b,b1,b2,b3⟩:∃b:Nat->Int,(∀k,k<m->p+1<=k->k≠i->b k=0)/\(p+1<=i->b i=E p p)/\(∀l,l<p+1->sN m (fun k=>b k*A k l)=if i=l then E p p else 0):=by
   have cm:∀j l,j<p+1->l<p+1->sN (p+1) (fun k=>QE (p+1) A k j*A k l)=if l=j then E p p else 0:=fun j l hj hl=>by
    rw[pd,<-OJ (A:=A) hl hj]
    exact Zq fun k hk=>by rw[ok.sym l k (by omega) (by omega),Int.mul_comm]
   by_cases q:i<p
   ·obtain⟨b,hb⟩:∃b:Nat->Int,∀k,b k=if k<p+1 then QE (p+1) A k i else 0:=⟨_,fun _=>rfl⟩
    refine⟨b,fun k hk h1 _=>by rw[hb,if_neg (by omega)],fun h=>by omega,fun l hl=>?_⟩
    rw[UP (q:=p+1) (by omega) fun k h1 h2=>by rw[hb,if_neg (by omega),Int.zero_mul]]
    rw[Zq (g:=fun k=>QE (p+1) A k i*A k l) fun k hk=>by rw[hb,if_pos hk],cm i l (by omega) hl]
    by_cases e:i=l
    ·rw[if_pos e,if_pos e.symm]
    ·rw[if_neg e,if_neg (fun z=>e z.symm)]
   ·obtain⟨b,hb⟩:∃b:Nat->Int,∀k,b k=if k<p+1 then-sN (p+1) (fun j=>A i j*QE (p+1) A k j) else if k=i then E p p else 0:=⟨_,fun _=>rfl⟩
    have hbi:b i=E p p:=by rw[hb,if_neg (by omega),if_pos rfl]
    refine⟨b,fun k hk h1 h2=>by rw[hb,if_neg (by omega),if_neg h2],fun h=>hbi,fun l hl=>?_⟩
    rw[OK (q:=p+1) (i:=i) (by omega) hi fun k h1 h2 h3=>by rw[hb,if_neg (by omega),if_neg h3,Int.zero_mul]]
    rw[hbi,if_neg (show ¬i=l by omega)]
    have e1:sN (p+1) (fun k=>b k*A k l)=sN (p+1) (fun k=>(-1)*sN (p+1) (fun j=>A i j*(QE (p+1) A k j*A k l))):=Zq fun k hk=>by
     rw[hb,if_pos hk,Int.neg_mul,Int.mul_comm _ (A k l),<-Z8,Int.neg_mul,Int.one_mul]
     congr 1
     exact Zq fun j _=>by rw[Int.mul_comm (A k l),Int.mul_assoc]
    rw[e1,Z8,Ts]
    have e2:(sN (p+1) fun j=>sN (p+1) fun k=>A i j*(QE (p+1) A k j*A k l))=A i l*E p p:=by
     rw[Zq (g:=fun j=>A i j*(if l=j then E p p else 0)) fun j hj=>by rw[Z8,cm j l hj hl]]
     rw[Y2 (k:=l) hl fun j _ hjl=>by rw[if_neg (fun z=>hjl z.symm),Int.mul_zero],if_pos rfl]
    rw[e2,Int.mul_comm (E p p)];omega
  refine⟨b,b1,b2,b3,?_⟩
  obtain⟨ai,Ri⟩:=I.row i hi
  have hw:∀k,k<m->E p p*ai k-E i p*ap k-d*b k=0:=by
   have hi2:∀k,k<m->p+1<=k->E p p*ai k-E i p*ap k-d*b k=0:=fun k hk h1=>by
    have zp:=Rp.off k hk (by omega) (by omega)
    by_cases q:k=i
    ·subst q
     rw[Ri.on (by omega),zp,b2 h1,Int.mul_comm d];omega
    ·rw[Ri.off k hk (by omega) q,zp,b1 k hk h1 q];omega
   intro k hk
   by_cases q:k<p+1
   ·refine ok.inj (p+1) (by omega) (fun k=>E p p*ai k-E i p*ap k-d*b k) (fun l hl=>?_) k q
    rw[<-UP (q:=p+1) (m:=m) (by omega) fun k h1 h2=>by rw[hi2 k h2 h1,Int.zero_mul]]
    have e1:sN m (fun k=>(E p p*ai k-E i p*ap k-d*b k)*A k l)=E p p*sN m (fun k=>ai k*A k l)+((- E i p)*sN m (fun k=>ap k*A k l)+(- d)*sN m (fun k=>b k*A k l)):=by
     rw[<-Z8,<-Z8,<-Z8,<-YV,<-YV]
     exact Zq fun k _=>by
      rw[Int.sub_mul,Int.sub_mul];simp only[Int.mul_assoc,Int.neg_mul];omega
    have eX:∀a:Nat->Int,sN m (fun k=>a k*X k l)=sN m (fun k=>a k*A k l):=fun a=>Zq fun k hk=>by rw[ok.ext k l hk (by omega)]
    rw[e1,b3 l hl,<-eX,<-eX,<-Ri.val l (by omega),<-Rp.val l (by omega)]
    by_cases q2:l=p
    ·subst q2
     rw[if_neg hip,Int.mul_comm (E l l),Int.neg_mul];omega
    ·rw[Ri.uni l (by omega),Rp.uni l (by omega),if_neg (show ¬p=l by omega)]
     by_cases q3:i=l
     ·rw[if_pos q3,if_pos q3,Int.neg_mul d,Int.mul_comm d];omega
     ·rw[if_neg q3,if_neg q3];omega
   ·exact hi2 k hk (by omega)
  intro j hj;rw[Ri.val j hj,Rp.val j hj,<-Z8,<-Z8,<-Z8]
  have:sN m (fun k=>E p p*(ai k*X k j))=sN m (fun k=>d*(b k*X k j))+sN m (fun k=>E i p*(ap k*X k j)):=by
   rw[<-YV]
   refine Zq fun k hk=>?_
   have:=hw k hk
   rw[<-Int.mul_assoc,<-Int.mul_assoc,<-Int.mul_assoc,<-Int.add_mul]
   congr 1
   omega
  omega
 refine⟨⟨pd,pz,fun i hi=>?_⟩,fun i j hi hj hip=>?_⟩
 ·by_cases hip:i=p
  ·subst hip
   refine⟨ap,fun k hk h1 h2=>Rp.off k hk (by omega) h2,fun h=>by omega,fun j hj=>by rw[if_pos rfl];exact Rp.val j hj,fun j hj=>?_⟩
   rw[if_pos rfl]
   by_cases q:i=j
   ·subst q;rw[if_pos rfl]
   ·rw[if_neg q,Rp.uni j (by omega),if_neg q]
  ·obtain⟨b,b1,b2,b3,b4⟩:=other i hi hip
   have hv:∀j,j<=m->(E p p*E i j-E i p*E p j).fdiv d=sN m (fun k=>b k*X k j):=fun j hj=>by rw[b4 j hj,Int.mul_fdiv_cancel_left _ hd]
   refine⟨b,b1,b2,fun j hj=>by rw[if_neg hip];exact hv j hj,fun j hj=>?_⟩
   rw[if_neg hip,hv j (by omega),<-b3 j hj]
   exact Zq fun k hk=>by rw[ok.ext k j hk (by omega)]
 ·obtain⟨b,b1,b2,b3,b4⟩:=other i hi hip
  exact⟨_,b4 j hj⟩
theorem Xu{m:Nat}{A X:Mt}(ok:Iv m A X):∀{p:Nat},p<=m->Iw m A X p (Xf m X p).1 (Xf m X p).2
 | 0,_=>⟨rfl,(show(1:Int)≠0 by decide),fun i hi=>⟨fun k=>if k=i then 1 else 0,fun k _ _ h=>if_neg h,fun _=>if_pos rfl,fun j hj=>by
   rw[Y2 (k:=i) hi fun k _ hk=>by rw[if_neg hk,Int.zero_mul],if_pos rfl,Int.one_mul];rfl,fun j hj=>by omega⟩⟩
 | p+1,h=>(Sl ok (by omega) (Xu ok (p:=p) (by omega))).1
theorem NH{m:Nat}{A X:Mt}(ok:Iv m A X){k:Nat}(hk:k<m):sN m (fun i=>A k i*(Xf m X m).1 i m)=(Xf m X m).2*X k m:=by
 have I:=Xu ok (Nat.le_refl m)
 generalize hE:(Xf m X m).1=E at I ⊢
 generalize hd:(Xf m X m).2=d at I ⊢
 have nz:=I.nz
 have hr:∀k,k<m->sN m (fun i=>A k i*sN m (fun j=>QE m A i j*X j m))=d*X k m:=fun k hk=>by
  rw[Zq (g:=fun i=>sN m (fun j=>A k i*(QE m A i j*X j m))) fun i _=>by rw[Z8]]
  rw[Ts,Zq (g:=fun j=>(if k=j then d else 0)*X j m) fun j hj=>by
   rw[I.de,<-OJ (A:=A) hk hj,Int.mul_comm _ (X j m),<-Z8]
   exact Zq fun i _=>by rw[Int.mul_comm (X j m),Int.mul_assoc]]
  rw[Y2 (k:=k) hk fun j _ h=>by rw[if_neg (fun z=>h z.symm),Int.zero_mul],if_pos rfl]
 have he:∀i,i<m->E i m=sN m (fun j=>QE m A i j*X j m):=fun i hi=>by
  obtain⟨a,R⟩:=I.row i hi
  refine Int.eq_of_mul_eq_mul_left nz ?_
  rw[R.val m (Nat.le_refl m),<-Z8]
  have e1:sN m (fun k=>d*(a k*X k m))=sN m (fun k=>a k*sN m (fun l=>A k l*sN m (fun j=>QE m A l j*X j m))):=Zq fun k hk=>by rw[hr k hk,Int.mul_left_comm]
  rw[e1,Zq (g:=fun k=>sN m (fun l=>a k*A k l*sN m (fun j=>QE m A l j*X j m))) fun k _=>by
   rw[<-Z8];exact Zq fun l _=>by rw[Int.mul_assoc]]
  rw[Ts,Zq (g:=fun l=>(if i=l then d else 0)*sN m (fun j=>QE m A l j*X j m)) fun l hl=>by
   rw[<-R.uni l hl,R.val l (by omega),Int.mul_comm _ (sN m fun j=>QE m A l j*X j m),<-Z8]
   exact Zq fun k hk=>by rw[ok.ext k l hk hl,Int.mul_comm]]
  rw[Y2 (k:=i) hi fun l _ h=>by rw[if_neg (fun z=>h z.symm),Int.zero_mul],if_pos rfl]
 rw[Zq (g:=fun i=>A k i*sN m (fun j=>QE m A i j*X j m)) fun i hi=>by rw[he i hi]]
 exact hr k hk
open L2 VL
theorem Ln{z:Int}(h:z.natAbs<2^1000):z.natAbs.log2<1000:=by
 by_cases h0:z.natAbs=0
 ·rw[h0];decide +kernel
 ·exact(Nat.log2_lt h0).mpr h
theorem OL{a b:Int}(h:a.natAbs<2^1000)(h':b.natAbs<2^1000):CMulW a b:=⟨by have:=Ln h;omega,by have:=Ln h';omega⟩
theorem OM{a b:Int}(h0:b≠0)(h:b.natAbs<2^1000):V7 a b:=⟨h0,by have:=Ln h;omega⟩
def Mb:Nat->Nat
 | 0=>2^7
 | p+1=>2*Mb p*Mb p
def Nb:Nat->Nat
 | 0=>2^208
 | p+1=>2*Mb p*Nb p
theorem Hy{p:Nat}(h:p<=6):Mb p<2^1000:=by
 have:p=0\/p=1\/p=2\/p=3\/p=4\/p=5\/p=6:=by omega
 rcases this with rfl | rfl | rfl | rfl | rfl | rfl | rfl<;>decide +kernel
theorem Gx{p:Nat}(h:p<=6):Nb p<2^1000:=by
 have:p=0\/p=1\/p=2\/p=3\/p=4\/p=5\/p=6:=by omega
 rcases this with rfl | rfl | rfl | rfl | rfl | rfl | rfl<;>decide +kernel
theorem ON{a b c d:Int}{M N:Nat}(ha:a.natAbs<=M)(hb:b.natAbs<=N)(hc:c.natAbs<=M)(hd:d.natAbs<=N):(a*b-c*d).natAbs<=2*M*N:=by
 have h1:(a*b).natAbs<=M*N:=by rw[Int.natAbs_mul];exact Nat.mul_le_mul ha hb
 have h2:(c*d).natAbs<=M*N:=by rw[Int.natAbs_mul];exact Nat.mul_le_mul hc hd
 have h3:(a*b-c*d).natAbs<=(a*b).natAbs+(c*d).natAbs:=by omega
 have h4:2*M*N=M*N+M*N:=by rw[Nat.mul_assoc];omega
 omega
theorem QF{x d q:Int}(hd:d≠0)(e:x=d*q):(x.fdiv d).natAbs<=x.natAbs:=by
 rw[e,Int.mul_fdiv_cancel_left _ hd,Int.natAbs_mul]
 have:1<=d.natAbs:=by omega
 calc q.natAbs=1*q.natAbs:=by omega
  _<=d.natAbs*q.natAbs:=Nat.mul_le_mul_right _ this
theorem KG(p:Nat):Mb p<=Mb (p+1):=by
 have h:∀p,1<=Mb p:=fun p=>by
  induction p with
  | zero=>decide
  | succ p ih=>show 1<=2*Mb p*Mb p;exact Nat.mul_le_mul (show 1<=2*Mb p by omega) ih
 show Mb p<=2*Mb p*Mb p
 calc Mb p=1*Mb p:=by omega
  _<=2*Mb p*Mb p:=Nat.mul_le_mul_right _ (by have:=h p;omega)
theorem KH(p:Nat):Nb p<=Nb (p+1):=by
 have h:∀p,1<=Mb p:=fun p=>by
  induction p with
  | zero=>decide
  | succ p ih=>show 1<=2*Mb p*Mb p;exact Nat.mul_le_mul (show 1<=2*Mb p by omega) ih
 show Nb p<=2*Mb p*Nb p
 calc Nb p=1*Nb p:=by omega
  _<=2*Mb p*Nb p:=Nat.mul_le_mul_right _ (by have:=h p;omega)
theorem UQ{m:Nat}{A X:Mt}(ok:Iv m A X)(h0:∀i j,i<m->j<m->(X i j).natAbs<=2^7)(h1:∀i,i<m->(X i m).natAbs<=2^208):∀{p:Nat},p<=m->(∀i j,i<m->j<m->((Xf m X p).1 i j).natAbs<=Mb p)/\∀i,i<m->((Xf m X p).1 i m).natAbs<=Nb p
 | 0,_=>⟨h0,h1⟩
 | p+1,hp=>by
  obtain⟨b1,b2⟩:=UQ ok h0 h1 (p:=p) (by omega)
  have I:=Xu ok (p:=p) (by omega)
  have ex:=(Sl ok (by omega) I).2
  refine⟨fun i j hi hj=>?_,fun i hi=>?_⟩
  ·show(if i=p then(Xf m X p).1 i j else _).natAbs<=_
   split
   ·exact Nat.le_trans (b1 i j hi hj) (KG p)
   ·rename_i hip
    obtain⟨q,e⟩:=ex i j hi (by omega) hip
    exact Nat.le_trans (QF I.nz e) (ON (b1 p p (by omega) (by omega)) (b1 i j hi hj) (b1 i p hi (by omega)) (b1 p j (by omega) hj))
  ·show(if i=p then(Xf m X p).1 i m else _).natAbs<=_
   split
   ·exact Nat.le_trans (b2 i hi) (KH p)
   ·rename_i hip
    obtain⟨q,e⟩:=ex i m hi (by omega) hip
    exact Nat.le_trans (QF I.nz e) (ON (b1 p p (by omega) (by omega)) (b2 i hi) (b1 i p hi (by omega)) (b2 p (by omega)))
def Z2(w:Nat)(f:Nat->Int):List Int:=(List.range w).map f
theorem Xm(w:Nat)(f:Nat->Int):(Z2 w f).length=w:=by simp[Z2]
theorem W3{w:Nat}{f:Nat->Int}{j:Nat}(h:j<w):Zr (Z2 w f) j=f j:=ZS h
theorem Hz{l:List Int}:(Option.bind ((Option.bind (some (PV.lst (iL l))) fun x=>(Tg [] s).map (x::·)).bind Ya) fun l=>if ZR l=true then some l else none)=some (pP l):=by
 show(if ZR (pP l)=true then some (pP l) else none)=_
 rw[if_pos (by simp)]
theorem PM{w p:Nat}{f g:Nat->Int}{d:Int}(hw:w<=100)(hp:p<w)(hf:∀j,j<w->(f j).natAbs<2^1000)(hg:∀j,j<w->(g j).natAbs<2^1000)(hd:d≠0)(hdb:d.natAbs<2^1000) :
  Xa [pP (Z2 w f),pP (Z2 w g),.int (p:Int),.int d]=some (pP (Z2 w fun j=>(g p*f j-f p*g j).fdiv d)):=by
 have hz:VR (iL (Z2 w f)) (iL (Z2 w g))=(List.range w).map fun(j:Nat)=>.tup [.int (f j),.int (g j)]:=by
  rw[Vy _ _ (by simp[Xm]),List.length_map,Xm]
  apply List.map_congr_left
  intro i hi;have hi:=List.mem_range.mp hi
  rw[Va _ i (by rw[Xm];exact hi),Va _ i (by rw[Xm];exact hi),W3 hi,W3 hi]
 have hx:VU false false [Za 0,Za 1] [some (pP (Z2 w f)),some (pP (Z2 w g)),some (.int (p:Int)),some (.int d)]=some ((List.range w).map fun(j:Nat)=>.tup [.int (f j),.int (g j)]):=by
  show some (VR (iL (Z2 w f)) (iL (Z2 w g)))=_
  rw[hz]
 have hc:Zu 2 [3,1,2,0] (VU false false [(Za 0),(Za 1)]) (.many [0,1]) ZA (Zi UX (Zi Xe (Zi V8 (Zi Yb (Za 3) (Za 4)) (Za 0)) (Zi V8 (Zi Yb (Za 5) (Za 4)) (Za 1))) (Za 2)) [some (pP (Z2 w f)),some (pP (Z2 w g)),some (.int (p:Int)),some (.int d)]=some (.lst (iL (Z2 w fun j=>(g p*f j-f p*g j).fdiv d))):=by
  rw[Z6 (List.range w) (fun(j:Nat)=>.tup [.int (f j),.int (g j)]) (fun j=>.int ((g p*f j-f p*g j).fdiv d)) hx (by simp;omega) (fun j hj=>⟨[some (.int (f j)),some (.int (g j)),some (.int d),some (pP (Z2 w g)),some (.int (p:Int)),some (pP (Z2 w f))],rfl,rfl,?_⟩)]
  ·simp[Z2]
  ·have hj:=List.mem_range.mp hj
   have i1:=Y5 (l:=Z2 w g) (k:=p) (by rw[Xm];exact hp)
   have i2:=Y5 (l:=Z2 w f) (k:=p) (by rw[Xm];exact hp)
   rw[W3 hp] at i1 i2
   exact(vC (C:=V7) (op:=Int.fdiv) (vI (vC (C:=CMulW) (op:=(· * ·)) (a:=g p) (b:=f j) i1 rfl (OL (hg p hp) (hf j hj))) (vC (C:=CMulW) (op:=(· * ·)) (a:=f p) (b:=g j) i2 rfl (OL (hf p hp) (hg j hj)))) rfl (OM hd hdb))
 show YZ 4 Vh _=_
 unfold Vh
 show(Z9 _ [some (pP (Z2 w f)),some (pP (Z2 w g)),some (.int (p:Int)),some (.int d)]).bind XC=_
 rw[Wl (v:=pP (Z2 w fun j=>(g p*f j-f p*g j).fdiv d)) (by rw[Xh,ZX,ZD,hc];exact Hz)]
 rfl
def Wa(m w:Nat)(E:Mt):List (List Int):=(List.range m).map fun i=>Z2 w (E i)
theorem KI(m w:Nat)(E:Mt):(Wa m w E).length=m:=by simp[Wa]
def tL(M:List (List Int)):List PV:=M.map pP
theorem Sm(m w:Nat)(E:Mt):tL (Wa m w E)=(List.range m).map fun i=>pP (Z2 w (E i)):=by
 unfold tL Wa;rw[List.map_map];rfl
theorem Sn(m w:Nat)(E:Mt):(tL (Wa m w E)).length=m:=by simp[tL,KI]
theorem PN{m w:Nat}{E:Mt}{i:Nat}(h:i<m):(tL (Wa m w E))[i]?=some (pP (Z2 w (E i))):=by
 rw[Sm,List.getElem?_map,List.getElem?_range h];rfl
theorem OO(M:List (List Int)):ZV (tL M)=true:=Qu M
theorem NI{m w:Nat}{A X:Mt}(hm:m<=6)(hw:m<=w)(hw1:w<=m+1)(ok:Iv m A X)(h0:∀i j,i<m->j<m->(X i j).natAbs<=2^7)(h1:∀i,i<m->(X i m).natAbs<=2^208){R:PV}(hR:R = .lst (tL (Wa m w X))\/R = .tup (tL (Wa m w X))) :
  Wi [R]=some (.tup [.int (Xf m X m).2,.lst (tL (Wa m w (Xf m X m).1))]):=by
 have bd:∀{p:Nat},p<=m->∀i j,i<m->j<m+1->((Xf m X p).1 i j).natAbs<2^1000:=fun{p} hp i j hi hj=>by
  obtain⟨b1,b2⟩:=UQ ok h0 h1 hp
  by_cases q:j<m
  ·exact Nat.lt_of_le_of_lt (b1 i j hi q) (Hy (by omega))
  ·rw[show j=m by omega];exact Nat.lt_of_le_of_lt (b2 i hi) (Gx (by omega))
 have db:∀{p:Nat},p<=m->(Xf m X p).2.natAbs<2^1000:=fun{p} hp=>by
  cases p with
  | zero=>show(1:Int).natAbs<_;decide +kernel
  | succ p=>exact bd (p:=p) (by omega) p p (by omega) (by omega)
 let st:Nat->Option PV->Option PV->ZO:=fun p x3 x4=>[some R,some (.lst (tL (Wa m w (Xf m X p).1))),some (.int (Xf m X p).2),x3,x4]
 have e1:Zs 1 (Ze X8 [(Za 0)]) [some R,none,none,none,none]=some (.nx [some R,some (.lst (tL (Wa m w X))),none,none,none]):=by
  have:Ze X8 [(Za 0)] [some R,none,none,none,none]=some (.lst (tL (Wa m w X))):=by
   show X8 [R]=_
   rcases hR with rfl | rfl
   ·rw[MM,if_pos (OO _)]
   ·rw[ML,if_pos (OO _)]
  rw[ZE,this];rfl
 have e2:Zs 2 (eP (eC (.int 1))) [some R,some (.lst (tL (Wa m w X))),none,none,none]=some (.nx (st 0 none none)):=by
  rw[ZE,vP (a:=1) rfl];rfl
 let fb:XS:=(Zt (Zs 4 (eP (Zi Yb (Za 1) (Za 3))))
  (Zt (Zs 1 (Zu 2 [3,4,2] (Y8 true [(Za 1)]) (.many [0,1]) ZA (eP (O9 (xB (Zi (YJ false) (Za 0) (Za 2))) (Za 1) (Ze Xa [(Za 1),(Za 3),(Za 2),(Za 4)])))))
  (Zs 2 (eP (Zi Yb (Za 4) (Za 3))))))
 obtain⟨s',f1,x3,x4,hs⟩:=Xx (T:=.one 3) (fb:=fb) (ls:=WL m) (s:=st 0 none none) (fun p s=>∃x3 x4,s=st p x3 x4) ⟨none,none,rfl⟩ (by
  rintro p l s hl ⟨x3,x4,rfl⟩
  obtain⟨hp,rfl⟩:=WQ hl
  generalize hE:(Xf m X p).1=E
  generalize hd:(Xf m X p).2=d
  have I:=Xu ok (p:=p) (by omega)
  have bE:∀i j,i<m->j<w->(E i j).natAbs<2^1000:=by rw[<-hE];exact fun i j hi hj=>bd (by omega) i j hi (by omega)
  have bD:d.natAbs<2^1000:=by rw[<-hd];exact db (by omega)
  rw[hE,hd] at I
  let E':Mt:=fun i j=>if i=p then E i j else(E p p*E i j-E i p*E p j).fdiv d
  have hs1:(Xf m X (p+1)).1=E':=by
   show(fun i j=>if i=p then(Xf m X p).1 i j else((Xf m X p).1 p p*(Xf m X p).1 i j-(Xf m X p).1 i p*(Xf m X p).1 p j).fdiv (Xf m X p).2)=E'
   rw[hE,hd]
  have hs2:(Xf m X (p+1)).2=E p p:=by rw[<-hE];rfl
  have q0:st p (some (.int (p:Int))) x4=[some R,some (.lst (tL (Wa m w E))),some (.int d),some (.int (p:Int)),x4]:=by rw[<-hE,<-hd]
  have q1:Zs 4 (eP (Zi Yb (Za 1) (Za 3))) [some R,some (.lst (tL (Wa m w E))),some (.int d),some (.int (p:Int)),x4]=some (.nx [some R,some (.lst (tL (Wa m w E))),some (.int d),some (.int (p:Int)),some (pP (Z2 w (E p)))]):=by
   have:Ur (tL (Wa m w E)) (p:Int)=some (pP (Z2 w (E p))):=W7 (PN hp)
   have:eP (Zi Yb (Za 1) (Za 3)) [some R,some (.lst (tL (Wa m w E))),some (.int d),some (.int (p:Int)),x4]=some (pP (Z2 w (E p))):=by
    show(Option.bind (Ur (tL (Wa m w E)) (p:Int)) fun l=>if ZR l=true then some l else none)=_
    rw[this]
    show(if ZR (pP (Z2 w (E p)))=true then _ else _)=_
    rw[if_pos (by simp)]
   rw[ZE,this];rfl
  have q2:Zs 1 (Zu 2 [3,4,2] (Y8 true [(Za 1)]) (.many [0,1]) ZA (eP (O9 (xB (Zi (YJ false) (Za 0) (Za 2))) (Za 1) (Ze Xa [(Za 1),(Za 3),(Za 2),(Za 4)])))) [some R,some (.lst (tL (Wa m w E))),some (.int d),some (.int (p:Int)),some (pP (Z2 w (E p)))]=some (.nx [some R,some (.lst (tL (Wa m w E'))),some (.int d),some (.int (p:Int)),some (pP (Z2 w (E p)))]):=by
   have hx:Y8 true [Za 1] [some R,some (.lst (tL (Wa m w E))),some (.int d),some (.int (p:Int)),some (pP (Z2 w (E p)))]=some ((List.range m).map fun(i:Nat)=>.tup [.int (i:Int),pP (Z2 w (E i))]):=by
    show some (WM (tL (Wa m w E)))=_
    rw[UW,Sn]
    congr 1
    apply List.map_congr_left
    intro i hi;have hi:=List.mem_range.mp hi
    rw[List.getD_eq_getElem?_getD,PN hi];rfl
   have hc:Zu 2 [3,4,2] (Y8 true [(Za 1)]) (.many [0,1]) ZA (eP (O9 (xB (Zi (YJ false) (Za 0) (Za 2))) (Za 1) (Ze Xa [(Za 1),(Za 3),(Za 2),(Za 4)]))) [some R,some (.lst (tL (Wa m w E))),some (.int d),some (.int (p:Int)),some (pP (Z2 w (E p)))]=some (.lst (tL (Wa m w E'))):=by
    rw[Z6 (List.range m) (fun(i:Nat)=>.tup [.int (i:Int),pP (Z2 w (E i))]) (fun i=>pP (Z2 w (E' i))) hx (by simp;omega) (fun i hi=>⟨[some (.int (i:Int)),some (pP (Z2 w (E i))),some (.int (p:Int)),some (pP (Z2 w (E p))),some (.int d)],rfl,rfl,?_⟩),Sm]
    have hi:=List.mem_range.mp hi
    have ev:O9 (xB (Zi (YJ false) (Za 0) (Za 2))) (Za 1) (Ze Xa [(Za 1),(Za 3),(Za 2),(Za 4)]) [some (.int (i:Int)),some (pP (Z2 w (E i))),some (.int (p:Int)),some (pP (Z2 w (E p))),some (.int d)]=some (pP (Z2 w (E' i))):=by
     by_cases q:i=p
     ·have t:xB (Zi (YJ false) (Za 0) (Za 2)) [some (.int (i:Int)),some (pP (Z2 w (E i))),some (.int (p:Int)),some (pP (Z2 w (E p))),some (.int d)]=some true:=by simp[q]
      rw[V1,t]
      have:E' i=E i:=by funext j;show(if i=p then _ else _)=_;rw[if_pos q]
      rw[this];rfl
     ·have q':¬(i:Int)=(p:Int):=by omega
      have t:xB (Zi (YJ false) (Za 0) (Za 2)) [some (.int (i:Int)),some (pP (Z2 w (E i))),some (.int (p:Int)),some (pP (Z2 w (E p))),some (.int d)]=some false:=by simp[q']
      rw[V1,t]
      have:E' i=fun j=>(E p p*E i j-E i p*E p j).fdiv d:=by funext j;show(if i=p then _ else _)=_;rw[if_neg q]
      rw[this]
      exact PM (f:=E i) (g:=E p) (by omega) (by omega) (fun j hj=>bE i j hi hj) (fun j hj=>bE p j hp hj) I.nz bD
    rw[Xh,ev]
    show(if ZR (pP (Z2 w (E' i)))=true then _ else _)=_
    rw[if_pos (by simp)]
   rw[ZE,hc];rfl
  have q3:Zs 2 (eP (Zi Yb (Za 4) (Za 3))) [some R,some (.lst (tL (Wa m w E'))),some (.int d),some (.int (p:Int)),some (pP (Z2 w (E p)))]=some (.nx [some R,some (.lst (tL (Wa m w E'))),some (.int (E p p)),some (.int (p:Int)),some (pP (Z2 w (E p)))]):=by
   have:=Y5 (l:=Z2 w (E p)) (k:=p) (by rw[Xm];omega)
   rw[W3 (by omega)] at this
   rw[ZE,vP (a:=E p p) this];rfl
  refine⟨st p (some (.int (p:Int))) x4,st (p+1) (some (.int (p:Int))) (some (pP (Z2 w (E p)))),rfl,?_,_,_,rfl⟩
  rw[q0]
  show Zt _ _ _=_
  rw[ZN q1,ZN q2,q3]
  show _=some (Out.nx [some R,some (.lst (tL (Wa m w (Xf m X (p+1)).1))),some (.int (Xf m X (p+1)).2),_,_])
  rw[hs1,hs2])
 subst hs;rw[TW] at f1
 have e3:Wg [1] (ZL [(Ze YF [(Za 0)])]) (.one 3) fb (st 0 none none)=some (.nx (st m x3 x4)):=by
  show(ZL [(Ze YF [(Za 0)])] (Yz [1] (st 0 none none))).bind _=_
  have:Ze YF [(Za 0)] (Yz [1] (st 0 none none))=some (.int (m:Int)):=by
   rcases hR with rfl | rfl
   ·show some (PV.int ((tL (Wa m w X)).length:Int))=_
    rw[Sn]
   ·show some (PV.int ((tL (Wa m w X)).length:Int))=_
    rw[Sn]
  rw[Yj (n:=m) this (by omega)];exact f1
 show YZ 5 Ub _=_
 unfold Ub
 show(Zt _ _ [some R,none,none,none,none]).bind XC=_
 rw[ZN e1,ZN e2,ZN e3];rfl
theorem NJ{m:Nat}{A X:Mt}(hm:m<=6)(ok:Iv m A X)(h0:∀i j,i<m->j<m->(X i j).natAbs<=2^7)(h1:∀i,i<m->(X i m).natAbs<=2^208) :
  Yt [wP (Wa m m A),pP (Z2 m fun i=>X i m)]=some (.lst (iL (Z2 m fun i=>((Xf m X m).1 i m).fdiv (Xf m X m).2))):=by
 let R:PV:=wP (Wa m m A)
 let Cc:PV:=pP (Z2 m fun i=>X i m)
 let T:PV:=.tup [.int (Xf m X m).2,.lst (tL (Wa m (m+1) (Xf m X m).1))]
 have e1:Zs 2 (Ze Wi [(Zu 2 [] (VU false false [(Za 0),(Za 1)]) (.many [0,1]) ZA (Zi WC (Za 0) (RE [(Za 1)])))]) [some R,some Cc,none]=some (.nx [some R,some Cc,some T]):=by
  have hz:VR (tL (Wa m m A)) (iL (Z2 m fun i=>X i m))=(List.range m).map fun(i:Nat)=>.tup [pP (Z2 m (A i)),.int (X i m)]:=by
   rw[Vy _ _ (by rw[Sn,List.length_map,Xm]),Sn]
   apply List.map_congr_left
   intro i hi;have hi:=List.mem_range.mp hi
   rw[Va _ i (by rw[Xm];exact hi),W3 hi,List.getD_eq_getElem?_getD,PN hi];rfl
  have hx:VU false false [Za 0,Za 1] [some R,some Cc,none]=some ((List.range m).map fun(i:Nat)=>.tup [pP (Z2 m (A i)),.int (X i m)]):=by
   show some (VR (tL (Wa m m A)) (iL (Z2 m fun i=>X i m)))=_
   rw[hz]
  have hc:Zu 2 [] (VU false false [(Za 0),(Za 1)]) (.many [0,1]) ZA (Zi WC (Za 0) (RE [(Za 1)])) [some R,some Cc,none]=some (.lst (tL (Wa m (m+1) X))):=by
   rw[Z6 (List.range m) (fun(i:Nat)=>.tup [pP (Z2 m (A i)),.int (X i m)]) (fun i=>pP (Z2 (m+1) (X i))) hx (by simp;omega) (fun i hi=>⟨[some (pP (Z2 m (A i))),some (.int (X i m))],rfl,rfl,?_⟩),Sm]
   have hi:=List.mem_range.mp hi
   have hl:(iL (Z2 m (A i))).length+[PV.int (X i m)].length<=10000:=by simp[Xm];omega
   have e:WC (pP (Z2 m (A i))) (.tup [.int (X i m)])=some (.tup (iL (Z2 m (A i))++[.int (X i m)])):=by
    show(if _ then _ else _)=_
    rw[if_pos hl]
   have e2:iL (Z2 m (A i))++[PV.int (X i m)]=iL (Z2 (m+1) (X i)):=by
    unfold Z2;rw[List.range_succ,List.map_append]
    simp
    exact fun j hj=>(ok.ext i j hi hj).symm
   show(Zi WC (Za 0) (RE [(Za 1)])) [some (pP (Z2 m (A i))),some (.int (X i m))]=some (.tup (iL (Z2 (m+1) (X i))))
   rw[<-e2,<-e];rfl
  have:Ze Wi [(Zu 2 [] (VU false false [(Za 0),(Za 1)]) (.many [0,1]) ZA (Zi WC (Za 0) (RE [(Za 1)])))] [some R,some Cc,none]=some T:=by
   rw[ZX,ZD,hc]
   exact NI hm (by omega) (by omega) ok h0 h1 (.inl rfl)
  rw[ZE,this];rfl
 have I:=Xu ok (Nat.le_refl m)
 have bD:(Xf m X m).2.natAbs<2^1000:=by
  obtain⟨b1,b2⟩:=UQ ok h0 h1 (p:=m-1) (by omega)
  by_cases q:m=0
  ·rw[q];show(1:Int).natAbs<_;decide +kernel
  ·have:(Xf m X m).2=(Xf m X (m-1)).1 (m-1) (m-1):=by
    obtain⟨k,rfl⟩:∃k,m=k+1:=⟨m-1,by omega⟩
    rfl
   rw[this]
   exact Nat.lt_of_le_of_lt (b1 _ _ (by omega) (by omega)) (Hy (by omega))
 have hc:Zu 1 [2] (XH (Zi Yb (Za 2) (eC (.int 1)))) (.one 0) ZA (eP (Zi UX (Zi Yb (Za 0) (Lz SB (eC (.int 1)))) (Zi Yb (Za 1) (eC (.int 0))))) [some R,some Cc,some T]=some (.lst (iL (Z2 m fun i=>((Xf m X m).1 i m).fdiv (Xf m X m).2))):=by
  have hx:XH (Zi Yb (Za 2) (eC (.int 1))) [some R,some Cc,some T]=some ((List.range m).map fun i=>pP (Z2 (m+1) ((Xf m X m).1 i))):=by
   show some (tL (Wa m (m+1) (Xf m X m).1))=_
   rw[Sm]
  rw[Z6 (List.range m) (fun i=>pP (Z2 (m+1) ((Xf m X m).1 i))) (fun i=>.int (((Xf m X m).1 i m).fdiv (Xf m X m).2)) hx (by simp;omega) (fun i hi=>⟨[some (pP (Z2 (m+1) ((Xf m X m).1 i))),some T],rfl,rfl,?_⟩)]
  ·simp[Z2]
  ·have hi:=List.mem_range.mp hi
   have ix:Ur (iL (Z2 (m+1) ((Xf m X m).1 i))) (-1)=some (.int ((Xf m X m).1 i m)):=by
    have:R5 (iL (Z2 (m+1) ((Xf m X m).1 i))).length (-1)=some m:=by
     rw[List.length_map,Xm];unfold R5;rw[if_neg (by omega),if_pos (by omega)]
     congr 1
     omega
    unfold Ur;rw[this]
    show(iL (Z2 (m+1) ((Xf m X m).1 i)))[m]?=_
    rw[Pd (by rw[Xm];omega),W3 (by omega)]
   exact vP (vC (C:=V7) (op:=Int.fdiv) ix rfl (OM I.nz bD))
 show YZ 3 Xi _=_
 unfold Xi
 show(Zt _ _ [some R,some Cc,none]).bind XC=_
 rw[ZN e1,Wl hc];rfl
def X4(b i:Nat):Nat:=if i<b then i else i+1
def OP(b h:Nat):Nat:=if h<b then h else h-1
theorem Lo(b i:Nat):X4 b i≠b:=by unfold X4;split<;>omega
theorem Wy{b i m:Nat}(h:i<m):X4 b i<m+1:=by unfold X4;split<;>omega
theorem OQ(b i:Nat):OP b (X4 b i)=i:=by unfold OP X4;split<;>(try split)<;>omega
theorem Tu{b h:Nat}(q:h≠b):X4 b (OP b h)=h:=by unfold OP X4;split<;>(try split)<;>omega
theorem PP{b h m:Nat}(hb:b<m+1)(hh:h<m+1)(q:h≠b):OP b h<m:=by unfold OP;split<;>omega
theorem QG{n b:Nat}(hn:n<=7)(hb:b<n):(List.range n).filter (fun h=>!decide (h=b))=(List.range (n-1)).map (X4 b):=by
 have:∀n,n<8->∀b,b<8->b<n->(List.range n).filter (fun h=>!decide (h=b))=(List.range (n-1)).map (X4 b):=by decide
 exact this n (by omega) b (by omega) hb
theorem Lp{f:Nat->Int}{b:Nat}(h0:f b=0):∀{m:Nat},b<m+1->sN (m+1) f=sN m (fun i=>f (X4 b i))
 | 0,h=>by
  have:b=0:=by omega
  subst this
  show 0+f 0=0
  rw[h0];rfl
 | m+1,h=>by
  by_cases q:b=m+1
  ·subst q
   show sN (m+1) f+f (m+1)=_
   rw[h0,Int.add_zero]
   exact Zq fun i hi=>by unfold X4;rw[if_pos hi]
  ·show sN (m+1) f+f (m+1)=sN m (fun i=>f (X4 b i))+f (X4 b m)
   rw[Lp h0 (m:=m) (by omega),show X4 b m=m+1 by unfold X4;rw[if_neg (by omega)]]
theorem W4{f:Nat->Int}:∀{n:Nat},(∀i,i<n->0<=f i)->sN n f<=0->∀i,i<n->f i=0
 | 0,_,_,i,h=>by omega
 | n+1,h,s,i,hi=>by
  have s:sN n f+f n<=0:=s
  have h1:0<=sN n f:=by
   have:∀k,k<=n->0<=sN k f:=by
    intro k
    induction k with
    | zero=>intro _;exact Int.le_refl 0
    | succ k ih=>intro hk;have:=ih (by omega);have:=h k (by omega);show 0<=sN k f+f k;omega
   exact this n (Nat.le_refl n)
  have h2:=h n (by omega)
  by_cases q:i=n
  ·subst q;omega
  ·exact W4 (n:=n) (fun i hi=>h i (by omega)) (by omega) i (by omega)
theorem YS{f:Nat->Int}:∀{n:Nat},(∀i,i<n->0<=f i)->0<=sN n f
 | 0,_=>Int.le_refl 0
 | n+1,h=>by
  have:=YS (n:=n) fun i hi=>h i (by omega)
  have:=h n (by omega)
  show 0<=sN n f+f n
  omega
theorem So(Y:Nat->Int):∀{n:Nat},0<n->∃h,h<n/\∀g,g<n->Y h<=Y g
 | 0,h=>by omega
 | 1,_=>⟨0,by omega,fun g hg=>by rw[show g=0 by omega];exact Int.le_refl _⟩
 | n+2,_=>by
  obtain⟨h,h1,h2⟩:=So Y (n:=n+1) (by omega)
  by_cases q:Y h<=Y (n+1)
  ·exact⟨h,by omega,fun g hg=>by
    by_cases e:g=n+1
    ·rw[e];exact q
    ·exact h2 g (by omega)⟩
  ·exact⟨n+1,by omega,fun g hg=>by
    by_cases e:g=n+1
    ·rw[e];exact Int.le_refl _
    ·have:=h2 g (by omega);omega⟩
def gN(W:List (List Int))(Y:Nat->Int)(h:Nat):Int:=sN W.length (fun g=>Yd W h g*(Y g-Y h))
theorem KJ{W:List (List Int)}(ok:Z1 W)(cn:UM W){Y:Nat->Int}{b:Nat}(hb:b<W.length)(hyp:∀h,h<W.length->h≠b->Y h<Y b->gN W Y h<=0):∀h,h<W.length->Y b<=Y h:=by
 intro h hh
 refine Int.not_lt.mp fun hlt=>?_
 obtain⟨h0,l0,m0⟩:=So Y (n:=W.length) (by omega)
 have lt0:Y h0<Y b:=by have:=m0 h hh;omega
 have step:∀a c,a<W.length->c<W.length->0<Yd W a c->Y a=Y h0->Y c=Y h0:=fun a c ha hc hp ea=>by
  have s:=hyp a ha (fun z=>by rw[z] at ea;omega) (by omega)
  have t:=W4 (f:=fun g=>Yd W a g*(Y g-Y a)) (fun g hg=>Int.mul_nonneg (ok.lo a g ha hg) (by have:=m0 g hg;omega)) s c hc
  have:Y c-Y a=0:=by
   rcases Int.mul_eq_zero.mp t with z | z
   ·omega
   ·exact z
  omega
 have:=(cn (fun x=>Y x=Y h0) (fun a c ha hc hp=>⟨step a c ha hc hp,step c a hc ha (by rw[ok.sym c a hc ha];exact hp)⟩) h0 b l0 hb).mp rfl
 omega
theorem R1{W:List (List Int)}(Y Z:Nat->Int)(h:Nat):gN W (fun x=>Y x+Z x) h=gN W Y h+gN W Z h:=by
 unfold gN;rw[<-YV]
 exact Zq fun g _=>by
  show Yd W h g*(Y g+Z g-(Y h+Z h))=_
  rw[<-Int.mul_add];congr 1;omega
theorem W5{W:List (List Int)}(c:Int)(Y:Nat->Int)(h:Nat):gN W (fun x=>c*Y x) h=c*gN W Y h:=by
 unfold gN;rw[<-Z8]
 exact Zq fun g _=>by
  show Yd W h g*(c*Y g-c*Y h)=_
  rw[<-Int.mul_sub,Int.mul_left_comm]
theorem QH{W:List (List Int)}{Y Z:Nat->Int}{h:Nat}(hh:h<W.length)(e:∀g,g<W.length->Y g=Z g):gN W Y h=gN W Z h:=Zq fun g hg=>by rw[e g hg,e h hh]
theorem OR(W:List (List Int))(S:List Int)(h:Nat):Xj W S h=gN W (Zr S) h:=by
 unfold Xj gN;rw[X3]
def WF(W:List (List Int))(b:Nat):Mt:=fun i j=>if X4 b j=X4 b i then(ZF W (X4 b i)).sum else-Yd W (X4 b i) (X4 b j)
def XA(W:List (List Int))(b:Nat)(c:Nat->Int):Mt:=fun i j=>if j<W.length-1 then WF W b i j else c (X4 b i)
theorem Lq{W:List (List Int)}(ok:Z1 W){b:Nat}(hb:b<W.length){Y:Nat->Int}(h0:Y b=0){k:Nat}(hk:k<W.length-1):gN W Y (X4 b k) = - sN (W.length-1) (fun i=>WF W b k i*Y (X4 b i)):=by
 have hp:=ok.pos
 obtain⟨m,hm⟩:∃m,W.length=m+1:=⟨W.length-1,by omega⟩
 have hm1:W.length-1=m:=by omega
 rw[hm1] at hk ⊢
 generalize hh:X4 b k=h
 have hhn:h<W.length:=by rw[hm,<-hh];exact Wy hk
 have e1:sN m (fun i=>WF W b k i*Y (X4 b i))=sN (m+1) (fun g=>(if g=h then(ZF W h).sum else-Yd W h g)*Y g):=by
  rw[Lp (b:=b) (f:=fun g=>(if g=h then(ZF W h).sum else-Yd W h g)*Y g) (by rw[h0,Int.mul_zero]) (by omega)]
  exact Zq fun i _=>by unfold WF;rw[hh]
 have e2:sN (m+1) (fun g=>(if g=h then(ZF W h).sum else-Yd W h g)*Y g)=(-1)*sN (m+1) (fun g=>Yd W h g*Y g)+(ZF W h).sum*Y h:=by
  have:sN (m+1) (fun g=>if g=h then(ZF W h).sum*Y h else 0)=(ZF W h).sum*Y h:=by
   rw[Y2 (k:=h) (by omega) fun i _ hi=>if_neg hi,if_pos rfl]
  rw[<-this,<-Z8,<-YV]
  refine Zq fun g hg=>?_
  by_cases q:g=h
  ·subst q
   rw[if_pos rfl,if_pos rfl,ok.dia g hhn];omega
  ·rw[if_neg q,if_neg q,Int.neg_mul,Int.neg_mul,Int.one_mul];omega
 have e3:(ZF W h).sum=sN (m+1) (fun g=>Yd W h g):=by rw[RW ok hhn,X3,hm]
 have e4:gN W Y h=sN (m+1) (fun g=>Yd W h g*Y g)+(- Y h)*sN (m+1) (fun g=>Yd W h g):=by
  unfold gN;rw[hm,<-Z8,<-YV]
  exact Zq fun g _=>by rw[Int.mul_sub,Int.mul_comm (- Y h),Int.mul_neg];omega
 rw[e4,e1,e2,e3,Int.mul_comm (sN (m+1) fun g=>Yd W h g) (Y h),Int.neg_mul];omega
theorem PQ{W:List (List Int)}(ok:Z1 W)(cn:UM W){b:Nat}(hb:b<W.length)(c:Nat->Int):Iv (W.length-1) (WF W b) (XA W b c):=by
 have hp:=ok.pos
 obtain⟨m,hm⟩:∃m,W.length=m+1:=⟨W.length-1,by omega⟩
 have hm1:W.length-1=m:=by omega
 have sym:∀i j,i<m->j<m->WF W b i j=WF W b j i:=fun i j hi hj=>by
  unfold WF
  by_cases q:X4 b j=X4 b i
  ·rw[if_pos q,if_pos q.symm,q]
  ·rw[if_neg q,if_neg (fun z=>q z.symm),ok.sym _ _ (by rw[hm];exact Wy hi) (by rw[hm];exact Wy hj)]
 rw[hm1]
 refine⟨sym,fun p hp' z hz k hk=>?_,fun i j hi hj=>by unfold XA;rw[hm1,if_pos hj]⟩
 obtain⟨Z,hZ⟩:∃Z:Nat->Int,∀h,Z h=if h=b then 0 else if OP b h<p then z (OP b h) else 0:=⟨_,fun _=>rfl⟩
 have Zb:Z b=0:=by rw[hZ,if_pos rfl]
 have Zo:∀i,Z (X4 b i)=if i<p then z i else 0:=fun i=>by rw[hZ,if_neg (Lo b i),OQ]
 have flat:∀j,j<p->gN W Z (X4 b j)=0:=fun j hj=>by
  rw[Lq ok hb Zb (by omega),hm1]
  have e:sN m (fun i=>WF W b j i*Z (X4 b i))=sN p (fun k=>z k*WF W b k j):=by
   rw[UP (q:=p) hp' fun k h1 h2=>by rw[Zo,if_neg (by omega),Int.mul_zero]]
   exact Zq fun k hk=>by rw[Zo,if_pos hk,sym j k (by omega) (by omega),Int.mul_comm]
  rw[e,hz j hj];rfl
 have off:∀h,h<W.length->Z h≠0->gN W Z h=0:=fun h hh ne=>by
  have hb':h≠b:=fun z=>ne (by rw[z];exact Zb)
  have hi:OP b h<p:=by
   refine Nat.not_le.mp fun q=>ne ?_
   rw[hZ,if_neg hb',if_neg (by omega)]
  have:=flat _ hi
  rw[Tu hb'] at this;exact this
 have up:=KJ ok cn (Y:=Z) hb (fun h hh _ hlt=>by rw[off h hh (by rw[Zb] at hlt;omega)];exact Int.le_refl _)
 have dn:=KJ ok cn (Y:=fun x=>(-1)*Z x) hb (fun h hh _ hlt=>by
  simp only[Zb] at hlt
  rw[W5,off h hh (by omega)];decide)
 have h1:=up (X4 b k) (by rw[hm];exact Wy (by omega))
 have h2:=dn (X4 b k) (by rw[hm];exact Wy (by omega))
 simp only[Zb,Zo,if_pos hk] at h1 h2
 omega
theorem Rc{W:List (List Int)}(ok:Z1 W)(cn:UM W){b:Nat}(hb:b<W.length)(c:Nat->Int) :
  ∃R:Nat->Int,R b=0/\(∀i,i<W.length-1->R (X4 b i)=(Xf (W.length-1) (XA W b c) (W.length-1)).1 i (W.length-1))/\∀h,h<W.length->h≠b->gN W R h = - ((Xf (W.length-1) (XA W b c) (W.length-1)).2*c h):=by
 have hp:=ok.pos;have bk:=PQ ok cn hb c
 obtain⟨R,hR⟩:∃R:Nat->Int,∀h,R h=if h=b then 0 else(Xf (W.length-1) (XA W b c) (W.length-1)).1 (OP b h) (W.length-1):=⟨_,fun _=>rfl⟩
 have Rb:R b=0:=by rw[hR,if_pos rfl]
 have Ro:∀i,R (X4 b i)=(Xf (W.length-1) (XA W b c) (W.length-1)).1 i (W.length-1):=fun i=>by rw[hR,if_neg (Lo b i),OQ]
 refine⟨R,Rb,fun i _=>Ro i,fun h hh hne=>?_⟩
 have hk:OP b h<W.length-1:=PP (m:=W.length-1) (by omega) (by omega) hne
 have e:=Lq ok hb Rb hk;rw[Tu hne] at e;have s:=NH bk hk
 have x:XA W b c (OP b h) (W.length-1)=c h:=by unfold XA;rw[if_neg (by omega),Tu hne]
 rw[x] at s;rw[e,<-s]
 congr 1
 exact Zq fun i _=>by rw[Ro]
theorem Lr(l:List Int)(g:Int->Int):l.map g=(List.range l.length).map fun i=>g (Zr l i):=by
 refine Ug (by simp) fun i hi=>?_
 rw[List.length_map] at hi;rw[ZS (by omega)];simp[Zr,List.getD_eq_getElem?_getD,List.getElem?_eq_getElem hi]
theorem PR{n:Nat}{ix:List Nat}{fi:XL}{ft:XT}{fe:XE}{s:ZO}{l:List Int}(g:Int->Int)(hfi:fi s=some (iL l))(hl:l.length<=1000)(h:∀x∈l,∃s1,Xw (.one 0) (.int x) (ZK n ix s)=some s1/\ft s1=some true/\fe s1=some (.int (g x))) :
  Zu n ix fi (.one 0) ft fe s=some (.lst (iL (l.map g))):=by
 rw[Z6 l (fun(x:Int)=>.int x) (fun x=>.int (g x)) hfi (by omega) (fun x hx=>h x hx)]
 simp
theorem PU{l:List Int}(hp:0<l.length)(hl:l.length<=1000):Vj [pP l]=some (pP (Xk l)):=by
 have hc:Zu 1 [1] (U6 (Za 0)) (.one 0) ZA (Zi Xe (Za 0) (Za 1)) [some (pP l),some (.int (YX l))]=some (.lst (iL (Xk l))):=by
  rw[show Xk l=l.map fun x=>x-YX l from(Lr l fun x=>x-YX l).symm]
  exact PR (fun x=>x-YX l) (MP rfl) hl fun x hx=>⟨_,rfl,rfl,by simp[ZK]⟩
 have hm:=OC YX (l:=l) (List.length_pos_iff.mp hp)
 simp[Vj,RL,YZ,ZY,hm,hc]
theorem NK{W:List (List Int)}{h m:Nat}{f:Nat->Nat}(ok:Z1 W)(hh:h<W.length)(hm:m<=6)(hf:∀i,i<m->f i<W.length) :
  WW [wP W,.int (h:Int),.lst (iL (nL ((List.range m).map f)))]=some (pP (Z2 m fun j=>if f j=h then(ZF W h).sum else-Yd W h (f j))):=by
 have hc:Zu 1 [1,0] (XH (Za 2)) (.one 0) ZA (O9 (xB (Zi (YJ false) (Za 0) (Za 1))) (Ze XJ [(Za 2),(Za 1)]) (Lz SB (Zi Yb (Zi Yb (Za 2) (Za 1)) (Za 0)))) [some (wP W),some (.int (h:Int)),some (.lst (iL (nL ((List.range m).map f))))]=some (.lst (iL (Z2 m fun j=>if f j=h then(ZF W h).sum else-Yd W h (f j)))):=by
  rw[Z6 (List.range m) (fun(j:Nat)=>.int ((f j:Nat):Int)) (fun j=>.int (if f j=h then(ZF W h).sum else-Yd W h (f j))) (by simp[nL]) (by simp;omega) (fun j hj=>⟨[some (.int ((f j:Nat):Int)),some (.int (h:Int)),some (wP W)],rfl,rfl,?_⟩)]
  ·simp[Z2]
  ·have hj:=List.mem_range.mp hj
   have hfj:=hf j hj
   by_cases q:f j=h
   ·have t:xB (Zi (YJ false) (Za 0) (Za 1)) [some (.int ((f j:Nat):Int)),some (.int (h:Int)),some (wP W)]=some true:=by simp[q]
    rw[if_pos q];rw[V1,t]
    exact Pz hh
   ·have q':¬((f j:Nat):Int)=(h:Int):=by omega
    have t:xB (Zi (YJ false) (Za 0) (Za 1)) [some (.int ((f j:Nat):Int)),some (.int (h:Int)),some (wP W)]=some false:=by simp[q']
    rw[if_neg q];rw[V1,t]
    have:=Y5 (l:=ZF W h) (k:=f j) (by rw[ok.sq h hh];exact hfj)
    simp[V2 hh,this,SB];rfl
 show YZ 3 Uc _=_
 unfold Uc
 show(Z9 _ [some (wP W),some (.int (h:Int)),some (.lst (iL (nL ((List.range m).map f))))]).bind XC=_
 rw[Wl (v:=pP (Z2 m fun j=>if f j=h then(ZF W h).sum else-Yd W h (f j))) (by rw[Xh,ZX,ZD,hc];exact Hz)]
 rfl
theorem Uj{W:List (List Int)}{b:Nat}(ok:Z1 W)(hb:b<W.length) :
  Z7 [wP W,.int (b:Int)]=some (wP (Wa (W.length-1) (W.length-1) (WF W b))):=by
 have hp:=ok.pos;have hf:=ok.few
 obtain⟨m,hm⟩:∃m,W.length=m+1:=⟨W.length-1,by omega⟩
 have hm1:W.length-1=m:=by omega
 rw[hm1]
 let os:=(List.range m).map (X4 b)
 have fo:∀i,i<m->X4 b i<W.length:=fun i hi=>by rw[hm];exact Wy hi
 have e1:Zs 2 (Zu 1 [1] (ZL [(Ze YF [(Za 0)])]) (.one 0) (xB (Zi (YJ true) (Za 0) (Za 1))) (eP (Za 0))) [some (wP W),some (.int (b:Int)),none]=some (.nx [some (wP W),some (.int (b:Int)),some (.lst (iL (nL os)))]):=by
  have hc:Zu 1 [1] (ZL [(Ze YF [(Za 0)])]) (.one 0) (xB (Zi (YJ true) (Za 0) (Za 1))) (eP (Za 0)) [some (wP W),some (.int (b:Int)),none]=some (.lst (iL (nL os))):=by
   rw[V4 (List.range W.length) (fun(i:Nat)=>.int (i:Int)) (fun(i:Nat)=>.int (i:Int)) (fun h=>!decide (h=b)) (Yj (n:=W.length) (by simp) (by omega)) (by simp;omega) fun y hy=>⟨[some (.int (y:Int)),some (.int (b:Int))],rfl,?_,fun _=>by simp⟩]
   ·rw[QG hf hb,hm1]
    simp[nL,os]
   ·by_cases q:y=b
    ·simp[q]
    ·have q':¬(y:Int)=(b:Int):=by omega
     simp[q,q']
  rw[ZE,hc];rfl
 have hc:Zu 1 [0,2] (XH (Za 2)) (.one 0) ZA (Ze WW [(Za 1),(Za 0),(Za 2)]) [some (wP W),some (.int (b:Int)),some (.lst (iL (nL os)))]=some (.lst (tL (Wa m m (WF W b)))):=by
  rw[Z6 (List.range m) (fun(i:Nat)=>.int ((X4 b i:Nat):Int)) (fun i=>pP (Z2 m (WF W b i))) (by simp[nL,os]) (by simp;omega) (fun i hi=>⟨[some (.int ((X4 b i:Nat):Int)),some (wP W),some (.lst (iL (nL os)))],rfl,rfl,?_⟩),Sm]
  exact NK (f:=X4 b) ok (fo i (List.mem_range.mp hi)) (by omega) fo
 show YZ 3 YQ _=_
 unfold YQ
 show(Zt _ _ [some (wP W),some (.int (b:Int)),none]).bind XC=_
 rw[ZN e1,Wl (v:=wP (Wa m m (WF W b))) (by
  rw[Xh,ZX,ZD,hc]
  show(if ZR (wP (Wa m m (WF W b)))=true then some (wP (Wa m m (WF W b))) else none)=_
  rw[if_pos (by rw[Nj];exact Qu _)])]
 rfl
theorem OS{l:List Int}{b h:Nat}{x:Int}(hb:b<=l.length)(hh:h<l.length+1):Zr (l.take b++x::l.drop b) h=if h=b then x else Zr l (OP b h):=by
 unfold Zr OP;rw[List.getD_eq_getElem?_getD,List.getD_eq_getElem?_getD]
 by_cases q:h<b
 ·rw[if_neg (by omega),if_pos q,List.getElem?_append_left (by rw[List.length_take];omega),List.getElem?_take_of_lt q]
 ·rw[List.getElem?_append_right (by rw[List.length_take];omega),List.length_take,Nat.min_eq_left hb]
  by_cases q2:h=b
  ·rw[if_pos q2,q2,Nat.sub_self];rfl
  ·rw[if_neg q2,if_neg q,show h-b=(h-b-1)+1 by omega,List.getElem?_cons_succ,List.getElem?_drop,show b+(h-b-1)=h-1 by omega]
theorem OT{f:Nat->Int}:∀{n:Nat},(∀i,i<n->0<=f i/\f i<=9)->0<=sN n f/\sN n f<=9*n
 | 0,_=>⟨Int.le_refl _,by show(0:Int)<=_;omega⟩
 | n+1,h=>by
  obtain⟨a,b⟩:=OT (n:=n) fun i hi=>h i (by omega)
  have:=h n (by omega)
  refine⟨?_,?_⟩
  ·show 0<=sN n f+f n;omega
  ·show sN n f+f n<=_;omega
theorem NL{W:List (List Int)}(ok:Z1 W){b:Nat}{c:Nat->Int}{i j:Nat}(hi:i<W.length-1)(hj:j<W.length-1):(XA W b c i j).natAbs<=2^7:=by
 have hp:=ok.pos;have hf:=ok.few
 have h1:X4 b i<W.length:=by have:=Wy (b:=b) hi;omega
 have h2:X4 b j<W.length:=by have:=Wy (b:=b) hj;omega
 unfold XA WF;rw[if_pos hj]
 split
 ·rw[RW ok h1,X3]
  obtain⟨a,b⟩:=OT (f:=fun j=>Yd W (X4 b i) j) (n:=W.length) fun j hj=>⟨ok.lo _ j h1 hj,ok.hi _ j h1 hj⟩
  omega
 ·have:=ok.lo _ _ h1 h2
  have:=ok.hi _ _ h1 h2
  omega
theorem PX{W:List (List Int)}{D:List Int}{b:Nat}(ok:Z1 W)(cn:UM W)(hd:D.length=W.length)(hb:b<W.length)(hD:∀h,h<W.length->(Zr D h).natAbs<=2^208) :
  ∃(S0:List Int) (d:Int) (R:Nat->Int),Xs [wP W,pP D,.int (b:Int)]=some (pP S0)/\S0.length=W.length/\0<d/\R b=0/\Zr S0 b=0/\(∀h,h<W.length->d*Zr S0 h<=R h/\R h<d*Zr S0 h+d)/\∀h,h<W.length->h≠b->gN W R h = - (d*Zr D h):=by
 have hp:=ok.pos;have hf:=ok.few
 obtain⟨m,hm⟩:∃m,W.length=m+1:=⟨W.length-1,by omega⟩
 have hm1:W.length-1=m:=by omega
 obtain⟨R,Rb,Ro,Rg⟩:=Rc ok cn hb (Zr D)
 have bk:=PQ ok cn hb (Zr D)
 have I:=Xu bk (Nat.le_refl _)
 have se:=NJ (m:=W.length-1) (by omega) bk (fun i j hi hj=>NL ok hi hj) (fun i hi=>by
  show(XA W b (Zr D) i (W.length-1)).natAbs<=_
  unfold XA;rw[if_neg (by omega)]
  exact hD _ (by have:=Wy (b:=b) hi;omega))
 generalize hE:(Xf (W.length-1) (XA W b (Zr D)) (W.length-1)).1=E at Ro I se
 generalize hdd:(Xf (W.length-1) (XA W b (Zr D)) (W.length-1)).2=d at Rg I se
 rw[hm1] at Ro se I
 have nz:=I.nz
 have cc:D.take b++D.drop (b+1)=Z2 m fun i=>XA W b (Zr D) i m:=by
  refine Ug (by rw[List.length_append,List.length_take,List.length_drop,Xm];omega) fun i hi=>?_
  have hi:i<m:=by rw[List.length_append,List.length_take,List.length_drop] at hi;omega
  rw[W3 hi];unfold XA;rw[hm1,if_neg (by omega)];unfold X4 Zr;rw[List.getD_eq_getElem?_getD,List.getD_eq_getElem?_getD]
  by_cases q:i<b
  ·rw[if_pos q,List.getElem?_append_left (by rw[List.length_take];omega),List.getElem?_take_of_lt q]
  ·rw[if_neg q,List.getElem?_append_right (by rw[List.length_take];omega),List.length_take,Nat.min_eq_left (by omega),List.getElem?_drop]
   congr 2
   omega
 have e1:Zs 3 (eP (Zi WC (Oo U7 (Za 1) Jb (R6 (Za 2))) (Oo U7 (Za 1) (R6 (Zi ZW (Za 2) (eC (.int 1)))) Jb))) [some (wP W),some (pP D),some (.int (b:Int)),none,none]=some (.nx [some (wP W),some (pP D),some (.int (b:Int)),some (pP (Z2 m fun i=>XA W b (Zr D) i m)),none]):=by
  have s1:U7 (pP D) none (some (b:Int))=some (pP (D.take b)):=by
   show(if HT.sIx (iL D).length 0 none=0/\HT.sIx (iL D).length (iL D).length (some (b:Int))=(iL D).length then none else some (PV.tup (Vx (iL D) none (some (b:Int)))))=_
   rw[if_neg (by rw[HT.sIx_nat,List.length_map,hd];omega),Im]
  have s2:U7 (pP D) (some ((b:Int)+1)) none=some (pP (D.drop (b+1))):=by
   show(if HT.sIx (iL D).length 0 (some ((b:Int)+1))=0/\HT.sIx (iL D).length (iL D).length none=(iL D).length then none else some (PV.tup (Vx (iL D) (some ((b:Int)+1)) none)))=_
   rw[show((b:Int)+1)=((b+1:Nat):Int) by omega,if_neg (by rw[HT.sIx_nat,List.length_map,hd];omega),Io]
  have s3:WC (pP (D.take b)) (pP (D.drop (b+1)))=some (pP (Z2 m fun i=>XA W b (Zr D) i m)):=by
   show(if(iL (D.take b)).length+(iL (D.drop (b+1))).length<=10000 then some (PV.tup (iL (D.take b)++iL (D.drop (b+1)))) else none)=_
   rw[if_pos (by rw[List.length_map,List.length_map,List.length_take,List.length_drop];omega),<-List.map_append,cc]
  have:Zi WC (Oo U7 (Za 1) Jb (R6 (Za 2))) (Oo U7 (Za 1) (R6 (Zi ZW (Za 2) (eC (.int 1)))) Jb) [some (wP W),some (pP D),some (.int (b:Int)),none,none]=some (pP (Z2 m fun i=>XA W b (Zr D) i m)):=by
   show(Option.bind (U7 (pP D) none (some (b:Int))) fun x=>Option.bind (U7 (pP D) (some ((b:Int)+1)) none) fun y=>WC x y)=_
   rw[s1,s2];exact s3
  rw[ZE,Xh,this]
  show Option.map _ (if ZR (pP (Z2 m fun i=>XA W b (Zr D) i m))=true then _ else _)=_
  rw[if_pos (by simp)];rfl
 have e3:Zs 4 (Ze Yt [(Ze Z7 [(Za 0),(Za 2)]),(Za 3)]) [some (wP W),some (pP D),some (.int (b:Int)),some (pP (Z2 m fun i=>XA W b (Zr D) i m)),none]=some (.nx [some (wP W),some (pP D),some (.int (b:Int)),some (pP (Z2 m fun i=>XA W b (Zr D) i m)),some (.lst (iL (Z2 m fun i=>(E i m).fdiv d)))]):=by
  have sq:=Uj ok hb;rw[hm1] at sq
  have:Ze Yt [(Ze Z7 [(Za 0),(Za 2)]),(Za 3)] [some (wP W),some (pP D),some (.int (b:Int)),some (pP (Z2 m fun i=>XA W b (Zr D) i m)),none]=some (.lst (iL (Z2 m fun i=>(E i m).fdiv d))):=by
   have c1:Ze Z7 [(Za 0),(Za 2)] [some (wP W),some (pP D),some (.int (b:Int)),some (pP (Z2 m fun i=>XA W b (Zr D) i m)),none]=some (wP (Wa m m (WF W b))):=sq
   rw[ZX,ZD,c1];exact se
  rw[ZE,this];rfl
 generalize hl:Z2 m (fun i=>(E i m).fdiv d)=l at e3
 have ll:l.length=m:=by rw[<-hl,Xm]
 generalize pP (Z2 m fun i=>XA W b (Zr D) i m)=col at e1 e3
 have e4:Wv 4 (Za 2) (eC (.int 0)) [some (wP W),some (pP D),some (.int (b:Int)),some col,some (.lst (iL l))]=some (.nx [some (wP W),some (pP D),some (.int (b:Int)),some col,some (.lst (iL (l.take b++0::l.drop b)))]):=by
  rw[TY (k:=(b:Int)) (l:=.int 0) (m:=iL l) rfl rfl rfl (XI l) rfl (by omega) (by omega) (by rw[List.length_map,ll];omega),Int.toNat_natCast,La]
  rfl
 have S0at:∀h,h<W.length->Zr (l.take b++0::l.drop b) h=(R h).fdiv d:=fun h hh=>by
  rw[OS (by omega) (by omega)]
  by_cases q:h=b
  ·rw[if_pos q,q,Rb];simp
  ·rw[if_neg q,<-hl,W3 (PP (m:=m) (by omega) (by omega) q),<-Ro _ (PP (m:=m) (by omega) (by omega) q),Tu q]
 have run:Xs [wP W,pP D,.int (b:Int)]=some (pP (l.take b++0::l.drop b)):=by
  show YZ 5 Vi _=_
  unfold Vi
  show(Zt _ _ [some (wP W),some (pP D),some (.int (b:Int)),none,none]).bind XC=_
  rw[ZN e1,ZN e3,ZN e4]
  generalize l.take b++0::l.drop b=z
  simp
 have len:(l.take b++0::l.drop b).length=W.length:=by
  rw[List.length_append,List.length_take,List.length_cons,List.length_drop,ll];omega
 have S0b:Zr (l.take b++0::l.drop b) b=0:=by rw[OS (by omega) (by omega),if_pos rfl]
 rcases Int.lt_or_gt_of_ne nz with neg | pos
 ·refine⟨_,- d,fun h=>- R h,run,len,by omega,by show-R b=0;rw[Rb];rfl,S0b,fun h hh=>?_,fun h hh hne=>?_⟩
  ·have e:(R h).fdiv d=(- R h)/(- d):=by rw[<-Int.neg_fdiv_neg,Int.fdiv_eq_ediv_of_nonneg _ (by omega)]
   rw[S0at h hh,e]
   exact⟨Int.mul_ediv_self_le (by omega),Int.lt_mul_ediv_self_add (by omega)⟩
  ·have:=W5 (W:=W) (-1) R h
   rw[Rg h hh hne] at this
   rw[QH (Z:=fun x=>(-1)*R x) hh (fun g _=>by show-R g=(-1)*R g;omega),this,Int.neg_mul d];omega
 ·refine⟨_,d,R,run,len,pos,Rb,S0b,fun h hh=>?_,Rg⟩
  rw[S0at h hh,Int.fdiv_eq_ediv_of_nonneg _ (by omega)]
  exact⟨Int.mul_ediv_self_le (by omega),Int.lt_mul_ediv_self_add pos⟩
theorem Ix{c:XT}{fb:XS}(Jv:Nat->ZO->Prop)(step:∀k st,Jv k st->c st=some false\/(c st=some true/\∃s2 k',fb st=some (.nx s2)/\k'<k/\Jv k' s2)){k:Nat}{s:ZO}(h0:Jv k s) :
  ∃s' k',WO c fb s=some (.nx s')/\Jv k' s'/\c s'=some false:=by
 have gen:∀(n k:Nat)(st:ZO),k<n->Jv k st->∃s' k',Ys c fb n st=some (.nx s')/\Jv k' s'/\c s'=some false:=by
  intro n
  induction n with
  | zero=>intro k st h;omega
  | succ n ih=>
   intro k st hk hJ
   rcases step k st hJ with hc | ⟨hc,s2,k',e,hm,hJ2⟩
   ·exact⟨st,k,by unfold Ys;rw[hc];rfl,hJ,hc⟩
   ·obtain⟨s',k2,a,b,d⟩:=ih k' s2 (by omega) hJ2
    refine⟨s',k2,?_,b,d⟩
    unfold Ys;rw[hc];simp only[Option.bind_some,if_true,e];exact a
 obtain⟨s',k',a,b,d⟩:=gen (k+1) k s (by omega) h0
 exact⟨s',k',S4 a,b,d⟩
def Wb(n:Nat)(L:List Nat):List Int:=(List.range n).map fun h=>if h∈L then -1 else 0
theorem R3{W:List (List Int)}{L:List Nat}(hf:W.length<=7):YN [wP W,.lst (iL (nL L))]=some (pP (Wb W.length L)):=by
 have hc:Zu 1 [1] (ZL [(Ze YF [(Za 0)])]) (.one 0) ZA (O9 (xB (Zi (RF false) (Za 0) (Za 1))) (Lz SB (eC (.int 1))) (eC (.int 0))) [some (wP W),some (.lst (iL (nL L)))]=some (.lst (iL (Wb W.length L))):=by
  rw[XM (fun h=>if h∈L then -1 else 0) (Yj (n:=W.length) (by simp) (by omega)) (by omega) fun i hi=>⟨[some (.int (i:Int)),some (.lst (iL (nL L)))],rfl,rfl,?_⟩]
  ·rfl
  ·have g:=KB i L
   have t:xB (Zi (RF false) (Za 0) (Za 1)) [some (.int (i:Int)),some (.lst (iL (nL L)))]=some (decide (i∈L)):=by
    rw[YG]
    show(RF false (.int (i:Int)) (.lst (iL (nL L)))).bind Jc=_
    rw[g];rfl
   rw[V1,t]
   by_cases q:i∈L
   ·rw[if_pos q,decide_eq_true q];rfl
   ·rw[if_neg q,decide_eq_false q];rfl
 show YZ 2 X0 _=_
 unfold X0
 show(Z9 _ [some (wP W),some (.lst (iL (nL L)))]).bind XC=_
 have:Ze Ya [(Zu 1 [1] (ZL [(Ze YF [(Za 0)])]) (.one 0) ZA (O9 (xB (Zi (RF false) (Za 0) (Za 1))) (Lz SB (eC (.int 1))) (eC (.int 0))))] [some (wP W),some (.lst (iL (nL L)))]=some (pP (Wb W.length L)):=by
  simp only[ZX,ZD,RJ,hc,Option.bind_some,Option.map_some,MK]
 rw[Wl (v:=pP (Wb W.length L)) (by rw[Xh,this];simp)]
 rfl
theorem KM{n:Nat}{L:List Nat}{h:Nat}(hh:h<n):Zr (Wb n L) h=if h∈L then -1 else 0:=ZS hh
theorem R4{W:List (List Int)}{D S:List Int}{h:Nat}(hh:h<D.length):Zr (ZC W D S) h=Zr D h+gN W (Zr S) h:=by rw[Xy hh,OR]
structure QI(W:List (List Int))(b:Nat)(n0:Nat->Int)(B:Nat->Int):Prop where
 pos:∀h,h<W.length->0<=B h
 base:B b=0
 free:∀h,h<W.length->h≠b->0<=n0 h-gN W B h
theorem KN{W:List (List Int)}(ok:Z1 W)(cn:UM W){b:Nat}(hb:b<W.length)(n0:Nat->Int):∃B,QI W b n0 B:=by
 obtain⟨z,zb,_,zg⟩:=Rc ok cn hb (fun _=>1)
 have nz:=(Xu (PQ ok cn hb (fun _=>1)) (Nat.le_refl _)).nz
 generalize (Xf (W.length-1) (XA W b fun _=>1) (W.length-1)).2=d at zg nz
 obtain⟨y,yb,yg⟩:∃y:Nat->Int,y b=0/\∀h,h<W.length->h≠b->gN W y h<=-1:=by
  rcases Int.lt_or_gt_of_ne nz with neg | pos
  ·exact⟨fun x=>(-1)*z x,by show(-1)*z b=0;rw[zb];rfl,fun h hh hne=>by rw[W5,zg h hh hne];omega⟩
  ·exact⟨z,zb,fun h hh hne=>by rw[zg h hh hne];omega⟩
 have yp:=KJ ok cn (Y:=y) hb (fun h hh hne _=>by have:=yg h hh hne;omega)
 rw[yb] at yp
 obtain⟨K,hK⟩:∃K:Int,K=sN W.length (fun h=>((n0 h).natAbs:Int)):=⟨_,rfl⟩
 have K0:0<=K:=by rw[hK];exact YS fun i _=>by omega
 have Kge:∀h,h<W.length->- n0 h<=K:=fun h hh=>by
  have:∀n,h<n->- n0 h<=sN n (fun h=>((n0 h).natAbs:Int)):=by
   intro n
   induction n with
   | zero=>intro q;omega
   | succ n ih=>
    intro q
    show _<=sN n (fun h=>((n0 h).natAbs:Int))+((n0 n).natAbs:Int)
    by_cases e:h=n
    ·subst e
     have:=YS (f:=fun h=>((n0 h).natAbs:Int)) (n:=h) fun i _=>by omega
     omega
    ·have:=ih (by omega);omega
  rw[hK];exact this _ hh
 refine⟨fun x=>K*y x,fun h hh=>Int.mul_nonneg K0 (yp h hh),by show K*y b=0;rw[yb,Int.mul_zero],fun h hh hne=>?_⟩
 rw[W5];have h1:=yg h hh hne
 have h2:K*gN W y h<=K*(-1):=Int.mul_le_mul_of_nonneg_left h1 K0
 have h3:=Kge h hh;omega
theorem NM{W:List (List Int)}(ok:Z1 W){b:Nat}{n0 B B':Nat->Int}(f:QI W b n0 B')(le:∀h,h<W.length->B h<=B' h){h:Nat}(hh:h<W.length)(hne:h≠b)(debt:n0 h-gN W B h<0):B h<B' h:=by
 refine Int.lt_iff_le_and_ne.mpr ⟨le h hh,fun e=>?_⟩
 have h1:=f.free h hh hne
 have h2:gN W B h<=gN W B' h:=by
  have:0<=sN W.length (fun g=>Yd W h g*(B' g-B' h)+(-1)*(Yd W h g*(B g-B h))):=YS fun g hg=>by
   have e1:Yd W h g*(B' g-B' h)+(-1)*(Yd W h g*(B g-B h))=Yd W h g*(B' g-B g):=by
    rw[e,Int.neg_mul,Int.one_mul,<-Int.sub_eq_add_neg,<-Int.mul_sub];congr 1;omega
   rw[e1]
   exact Int.mul_nonneg (ok.lo h g hh hg) (by have:=le g hg;omega)
  rw[YV,Z8] at this;unfold gN;omega
 omega
structure Settled(W:List (List Int))(b:Nat)(N:List Int)(F:List Nat):Prop where
 free:∀h,h<W.length->h≠b->0<=Zr N h
 burn:Burn W N b F
 stop:Xp W N F=none
 all:∀h,h<W.length->h∈F
theorem Ls{W:List (List Int)}{N:List Int}(ok:Z1 W)(cn:UM W){b:Nat}(hb:b<W.length){n0 B R:Nat->Int}{d:Int}(hd0:0<d)(Rb:R b=0)(Re:∀h,h<W.length->0<=R h/\R h<d)(Rn:∀h,h<W.length->h≠b->gN W R h = - (d*n0 h))
  (hN:∀h,h<W.length->Zr N h=n0 h-gN W B h) (f:QI W b n0 B) (least:∀B',QI W b n0 B'->∀h,h<W.length->B h<=B' h) {F:List Nat} (Bu:Burn W N b F) (st:Xp W N F=none):∀h,h<W.length->h∈F:=by
 intro x hx
 refine Classical.byContradiction fun hxF=>?_
 have bF:b∈F:=List.mem_of_getElem? Bu.hd
 obtain⟨T,hT⟩:∃T:Nat->Int,∀h,T h=if h∈F then 0 else 1:=⟨_,fun _=>rfl⟩
 have Tb:T b=0:=by rw[hT,if_pos bF]
 have T01:∀h,0<=T h/\T h<=1:=fun h=>by rw[hT];split<;>omega
 -- what the houses outside lend to those that burn
 have tie:∀h,h<W.length->h∉F->gN W T h = - ZQ W h F:=fun h hh hF=>by
  have e1:gN W T h=(-1)*sN W.length (fun g=>if g∈F then Yd W h g else 0):=by
   unfold gN;rw[<-Z8]
   refine Zq fun g hg=>?_
   rw[hT,hT,if_neg hF]
   split
   ·rw[Int.zero_sub,Int.mul_neg,Int.mul_one];omega
   ·simp
  have e2:sN W.length (fun g=>if g∈F then Yd W h g else 0)=ZQ W h F:=by
   have gen:∀l:List Nat,l.Nodup->(∀x∈l,x<W.length)->sN W.length (fun g=>if g∈l then Yd W h g else 0)=(l.map fun o=>Yd W h o).sum:=by
    intro l
    induction l with
    | nil=>intro _ _;rw[Uh fun i _=>by simp];rfl
    | cons a r ih=>
     intro nd lt;rw[List.nodup_cons] at nd;rw[List.map_cons,List.sum_cons,<-ih nd.2 fun x hx=>lt x (List.mem_cons_of_mem _ hx)]
     have:Yd W h a=sN W.length (fun g=>if g=a then Yd W h a else 0):=by
      rw[Y2 (k:=a) (lt a List.mem_cons_self) fun i _ hi=>if_neg hi,if_pos rfl]
     rw[this,<-YV]
     refine Zq fun g hg=>?_
     by_cases q:g=a
     ·subst q
      rw[if_pos List.mem_cons_self,if_pos rfl,if_neg nd.1];omega
     ·by_cases q2:g∈r
      ·rw[if_pos (List.mem_cons_of_mem _ q2),if_neg q,if_pos q2];omega
      ·rw[if_neg (fun z=>(List.mem_cons.mp z).elim q q2),if_neg q,if_neg q2];rfl
   exact gen F Bu.nd Bu.lt
  rw[e1,e2];omega
 have tie':∀h,h<W.length->h∈F->0<=gN W T h:=fun h hh hF=>YS fun g hg=>by
  rw[show T h=0 by rw[hT,if_pos hF]]
  exact Int.mul_nonneg (ok.lo h g hh hg) (by have:=(T01 g).1;omega)
 have sub:∀h,gN W (fun x=>B x+(-1)*T x) h=gN W B h-gN W T h:=fun h=>by rw[R1,W5];omega
 have free:∀h,h<W.length->h≠b->0<=n0 h-gN W (fun x=>B x+(-1)*T x) h:=fun h hh hne=>by
  rw[sub]
  by_cases q:h∈F
  ·have:=tie' h hh q
   have:=f.free h hh hne
   omega
  ·have h1:=tie h hh q
   have h2:=PL st hh q;rw[hN h hh] at h2;omega
 have f2:QI W b n0 (fun x=>B x+(-1)*T x):=by
  refine⟨fun h hh=>?_,by show B b+(-1)*T b=0;rw[f.base,Tb];rfl,free⟩
  have up:=KJ ok cn (Y:=fun x=>R x+d*(B x+(-1)*T x)) hb (fun h hh hne _=>by
   rw[R1 R (fun x=>d*(B x+(-1)*T x)),W5,Rn h hh hne]
   have:=free h hh hne
   have h3:0<=d*(n0 h-gN W (fun x=>B x+(-1)*T x) h):=Int.mul_nonneg (by omega) this
   rw[Int.mul_sub] at h3
   omega) h hh
  have up:R b+d*(B b+(-1)*T b)<=R h+d*(B h+(-1)*T h):=up
  rw[Rb,f.base,Tb] at up
  have:=(Re h hh).2
  refine Int.not_lt.mp fun neg=>?_
  have h4:B h+(-1)*T h<=-1:=by
   have neg:B h+(-1)*T h<0:=neg
   omega
  have h5:d*(B h+(-1)*T h)<=d*(-1):=Int.mul_le_mul_of_nonneg_left h4 (by omega)
  omega
 have h1:=least _ f2 x hx
 have h1:B x<=B x+(-1)*T x:=h1
 rw[show T x=1 by rw[hT,if_neg hxF]] at h1
 omega
theorem NN{W:List (List Int)}{D:List Int}{b:Nat}(ok:Z1 W)(cn:UM W)(hd:D.length=W.length)(hb:b<W.length)(hD:∀h,h<W.length->(Zr D h).natAbs<=2^208) :
  ∃(S N:List Int) (F:List Nat),Wj [wP W,pP D,.int (b:Int)]=some (.tup [pP (Xk S),pP N,.lst (iL (nL F))])/\S.length=W.length/\N=ZC W D S/\Settled W b N F:=by
 have hp:=ok.pos;have hf:=ok.few
 obtain⟨S0,d,R,en,l0,d0,Rb,S0b,Rs,Rg⟩:=PX ok cn hd hb hD
 obtain⟨n0,hn0⟩:∃n0:Nat->Int,∀h,n0 h=Zr D h+gN W (Zr S0) h:=⟨_,fun _=>rfl⟩
 obtain⟨Bs,fs⟩:=KN ok cn hb n0
 have rl:∀S:List Int,(ZC W D S).length=W.length:=fun S=>by rw[Yg,hd]
 let st:List Int->Option PV->ZO:=fun S x6=>[some (wP W),some (pP D),some (.int (b:Int)),some (pP S),some (pP (ZC W D S)),some (.lst (iL (nL (Xd (ZC W D S) b)))),x6]
 have near:∀(S:List Int)(B:Nat->Int),(∀h,h<W.length->Zr S h=Zr S0 h-B h)->∀h,h<W.length->Zr (ZC W D S) h=n0 h-gN W B h:=fun S B e h hh=>by
  rw[R4 (by omega),hn0,QH (Z:=fun x=>Zr S0 x+(-1)*B x) hh (fun g hg=>by rw[e g hg];omega),R1,W5];omega
 let J:Nat->ZO->Prop:=fun k s=>∃(S:List Int) (B:Nat->Int) (x6:Option PV),s=st S x6/\S.length=W.length/\(∀h,h<W.length->Zr S h=Zr S0 h-B h)/\(∀h,h<W.length->0<=B h)/\B b=0/\(∀B',QI W b n0 B'->∀h,h<W.length->B h<=B' h)/\k=(sN W.length (fun h=>Bs h-B h)).toNat
 have j0:J (sN W.length (fun h=>Bs h-0)).toNat (st S0 none):=⟨S0,fun _=>0,none,rfl,l0,fun h _=>by(show Zr S0 h=Zr S0 h-0);omega,fun h _=>Int.le_refl 0,rfl,fun B' f h hh=>f.pos h hh,rfl⟩
 obtain⟨s',k',w1,⟨S,B,x6,rfl,lS,eS,B0,Bb,Bl,_⟩,w3⟩:=Ix (c:=xB (Zi NU (Ze YF [(Za 5)]) (eC (.int 0)))) (fb:=(Zt (Zs 6 (Ze YN [(Za 0),(Za 5)]))
  (Zt (Zs 3 (Ze WS [(Za 3),(Za 6)]))
  (Zt (Zs 4 (Ze WR [(Za 0),(Za 4),(Za 6)]))
  (Zs 5 (Ze YE [(Za 4),(Za 2)])))))) J (by
   rintro k s ⟨S,B,x6,rfl,lS,eS,B0,Bb,Bl,rfl⟩
   have cv:xB (Zi NU (Ze YF [(Za 5)]) (eC (.int 0))) (st S x6)=some (decide ((0:Int)<((Xd (ZC W D S) b).length:Int))):=by
    show some (decide ((0:Int)<((iL (nL (Xd (ZC W D S) b))).length:Int)))=_
    simp[nL]
   by_cases q:Xd (ZC W D S) b=[]
   ·left
    rw[cv,q];rfl
   ·right
    have ql:0<(Xd (ZC W D S) b).length:=List.length_pos_iff.mpr q
    refine⟨by rw[cv,decide_eq_true (by omega)],?_⟩
    generalize hL:Xd (ZC W D S) b=L at *
    have memL:∀h,h∈L↔h<W.length/\h≠b/\Zr (ZC W D S) h<0:=fun h=>by rw[<-hL,Ll,rl]
    let S':=Qy S (Wb W.length L)
    have lb:(Wb W.length L).length=W.length:=by simp[Wb]
    have lS':S'.length=W.length:=by rw[Qz];exact lS
    have e1:Zs 6 (Ze YN [(Za 0),(Za 5)]) [some (wP W),some (pP D),some (.int (b:Int)),some (pP S),some (pP (ZC W D S)),some (.lst (iL (nL L))),x6]=some (.nx [some (wP W),some (pP D),some (.int (b:Int)),some (pP S),some (pP (ZC W D S)),some (.lst (iL (nL L))),some (pP (Wb W.length L))]):=by
     have:Ze YN [(Za 0),(Za 5)] [some (wP W),some (pP D),some (.int (b:Int)),some (pP S),some (pP (ZC W D S)),some (.lst (iL (nL L))),x6]=some (pP (Wb W.length L)):=R3 hf
     rw[ZE,this];rfl
    have e2:Zs 3 (Ze WS [(Za 3),(Za 6)]) [some (wP W),some (pP D),some (.int (b:Int)),some (pP S),some (pP (ZC W D S)),some (.lst (iL (nL L))),some (pP (Wb W.length L))]=some (.nx [some (wP W),some (pP D),some (.int (b:Int)),some (pP S'),some (pP (ZC W D S)),some (.lst (iL (nL L))),some (pP (Wb W.length L))]):=by
     have:Ze WS [(Za 3),(Za 6)] [some (wP W),some (pP D),some (.int (b:Int)),some (pP S),some (pP (ZC W D S)),some (.lst (iL (nL L))),some (pP (Wb W.length L))]=some (pP S'):=Ky (by omega) (by omega)
     rw[ZE,this];rfl
    have rr:ZC W (ZC W D S) (Wb W.length L)=ZC W D S':=RX hd fun i hi=>Sc (by omega)
    have e3:Zs 4 (Ze WR [(Za 0),(Za 4),(Za 6)]) [some (wP W),some (pP D),some (.int (b:Int)),some (pP S'),some (pP (ZC W D S)),some (.lst (iL (nL L))),some (pP (Wb W.length L))]=some (.nx [some (wP W),some (pP D),some (.int (b:Int)),some (pP S'),some (pP (ZC W D S')),some (.lst (iL (nL L))),some (pP (Wb W.length L))]):=by
     have:Ze WR [(Za 0),(Za 4),(Za 6)] [some (wP W),some (pP D),some (.int (b:Int)),some (pP S'),some (pP (ZC W D S)),some (.lst (iL (nL L))),some (pP (Wb W.length L))]=some (pP (ZC W D S')):=by
      rw[<-rr];exact M8 ok (rl S) lb
     rw[ZE,this];rfl
    have e4:Zs 5 (Ze YE [(Za 4),(Za 2)]) [some (wP W),some (pP D),some (.int (b:Int)),some (pP S'),some (pP (ZC W D S')),some (.lst (iL (nL L))),some (pP (Wb W.length L))]=some (.nx (st S' (some (pP (Wb W.length L))))):=by
     have:Ze YE [(Za 4),(Za 2)] [some (wP W),some (pP D),some (.int (b:Int)),some (pP S'),some (pP (ZC W D S')),some (.lst (iL (nL L))),some (pP (Wb W.length L))]=some (.lst (iL (nL (Xd (ZC W D S') b)))):=Sj (by rw[rl];omega)
     rw[ZE,this];rfl
    obtain⟨B',hB'⟩:∃B':Nat->Int,∀h,B' h=B h+(if h∈L then 1 else 0):=⟨_,fun _=>rfl⟩
    have less:∀C,QI W b n0 C->∀h,h<W.length->B' h<=C h:=fun C fc h hh=>by
     rw[hB']
     by_cases z:h∈L
     ·rw[if_pos z]
      obtain⟨_,z2,z3⟩:=(memL h).mp z
      rw[near S B eS h hh] at z3
      have:=NM ok fc (fun g hg=>Bl C fc g hg) hh z2 z3
      omega
     ·rw[if_neg z]
      have:=Bl C fc h hh
      omega
    refine⟨st S' (some (pP (Wb W.length L))),(sN W.length (fun h=>Bs h-B' h)).toNat,?_,?_,S',B',_,rfl,lS',fun h hh=>?_,fun h hh=>?_,?_,less,rfl⟩
    ·show Zt _ _ [some (wP W),some (pP D),some (.int (b:Int)),some (pP S),some (pP (ZC W D S)),some (.lst (iL (nL (Xd (ZC W D S) b)))),x6]=_
     rw[hL,ZN e1,ZN e2,ZN e3,e4]
    ·have p1:0<=sN W.length (fun h=>Bs h-B' h):=YS fun h hh=>by have:=less Bs fs h hh;omega
     have p2:sN W.length (fun h=>Bs h-B h)=sN W.length (fun h=>Bs h-B' h)+sN W.length (fun h=>if h∈L then 1 else 0):=by
      rw[<-YV]
      exact Zq fun h _=>by rw[hB'];omega
     have p3:0<sN W.length (fun h=>if h∈L then(1:Int) else 0):=by
      refine Int.not_le.mp fun z=>?_
      obtain⟨x,hx⟩:=List.exists_mem_of_length_pos ql
      have:=W4 (f:=fun h=>if h∈L then(1:Int) else 0) (fun i _=>by split<;>omega) z x ((memL x).mp hx).1
      rw[if_pos hx] at this;omega
     omega
    ·rw[Sc (by omega),KM hh,eS h hh,hB']
     split<;>omega
    ·have:=B0 h hh
     rw[hB'];split<;>omega
    ·rw[hB',if_neg (fun z=>((memL b).mp z).2.1 rfl),Bb];rfl) j0
 have hnil:Xd (ZC W D S) b=[]:=by
  refine Classical.byContradiction fun q=>?_
  have ql:0<(Xd (ZC W D S) b).length:=List.length_pos_iff.mpr q
  have cv:xB (Zi NU (Ze YF [(Za 5)]) (eC (.int 0))) (st S x6)=some (decide ((0:Int)<((Xd (ZC W D S) b).length:Int))):=by
   show some (decide ((0:Int)<((iL (nL (Xd (ZC W D S) b))).length:Int)))=_
   simp[nL]
  rw[cv,decide_eq_true (by omega)] at w3;cases w3
 have free:=debt_nil.mp hnil;rw[rl] at free;have nr:=near S B eS
 have fB:QI W b n0 B:=⟨B0,Bb,fun h hh hne=>by rw[<-nr h hh];exact free h hh hne⟩
 obtain⟨F,eF,Bu,stp⟩:=Lk (D:=ZC W D S) ok (rl S) hb
 -- what the rounding left
 have all:=Ls (N:=ZC W D S) ok cn hb (n0:=n0) (B:=B) (R:=fun h=>R h+(- d)*Zr S0 h) d0 (by show R b+(- d)*Zr S0 b=0;rw[Rb,S0b,Int.mul_zero];rfl)
  (fun h hh=>by
   have:=Rs h hh
   show 0<=R h+(- d)*Zr S0 h/\R h+(- d)*Zr S0 h<d
   rw[Int.neg_mul]
   omega)
  (fun h hh hne=>by rw[R1 R (fun x=>(- d)*Zr S0 x),W5,Rg h hh hne,hn0,Int.mul_add,Int.neg_mul];omega) nr fB Bl Bu stp
 refine⟨S,ZC W D S,F,?_,lS,rfl,free,Bu,stp,all⟩
 have e1:Zs 3 (Ze Xs [(Za 0),(Za 1),(Za 2)]) [some (wP W),some (pP D),some (.int (b:Int)),none,none,none,none]=some (.nx [some (wP W),some (pP D),some (.int (b:Int)),some (pP S0),none,none,none]):=by
  have:Ze Xs [(Za 0),(Za 1),(Za 2)] [some (wP W),some (pP D),some (.int (b:Int)),none,none,none,none]=some (pP S0):=en
  rw[ZE,this];rfl
 have e2:Zs 4 (Ze WR [(Za 0),(Za 1),(Za 3)]) [some (wP W),some (pP D),some (.int (b:Int)),some (pP S0),none,none,none]=some (.nx [some (wP W),some (pP D),some (.int (b:Int)),some (pP S0),some (pP (ZC W D S0)),none,none]):=by
  have:Ze WR [(Za 0),(Za 1),(Za 3)] [some (wP W),some (pP D),some (.int (b:Int)),some (pP S0),none,none,none]=some (pP (ZC W D S0)):=M8 ok hd l0
  rw[ZE,this];rfl
 have e3:Zs 5 (Ze YE [(Za 4),(Za 2)]) [some (wP W),some (pP D),some (.int (b:Int)),some (pP S0),some (pP (ZC W D S0)),none,none]=some (.nx (st S0 none)):=by
  have:Ze YE [(Za 4),(Za 2)] [some (wP W),some (pP D),some (.int (b:Int)),some (pP S0),some (pP (ZC W D S0)),none,none]=some (.lst (iL (nL (Xd (ZC W D S0) b)))):=Sj (by rw[rl];omega)
  rw[ZE,this];rfl
 show YZ 7 Ud _=_
 unfold Ud
 show(Zt _ _ [some (wP W),some (pP D),some (.int (b:Int)),none,none,none,none]).bind XC=_
 rw[ZN e1,ZN e2,ZN e3,ZN w1]
 have g1:Ze Vj [(Za 3)] (st S x6)=some (pP (Xk S)):=PU (by omega) (by omega)
 have g2:eP (Za 4) (st S x6)=some (pP (ZC W D S)):=by
  show(some (pP (ZC W D S))).bind (fun l=>if ZR l=true then some l else none)=_
  simp
 have g3:Ze Ua [(Za 0),(Za 4),(Za 2)] (st S x6)=some (.lst (iL (nL F))):=eF
 rw[Wl (v:=.tup [pP (Xk S),pP (ZC W D S),.lst (iL (nL F))]) (by rw[MG,ZD,ZD,ZD,g1,g2,g3];rfl)]
 rfl
theorem Lu{W:List (List Int)}{D S:List Int}{X Y:PV}(ok:Z1 W)(hd:D.length=W.length)(hx:∀k:Nat,k<W.length->Yb X (.int (k:Int))=some (.int (Zr D k)))(hy:∀k:Nat,k<W.length->Yb Y (.int (k:Int))=some (.int (Zr S k))) :
  X1 [wP W,X,Y]=some (pP (ZC W D S)):=by
 have hf:=ok.few
 let fb:XS:=(Zt (Zs 5 (eP (Ze Xn [(Zu 1 [0,4,2] (ZL [(Ze YF [(Za 0)])]) (.one 0) ZA (Zi Vm (Zi Yb (Zi Yb (Za 1) (Za 2)) (Za 0)) (Zi Xe (Zi Yb (Za 3) (Za 2)) (Zi Yb (Za 3) (Za 0)))))])))
  (XZ 3 (eP (Zi Xe (Zi Yb (Za 1) (Za 4)) (Za 5)))))
 obtain⟨s',f1,x4,x5,hs⟩:=Xx (T:=.one 4) (fb:=fb) (ls:=WL W.length) (s:=[some (wP W),some X,some Y,some (.lst (iL [])),none,none])
  (fun i st=>∃x4 x5,st=[some (wP W),some X,some Y,some (.lst (iL ((ZC W D S).take i))),x4,x5]) ⟨none,none,by simp⟩ (by
   rintro k l st hl ⟨x4,x5,rfl⟩
   obtain⟨hk,rfl⟩:=WQ hl
   have hc:Zu 1 [0,4,2] (ZL [(Ze YF [(Za 0)])]) (.one 0) ZA (Zi Vm (Zi Yb (Zi Yb (Za 1) (Za 2)) (Za 0)) (Zi Xe (Zi Yb (Za 3) (Za 2)) (Zi Yb (Za 3) (Za 0)))) [some (wP W),some X,some Y,some (.lst (iL ((ZC W D S).take k))),some (.int (k:Int)),x5]=some (.lst (iL ((List.range W.length).map fun j=>Yd W k j*(Zr S k-Zr S j)))):=by
    refine XM (fun j=>Yd W k j*(Zr S k-Zr S j)) (Yj (n:=W.length) (by simp) (by omega)) (by omega) fun j hj=>⟨[some (.int (j:Int)),some (wP W),some (.int (k:Int)),some Y],rfl,rfl,?_⟩
    have i1:Zi Yb (Zi Yb (Za 1) (Za 2)) (Za 0) [some (.int (j:Int)),some (wP W),some (.int (k:Int)),some Y]=some (.int (Yd W k j)):=by
     have h1:=V2 (W:=W) hk
     have h2:=Y5 (l:=ZF W k) (k:=j) (by rw[ok.sq k hk];exact hj)
     have h3:Zi Yb (Za 1) (Za 2) [some (.int (j:Int)),some (wP W),some (.int (k:Int)),some Y]=some (pP (ZF W k)):=h1
     rw[Y0,h3];exact h2
    have i2:Zi Yb (Za 3) (Za 2) [some (.int (j:Int)),some (wP W),some (.int (k:Int)),some Y]=some (.int (Zr S k)):=hy k hk
    have i3:Zi Yb (Za 3) (Za 0) [some (.int (j:Int)),some (wP W),some (.int (k:Int)),some Y]=some (.int (Zr S j)):=hy j hj
    have lo:=ok.lo k j hk hj;have hi:=ok.hi k j hk hj
    exact vC (C:=CMul) (op:=(· * ·)) i1 (vI i2 i3) (Pf (by omega) (by omega))
   have hsum:Ze Xn [(Zu 1 [0,4,2] (ZL [(Ze YF [(Za 0)])]) (.one 0) ZA (Zi Vm (Zi Yb (Zi Yb (Za 1) (Za 2)) (Za 0)) (Zi Xe (Zi Yb (Za 3) (Za 2)) (Zi Yb (Za 3) (Za 0)))))] [some (wP W),some X,some Y,some (.lst (iL ((ZC W D S).take k))),some (.int (k:Int)),x5]=some (.int (((List.range W.length).map fun j=>Yd W k j*(Zr S k-Zr S j)).sum)):=by
    simp only[ZX,ZD,RJ,hc,Option.bind_some,Option.map_some]
    exact Pe _
   generalize ho:((List.range W.length).map fun j=>Yd W k j*(Zr S k-Zr S j)).sum=o at hsum
   have hval:Zr D k-o=Zr (ZC W D S) k:=by
    rw[Xy (by omega),<-ho,X3,OR];unfold gN
    have:sN W.length (fun j=>Yd W k j*(Zr S k-Zr S j))=(-1)*sN W.length (fun g=>Yd W k g*(Zr S g-Zr S k)):=by
     rw[<-Z8]
     exact Zq fun j _=>by rw[Int.mul_left_comm];congr 1;omega
    rw[this];omega
   have e1:Zs 5 (eP (Ze Xn [(Zu 1 [0,4,2] (ZL [(Ze YF [(Za 0)])]) (.one 0) ZA (Zi Vm (Zi Yb (Zi Yb (Za 1) (Za 2)) (Za 0)) (Zi Xe (Zi Yb (Za 3) (Za 2)) (Zi Yb (Za 3) (Za 0)))))])) [some (wP W),some X,some Y,some (.lst (iL ((ZC W D S).take k))),some (.int (k:Int)),x5]=some (.nx [some (wP W),some X,some Y,some (.lst (iL ((ZC W D S).take k))),some (.int (k:Int)),some (.int o)]):=by
    rw[ZE,vP hsum];rfl
   have hpx:Zi Yb (Za 1) (Za 4) [some (wP W),some X,some Y,some (.lst (iL ((ZC W D S).take k))),some (.int (k:Int)),some (.int o)]=some (.int (Zr D k)):=hx k hk
   have hap:=vP (vI (op:=(· - ·)) hpx (show(Za 5:XE) [some (wP W),some X,some Y,some (.lst (iL ((ZC W D S).take k))),some (.int (k:Int)),some (.int o)]=some (.int o) from rfl))
   rw[hval] at hap
   refine⟨_,_,rfl,?_,some (.int (k:Int)),some (.int o),rfl⟩
   show Zt _ _ [some (wP W),some X,some Y,some (.lst (iL ((ZC W D S).take k))),some (.int (k:Int)),x5]=_
   rw[ZN e1,TX (m:=iL ((ZC W D S).take k)) (l:=.int (Zr (ZC W D S) k)) hap rfl (by simp;omega)]
   have hkl:k<(ZC W D S).length:=by rw[Yg];omega
   have:(ZC W D S).take (k+1)=(ZC W D S).take k++[Zr (ZC W D S) k]:=by
    rw[List.take_succ_eq_append_getElem hkl];simp[Zr,List.getD_eq_getElem?_getD,List.getElem?_eq_getElem hkl]
   rw[this]
   simp)
 subst hs
 rw[TW,List.take_of_length_le (by rw[Yg];omega)] at f1
 have e1:Zs 3 (Wf []) [some (wP W),some X,some Y,none,none,none]=some (.nx [some (wP W),some X,some Y,some (.lst (iL [])),none,none]):=rfl
 have e2:Wg [3] (ZL [(Ze YF [(Za 0)])]) (.one 4) fb [some (wP W),some X,some Y,some (.lst (iL [])),none,none]=some (.nx [some (wP W),some X,some Y,some (.lst (iL (ZC W D S))),x4,x5]):=by
  show(ZL [(Ze YF [(Za 0)])] (Yz [3] [some (wP W),some X,some Y,some (.lst (iL [])),none,none])).bind _=_
  rw[Yj (n:=W.length) (by simp[Yz]) (by omega)];exact f1
 show YZ 6 Tp _=_
 unfold Tp
 show(Zt _ _ [some (wP W),some X,some Y,none,none,none]).bind XC=_
 rw[ZN e1,ZN e2]
 generalize ZC W D S=z
 simp
theorem OU{n:Nat}{l:List Int}(h:l.length=n):∀k:Nat,k<n->Yb (pP l) (.int (k:Int))=some (.int (Zr l k)):=fun k hk=>Y5 (by omega)
theorem HA{n:Nat}{l:List Int}(h:l.length=n):∀k:Nat,k<n->Yb (.lst (iL l)) (.int (k:Int))=some (.int (Zr l k)):=fun k hk=>Y5 (by omega)
theorem NO{l:List Int}(hp:0<l.length):YX (Xk l)=0:=by
 rw[ND (- YX l) (Se l) hp fun i hi=>by rw[Sf hi];omega];omega
theorem KO(Y:Nat->Int){n:Nat}(h:0<n):∃h,h<n/\∀g,g<n->Y g<=Y h:=by
 obtain⟨x,h1,h2⟩:=So (fun i=>- Y i) h
 exact⟨x,h1,fun g hg=>by have:=h2 g hg;have : - Y x<=- Y g:=this;omega⟩
theorem KP{W:List (List Int)}(ok:Z1 W){h:Nat}(hh:h<W.length){P:Nat->Prop}[DecidablePred P]:∀{l:List Nat},l.Nodup->(∀x∈l,x<W.length/\¬P x)->ZQ W h l<=sN W.length (fun g=>if P g then 0 else Yd W h g):=by
 intro l nd hl
 have gen:∀l:List Nat,l.Nodup->(∀x∈l,x<W.length)->sN W.length (fun g=>if g∈l then Yd W h g else 0)=(l.map fun o=>Yd W h o).sum:=by
  intro l
  induction l with
  | nil=>intro _ _;rw[Uh fun i _=>by simp];rfl
  | cons a r ih=>
   intro nd lt;rw[List.nodup_cons] at nd;rw[List.map_cons,List.sum_cons,<-ih nd.2 fun x hx=>lt x (List.mem_cons_of_mem _ hx)]
   have:Yd W h a=sN W.length (fun g=>if g=a then Yd W h a else 0):=by
    rw[Y2 (k:=a) (lt a List.mem_cons_self) fun i _ hi=>if_neg hi,if_pos rfl]
   rw[this,<-YV]
   refine Zq fun g hg=>?_
   by_cases q:g=a
   ·subst q
    rw[if_pos List.mem_cons_self,if_pos rfl,if_neg nd.1];omega
   ·by_cases q2:g∈r
    ·rw[if_pos (List.mem_cons_of_mem _ q2),if_neg q,if_pos q2];omega
    ·rw[if_neg (fun z=>(List.mem_cons.mp z).elim q q2),if_neg q,if_neg q2];rfl
 unfold ZQ;rw[<-gen l nd fun x hx=>(hl x hx).1]
 have:0<=sN W.length (fun g=>(if P g then 0 else Yd W h g)+(-1)*(if g∈l then Yd W h g else 0)):=YS fun g hg=>by
  have:=ok.lo h g hh hg
  by_cases q:g∈l
  ·rw[if_pos q,if_neg (hl g q).2];omega
  ·rw[if_neg q];split<;>omega
 rw[YV,Z8] at this;omega
theorem Lv{f:Nat->Int}{M:Nat}:∀{n:Nat},(∀i,i<n->(f i).natAbs<=M)->(sN n f).natAbs<=n*M
 | 0,_=>by show(0:Int).natAbs<=_;simp
 | n+1,h=>by
  have h1:=Lv (n:=n) fun i hi=>h i (by omega)
  have h2:=h n (by omega)
  show(sN n f+f n).natAbs<=_
  rw[Nat.add_mul,Nat.one_mul];omega
theorem Iy{W:List (List Int)}(ok:Z1 W){Y:Nat->Int}{M:Nat}(hY:∀g,g<W.length->(Y g).natAbs<=M){h:Nat}(hh:h<W.length):(gN W Y h).natAbs<=126*M:=by
 have hf:=ok.few
 have:=Lv (f:=fun g=>Yd W h g*(Y g-Y h)) (M:=18*M) (n:=W.length) fun g hg=>by
  have lo:=ok.lo h g hh hg;have hi:=ok.hi h g hh hg;rw[Int.natAbs_mul]
  have h1:(Yd W h g).natAbs<=9:=by omega
  have h2:(Y g-Y h).natAbs<=2*M:=by have:=hY g hg;have:=hY h hh;omega
  calc (Yd W h g).natAbs*(Y g-Y h).natAbs<=9*(2*M):=Nat.mul_le_mul h1 h2
   _=18*M:=by omega
 unfold gN
 have h3:W.length*(18*M)<=7*(18*M):=Nat.mul_le_mul_right _ hf
 omega
theorem KQ{W:List (List Int)}(ok:Z1 W){D S:List Int}{A M:Nat}(hd:D.length=W.length)(hD:∀h,h<W.length->(Zr D h).natAbs<=A)(hS:∀h,h<W.length->(Zr S h).natAbs<=M){h:Nat}(hh:h<W.length):(Zr (ZC W D S) h).natAbs<=A+126*M:=by
 rw[R4 (by omega)]
 have:=Iy ok hS hh
 have:=hD h hh
 omega
theorem Lw(l:List Int):l.sum=sN l.length (Zr l):=by rw[<-X3,Ry]
theorem KR{ns:List Int}(hns:ns.length<=63)(hbd:∀n∈ns,n.natAbs.log2<=1048576):∃(W:List (List Int)) (D:List Int),Vd [PV.cst (iL ns),PV.int 7]=some (wP W)/\Z1 W/\UM W/\D=VC ns 13 W.length/\Xr [PV.cst (iL ns),PV.int 13,PV.int (W.length:Int)]=some (pP D)/\D.length=W.length/\∀h,h<W.length->(Zr D h).natAbs<=10^29:=by
 obtain⟨W,eW,ok,cn,hm⟩:=Li hns (mo:=7) (by omega) (by omega)
 have hf:=ok.few
 exact⟨W,VC ns 13 W.length,eW,ok,cn,rfl,PF hns hbd (a:=13) (n:=W.length) (by omega) (by omega),NG _ _ _,fun h hh=>by
  rw[show Zr (VC ns 13 W.length) h=Xo (ZJ ns (13+h)) from ZS hh]
  have:=PD (ZJ ns (13+h))
  omega⟩
def PY(c:Int):Int:=if c%4=3 then c*c%(2*10^26)-10^26 else c.fdiv 4%9-4
theorem PZ{c:Int}(h:c.natAbs.log2<=1048576):Wk [.int c]=some (.int (PY c)):=by
 have c1:CMulW c c:=⟨by omega,by omega⟩
 have c2:CMulW 2 (10^26):=⟨Vl (by decide),Vl (by decide)⟩
 have c3:V7 c 4:=⟨by decide,by decide +kernel⟩
 have p:∀s:ZO,Zi Vv (eC (.int 10)) (eC (.int 26)) s=some (.int (10^26)):=fun s=>vC (a:=10) (b:=26) (C:=Rq) (op:=fun i j=>i^j.toNat) rfl rfl (by decide)
 show YZ 1 Vk _=_
 unfold Vk PY
 show(Zt _ _ [some (.int c)]).bind XC=_
 by_cases h4:c%4=3
 ·rw[if_pos h4,QA (v:=.int (c*c%(2*10^26)-10^26))]
  ·rfl
  ·have t:xB (Zi (YJ false) (Zi Y4 (Za 0) (eC (.int 4))) (eC (.int 3))) [some (.int c)]=some true:=by simp[h4]
   rw[Z4,t];simp only[Option.bind_some,if_true]
   exact Wl (vP (vI (vC (vC rfl rfl c1) (vC rfl (p _) c2) (by decide)) (p _)))
 ·have t:xB (Zi (YJ false) (Zi Y4 (Za 0) (eC (.int 4))) (eC (.int 3))) [some (.int c)]=some false:=by simp[h4]
  rw[if_neg h4,ZN (s1:=[some (.int c)]) (by rw[Z4,t];rfl),Wl (vP (vI (vC (vC rfl rfl c3) rfl (by decide)) rfl))]
  rfl
theorem NP(c:Int):(PY c).natAbs<=10^26:=by
 unfold PY
 split
 ·have h0:=Int.emod_nonneg (c*c) (show(2*10^26:Int)≠0 by decide)
  have h1:=Int.emod_lt_of_pos (c*c) (show(0:Int)<2*10^26 by decide)
  omega
 ·have h0:=Int.emod_nonneg (c.fdiv 4) (show(9:Int)≠0 by decide)
  have h1:=Int.emod_lt_of_pos (c.fdiv 4) (show(0:Int)<9 by decide)
  omega
def Y3(ns:List Int)(a n:Nat):List Int:=(List.range n).map fun k=>PY (ZJ ns (a+k))
theorem Sq(ns:List Int)(a n:Nat):(Y3 ns a n).length=n:=by simp[Y3]
theorem Sr{ns:List Int}{a n h:Nat}(hh:h<n):(Zr (Y3 ns a n) h).natAbs<=10^26:=by
 rw[show Zr (Y3 ns a n) h=PY (ZJ ns (a+h)) from ZS hh];exact NP _
theorem UY{ns:List Int}(hns:ns.length<=63)(hb:∀n∈ns,n.natAbs.log2<=1048576){a n:Nat}(ha:a<=60)(hn:n<=7):ZZ [.cst (iL ns),.int (a:Int),.int (n:Int)]=some (pP (Y3 ns a n)):=by
 have hc:Zu 1 [0,1] (ZL [Za 2]) (.one 0) ZA (Ze Wk [Ze Zp [Za 1,Zi ZW (Za 2) (Za 0)]]) [some (.cst (iL ns)),some (.int (a:Int)),some (.int (n:Int))]=some (.lst (iL (Y3 ns a n))):=by
  rw[XM (fun i=>PY (ZJ ns (a+i))) (Yj (n:=n) (by simp) (by omega)) (by omega) fun i hi=>⟨_,rfl,rfl,?_⟩]
  ·rfl
  ·have e1:=YR hns (k:=a+i) (by omega)
   have h1:((a+i:Nat):Int)=(a:Int)+(i:Int):=by omega
   rw[h1] at e1;simp[ZK,e1,PZ (Sg hb (a+i))]
 simp[ZZ,Vz,YZ,ZY,hc]
theorem NQ{ns:List Int}(hns:ns.length<=63)(lo hi:Nat):∃cs:List Int,Vx (iL ns) (some (lo:Int)) (some (hi:Int))=iL cs/\cs.length<=63:=by
 obtain⟨m,e,l⟩:=Lg ns (some (lo:Int)) (some (hi:Int))
 exact⟨m,e,by omega⟩
theorem P0{ns:List Int}(hns:ns.length<=63){n ci hi oi ni:Nat}(st:List Int->Option PV->Option PV->ZO)(hn1:1<=n)(hn:n<=7)(sc:∀O x y c,(st O x y).set ci (some c)=st O (some c) y)(sh:∀O x y c,(st O x y).set hi (some c)=st O x (some c))(so:∀O x y l,(st O x y).set oi (some (.lst (iL l)))=st l x y)
  (gc:∀O x y,(st O x y)[ci]?=some x) (gh:∀O x y,(st O x y)[hi]?=some y) (go:∀O x y,(st O x y)[oi]?=some (some (.lst (iL O)))) (gn:∀O x y,(st O x y)[ni]?=some (some (.int (n:Int)))) {O0:List Int} (l0:O0.length=n) (b0:∀h,h<n->(Zr O0 h).natAbs<=10^26) (x0 y0:Option PV)
  (e0:(Yz [oi] (st O0 x0 y0))[0]?=some (some (.cst (iL ns)))) :
  ∃O x y,Wg [oi] (XH (Oo Nh (Za 0) (R6 (eC (.int 27))) (R6 (eC (.int 62))))) (.one ci) (Zt (Zs hi (Ze Zl [(Za ci),(eC (.int 8)),(Za ni)])) (Uz oi (Za hi) (Zi ZW (Zi Yb (Za oi) (Za hi)) (eC (.int 1))))) (st O0 x0 y0)=some (.nx (st O x y))/\O.length=n/\∀h,h<n->(Zr O h).natAbs<=10^26+63:=by
 obtain⟨cs,ecs,lcs⟩:=NQ hns 27 62
 obtain⟨s',f1,O,x,y,hs,lO,bO⟩:=Xx (T:=.one ci) (fb:=Zt (Zs hi (Ze Zl [(Za ci),(eC (.int 8)),(Za ni)])) (Uz oi (Za hi) (Zi ZW (Zi Yb (Za oi) (Za hi)) (eC (.int 1))))) (ls:=iL cs) (s:=st O0 x0 y0)
  (fun i s=>∃O x y,s=st O x y/\O.length=n/\∀h,h<n->(Zr O h).natAbs<=10^26+i) ⟨O0,x0,y0,rfl,l0,fun h hh=>by have:=b0 h hh;omega⟩ (by
   rintro i l s hl ⟨O,x,y,rfl,lO,bO⟩
   obtain⟨c,rfl⟩:∃c,l = .int c:=by
    rw[List.getElem?_map] at hl
    cases q:cs[i]? with
    | none=>rw[q] at hl;cases hl
    | some c=>rw[q] at hl;cases hl;exact⟨c,rfl⟩
   obtain⟨v,hv,ev⟩:=Xl c (t:=8) (m:=n) (by omega) (by omega)
   have ev':Zl [PV.int c,PV.int 8,PV.int (n:Int)]=some (.int (v:Int)):=ev
   refine⟨st O (some (.int c)) y,st (O.set v (Zr O v+1)) (some (.int c)) (some (.int (v:Int))),?_,?_,O.set v (Zr O v+1),_,_,rfl,by rw[List.length_set];exact lO,fun h hh=>?_⟩
   ·show some ((st O x y).set ci (some (.int c)))=_
    rw[sc]
   ·have e1:Zs hi (Ze Zl [(Za ci),(eC (.int 8)),(Za ni)]) (st O (some (.int c)) y)=some (.nx (st O (some (.int c)) (some (.int (v:Int))))):=by
     rw[ZE,ZX,ZD,ZD,ZD,WP,WP,gc,gn]
     show(Zl [PV.int c,PV.int 8,PV.int (n:Int)]).map _=_
     rw[ev']
     show some (Out.nx ((st O (some (.int c)) y).set hi (some (.int (v:Int)))))=_
     rw[sh]
    have vo:Za oi (st O (some (.int c)) (some (.int (v:Int))))=some (.lst (iL O)):=by rw[WP,go];rfl
    have vh:Za hi (st O (some (.int c)) (some (.int (v:Int))))=some (.int (v:Int)):=by rw[WP,gh];rfl
    have ix:Zi Yb (Za oi) (Za hi) (st O (some (.int c)) (some (.int (v:Int))))=some (.int (Zr O v)):=by
     rw[Y0,vo,vh];exact Y5 (by omega)
    have ad:=vI (op:=(· + ·)) ix (show eC (.int 1) (st O (some (.int c)) (some (.int (v:Int))))=some (.int 1) from rfl)
    have am:NV (st O (some (.int c)) (some (.int (v:Int)))) oi=some (iL O):=by unfold NV;rw[go]
    rw[ZN e1,Nn (l:=.int (Zr O v+1)) (k:=(v:Int)) (j:=v) (m:=iL O) ad vh am (XI O) rfl (V6 (by rw[List.length_map];omega))]
    have:(iL O).set v (PV.int (Zr O v+1))=iL (O.set v (Zr O v+1)):=by unfold iL;rw[List.map_set]
    rw[this,so]
   ·rw[PW.nth_set (by omega)]
    have h1:=bO h hh;have h2:=bO v hv
    split<;>omega)
 subst hs
 refine⟨O,x,y,?_,lO,fun h hh=>by have:=bO h hh;rw[List.length_map] at this;omega⟩
 show(XH (Oo Nh (Za 0) (R6 (eC (.int 27))) (R6 (eC (.int 62)))) (Yz [oi] (st O0 x0 y0))).bind _=_
 have:XH (Oo Nh (Za 0) (R6 (eC (.int 27))) (R6 (eC (.int 62)))) (Yz [oi] (st O0 x0 y0))=some (iL cs):=by
  have h1:Oo Nh (Za 0) (R6 (eC (.int 27))) (R6 (eC (.int 62))) (Yz [oi] (st O0 x0 y0))=some (.lst (iL cs)):=by
   rw[Kj,WP,e0]
   show some (PV.lst (Vx (iL ns) (some ((27:Nat):Int)) (some ((62:Nat):Int))))=_
   rw[ecs]
  unfold XH;rw[h1];rfl
 rw[this];exact f1
theorem Uk{n:Nat}{f:Nat->Int}:∀{l:List Nat},l.Nodup->(∀x∈l,x<n)->(l.map f).sum=sN n (fun g=>if g∈l then f g else 0)
 | [],_,_=>by rw[Uh fun i _=>by simp];rfl
 | a::r,nd,lt=>by
  rw[List.nodup_cons] at nd;rw[List.map_cons,List.sum_cons,Uk nd.2 fun x hx=>lt x (List.mem_cons_of_mem _ hx)]
  have:f a=sN n (fun g=>if g=a then f a else 0):=by
   rw[Y2 (k:=a) (lt a List.mem_cons_self) fun i _ hi=>if_neg hi,if_pos rfl]
  rw[this,<-YV]
  refine Zq fun g hg=>?_
  by_cases q:g=a
  ·subst q
   rw[if_pos List.mem_cons_self,if_pos rfl,if_neg nd.1];omega
  ·by_cases q2:g∈r
   ·rw[if_pos (List.mem_cons_of_mem _ q2),if_neg q,if_pos q2];omega
   ·rw[if_neg (fun z=>(List.mem_cons.mp z).elim q q2),if_neg q,if_neg q2];rfl
structure Never(W:List (List Int))(N:List Int)(G:List Nat):Prop where
 nd:G.Nodup
 lt:∀x∈G,x<W.length
 all:∀h,h<W.length->h∈G
 few:∀k h,G[k]?=some h->Zr N h<ZQ W h (G.take k)
theorem Never.debt{W:List (List Int)}{N:List Int}{G:List Nat}(ok:Z1 W)(nv:Never W N G)(T:Nat->Int):∃h,h<W.length/\Zr N h+gN W T h<0:=by
 have hp:=ok.pos
 obtain⟨m,lm,mm⟩:=KO T (n:=W.length) (by omega)
 have first:∀k:Nat,(∃h,G[k]?=some h/\T h=T m)->∃k h:Nat,G[k]?=some h/\T h=T m/\∀j,j<k->∀h,G[j]?=some h->T h≠T m:=by
  intro k
  induction k using Nat.strongRecOn with
  | ind k ih=>
   rintro⟨h,e,t⟩
   by_cases q:∃j,j<k/\∃h,G[j]?=some h/\T h=T m
   ·obtain⟨j,hj,q⟩:=q
    exact ih j hj q
   ·exact⟨k,h,e,t,fun j hj h hh e=>q ⟨j,hj,h,hh,e⟩⟩
 obtain⟨k0,hk0,e0⟩:=List.getElem_of_mem (nv.all m lm)
 obtain⟨k,h,ek,et,hfst⟩:=first k0 ⟨m,by rw[List.getElem?_eq_getElem hk0,e0],rfl⟩
 have hh:h<W.length:=nv.lt h (List.mem_of_getElem? ek)
 have lt:=nv.few k h ek
 have tl:=KP (h:=h) ok hh (P:=fun g=>T g=T m) (nv.nd.sublist (List.take_sublist k G)) fun y hy=>by
  refine⟨nv.lt y (List.mem_of_mem_take hy),fun z=>?_⟩
  obtain⟨j,hj,e⟩:=List.getElem_of_mem hy
  rw[List.length_take] at hj
  exact hfst j (by omega) y (by rw[<-List.getElem?_take_of_lt (show j<k by omega),List.getElem?_eq_getElem (by rw[List.length_take];exact hj),e]) z
 have g1:gN W T h<=- sN W.length (fun g=>if T g=T m then 0 else Yd W h g):=by
  have:0<=sN W.length (fun g=>(-1)*(if T g=T m then 0 else Yd W h g)+(-1)*(Yd W h g*(T g-T h))):=YS fun g hg=>by
   have lo:=ok.lo h g hh hg;have mg:=mm g hg;rw[et]
   by_cases q:T g=T m
   ·rw[if_pos q,q];simp
   ·rw[if_neg q]
    have:0<=Yd W h g*(T m-T g-1):=Int.mul_nonneg lo (by omega)
    have e:Yd W h g*(T m-T g-1)=(-1)*Yd W h g+(-1)*(Yd W h g*(T g-T m)):=by
     rw[Int.mul_sub,Int.mul_sub,Int.mul_one,Int.mul_sub];omega
    omega
  rw[YV,Z8,Z8] at this;unfold gN;omega
 exact⟨h,hh,by omega⟩
def NR(W:List (List Int)):Int:=sN W.length (fun a=>sN W.length (fun b=>Yd W a b))
theorem UZ(W:List (List Int))(h x:Nat)(l:List Nat):ZQ W h (l++[x])=ZQ W h l+Yd W h x:=by
 unfold ZQ;rw[List.map_append,List.sum_append];simp
theorem NS{W:List (List Int)}(ok:Z1 W){G:List Nat}(lt:∀x∈G,x<W.length):∀k,k<=G.length->2*sN k (fun j=>ZQ W (G.getD j 0) (G.take j))=((G.take k).map fun a=>ZQ W a (G.take k)).sum:=by
 intro k
 induction k with
 | zero=>intro _;rfl
 | succ k ih=>
  intro hk
  have e:=ih (by omega)
  have hx:G[k]?=some (G.getD k 0):=by rw[List.getD_eq_getElem?_getD,List.getElem?_eq_getElem (by omega)];rfl
  generalize G.getD k 0=x at hx
  have hxl:x<W.length:=lt x (List.mem_of_getElem? hx)
  have ht:G.take (k+1)=G.take k++[x]:=by rw[List.take_succ,hx];rfl
  have hgx:G.getD k 0=x:=by rw[List.getD_eq_getElem?_getD,hx];rfl
  show 2*(sN k (fun j=>ZQ W (G.getD j 0) (G.take j))+ZQ W (G.getD k 0) (G.take k))=_
  rw[Int.mul_add,e,hgx,ht,List.map_append,List.sum_append]
  have lt':∀a∈G.take k,a<W.length:=fun a ha=>lt a (List.mem_of_mem_take ha)
  generalize G.take k=P at lt' ⊢
  have e1:(P.map fun a=>ZQ W a (P++[x])).sum=(P.map fun a=>ZQ W a P).sum+ZQ W x P:=by
   have:∀Q:List Nat,(∀a∈Q,a<W.length)->(Q.map fun a=>ZQ W a (P++[x])).sum=(Q.map fun a=>ZQ W a P).sum+ZQ W x Q:=by
    intro Q
    induction Q with
    | nil=>intro _;rfl
    | cons a r ih2=>
     intro hQ;rw[List.map_cons,List.map_cons,List.sum_cons,List.sum_cons,ih2 fun y hy=>hQ y (List.mem_cons_of_mem _ hy),UZ]
     have:ZQ W x (a::r)=Yd W x a+ZQ W x r:=by unfold ZQ;rw[List.map_cons,List.sum_cons]
     rw[this,ok.sym a x (hQ a List.mem_cons_self) hxl];omega
   exact this P lt'
  rw[e1];simp only[List.map_cons,List.map_nil,List.sum_cons,List.sum_nil]
  rw[UZ,ok.dia x hxl];omega
theorem Ss{W:List (List Int)}(ok:Z1 W){G:List Nat}(nd:G.Nodup)(lt:∀x∈G,x<W.length)(all:∀h,h<W.length->h∈G):2*sN G.length (fun j=>ZQ W (G.getD j 0) (G.take j))=NR W:=by
 rw[NS ok lt G.length (Nat.le_refl _),List.take_length,Uk (n:=W.length) nd lt]
 refine Zq fun a ha=>?_
 rw[if_pos (all a ha)];unfold ZQ;rw[Uk (n:=W.length) nd lt]
 exact Zq fun b hb=>if_pos (all b hb)
theorem Rf{n:Nat}{G:List Nat}(nd:G.Nodup)(lt:∀x∈G,x<n)(all:∀h,h<n->h∈G):G.length=n:=by
 have h1:=Uk (n:=n) (f:=fun _=>1) nd lt
 rw[Zq (g:=fun _=>1) fun i hi=>if_pos (all i hi)] at h1
 have h2:∀n,sN n (fun _=>(1:Int))=(n:Int):=fun n=>by
  induction n with
  | zero=>rfl
  | succ n ih=>show sN n _+1=_;rw[ih];omega
 have h3:∀l:List Nat,(l.map fun _=>(1:Int)).sum=(l.length:Int):=fun l=>by
  induction l with
  | nil=>rfl
  | cons a r ih=>rw[List.map_cons,List.sum_cons,ih,List.length_cons];omega
 rw[h2,h3] at h1;omega
theorem P3{n:Nat}{G:List Nat}(nd:G.Nodup)(lt:∀x∈G,x<n)(all:∀h,h<n->h∈G)(f:Nat->Int):sN n f=sN n (fun j=>f (G.getD j 0)):=by
 have h1:=Uk (n:=n) (f:=f) nd lt
 rw[Zq (g:=f) fun i hi=>if_pos (all i hi)] at h1;rw[<-h1,<-X3];have hl:=Rf nd lt all
 congr 1
 refine List.ext_getElem (by simp[hl]) fun i h1 h2=>?_
 simp at h1
 simp[List.getD_eq_getElem?_getD,List.getElem?_eq_getElem h1]
theorem Never.sum{W:List (List Int)}{N:List Int}{G:List Nat}(ok:Z1 W)(ln:N.length=W.length)(nv:Never W N G):2*(N.sum+(W.length:Int))<=NR W:=by
 have hl:=Rf nv.nd nv.lt nv.all;have e:=Ss ok nv.nd nv.lt nv.all;rw[hl] at e;rw[Lw,ln,P3 nv.nd nv.lt nv.all]
 have h1:∀n,n<=G.length->sN n (fun j=>Zr N (G.getD j 0))+(n:Int)<=sN n (fun j=>ZQ W (G.getD j 0) (G.take j)):=by
  intro n
  induction n with
  | zero=>intro _;exact Int.le_refl 0
  | succ n ih=>
   intro hn
   have:=ih (by omega)
   have hx:G[n]?=some (G.getD n 0):=by rw[List.getD_eq_getElem?_getD,List.getElem?_eq_getElem (by omega)];rfl
   have:=nv.few n _ hx
   show sN n _+Zr N (G.getD n 0)+((n+1:Nat):Int)<=sN n _+ZQ W (G.getD n 0) (G.take n)
   omega
 have:=h1 W.length (by omega)
 omega
def Free(W:List (List Int))(D:List Int):Prop:=∃S:List Int,S.length=W.length/\∀h,h<W.length->0<=Zr (ZC W D S) h
theorem Free.run{W:List (List Int)}{D T:List Int}(hd:D.length=W.length)(lT:T.length=W.length):Free W (ZC W D T)↔Free W D:=by
 constructor
 ·rintro⟨S,lS,f⟩
  refine⟨Qy T S,by rw[Qz];exact lT,fun h hh=>?_⟩
  rw[<-RX (S:=T) (U:=S) hd fun i hi=>Sc (by omega)]
  exact f h hh
 ·rintro⟨S,lS,f⟩
  refine⟨Kx S T,by rw[Lb];exact lS,fun h hh=>?_⟩
  rw[RX (T:=S) hd fun i hi=>by rw[Lc (by omega)];omega]
  exact f h hh
theorem Free.more{W:List (List Int)}{D E:List Int}(hd:D.length=W.length)(le:E.length=W.length)(h:∀i,i<W.length->Zr D i<=Zr E i)(f:Free W D):Free W E:=by
 obtain⟨S,lS,f⟩:=f
 refine⟨S,lS,fun x hx=>?_⟩
 have:=f x hx
 rw[R4 (by omega)] at this ⊢
 have:=h x hx
 omega
theorem Free.sum{W:List (List Int)}{D:List Int}(ok:Z1 W)(hd:D.length=W.length)(f:Free W D):0<=D.sum:=by
 obtain⟨S,lS,f⟩:=f
 rw[<-OF (S:=S) ok hd,Lw,Yg,hd]
 exact YS f
theorem Never.notFree{W:List (List Int)}{D S N:List Int}{G:List Nat}(ok:Z1 W)(hd:D.length=W.length)(lS:S.length=W.length)(hN:N=ZC W D S)(nv:Never W N G):¬Free W D:=fun f=>by
 have f2:=(Free.run hd lS).mpr f
 rw[<-hN] at f2
 obtain⟨T,lT,f2⟩:=f2
 obtain⟨h,hh,lt⟩:=nv.debt ok (Zr T)
 have:=f2 h hh
 rw[R4 (by rw[hN,Yg];omega)] at this
 omega
theorem Settled.never{W:List (List Int)}{N:List Int}{F:List Nat}{b:Nat}(st:Settled W b N F)(h0:Zr N b<0):Never W N F:=by
 refine⟨st.burn.nd,st.burn.lt,st.all,fun k h ek=>?_⟩
 by_cases q:k=0
 ·subst q
  rw[st.burn.hd] at ek;cases ek;exact h0
 ·have kl:=(List.getElem?_eq_some_iff.mp ek).1
  have s:=st.burn.st k (by omega) kl
  rw[ek] at s
  exact(Si s).2.2
inductive Told(W:List (List Int))(D:List Int):PV->Prop
 | free (L N:List Int):L.length=W.length->YX L=0->N=ZC W D L->(∀h,h<W.length->0<=Zr N h)->Free W D->Told W D (.tup [.str "free",pP L,pP N])
 | never (L N:List Int) (G:List Nat):L.length=W.length->YX L=0->N=ZC W D L->Never W N G->¬Free W D->Told W D (.tup [.str "never",pP L,.lst (iL (nL G))])
theorem Su{W:List (List Int)}{D:List Int}(ok:Z1 W)(cn:UM W)(hd:D.length=W.length)(bD:∀h,h<W.length->(Zr D h).natAbs<=2^208):∃v,Xc [wP W,pP D]=some v/\Told W D v:=by
 have hp:=ok.pos
 obtain⟨S,N,F,eS,lS,hN,st⟩:=NN ok cn hd (b:=0) (by omega) bD
 have ln:N.length=W.length:=by rw[hN,Yg,hd]
 have lL:(Xk S).length=W.length:=by rw[Se];exact lS
 have hN':N=ZC W D (Xk S):=by
  rw[hN];exact(NE (- YX S) hd fun i hi=>by rw[Sf (by omega)];omega).symm
 have h0:YX (Xk S)=0:=NO (by omega)
 generalize Xk S=L at eS lL hN' h0
 let T:PV:=.tup [pP L,pP N,.lst (iL (nL F))]
 have e1:Zs 2 (Ze Wj [(Za 0),(Za 1),(eC (.int 0))]) [some (wP W),some (pP D),none]=some (.nx [some (wP W),some (pP D),some T]):=by
  have:Ze Wj [(Za 0),(Za 1),(eC (.int 0))] [some (wP W),some (pP D),none]=some T:=eS
  rw[ZE,this];rfl
 have c:xB (Zi JZ (Zi Yb (Zi Yb (Za 2) (eC (.int 1))) (eC (.int 0))) (eC (.int 0))) [some (wP W),some (pP D),some T]=some (decide (0<=Zr N 0)):=by
  have h1:Zi Yb (Zi Yb (Za 2) (eC (.int 1))) (eC (.int 0)) [some (wP W),some (pP D),some T]=some (.int (Zr N 0)):=OU ln 0 (by omega)
  rw[YG,Y0,h1];rfl
 by_cases q:0<=Zr N 0
 ·have fr:∀h,h<W.length->0<=Zr N h:=fun h hh=>by
   by_cases z:h=0
   ·rw[z];exact q
   ·exact st.free h hh z
  refine⟨_,?_,Told.free L N lL h0 hN' fr ⟨L,lL,fun h hh=>by rw[<-hN'];exact fr h hh⟩⟩
  show YZ 3 Xb _=_
  unfold Xb
  show(Zt _ _ [some (wP W),some (pP D),none]).bind XC=_
  rw[ZN e1,QA (v:=.tup [.str "free",pP L,pP N])]
  ·rfl
  ·rw[Z4,c,decide_eq_true q]
   show WU 2 (eC (.str "free")) 0 1 [some (wP W),some (pP D),some T]=_
   show(if ZR (.str "free")=true/\ZR (pP L)=true then some (Out.rt (.tup [.str "free",pP L,pP N])) else none)=_
   rw[if_pos ⟨rfl,by simp⟩]
 ·have nv:=st.never (by omega)
  refine⟨_,?_,Told.never L N F lL h0 hN' nv (nv.notFree ok hd lL hN')⟩
  show YZ 3 Xb _=_
  unfold Xb
  show(Zt _ _ [some (wP W),some (pP D),none]).bind XC=_
  rw[ZN e1,ZN (s1:=[some (wP W),some (pP D),some T])]
  ·have:WU 2 (eC (.str "never")) 0 2 [some (wP W),some (pP D),some T]=some (.rt (.tup [.str "never",pP L,.lst (iL (nL F))])):=by
    show(if ZR (.str "never")=true/\ZR (pP L)=true then some (Out.rt (.tup [.str "never",pP L,.lst (iL (nL F))])) else none)=_
    rw[if_pos ⟨rfl,by simp⟩]
   rw[this];rfl
  ·rw[Z4,c,decide_eq_false q];rfl
theorem Wz(neg:Bool)(a b:PySem.Str):YJ neg (.str a) (.str b)=some (.bl (if neg then !decide (a=b) else decide (a=b))):=by
 unfold YJ;rw[if_pos (show XB 8 (.str a) (.str b)=true from rfl)]
 have:decide (PV.str a=PV.str b)=decide (a=b):=decide_eq_decide.mpr (by rw[PV.str.injEq])
 rw[this]
theorem P4:¬(("free" : PySem.Str) = "never"):=by decide
theorem Sv:¬(("never" : PySem.Str) = "free"):=by decide
theorem Lx{ns:List Int}(hns:ns.length<=63){n:Nat}(hn:n<=7){s:ZO}{fi:XL}(hfi:fi s=some (WL n))(h0:s[0]?=some (some (.cst (iL ns)))):∃D:List Int,Zu 1 [0] fi (.one 0) ZA (Zi Xe (Ze Zl [(Ze Zp [(Za 1),(Zi ZW (eC (.int 13)) (Za 0))]),(eC (.int 8)),(eC (.int 8))]) (eC (.int 3))) s=some (.lst (iL D))/\D.length=n/\∀h,h<n->(Zr D h).natAbs<=10^29:=by
 have ex:∀i:Nat,∃z:Int,(i<n->∃s1,Xw (.one 0) (.int (i:Int)) (ZK 1 [0] s)=some s1/\ZA s1=some true/\(Zi Xe (Ze Zl [(Ze Zp [(Za 1),(Zi ZW (eC (.int 13)) (Za 0))]),(eC (.int 8)),(eC (.int 8))]) (eC (.int 3))) s1=some (.int z))/\z.natAbs<=10^29:=fun i=>by
  obtain⟨v,hv,ev⟩:=Xl (ZJ ns (13+i)) (t:=8) (m:=8) (by omega) (by omega)
  have ev':Zl [PV.int (ZJ ns (13+i)),PV.int 8,PV.int 8]=some (.int (v:Int)):=ev
  refine⟨(v:Int)-3,fun hi=>?_,by omega⟩
  have ec:=YR hns (k:=13+i) (by omega)
  have h1:((13+i:Nat):Int)=13+(i:Int):=by omega
  rw[h1] at ec
  refine⟨[some (.int (i:Int)),some (.cst (iL ns))],?_,rfl,?_⟩
  ·simp[ZK,h0,Xw]
  ·have c1:Ze Zp [(Za 1),(Zi ZW (eC (.int 13)) (Za 0))] [some (.int (i:Int)),some (.cst (iL ns))]=some (.int (ZJ ns (13+i))):=ec
   have c2:Ze Zl [(Ze Zp [(Za 1),(Zi ZW (eC (.int 13)) (Za 0))]),(eC (.int 8)),(eC (.int 8))] [some (.int (i:Int)),some (.cst (iL ns))]=some (.int (v:Int)):=by
    rw[ZX,ZD,c1];exact ev'
   exact vI c2 rfl
 have hg:∃g:Nat->Int,∀i,(i<n->∃s1,Xw (.one 0) (.int (i:Int)) (ZK 1 [0] s)=some s1/\ZA s1=some true/\(Zi Xe (Ze Zl [(Ze Zp [(Za 1),(Zi ZW (eC (.int 13)) (Za 0))]),(eC (.int 8)),(eC (.int 8))]) (eC (.int 3))) s1=some (.int (g i)))/\(g i).natAbs<=10^29:=⟨fun i=>(ex i).choose,fun i=>(ex i).choose_spec⟩
 obtain⟨g,hg⟩:=hg
 refine⟨(List.range n).map g,XM g hfi (by omega) fun i hi=>(hg i).1 hi,by simp,fun h hh=>?_⟩
 rw[ZS hh];exact(hg h).2
open Classical in
noncomputable def ZM(W:List (List Int))(D:List Int):PySem.Str:=if Free W D then "free" else "never"
theorem Xv{W:List (List Int)}{D:List Int}(h:Free W D):ZM W D = "free":=by unfold ZM;rw[if_pos h]
theorem Y6{W:List (List Int)}{D:List Int}(h:¬Free W D):ZM W D = "never":=by unfold ZM;rw[if_neg h]
theorem UR{W:List (List Int)}{D:List Int}(ok:Z1 W)(cn:UM W)(hd:D.length=W.length)(bD:∀h,h<W.length->(Zr D h).natAbs<=2^208):Yu [wP W,pP D]=some (.str (ZM W D)):=by
 obtain⟨v,ev,tv⟩:=Su ok cn hd bD
 obtain⟨a,b,rfl⟩:∃a b,v = .tup [.str (ZM W D),a,b]:=by
  cases tv with
  | free L N _ _ _ _ f=>exact⟨_,_,by rw[Xv f]⟩
  | never L N G _ _ _ _ nf=>exact⟨_,_,by rw[Y6 nf]⟩
 let s:ZO:=[some (wP W),some (pP D),some (.tup [.str (ZM W D),a,b])]
 have e1:Zs 2 (Ze Xc [(Za 0),(Za 1)]) [some (wP W),some (pP D),none]=some (.nx s):=by
  have:Ze Xc [(Za 0),(Za 1)] [some (wP W),some (pP D),none]=some (.tup [.str (ZM W D),a,b]):=ev
  rw[ZE,this];rfl
 have e2:U8 (Ly (RA (xB (Ze WB [(Za 2),(eC (.ty "tuple"))]))) (Ly (xB (Zi (YJ true) (Ze YF [(Za 2)]) (eC (.int 3)))) (RA (xB (Ze WB [(Zi Yb (Za 2) (eC (.int 0))),(eC (.ty "str"))]))))) (Z9 (eP (eC (.str "")))) Yv s=some (.nx s):=by
  have c1:xB (Ze WB [(Za 2),(eC (.ty "tuple"))]) s=some true:=by rw[YG];rfl
  have c2:xB (Zi (YJ true) (Ze YF [(Za 2)]) (eC (.int 3))) s=some false:=by simp[s]
  have c3:xB (Ze WB [(Zi Yb (Za 2) (eC (.int 0))),(eC (.ty "str"))]) s=some true:=by rw[YG];rfl
  rw[Z4,RK,TV,c1];simp only[Option.bind_some,Option.map_some,Bool.not_true,Bool.false_eq_true,if_false];rw[RK,c2];simp only[Option.bind_some,Bool.false_eq_true,if_false]
  rw[TV,c3];rfl
 show YZ 3 Ue _=_
 unfold Ue
 show(Zt _ _ [some (wP W),some (pP D),none]).bind XC=_
 rw[ZN e1,ZN e2,Wl (v:=.str (ZM W D))]
 ·rfl
 ·have:Zi Yb (Za 2) (eC (.int 0)) s=some (.str (ZM W D)):=rfl
  rw[Xh,this];rfl
theorem NT{W:List (List Int)}(ok:Z1 W):∃x,NR W=2*x:=by
 have:=Ss ok (G:=List.range W.length) List.nodup_range (fun x hx=>List.mem_range.mp hx) (fun h hh=>List.mem_range.mpr hh)
 exact⟨_,this.symm⟩
theorem Ul{W:List (List Int)}{D:List Int}(ok:Z1 W)(cn:UM W)(hd:D.length=W.length)(bD:∀h,h<W.length->(Zr D h).natAbs<=2^208):Yy [wP W,pP D,.str (ZM W D)]=some (.bl true):=by
 have hf:=ok.few
 have lW:((W.map pP).length:Int)=(W.length:Int):=by rw[List.length_map]
 obtain⟨x,hx⟩:=NT ok
 obtain⟨r,hr⟩:∃r:Int,r=NR W/2-(W.length:Int)+1:=⟨_,rfl⟩
 let s0:ZO:=[some (wP W),some (pP D),some (.str (ZM W D)),none]
 let s:ZO:=[some (wP W),some (pP D),some (.str (ZM W D)),some (.int r)]
 have hc:Zu 1 [] (U6 (Za 0)) (.one 0) ZA (Ze Xn [(Za 0)]) s0=some (.lst (iL ((List.range W.length).map fun i=>(ZF W i).sum))):=by
  have hxx:U6 (Za 0) s0=some ((List.range W.length).map fun i=>pP (ZF W i)):=by
   show some (W.map pP)=_
   congr 1
   refine List.ext_getElem (by simp) fun i h1 h2=>?_
   simp at h1
   simp[ZF,List.getD_eq_getElem?_getD,List.getElem?_eq_getElem h1]
  rw[Z6 (List.range W.length) (fun i=>pP (ZF W i)) (fun i=>.int (ZF W i).sum) hxx (by simp;omega) fun i _=>⟨[some (pP (ZF W i))],rfl,rfl,MJ _⟩]
  unfold iL;rw[List.map_map];rfl
 have hsum:((List.range W.length).map fun i=>(ZF W i).sum).sum=NR W:=by
  rw[X3]
  exact Zq fun i hi=>by rw[RW ok hi,X3]
 have h1:Ze Xn [(Zu 1 [] (U6 (Za 0)) (.one 0) ZA (Ze Xn [(Za 0)]))] s0=some (.int (NR W)):=by
  rw[ZX,ZD,hc,<-hsum];exact Pe _
 have h2:Ze YF [(Za 0)] s0=some (.int (W.length:Int)):=by
  show some (PV.int ((W.map pP).length:Int))=_
  rw[lW]
 have e1:Zs 3 (eP (Zi ZW (Zi Xe (Zi Rz (Ze Xn [(Zu 1 [] (U6 (Za 0)) (.one 0) ZA (Ze Xn [(Za 0)]))]) (eC (.int 2))) (Ze YF [(Za 0)])) (eC (.int 1)))) s0=some (.nx s):=by
  have h3:=vP (vI (op:=(· + ·)) (vI (op:=(· - ·)) (vC (C:=Rl) (op:=(· / ·)) h1 (show eC (.int 2) s0=some (.int 2) from rfl) (Ie (by omega) (by omega))) h2) (show eC (.int 1) s0=some (.int 1) from rfl))
  rw[ZE,h3,<-hr];rfl
 have e2:U8 (xB (Zi (RF true) (Za 2) (Wf [(eC (.str "free")),(eC (.str "never"))]))) (Z9 (eP (eC (.bl false)))) Yv s=some (.nx s):=by
  have:Zi (RF true) (Za 2) (Wf [(eC (.str "free")),(eC (.str "never"))]) s=some (.bl false):=by
   show RF true (.str (ZM W D)) (.lst [.str "free",.str "never"])=_
   unfold RF
   show(if([PV.str "free",PV.str "never"].all fun z=>XB 8 z (.str (ZM W D)))=true then some (PV.bl (!decide (PV.str (ZM W D)∈[PV.str "free",PV.str "never"]))) else none)=_
   rw[if_pos (by rfl)]
   have:PV.str (ZM W D)∈[PV.str "free",PV.str "never"]:=by
    unfold ZM
    split<;>simp
   rw[decide_eq_true this];rfl
  rw[Z4,YG,this];rfl
 have h4:Ze Xn [(Za 1)] s=some (.int D.sum):=MJ D
 show YZ 4 X2 _=_
 unfold X2
 show(Zt _ _ s0).bind XC=_
 rw[ZN e1,ZN e2]
 by_cases q:D.sum<0
 ·have nf:¬Free W D:=fun f=>by have:=f.sum ok hd;omega
  rw[QA (v:=.bl true)]
  ·rfl
  ·have c:xB (Zi Oh (Ze Xn [(Za 1)]) (eC (.int 0))) s=some true:=by
    rw[YG,Y0,h4]
    show some (decide (D.sum<0))=_
    rw[decide_eq_true q]
   have c2:Zi (YJ false) (Za 2) (eC (.str "never")) s=some (.bl true):=by
    show YJ false (.str (ZM W D)) (.str "never")=_
    rw[Y6 nf,Wz];simp
   rw[Z4,c];simp only[Option.bind_some,if_true]
   exact Wl (by rw[Xh,c2];rfl)
 ·have c:xB (Zi Oh (Ze Xn [(Za 1)]) (eC (.int 0))) s=some false:=by
   rw[YG,Y0,h4]
   show some (decide (D.sum<0))=_
   rw[decide_eq_false q]
  rw[ZN (s1:=s) (by rw[Z4,c];rfl)]
  have fin:Hn (Zi (YJ false) (Za 2) (eC (.str "free"))) (Zi Oh (Ze Xn [(Za 1)]) (Za 3)) s=some (.bl true):=by
   by_cases f:Free W D
   ·have c2:Zi (YJ false) (Za 2) (eC (.str "free")) s=some (.bl true):=by
     show YJ false (.str (ZM W D)) (.str "free")=_
     rw[Xv f,Wz];simp
    rw[Ov,YG,c2];rfl
   ·have c2:Zi (YJ false) (Za 2) (eC (.str "free")) s=some (.bl false):=by
     show YJ false (.str (ZM W D)) (.str "free")=_
     rw[Y6 f,Wz];simp[Sv]
    have lt:D.sum<r:=by
     obtain⟨v,ev,tv⟩:=Su ok cn hd bD
     cases tv with
     | free L N _ _ _ _ f2=>exact absurd f2 f
     | never L N G lL _ hN nv _=>
      have ln:N.length=W.length:=by rw[hN,Yg,hd]
      have s1:=nv.sum ok ln
      have s2:N.sum=D.sum:=by rw[hN];exact OF ok hd
      rw[s2,hx] at s1;rw[hr,hx];omega
    have c3:Zi Oh (Ze Xn [(Za 1)]) (Za 3) s=some (.bl true):=by
     rw[Y0,h4]
     show some (PV.bl (decide (D.sum<r)))=_
     rw[decide_eq_true lt]
    rw[Ov,YG,c2];exact c3
  rw[Wl (v:=.bl true) (by rw[Xh,fin];rfl)]
  rfl
theorem law_true(ns:List Int)(hns:ns.length<=63)(hbd:∀n∈ns,n.natAbs.log2<=1048576):D_law [.cst (iL ns)]=some (.bl true):=by
 obtain⟨W,D0,eW,ok,cn,hD,eD,hd0,bD0⟩:=KR hns hbd
 have hf:=ok.few;have hp:=ok.pos
 have ec:Zp [PV.cst (iL ns),PV.int 12]=some (.int (ZJ ns 12)):=YR hns (k:=12) (by omega)
 obtain⟨u,hu,eu⟩:=Xl (ZJ ns 12) (t:=7) (m:=2) (by omega) (by omega)
 have eu':Zl [PV.int (ZJ ns 12),PV.int 7,PV.int 2]=some (.int (u:Int)):=eu
 let s3:ZO:=[some (.cst (iL ns)),some (wP W),some (.int (W.length:Int)),some (pP D0),none,none,none,none,none,none,none,none]
 have e1:Zs 1 (Ze Vd [(Za 0),(eC (.int 7))]) [some (.cst (iL ns)),none,none,none,none,none,none,none,none,none,none,none]=some (.nx [some (.cst (iL ns)),some (wP W),none,none,none,none,none,none,none,none,none,none]):=by simp[eW]
 have e2:Zs 2 (eP (Ze YF [(Za 1)])) [some (.cst (iL ns)),some (wP W),none,none,none,none,none,none,none,none,none,none]=some (.nx [some (.cst (iL ns)),some (wP W),some (.int (W.length:Int)),none,none,none,none,none,none,none,none,none]):=by simp
 have e3:Zs 3 (Ze Xr [(Za 0),(eC (.int 13)),(Za 2)]) [some (.cst (iL ns)),some (wP W),some (.int (W.length:Int)),none,none,none,none,none,none,none,none,none]=some (.nx s3):=by simp[eD,s3]
 have e4:∃D:List Int,D.length=W.length/\(∀h,h<W.length->(Zr D h).natAbs<=10^29)/\U8 (xB (Zi (YJ false) (Ze Zl [(Ze Zp [(Za 0),(eC (.int 12))]),(eC (.int 7)),(eC (.int 2))]) (eC (.int 0)))) (Zs 3 (eP (Ze Ya [(Zu 1 [0] (ZL [(Za 2)]) (.one 0) ZA (Zi Xe (Ze Zl [(Ze Zp [(Za 1),(Zi ZW (eC (.int 13)) (Za 0))]),(eC (.int 8)),(eC (.int 8))]) (eC (.int 3))))]))) Yv s3=some (.nx [some (.cst (iL ns)),some (wP W),some (.int (W.length:Int)),some (pP D),none,none,none,none,none,none,none,none]):=by
  have hcell:Ze Zp [(Za 0),(eC (.int 12))] s3=some (.int (ZJ ns 12)):=ec
  have hpart:Ze Zl [(Ze Zp [(Za 0),(eC (.int 12))]),(eC (.int 7)),(eC (.int 2))] s3=some (.int (u:Int)):=by
   rw[ZX,ZD,hcell];exact eu'
  by_cases q:u=0
  ·have hq:Zi (YJ false) (Ze Zl [(Ze Zp [(Za 0),(eC (.int 12))]),(eC (.int 7)),(eC (.int 2))]) (eC (.int 0)) s3=some (.bl true):=by
    rw[Y0,hpart,q];simp
   obtain⟨D,hc,lD,bD⟩:=Lx (n:=W.length) hns hf (s:=s3) (fi:=ZL [(Za 2)]) (Yj (by simp[s3]) (by omega)) rfl
   refine⟨D,lD,bD,?_⟩
   rw[Z4,YG,hq];simp only[Option.bind_some,Ic,if_true]
   have ht:Ze Ya [(Zu 1 [0] (ZL [(Za 2)]) (.one 0) ZA (Zi Xe (Ze Zl [(Ze Zp [(Za 1),(Zi ZW (eC (.int 13)) (Za 0))]),(eC (.int 8)),(eC (.int 8))]) (eC (.int 3))))] s3=some (pP D):=by
    rw[ZX,ZD,hc];rfl
   rw[ZE,Xh,ht];simp[s3]
  ·have hq:Zi (YJ false) (Ze Zl [(Ze Zp [(Za 0),(eC (.int 12))]),(eC (.int 7)),(eC (.int 2))]) (eC (.int 0)) s3=some (.bl false):=by
    have q':¬(u:Int)=0:=by omega
    rw[Y0,hpart];simp[q'];omega
   exact⟨D0,hd0,bD0,by rw[Z4,YG,hq];rfl⟩
 obtain⟨D,hd,bD,e4⟩:=e4
 have bD2:∀h,h<W.length->(Zr D h).natAbs<=2^208:=fun h hh=>by have:=bD h hh;omega
 have ew:=UR ok cn hd bD2;have eb:=Ul ok cn hd bD2
 have esc:ZZ [PV.cst (iL ns),PV.int 20,PV.int (W.length:Int)]=some (pP (Y3 ns 20 W.length)):=UY hns hbd (a:=20) (by omega) hf
 have esd:ZZ [PV.cst (iL ns),PV.int 27,PV.int (W.length:Int)]=some (pP (Y3 ns 27 W.length)):=UY hns hbd (a:=27) (by omega) hf
 let st:List Int->Option PV->Option PV->ZO:=fun O x y=>[some (.cst (iL ns)),some (wP W),some (.int (W.length:Int)),some (pP D),some (.str (ZM W D)),some (.lst (iL O)),x,y,none,none,none,none]
 obtain⟨O,x6,x7,e8,lO,bO⟩:=P0 (n:=W.length) (ci:=6) (hi:=7) (oi:=5) (ni:=2) hns st hp hf (fun _ _ _ _=>rfl) (fun _ _ _ _=>rfl) (fun _ _ _ _=>rfl) (fun _ _ _=>rfl) (fun _ _ _=>rfl) (fun _ _ _=>rfl) (fun _ _ _=>rfl) (O0:=Y3 ns 20 W.length) (Sq _ _ _) (fun h hh=>Sr hh) none none rfl
 have lQ:=Sq ns 27 W.length
 have bQ:∀h,h<W.length->(Zr (Y3 ns 27 W.length) h).natAbs<=10^26:=fun h hh=>Sr hh
 generalize Y3 ns 27 W.length=Q at esd lQ bQ
 have e5:Zs 4 (Ze Yu [(Za 1),(Za 3)]) [some (.cst (iL ns)),some (wP W),some (.int (W.length:Int)),some (pP D),none,none,none,none,none,none,none,none]=some (.nx [some (.cst (iL ns)),some (wP W),some (.int (W.length:Int)),some (pP D),some (.str (ZM W D)),none,none,none,none,none,none,none]):=by
  have:Ze Yu [(Za 1),(Za 3)] [some (.cst (iL ns)),some (wP W),some (.int (W.length:Int)),some (pP D),none,none,none,none,none,none,none,none]=some (.str (ZM W D)):=ew
  rw[ZE,this];rfl
 have e6:U8 (RA (xB (Ze Yy [(Za 1),(Za 3),(Za 4)]))) (Z9 (eP (eC (.bl false)))) Yv [some (.cst (iL ns)),some (wP W),some (.int (W.length:Int)),some (pP D),some (.str (ZM W D)),none,none,none,none,none,none,none]=some (.nx [some (.cst (iL ns)),some (wP W),some (.int (W.length:Int)),some (pP D),some (.str (ZM W D)),none,none,none,none,none,none,none]):=by
  have:Ze Yy [(Za 1),(Za 3),(Za 4)] [some (.cst (iL ns)),some (wP W),some (.int (W.length:Int)),some (pP D),some (.str (ZM W D)),none,none,none,none,none,none,none]=some (.bl true):=eb
  rw[Z4,TV,YG,this];rfl
 have e7:Zs 5 (Ze X8 [(Ze ZZ [(Za 0),(eC (.int 20)),(Za 2)])]) [some (.cst (iL ns)),some (wP W),some (.int (W.length:Int)),some (pP D),some (.str (ZM W D)),none,none,none,none,none,none,none]=some (.nx (st (Y3 ns 20 W.length) none none)):=by simp[esc,st]
 -- by each of both scripts the word is the same
 let s8:Option PV->Option PV->ZO:=fun z w=>[some (.cst (iL ns)),some (wP W),some (.int (W.length:Int)),some (pP D),some (.str (ZM W D)),some (.lst (iL O)),x6,x7,z,w,none,none]
 let fb:XS:=(Zt (Zs 9 (Ze X1 [(Za 1),(Za 3),(Za 8)]))
  (U8 (Ly (VJ (xB (Zi (YJ false) (Za 4) (eC (.str "never")))) (xB (Zi JZ (Ze T1 [(Za 9)]) (eC (.int 0))))) (xB (Zi (YJ true) (Ze Yu [(Za 1),(Za 9)]) (Za 4)))) (Z9 (eP (eC (.bl false)))) Yv))
 have turn:∀(v:PV)(T:List Int)(w:Option PV),T.length=W.length->(∀h,h<W.length->(Zr T h).natAbs<=10^26+63)->(∀k:Nat,k<W.length->Yb v (.int (k:Int))=some (.int (Zr T k)))->∃w',fb (s8 (some v) w)=some (.nx (s8 (some v) w')):=by
  intro v T w lT bT gv
  obtain⟨E,hE⟩:∃E,E=ZC W D T:=⟨_,rfl⟩
  have lE:E.length=W.length:=by rw[hE,Yg,hd]
  have erun:X1 [wP W,pP D,v]=some (pP E):=by rw[hE];exact Lu ok hd (OU hd) gv
  have bE:∀h,h<W.length->(Zr E h).natAbs<=2^208:=fun h hh=>by
   have:=KQ ok hd bD bT hh
   rw[<-hE] at this;omega
  have fr:Free W E↔Free W D:=by rw[hE];exact Free.run hd lT
  have wE:ZM W E=ZM W D:=by
   by_cases f:Free W D
   ·rw[Xv f,Xv (fr.mpr f)]
   ·rw[Y6 f,Y6 (fun z=>f (fr.mp z))]
  have ewE:=UR ok cn lE bE;rw[wE] at ewE
  refine⟨some (pP E),?_⟩
  have g1:Zs 9 (Ze X1 [(Za 1),(Za 3),(Za 8)]) (s8 (some v) w)=some (.nx (s8 (some v) (some (pP E)))):=by
   have:Ze X1 [(Za 1),(Za 3),(Za 8)] (s8 (some v) w)=some (pP E):=erun
   rw[ZE,this];rfl
  have c3:xB (Zi (YJ true) (Ze Yu [(Za 1),(Za 9)]) (Za 4)) (s8 (some v) (some (pP E)))=some false:=by
   have h1:Ze Yu [(Za 1),(Za 9)] (s8 (some v) (some (pP E)))=some (.str (ZM W D)):=ewE
   rw[YG,Y0,h1]
   show(YJ true (.str (ZM W D)) (.str (ZM W D))).bind Jc=_
   rw[Wz];simp
  have c12:VJ (xB (Zi (YJ false) (Za 4) (eC (.str "never")))) (xB (Zi JZ (Ze T1 [(Za 9)]) (eC (.int 0)))) (s8 (some v) (some (pP E)))=some false:=by
   by_cases f:Free W D
   ·have c1:xB (Zi (YJ false) (Za 4) (eC (.str "never"))) (s8 (some v) (some (pP E)))=some false:=by
     rw[YG]
     show(YJ false (.str (ZM W D)) (.str "never")).bind Jc=_
     rw[Xv f,Wz];simp[P4]
    rw[Qs,c1];rfl
   ·have c1:xB (Zi (YJ false) (Za 4) (eC (.str "never"))) (s8 (some v) (some (pP E)))=some true:=by
     rw[YG]
     show(YJ false (.str (ZM W D)) (.str "never")).bind Jc=_
     rw[Y6 f,Wz];simp
    have low:YX E<0:=by
     refine Int.not_le.mp fun z=>f (fr.mp ⟨List.replicate W.length 0,by simp,fun h hh=>?_⟩)
     rw[Ld lE fun i hi=>KA 0 hi]
     have:=(Vb (l:=E) (fun z=>by rw[z] at lE;simp at lE;omega)).2 (Zr E h) (Tr (by omega))
     omega
    have c2:xB (Zi JZ (Ze T1 [(Za 9)]) (eC (.int 0))) (s8 (some v) (some (pP E)))=some false:=by
     have hm:Ze T1 [(Za 9)] (s8 (some v) (some (pP E)))=some (.int (YX E)):=OC YX (l:=E) (List.length_pos_iff.mp (by omega))
     rw[YG,Y0,hm]
     show some (decide (0<=YX E))=_
     rw[decide_eq_false (by omega)]
    rw[Qs,c1];exact c2
  show Zt _ _ (s8 (some v) w)=_
  rw[ZN g1,Z4,RK,c12];simp only[Option.bind_some,Bool.false_eq_true,if_false]
  rw[c3];rfl
 obtain⟨w1,t1⟩:=turn (pP Q) Q none lQ (fun h hh=>by have:=bQ h hh;omega) (OU lQ)
 obtain⟨w2,t2⟩:=turn (.lst (iL O)) O w1 lO bO (HA lO)
 have e9:Wg [] (XH (Wf [(Ze ZZ [(Za 0),(eC (.int 27)),(Za 2)]),(Za 5)])) (.one 8) fb (st O x6 x7)=some (.nx (s8 (some (.lst (iL O))) w2)):=by
  have hx:XH (Wf [(Ze ZZ [(Za 0),(eC (.int 27)),(Za 2)]),(Za 5)]) (st O x6 x7)=some [pP Q,.lst (iL O)]:=by
   have h1:Ze ZZ [(Za 0),(eC (.int 27)),(Za 2)] (st O x6 x7)=some (pP Q):=esd
   have h2:Wf [(Ze ZZ [(Za 0),(eC (.int 27)),(Za 2)]),(Za 5)] (st O x6 x7)=some (.lst [pP Q,.lst (iL O)]):=by
    rw[MH,ZD,h1];rfl
   unfold XH
   rw[h2];rfl
  show(XH (Wf [(Ze ZZ [(Za 0),(eC (.int 27)),(Za 2)]),(Za 5)]) (st O x6 x7)).bind _=_
  rw[hx]
  show Wt (.one 8) fb [pP Q,.lst (iL O)] (st O x6 x7)=_
  show(fb (s8 (some (pP Q)) none)).bind _=_
  rw[t1]
  show(fb (s8 (some (.lst (iL O))) w1)).bind _=_
  rw[t2];rfl
 -- more coins
 have hmore:∃M:List Int,M.length=W.length/\(∀h,h<W.length->Zr D h<=Zr M h/\(Zr M h).natAbs<=2^208)/\Zu 1 [3,0] (ZL [(Za 2)]) (.one 0) ZA (Zi ZW (Zi Yb (Za 1) (Za 0)) (Zi Y4 (Ze Q5 [(Ze Yo [(Ze Zp [(Za 2),(Zi ZW (eC (.int 34)) (Za 0))])])]) (Zi Vv (eC (.int 10)) (eC (.int 28))))) (s8 (some (.lst (iL O))) w2)=some (.lst (iL M)):=by
  refine⟨(List.range W.length).map fun i=>Zr D i+((Xo (ZJ ns (34+i))).natAbs:Int)%10^28,by simp,fun h hh=>?_,?_⟩
  ·rw[ZS hh]
   have h0:=Int.emod_nonneg ((Xo (ZJ ns (34+h))).natAbs:Int) (show(10^28:Int)≠0 by decide)
   have h1:=Int.emod_lt_of_pos ((Xo (ZJ ns (34+h))).natAbs:Int) (show(0:Int)<10^28 by decide)
   have:=bD h hh
   omega
  ·refine XM (fun i=>Zr D i+((Xo (ZJ ns (34+i))).natAbs:Int)%10^28) (Yj (n:=W.length) rfl (by omega)) (by omega) fun i hi=>⟨[some (.int (i:Int)),some (pP D),some (.cst (iL ns))],rfl,rfl,?_⟩
   have ec:=YR hns (k:=34+i) (by omega)
   have h1:((34+i:Nat):Int)=34+(i:Int):=by omega
   rw[h1] at ec
   have em:=Sh (Sg hbd (34+i))
   let s9:ZO:=[some (.int (i:Int)),some (pP D),some (.cst (iL ns))]
   have a0:Ze Zp [(Za 2),(Zi ZW (eC (.int 34)) (Za 0))] s9=some (.int (ZJ ns (34+i))):=ec
   have a1:Ze Yo [(Ze Zp [(Za 2),(Zi ZW (eC (.int 34)) (Za 0))])] s9=some (.int (Xo (ZJ ns (34+i)))):=by
    rw[ZX,ZD,a0];exact em
   have a2:Ze Q5 [(Ze Yo [(Ze Zp [(Za 2),(Zi ZW (eC (.int 34)) (Za 0))])])] s9=some (.int ((Xo (ZJ ns (34+i))).natAbs:Int)):=by
    have:(if Xo (ZJ ns (34+i))<0 then-Xo (ZJ ns (34+i)) else Xo (ZJ ns (34+i)))=((Xo (ZJ ns (34+i))).natAbs:Int):=by split<;>omega
    rw[ZX,ZD,a1,<-this];rfl
   have a3:Zi Vv (eC (.int 10)) (eC (.int 28)) s9=some (.int (10^28)):=vC (a:=10) (b:=28) (C:=Rq) (op:=fun i j=>i^j.toNat) rfl rfl (by decide)
   have a6:Zi Yb (Za 1) (Za 0) s9=some (.int (Zr D i)):=OU hd i hi
   exact vI (op:=(· + ·)) a6 (vC (C:=fun _ j=>0<j) (op:=(· % ·)) a2 a3 (by decide))
 obtain⟨M,lM,bM,hc⟩:=hmore
 have ewM:=UR (D:=M) ok cn lM (fun h hh=>(bM h hh).2)
 have ebM:=Ul (D:=M) ok cn lM (fun h hh=>(bM h hh).2)
 let s10:Option PV->ZO:=fun z=>[some (.cst (iL ns)),some (wP W),some (.int (W.length:Int)),some (pP D),some (.str (ZM W D)),some (.lst (iL O)),x6,x7,some (.lst (iL O)),w2,some (pP M),z]
 have e10:Zs 10 (eP (Ze Ya [(Zu 1 [3,0] (ZL [(Za 2)]) (.one 0) ZA (Zi ZW (Zi Yb (Za 1) (Za 0)) (Zi Y4 (Ze Q5 [(Ze Yo [(Ze Zp [(Za 2),(Zi ZW (eC (.int 34)) (Za 0))])])]) (Zi Vv (eC (.int 10)) (eC (.int 28))))))])) (s8 (some (.lst (iL O))) w2)=some (.nx (s10 none)):=by
  have ht:Ze Ya [(Zu 1 [3,0] (ZL [(Za 2)]) (.one 0) ZA (Zi ZW (Zi Yb (Za 1) (Za 0)) (Zi Y4 (Ze Q5 [(Ze Yo [(Ze Zp [(Za 2),(Zi ZW (eC (.int 34)) (Za 0))])])]) (Zi Vv (eC (.int 10)) (eC (.int 28))))))] (s8 (some (.lst (iL O))) w2)=some (pP M):=by
   rw[ZX,ZD,hc];rfl
  rw[ZE,Xh,ht];simp[s8,s10]
 have e11:Zs 11 (Ze Yu [(Za 1),(Za 10)]) (s10 none)=some (.nx (s10 (some (.str (ZM W M))))):=by
  have:Ze Yu [(Za 1),(Za 10)] (s10 none)=some (.str (ZM W M)):=ewM
  rw[ZE,this];rfl
 show YZ 12 OE _=_
 unfold OE
 show(Zt _ _ [some (.cst (iL ns)),none,none,none,none,none,none,none,none,none,none,none]).bind XC=_
 rw[ZN e1,ZN e2,ZN e3,ZN e4,ZN e5,ZN e6,ZN e7,ZN e8,ZN e9,ZN e10,ZN e11]
 by_cases f:Free W D
 ·have fM:=Free.more hd lM (fun h hh=>(bM h hh).1) f
  rw[QA (v:=.bl true)]
  ·rfl
  ·have c1:xB (Zi (YJ false) (Za 4) (eC (.str "free"))) (s10 (some (.str (ZM W M))))=some true:=by
    rw[YG]
    show(YJ false (.str (ZM W D)) (.str "free")).bind Jc=_
    rw[Xv f,Wz];simp
   have c2:Zi (YJ false) (Za 11) (eC (.str "free")) (s10 (some (.str (ZM W M))))=some (.bl true):=by
    show YJ false (.str (ZM W M)) (.str "free")=_
    rw[Xv fM,Wz];simp
   rw[Z4,c1];simp only[Option.bind_some,if_true]
   exact Wl (by rw[Xh,c2];rfl)
 ·have c1:xB (Zi (YJ false) (Za 4) (eC (.str "free"))) (s10 (some (.str (ZM W M))))=some false:=by
   rw[YG]
   show(YJ false (.str (ZM W D)) (.str "free")).bind Jc=_
   rw[Y6 f,Wz];simp[Sv]
  rw[ZN (s1:=s10 (some (.str (ZM W M)))) (by rw[Z4,c1];rfl)]
  have:Ze Yy [(Za 1),(Za 10),(Za 11)] (s10 (some (.str (ZM W M))))=some (.bl true):=ebM
  rw[Wl this];rfl
end PW
namespace PW
open PySem L2 VL
theorem cst_mk{K:PySem.W.Frag}{h:Heap}{mg:Str->Option Value}{x:Str}{v:Int}{t:Tok}(X:K.In h)(G:h.Ns mainGlobals mg)(y:PySem.W.nsIn K mainGlobals x=some (some (.int v t))):HK mg x v:=⟨t,PySem.W.mg_of X G y⟩
theorem all_mk{P:Program}{w:World}{K:PySem.W.Frag}{mg:Str->Option Value}{fa:Addr}(hfa:mg "law" = some (.ref fa))(B:Vu mg)
  (Z_BASE:HK mg "BASE" 0)
  (d0:Def K mg "_law_cell" T5)
  (d1:Def K mg "_law_part" T6)
  (d2:Def K mg "_law_tie" RM)
  (d3:Def K mg "_law_web" RN)
  (d4:Def K mg "_law_coins" UD)
  (d5:Def K mg "_law_purse" UE)
  (d6:Def K mg "reduced" UF)
  (d7:Def K mg "evened" T7)
  (d8:Def K mg "solved_below" XU)
  (d9:Def K mg "ties_at" UG)
  (d10:Def K mg "row_of" T8)
  (d11:Def K mg "square_without" Xt)
  (d12:Def K mg "nearing" UH)
  (d13:Def K mg "gain" Pr)
  (d14:Def K mg "run" M3)
  (d15:Def K mg "in_debt" UI)
  (d16:Def K mg "borrowing" WX)
  (d17:Def K mg "plus" Pu)
  (d18:Def K mg "least" RQ)
  (d19:Def K mg "ties_to" UJ)
  (d20:Def K mg "house_to_burn" XD)
  (d21:Def K mg "burnt" RS)
  (d22:Def K mg "settle" T9)
  (d23:Def K mg "cleared" WY)
  (d24:Def K mg "_law_word" Sa)
  (d25:Def K mg "_law_bounded" WZ)
  (d26:Def K mg "_law_often" UL)
  (d27:Def K mg "_law_script" VB)
  (d28:Def K mg "_law_run" RV)
  (d29:Def K mg "law" M7)
  : ∃fd:FuncData,(∀(s:Shared)(u:Value),BindsTo s fd ⟨[u],[]⟩ [("_law_script_here",u)])/\∀base:Heap,K.In base->base.Ns mainGlobals mg->U2 P w K mg base Od 8 fa fd ["_law_script_here"] (YI K D_law 1):=by
 refine MF d29 hfa (fun _ _ _ _ _ _ _=>rfl) fun base f fd _ _ F=>?_
 have C_m_cell:=Nt (P:=P) (w:=w) (base:=base) d0 B
 have C_l_part:=Nu (P:=P) (w:=w) (base:=base) d1 B
 have C_l_tie:=M0 (P:=P) (w:=w) (base:=base) d2 B
 have C_l_web:=M1 (P:=P) (w:=w) (base:=base) d3 B C_m_cell C_l_part C_l_tie
 have C_m_coins:=Pj (P:=P) (w:=w) (base:=base) d4 B
 have C_l_purse:=Pl (P:=P) (w:=w) (base:=base) d5 B C_m_coins C_m_cell
 have C_reduced:=Pn (P:=P) (w:=w) (base:=base) d6 B
 have C_evened:=Nv (P:=P) (w:=w) (base:=base) d7 B C_reduced
 have C_solved_below:=U9 (P:=P) (w:=w) (base:=base) d8 B C_evened
 have C_ties_at:=Pp (P:=P) (w:=w) (base:=base) d9 B
 have C_row_of:=Nx (P:=P) (w:=w) (base:=base) d10 B C_ties_at
 have C_square_without:=Uf (P:=P) (w:=w) (base:=base) d11 B C_row_of
 have C_nearing:=Pq (P:=P) (w:=w) (base:=base) d12 B C_solved_below C_square_without
 have C_gain:=Ku (P:=P) (w:=w) (base:=base) d13 B
 have C_run:=Ik (P:=P) (w:=w) (base:=base) d14 B C_gain
 have C_in_debt:=Pt (P:=P) (w:=w) (base:=base) d15 B
 have C_borrowing:=RP (P:=P) (w:=w) (base:=base) d16 B
 have C_plus:=Kw (P:=P) (w:=w) (base:=base) d17 B
 have C_least:=M4 (P:=P) (w:=w) (base:=base) d18 B
 have C_ties_to:=Pw (P:=P) (w:=w) (base:=base) d19 B
 have C_house_to_burn:=UK (P:=P) (w:=w) (base:=base) d20 B C_ties_to
 have C_burnt:=M5 (P:=P) (w:=w) (base:=base) d21 B C_house_to_burn
 have C_settle:=Ny (P:=P) (w:=w) (base:=base) d22 B C_nearing C_run C_in_debt C_borrowing C_plus C_burnt C_least
 have C_m_cleared:=RT (P:=P) (w:=w) (base:=base) d23 B Z_BASE C_settle
 have C_l_word:=Nz (P:=P) (w:=w) (base:=base) d24 B C_m_cleared
 have C_l_bounded:=RU (P:=P) (w:=w) (base:=base) d25 B
 have C_m_often:=Py (P:=P) (w:=w) (base:=base) d26 B
 have C_l_script:=Qx (P:=P) (w:=w) (base:=base) d27 B C_m_often C_m_cell
 have C_l_run:=M6 (P:=P) (w:=w) (base:=base) d28 B
 exact Il F B C_l_web C_l_purse C_l_part C_m_cell C_l_word C_l_bounded C_l_script C_l_run C_m_coins
end PW
def PySem.W.Fast.tw13153831217598349905:Unit:=()
def PySem.W.Fast.tw7794311224989174660:Unit:=()
def PySem.W.Fast.tw17630277845815253932:Unit:=()
def PySem.W.Fast.tw17427652955856044851:Unit:=()
def PySem.W.Fast.tw16453403381606458240:Unit:=()
def PySem.W.Fast.tw1559368303830061463:Unit:=()
def PySem.W.Fast.tw9098941265988966303:Unit:=()
def PySem.W.Fast.tw6763256634162973544:Unit:=()
def PySem.W.Fast.tw8753823495893510267:Unit:=()
def PySem.W.Fast.tw15106952192653303414:Unit:=()
def PySem.W.Fast.tw17657117339489923463:Unit:=()
open PySem PySem.W PyProof.Rows
set_option maxRecDepth 100000 in
set_option maxHeartbeats 0 in
theorem PySem.Challenge.cw_purseweb_k35_whole_free_or_never_holds : PySem.Challenge.rw_purseweb_k35_whole_free_or_never.Holds := by
 w_on;o_law;k_head;(case hw=>w_witness2)
 k_fill
 refine VL.law_walkB (l:=PySem.Challenge.rw_purseweb_k35_whole_free_or_never) (D:=PW.D_law) (x:="_law_script_here") 8 rfl rfl ⟨rfl,by decide,by decide,rfl⟩ PW.law_true (fun w h Y=>PySem.W.kIn_of Y) ?F
 case F=>
  intro w mg fa h KX G hmg
  refine' PW.all_mk hmg ?B ?Z0 ?d0 ?d1 ?d2 ?d3 ?d4 ?d5 ?d6 ?d7 ?d8 ?d9 ?d10 ?d11 ?d12 ?d13 ?d14 ?d15 ?d16 ?d17 ?d18 ?d19 ?d20 ?d21 ?d22 ?d23 ?d24 ?d25 ?d26 ?d27 ?d28 ?d29
  case B=>constructor<;>(refine PySem.W.mg_none_of KX G ?_;k_is)
  case Z0=>(refine' PW.cst_mk KX G ?y;(case y=>k_is))
  case d0 | d1 | d2 | d3 | d4 | d5 | d6 | d7 | d8 | d9 | d10 | d11 | d12 | d13 | d14 | d15 | d16 | d17 | d18 | d19 | d20 | d21 | d22 | d23 | d24 | d25 | d26 | d27 | d28 | d29=>(refine' L2.def_mk KX G ?a ?l ?c ?k;(case a=>k_is);(case l=>k_is);(case c=>k_is);(case k=>k_is))
