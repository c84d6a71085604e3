import PyProof.Rows.All
import Wide.All
import OpenK.AllK
import Wide.FinOn
import Lean
import PyProof.EqAt
import PyProof.EqKinds
import PyProof.TupleCall
import PyProof.NeKinds
import PyProof.ListMulRoad
import PyProof.WalkInts
import PyProof.ListRange
import KE.KRevIter
import KE.KSortTup
import KE.KDictSum
import PyProof.Rows.SortWalk
import PyProof.ExcInit
import PyProof.InstStoreFacts
import OpenK.KMake
import OpenK.KCls
import PyProof.FString2
import PySem.Challenge.RW_purseweb_k72_houses_that_lack
set_option Elab.async false
set_option linter.all false
set_option maxRecDepth 100000
namespace L2
open PySem PySem.Spec PyProof.Rows
abbrev Se:=Sum Int Str
def Hs:Se->Value->Bool
 | .inl k,v=>Value.isInt k v
 | .inr x,v=>Value.isStrOf x v
def ET(w:World):Se->Int
 | .inl k=>hashInt k
 | .inr x=>hashStr w x
theorem Ym:∀{k:Se}{v:Value},Hs k v=true->(∃i t,k=Sum.inl i/\v=Value.int i t)\/(∃x t,k=Sum.inr x/\v=Value.str x t)
 | .inl i,v,h=>by
  obtain⟨t,e⟩:=Value.isInt_shape (k:=i) (v:=v) h
  exact .inl ⟨i,t,rfl,e⟩
 | .inr x,v,h=>by
  obtain⟨t,e⟩:=Value.isStrOf_shape (x:=x) (v:=v) h
  exact .inr ⟨x,t,rfl,e⟩
theorem H9(a b:Int):decide ((Sum.inl a:Se)=Sum.inl b)=(a==b):=by
 by_cases e:a=b
 ·subst e;simp
 ·have h:¬(Sum.inl a:Se)=Sum.inl b:=fun q=>e (Sum.inl.inj q)
  rw[decide_eq_false h]
  exact(beq_eq_false_iff_ne.mpr e).symm
theorem Ga(a b:Str):decide ((Sum.inr a:Se)=Sum.inr b)=decide (a=b):=by
 by_cases e:a=b
 ·subst e;simp
 ·have h:¬(Sum.inr a:Se)=Sum.inr b:=fun q=>e (Sum.inr.inj q)
  rw[decide_eq_false h,decide_eq_false e]
theorem Gb(a:Int)(b:Str):decide ((Sum.inl a:Se)=Sum.inr b)=false:=decide_eq_false (fun q=>nomatch q)
theorem Gd(a:Str)(b:Int):decide ((Sum.inr a:Se)=Sum.inl b)=false:=decide_eq_false (fun q=>nomatch q)
def Qq(prog:Program)(w:World):PySem.KeyKind prog w Se where
 is:=Hs
 hash:=ET w
 inj:=fun v a b ha hb=>by
  rcases Ym ha with⟨i,t,rfl,rfl⟩ | ⟨x,t,rfl,rfl⟩
  ·rcases Ym hb with⟨j,u,rfl,e⟩ | ⟨y,u,rfl,e⟩
   ·injection e with e1 _;rw[e1]
   ·exact nomatch e
  ·rcases Ym hb with⟨j,u,rfl,e⟩ | ⟨y,u,rfl,e⟩
   ·exact nomatch e
   ·injection e with e1 _;rw[e1]
 byValue:=fun k v h=>by
  rcases Ym h with⟨i,t,rfl,rfl⟩ | ⟨x,t,rfl,rfl⟩<;>rfl
 pyHash:=fun hv h=>by
  rcases Ym hv with⟨i,t,rfl,rfl⟩ | ⟨x,t,rfl,rfl⟩
  ·exact wpAny_pyHash_int h
  ·exact wpAny_pyHash_str h
 eqBool:=fun hu hv h=>by
  rcases Ym hu with⟨i,t,rfl,rfl⟩ | ⟨x,t,rfl,rfl⟩
  ·rcases Ym hv with⟨j,u,rfl,rfl⟩ | ⟨y,u,rfl,rfl⟩
   ·rw[H9] at h;exact wpAny_eqBool_int h
   ·rw[Gb] at h;exact SeqAt.EqAt.int_str i t y u _ _ _ _ h
  ·rcases Ym hv with⟨j,u,rfl,rfl⟩ | ⟨y,u,rfl,rfl⟩
   ·rw[Gd] at h;exact SeqAt.EqAt.str_int x t j u _ _ _ _ h
   ·rw[Ga] at h;exact wpAny_eqBool_str h
 «strs»:=fun k x t v h=>by
  rcases Ym h with⟨i,u,rfl,e⟩ | ⟨y,u,rfl,e⟩
  ·exact nomatch e
  ·injection e with e1 _
   subst e1
   cases v<;>rfl
inductive V where
 | non | bl (b:Bool) | int (i:Int) | str (x:Str) | byt (b:Array UInt8) | flt (b:UInt64) | ref (a:Addr) | ty (n:String)
 deriving DecidableEq
def RelV:V->Value->Prop
 | .non,u=>u=Value.none
 | .bl b,u=>u=Value.bool b
 | .int i,u=>∃t,u=Value.int i t
 | .str x,u=>∃t,u=Value.str x t
 | .byt b,u=>∃t,u=Value.bytes b t
 | .flt b,u=>∃t,u=Value.float b t
 | .ref a,u=>u=Value.ref a
 | .ty n,u=>u=Value.type n
abbrev Vals:List V->List Value->Prop:=Paired RelV
theorem Vals.length{xs:List V}{us:List Value}(r:Vals xs us):xs.length=us.length:=Paired.length r
theorem Vals.get:∀{xs:List V}{us:List Value}{i:Nat}{x:V},Vals xs us->xs[i]?=some x->∃u,us[i]?=some u/\RelV x u
 | _,_,_,_,.nil,e=>by simp at e
 | _,_,0,_,.cons r _,e=>by simp at e;subst e;exact⟨_,rfl,r⟩
 | _,_,i+1,x,.cons _ t,e=>by
  obtain⟨u,h1,h2⟩:=Vals.get (i:=i) (x:=x) t (by simpa using e)
  exact⟨u,by simpa using h1,h2⟩
theorem Vals.set{x:V}{u:Value}(r:RelV x u):∀{xs:List V}{us:List Value}(i:Nat),Vals xs us->Vals (xs.set i x) (us.set i u)
 | _,_,_,.nil=>.nil
 | _,_,0,.cons _ t=>.cons r t
 | _,_,i+1,.cons q t=>.cons q (Vals.set r i t)
theorem Vals.append:∀{xs ys:List V}{us ws:List Value},Vals xs us->Vals ys ws->Vals (xs++ys) (us++ws)
 | _,_,_,_,.nil,s=>s
 | _,_,_,_,.cons r t,s=>.cons r (Vals.append t s)
theorem Vals.take:∀{xs:List V}{us:List Value}(n:Nat),Vals xs us->Vals (xs.take n) (us.take n)
 | _,_,0,_=>.nil
 | _,_,_+1,.nil=>.nil
 | _,_,n+1,.cons r t=>.cons r (Vals.take n t)
theorem Vals.drop:∀{xs:List V}{us:List Value}(n:Nat),Vals xs us->Vals (xs.drop n) (us.drop n)
 | _,_,0,r=>r
 | _,_,_+1,.nil=>.nil
 | _,_,n+1,.cons _ t=>Vals.drop n t
def Ge:Option V->Option Value->Prop
 | some v,some u=>RelV v u
 | none,none=>True
 | _,_=>False
def KV{κ:Type}:List (κ×V)->List (κ×Value)->Prop:=Paired fun(p:κ×V) (q:κ×Value)=>p.1=q.1/\RelV p.2 q.2
def kV:Se->V
 | .inl i=>.int i
 | .inr x=>.str x
inductive HO where
 /-- a list -/
 | lst (xs:List V)
 /-- a tuple (never changes) -/
 | tup (xs:List V)
 /-- a dict whose keys are ints and texts;one whose keys are tuples of ints and texts (the empty one is both) -/
 | dK (kvs:List (Se×V)) | dT (kvs:List (List Se×V))
 /-- a set of ints: its members,its size -/
 | set (S:Int->Bool) (n:Nat)
 /-- an instance of the class at C,its dict at dx,its attributes -/
 | ins (C dx:Addr) (fs:List (Str×V))
 /-- the dict of the instance at x -/
 | own (x:Addr)
 /-- the dict of an exception -/
 | xd (fs:List (Str×V))
 /-- a bound method,f of x -/
 | met (f x:Addr)
 /-- a range object lo,lo+1,.. below hi -/
 | rng (lo hi:Int)
 /-- a thing that is known to the object (the script;a dict while a loop walks it): read,never written while it is so -/
 | frz (o:Obj) (u:HO)
 /-- a code object's table -/
 | tbl (ps:Array Value)
 /-- any other thing,by what is true of its one object (a def of one's own: SetO a S n:=HO.ext fun h=>..) -/
 | ext (φ:Heap->Prop)
abbrev Hp:=Addr->Option HO
def upd(H:Hp)(a:Addr)(o:HO):Hp:=fun b=>if b=a then some o else H b
theorem Zq{H:Hp}{a:Addr}{o:HO}:upd H a o a=some o:=by unfold upd;rw[if_pos rfl]
theorem upd_ne{H:Hp}{a b:Addr}{o:HO}(h:b≠a):upd H a o b=H b:=by unfold upd;rw[if_neg h]
theorem ZK{H:Hp}{a b:Addr}{o:HO}(h:H a=some o)(h':H b=none):a≠b:=by
 intro e;subst e;rw[h] at h';cases h'
section
variable (P:Program) (w:World)
def ObjOk(H:Hp)(h:Heap)(a:Addr):HO->Prop
 | .lst xs=>xs.length<=sizeLine/\∃(its:List Value) (n:Nat),Vals xs its/\h.get? a=some { cls:=.type "list",data:=.seq its.toArray n }
 | .tup xs=>xs.length<=sizeLine/\∃its:List Value,Vals xs its/\IsTup h a its.toArray
 | .dK kvs=>kvs.length<=sizeLine/\(a==sysModules)=false/\∃vs,KV kvs vs/\h.DictOf (Qq P w) a vs
 | .dT kvs=>kvs.length<=sizeLine/\(a==sysModules)=false/\∃xs:List (List Se×Addr×Value),
   Paired (fun(p:List Se×V) (q:List Se×Addr×Value)=>p.1=q.1/\H q.2.1=some (.tup (p.1.map kV))/\RelV p.2 q.2.2) kvs xs/\
   ∃o es ep,h.get? a=some o/\o.ExactDict/\o.data = .dict es ep/\es.toList=xs.map (entryOfKey (tupleKind (Qq P w)))/\(xs.map (·.1)).Nodup
 | .set S n=>h.SetOf (intKind P w) a S n
 | .ins C dx fs=>H dx=some (.own a)/\fs.length<=1000/\dx≠a/\h.get? a=some (PySem.W.instObj C dx)/\
   ∃mA,h.Ns1 dx mA/\(∀f,Ge (fs.lookup f) (mA f))/\PySem.Within mA (fs.map (·.1))
 | .own _=>∃o,h.get? a=some o
 | .xd fs=>∃mA,h.Ns1 a mA/\∀f,Ge (fs.lookup f) (mA f)
 | .rng lo hi=>∃t u v,h.get? a=some { cls:=.type "range",data:=.fields #[.int lo t,.int hi u,.int 1 v] }
 | .frz o u=>h.get? a=some o/\ObjOk H h a u
 | .tbl ps=>h.get? a=some { cls:=.none,data:=.fields ps }
 | .met f x=>h.get? a=some (PySem.W.methodObj (.ref f) (.ref x))
 | .ext φ=>φ h/\(∃o,h.get? a=some o)/\∀h1 h2:Heap,φ h1->(∀o,h1.get? a=some o->h2.get? a=some o)->φ h2
def HOk(H:Hp)(h:Heap):Prop:=∀a o,H a=some o->ObjOk P w H h a o
end
section
variable {P:Program} {w:World} {H H':Hp} {h h':Heap} {a:Addr} {o:HO}
theorem ObjOk.lt(x:ObjOk P w H h a o):a<h.objs.size:=by
 cases o with
 | lst xs=>obtain⟨_,_,_,_,e⟩:=x;exact Heap.lt_size e
 | tup xs=>obtain⟨_,_,_,p⟩:=x;exact p.lt
 | dK kvs=>obtain⟨_,_,_,_,o,_,_,e,_⟩:=x;exact Heap.lt_size e
 | dT kvs=>obtain⟨_,_,_,_,o,_,_,e,_⟩:=x;exact Heap.lt_size e
 | set S n=>obtain⟨o,_,_,_,e,_⟩:=x;exact Heap.lt_size e
 | ins C dx fs=>obtain⟨_,_,_,e,_⟩:=x;exact Heap.lt_size e
 | own y=>obtain⟨_,e⟩:=x;exact Heap.lt_size e
 | xd fs=>obtain⟨_,⟨_,_,_,e,_⟩,_⟩:=x;exact Heap.lt_size e
 | rng lo hi=>obtain⟨_,_,_,e⟩:=x;exact Heap.lt_size e
 | frz ob u=>obtain⟨e,_⟩:=x;exact Heap.lt_size e
 | tbl ps=>exact Heap.lt_size (show h.get? a=some _ from x)
 | met f y=>exact Heap.lt_size (show h.get? a=some _ from x)
 | ext φ=>obtain⟨_,⟨_,e⟩,_⟩:=x;exact Heap.lt_size e
theorem Paired.mapP{α β:Type}{F G:α->β->Prop}:∀{l₁:List α}{l₂:List β},Paired F l₁ l₂->(∀a b,F a b->G a b)->Paired G l₁ l₂
 | _,_,.nil,_=>.nil
 | _,_,.cons r t,f=>.cons (f _ _ r) (Paired.mapP t f)
theorem ObjOk.stay(x:ObjOk P w H h a o)(k:∀b u,(b=a\/H b=some (.own a))->h.get? b=some u->h'.get? b=some u)
  (ho:∀b,H b=some (.own a)->H' b=some (.own a)) (ht:∀b xs,H b=some (.tup xs)->H' b=some (.tup xs)):ObjOk P w H' h' a o:=by
 induction o with
 | lst xs=>obtain⟨z,its,n,r,e⟩:=x;exact⟨z,its,n,r,k _ _ (.inl rfl) e⟩
 | tup xs=>obtain⟨z,its,r,ob,e,c⟩:=x;exact⟨z,its,r,ob,k _ _ (.inl rfl) e,c⟩
 | dK kvs=>obtain⟨z,y,vs,r,ob,es,ep,e,c⟩:=x;exact⟨z,y,vs,r,ob,es,ep,k _ _ (.inl rfl) e,c⟩
 | dT kvs=>
  obtain⟨z,y,xs,r,ob,es,ep,e,c⟩:=x
  exact⟨z,y,xs,Paired.mapP r fun p q z=>⟨z.1,ht _ _ z.2.1,z.2.2⟩,ob,es,ep,k _ _ (.inl rfl) e,c⟩
 | set S n=>obtain⟨ob,es,ep,t,e,c⟩:=x;exact⟨ob,es,ep,t,k _ _ (.inl rfl) e,c⟩
 | ins C dx fs=>
  obtain⟨d,z,ne,e,mA,⟨od,es,ep,e2,c⟩,r⟩:=x
  exact⟨ho _ d,z,ne,k _ _ (.inl rfl) e,mA,⟨od,es,ep,k _ _ (.inr d) e2,c⟩,r⟩
 | own y=>obtain⟨ob,e⟩:=x;exact⟨ob,k _ _ (.inl rfl) e⟩
 | xd fs=>obtain⟨mA,⟨od,es,ep,e,c⟩,r⟩:=x;exact⟨mA,⟨od,es,ep,k _ _ (.inl rfl) e,c⟩,r⟩
 | rng lo hi=>obtain⟨t,u,v,e⟩:=x;exact⟨t,u,v,k _ _ (.inl rfl) e⟩
 | frz ob u ih=>obtain⟨e,q⟩:=x;exact⟨k _ _ (.inl rfl) e,ih q⟩
 | tbl ps=>
  have e:h.get? a=some { cls:=.none,data:=.fields ps }:=x
  show h'.get? a=some { cls:=.none,data:=.fields ps }
  exact k a _ (.inl rfl) e
 | met f y=>
  have e:h.get? a=some (PySem.W.methodObj (.ref f) (.ref y)):=x
  show h'.get? a=some (PySem.W.methodObj (.ref f) (.ref y))
  exact k a _ (.inl rfl) e
 | ext φ=>obtain⟨p,⟨o,e⟩,st⟩:=x;exact⟨st _ _ p fun o q=>k _ _ (.inl rfl) q,⟨o,k _ _ (.inl rfl) e⟩,st⟩
theorem HOk.lt(x:HOk P w H h)(e:H a=some o):a<h.objs.size:=(x a o e).lt
theorem HOk.fresh(x:HOk P w H h)(e:h.objs.size<=a):H a=none:=by
 cases q:H a with
 | none=>rfl
 | some u=>exact absurd (Nat.lt_of_lt_of_le (x.lt q) e) (Nat.lt_irrefl _)
theorem HOk.kept(x:HOk P w H h)(k:∀b u,h.get? b=some u->h'.get? b=some u):HOk P w H h':=fun a o e=>
 (x a o e).stay (fun b u _ q=>k b u q) (fun _ q=>q) fun _ _ q=>q
theorem HOk.laid(x:HOk P w H h)(k:∀b u,h.get? b=some u->h'.get? b=some u)(hp:h.objs.size<=a)(new:ObjOk P w (upd H a o) h' a o):HOk P w (upd H a o) h':=fun b u e=>by
 have hn:=x.fresh hp
 by_cases hb:b=a
 ·subst hb;rw[Zq] at e;cases e;exact new
 ·rw[upd_ne hb] at e
  exact(x b u e).stay (fun c v _ q=>k c v q) (fun c q=>by rw[upd_ne (ZK q hn)];exact q) fun c xs q=>by rw[upd_ne (ZK q hn)];exact q
end
def Rd(H:Hp)(a:Addr)(u:HO):Prop:=H a=some u\/∃o,H a=some (.frz o u)
theorem Rd.ok{P:Program}{w:World}{H:Hp}{h:Heap}{a:Addr}{u:HO}(r:Rd H a u)(x:HOk P w H h):ObjOk P w H h a u:=by
 rcases r with r | ⟨o,r⟩
 ·exact x a u r
 ·obtain⟨_,q⟩:=x a _ r
  exact q
def W5:Option HO->Prop
 | some (.lst _)=>True
 | some (.dK _)=>True
 | some (.dT _)=>True
 | some (.set _ _)=>True
 | some (.ins _ _ _)=>True
 | some (.ext _)=>True
 | _=>False
section
variable {P:Program} {w:World} {H:Hp} {h h':Heap} {x e:Addr} {o':HO}
theorem HOk.write(ok:HOk P w H h)(mu:W5 (H x))(he:e=x\/H e=some (.own x))(k:∀b u,b≠e->h.get? b=some u->h'.get? b=some u)(heo:∃u,h'.get? e=some u)
  (new:ObjOk P w (upd H x o') h' x o'):HOk P w (upd H x o') h':=fun b u q=>by
 have nown:∀c y,H c=some (.own y)->c≠x:=fun c y r z=>by subst z;rw[r] at mu;exact mu
 have ntup:∀c xs,H c=some (.tup xs)->c≠x:=fun c xs r z=>by subst z;rw[r] at mu;exact mu
 by_cases hb:b=x
 ·subst hb;rw[Zq] at q;cases q;exact new
 ·rw[upd_ne hb] at q
  by_cases hbe:b=e
  ·have q':H b=some (.own x):=by
    rcases he with z | z
    ·exact absurd (hbe.trans z) hb
    ·rw[hbe];exact z
   rw[q] at q';cases q'
   obtain⟨v,hv⟩:=heo
   exact⟨v,by rw[hbe];exact hv⟩
  ·refine(ok b u q).stay (fun c v hc r=>k c v ?_ r) (fun c r=>by rw[upd_ne (nown c b r)];exact r) fun c xs r=>by rw[upd_ne (ntup c xs r)];exact r
   rcases hc with rfl | hc
   ·exact hbe
   ·rintro rfl
    rcases he with z | z
    ·exact nown c b hc z
    ·rw[hc] at z;cases z;exact hb rfl
end
structure Un(fs ex:List Addr)(H H':Hp)(h h':Heap):Prop where
 keep:∀b o,h.get? b=some o->H b=none->b∉fs->b∉ex->h'.get? b=some o
 slot:∀b o,h.get? b=some o->H b=none->b∈fs->b∉ex->∃sl,h'.get? b=some { o with slots:=sl }
 free:∀b o,h.get? b=some o->H b=none->b∉ex->H' b=none
 there:∀b o,h.get? b=some o->b∉ex->∃o',h'.get? b=some o'
 tups:∀b xs,H b=some (.tup xs)->H' b=some (.tup xs)
 frzs:∀b o u,H b=some (.frz o u)->H' b=some (.frz o u)
 tbls:∀b ps,H b=some (.tbl ps)->∃more,H' b=some (.tbl (ps++more))
section
variable {fs fs' ex ex':List Addr} {H H1 H2:Hp} {h h1 h2 h':Heap} {a x e:Addr} {o:HO}
theorem Un.any(u:Un fs ex H H1 h h1){b:Addr}{ob:Obj}(q:h.get? b=some ob)(n:H b=none)(hx:b∉ex):∃sl,h1.get? b=some { ob with slots:=sl }:=by
 by_cases hb:b∈fs
 ·exact u.slot b ob q n hb hx
 ·exact⟨ob.slots,u.keep b ob q n hb hx⟩
theorem Un.kept(k:∀b u,h.get? b=some u->h'.get? b=some u):Un fs ex H H h h':=
 ⟨fun b ob q _ _ _=>k b ob q,fun b ob q _ _ _=>⟨ob.slots,k b ob q⟩,fun _ _ _ n _=>n,fun b ob q _=>⟨ob,k b ob q⟩,fun _ _ q=>q,fun _ _ _ q=>q,fun _ ps q=>⟨#[],by rw[q];simp⟩⟩
theorem Un.refl:Un fs ex H H h h:=Un.kept fun _ _ q=>q
theorem Un.laid(k:∀b u,h.get? b=some u->h'.get? b=some u)(hp:h.objs.size<=a)(hn:H a=none):Un fs ex H (upd H a o) h h' where
 keep:=fun b u q _ _ _=>k b u q
 slot:=fun b u q _ _ _=>⟨u.slots,k b u q⟩
 free:=fun b u q n _=>by rw[upd_ne (Nat.ne_of_lt (Nat.lt_of_lt_of_le (Heap.lt_size q) hp))];exact n
 there:=fun b u q _=>⟨u,k b u q⟩
 tups:=fun b xs q=>by rw[upd_ne (ZK q hn)];exact q
 frzs:=fun b u xs q=>by rw[upd_ne (ZK q hn)];exact q
 tbls:=fun b ps q=>⟨#[],by rw[upd_ne (ZK q hn),q];simp⟩
theorem Un.write(mu:W5 (H x))(he:e=x\/H e=some (.own x))(k:∀b u,b≠e->h.get? b=some u->h'.get? b=some u)(heo:∃u,h'.get? e=some u):Un fs ex H (upd H x o) h h':=by
 have hx:∀b,H b=none->b≠x:=fun b n z=>by subst z;rw[n] at mu;exact mu
 have hb:∀b,H b=none->b≠e:=fun b n z=>by
  subst z
  rcases he with r | r
  ·exact hx b n r
  ·rw[n] at r;cases r
 have hm:∀b u,H b=some u->¬W5 (some u)->b≠x:=fun b u q nm z=>by subst z;rw[q] at mu;exact nm mu
 refine⟨fun b u q n _ _=>k b u (hb b n) q,fun b u q n _ _=>⟨u.slots,k b u (hb b n) q⟩,fun b u q n _=>by rw[upd_ne (hx b n)];exact n,fun b u q _=>?_,
  fun b xs q=>by rw[upd_ne (hm b _ q fun z=>z)];exact q,fun b u xs q=>by rw[upd_ne (hm b _ q fun z=>z)];exact q,fun b ps q=>⟨#[],by rw[upd_ne (hm b _ q fun z=>z),q];simp⟩⟩
 by_cases hbe:b=e
 ·subst hbe;exact heo
 ·exact⟨u,k b u hbe q⟩
end
def EI(h:Heap)(H:Hp):List Addr:=(List.range h.objs.size).filter fun a=>(H a).isSome
def Qr(h:Heap)(H:Hp):Heap:=PySem.W.hideAll h (EI h H)
theorem Mw(h:Heap)(H:Hp):(Qr h H).objs.size=h.objs.size:=PySem.W.hideAll_size _ _
theorem LI{h:Heap}{H:Hp}{b:Addr}{o:Obj}(e:h.get? b=some o)(n:H b=none):(Qr h H).get? b=some o:=
 PySem.W.hideAll_get _ e fun hm=>by
  have q:(H b).isSome=true:=(List.mem_filter.mp hm).2
  rw[n] at q;simp at q
theorem JQ{h:Heap}{H:Hp}{b:Addr}{o:Obj}(e:(Qr h H).get? b=some o):h.get? b=some o/\H b=none:=by
 have e':h.get? b=some o:=PySem.W.of_hideAll (EI h H) e
 refine⟨e',?_⟩
 cases q:H b with
 | none=>rfl
 | some x=>
  have hm:b∈EI h H:=List.mem_filter.mpr ⟨List.mem_range.mpr (Heap.lt_size e'),by simp[q]⟩
  have z:(Qr h H).get? b=none:=PySem.W.hideAll_none (EI h H) hm
  rw[z] at e;cases e
def JR(g h:Heap)(L:Addr):List (Addr×Obj):=(List.range h.objs.size).filterMap fun a=>if a=L\/(g.get? a).isSome=true then none else(h.get? a).map fun o=>(a,o)
def rest(g h:Heap)(L d:Addr):List (Addr×Obj):=(JR g h L).filter fun p=>decide (p.1≠d)
structure Mod(K:PySem.W.Frag)(mg:Str->Option Value)(base:Heap):Prop where
 kin:K.In base
 glob:base.Ns mainGlobals mg
 blt:∃mb,base.Ns builtinsNs mb/\∀x:Str,x≠"__name__"->mb x=bootBuiltins x
 nolimit:base.NoLimit
structure Cx where
 prog:Program
 w:World
 K:PySem.W.Frag
 mg:Str->Option Value
 base:Heap
 A:Around
 N:List Str
 s₀:Shared
 H₀:Hp
 env:Env
 outer:List Env
 stack:List Env
 ex:List Addr
 fn:Str->Bool
 calm:Bool
 pn:List (Addr×Obj)
 xe:Value->Shared->Prop
def Oy(l:List Env):List Addr:=l.filterMap (·.frame)
abbrev Cx.fs(X:Cx):List Addr:=Oy X.outer
def EU(sc:Scope)(x:Str):Prop:=sc.names.lookup x=some .local\/sc.names.lookup x=some .cell\/sc.names.lookup x=some .free
def FL(sc:Scope)(x:Str):Prop:=sc.names.lookup x=some .local\/sc.names.lookup x=some .cell
def EV(env:Env)(h:Heap)(m:Str->Option Value)(x:Str)(u:Value):Prop:=
 (env.kindOf x=some .local/\m x=some u)\/((env.kindOf x=some .cell\/env.kindOf x=some .free)/\∃c,env.cells.lookup x=some c/\h.IsCell c (some u))
structure Cx.Ok(X:Cx):Prop where
 mod:Mod X.K X.mg X.base
 kind:X.env.scope.kind = .function
 glob:X.env.globals=mainGlobals
 blt:X.env.builtins=builtinsNs
 above:X.s₀.heap.objs.size<=X.env.locals
 inj:∀x y c,X.env.cells.lookup x=some c->X.env.cells.lookup y=some c->x=y
 has:∀x,(X.env.kindOf x=some .cell\/X.env.kindOf x=some .free)->∃c,X.env.cells.lookup x=some c
 cab:∀x c,X.fn x=true->X.env.cells.lookup x=some c->X.s₀.heap.objs.size<=c
 hd:X.calm=true->X.A.handled=none
 frames:X.A.frames=some X.stack
 stk:X.stack=X.outer\/(X.stack=X.env::X.outer/\X.env.frame=some X.env.locals)
 exf:∀b∈X.ex,b≠X.env.locals/\∀x c,X.env.cells.lookup x=some c->c≠b
 bs:∀b o,X.base.get? b=some o->X.s₀.heap.get? b=some o/\X.H₀ b=none
 bsz:X.base.objs.size<=X.s₀.heap.objs.size
 noex:∀b o,X.base.get? b=some o->b∉X.ex
 exfs:∀b∈X.ex,b∉X.fs
 funs:X.s₀.heap.FunFrames X.base X.outer
 frf:∀b∈X.fs,X.H₀ b=none
structure Inv(X:Cx)(pins:List (Addr×Obj))(σ:List (Option V))(H:Hp)(s:Shared):Prop where
 ok:X.Ok
 os:s.os=X.s₀.os
 bare:AllBare s.gens
 base:Un X.fs X.ex X.H₀ H X.s₀.heap s.heap
 loc:∃m,s.heap.Ns X.env.locals m/\∀(i:Nat)(x:Str)(v:V),X.N[i]?=some x->σ[i]?=some (some v)->EU X.env.scope x->∃u,RelV v u/\EV X.env s.heap m x u
 cell:∀x c,X.env.cells.lookup x=some c->∃v,s.heap.IsCell c v
 free:H X.env.locals=none
 freeC:∀x c,X.env.cells.lookup x=some c->H c=none
 pin:∀p∈X.pn++pins,s.heap.get? p.1=some p.2/\H p.1=none/\p.1≠X.env.locals/\p.1∉X.fs/\∀v,p.2.data≠.cell v
 hok:HOk X.prog X.w H s.heap
 len:σ.length=X.N.length
section
variable {X:Cx} {pins:List (Addr×Obj)} {σ:List (Option V)} {H H':Hp} {s:Shared} {h':Heap}
theorem Cx.Ok.nofr(ok:X.Ok){b:Addr}{o:Obj}(e:X.base.get? b=some o):b∉X.fs:=fun hb=>by
 have:=(ok.funs.mem hb).1
 rw[e] at this;cases this
theorem Inv.bs(I:Inv X pins σ H s):∀b o,X.base.get? b=some o->s.heap.get? b=some o/\H b=none:=fun b o e=>
 ⟨I.base.keep b o (I.ok.bs b o e).1 (I.ok.bs b o e).2 (I.ok.nofr e) (I.ok.noex b o e),I.base.free b o (I.ok.bs b o e).1 (I.ok.bs b o e).2 (I.ok.noex b o e)⟩
theorem Inv.bk(I:Inv X pins σ H s):∀b o,X.base.get? b=some o->s.heap.get? b=some o:=fun b o e=>(I.bs b o e).1
theorem Inv.mod(I:Inv X pins σ H s):Mod X.K X.mg X.base:=I.ok.mod
theorem Inv.kIn(I:Inv X pins σ H s):X.K.In s.heap:=I.ok.mod.kin.keeps I.bk
theorem Inv.fr(I:Inv X pins σ H s):∃m,Fr X.base X.env.locals s.heap m:=
 let⟨m,hn,_⟩:=I.loc
 ⟨m,hn,I.bk,Nat.le_trans I.ok.bsz I.ok.above⟩
theorem Inv.lt(I:Inv X pins σ H s):X.env.locals<s.heap.objs.size:=let⟨_,hn,_⟩:=I.loc;hn.lt
theorem Inv.sz(I:Inv X pins σ H s):X.s₀.heap.objs.size<=s.heap.objs.size:=Nat.le_trans I.ok.above (Nat.le_of_lt I.lt)
theorem Inv.nofs(I:Inv X pins σ H s){a:Addr}(h:s.heap.objs.size<=a):a∉X.fs:=fun hb=>by
 obtain⟨_,o,ho,_⟩:=I.ok.funs.mem hb
 exact absurd (Nat.lt_of_lt_of_le (Heap.lt_size ho) (Nat.le_trans I.sz h)) (Nat.lt_irrefl _)
theorem Inv.cne(I:Inv X pins σ H s):∀x c,X.env.cells.lookup x=some c->c≠X.env.locals:=fun x c e z=>by
 obtain⟨v,o,ho,hd⟩:=I.cell x c e
 obtain⟨m,⟨o',es,ep,ho',hd',_⟩,_⟩:=I.loc
 rw[z,ho'] at ho;cases ho;rw[hd'] at hd;cases hd
theorem Inv.funs(I:Inv X pins σ H s):s.heap.FunFrames X.base X.outer:=by
 have all:∀(l:List Env),(∀b∈Oy l,b∈X.fs)->X.s₀.heap.FunFrames X.base l->s.heap.FunFrames X.base l:=by
  intro l
  induction l with
  | nil=>intro _ _;trivial
  | cons env r ih=>
   intro hs hl
   obtain⟨hk,⟨L,o,hf,hn,ho,hd⟩,hr⟩:=hl
   have hL:L∈X.fs:=hs L (by unfold Oy;rw[List.filterMap_cons,hf];exact List.mem_cons_self)
   obtain⟨sl,e⟩:=I.base.slot L o ho (I.ok.frf L hL) hL fun z=>I.ok.exfs L z hL
   exact⟨hk,⟨L,_,hf,hn,e,hd⟩,ih (fun b hb=>hs b (by unfold Oy;rw[List.filterMap_cons,hf];exact List.mem_cons_of_mem _ hb)) hr⟩
 exact all X.outer (fun _ hb=>hb) I.ok.funs
theorem Inv.stack(I:Inv X pins σ H s):s.heap.FunFrames X.base X.stack:=by
 rcases I.ok.stk with e | ⟨e,hf⟩
 ·rw[e];exact I.funs
 ·rw[e]
  obtain⟨m,hn,_⟩:=I.loc
  refine .cons (by rw[I.ok.kind];decide) hf hn ?_ I.funs
  exact Heap.get?_none_of_le (Nat.le_trans I.ok.bsz I.ok.above)
theorem Inv.stkSub(I:Inv X pins σ H s):∀b∈Oy X.stack,b∈X.env.locals::X.fs:=fun b hb=>by
 rcases I.ok.stk with e | ⟨e,hf⟩
 ·rw[e] at hb;exact List.mem_cons_of_mem _ hb
 ·rw[e] at hb
  unfold Oy at hb;rw[List.filterMap_cons,hf] at hb;exact hb
theorem Inv.stkFree(I:Inv X pins σ H s):∀b∈Oy X.stack,H b=none:=fun b hb=>by
 rcases List.mem_cons.mp (I.stkSub b hb) with e | hb
 ·rw[e];exact I.free
 ·obtain⟨_,o,ho,_⟩:=I.ok.funs.mem hb
  exact I.base.free b o ho (I.ok.frf b hb) fun z=>I.ok.exfs b z hb
theorem Inv.step{g':Array GenState}{t':Nat}{d':Drawn}{ch:List Addr}(I:Inv X pins σ H s)
  (hch:∀b∈ch,(b∈X.ex\/X.s₀.heap.objs.size<=b)/\b≠X.env.locals/\(∀x c,X.env.cells.lookup x=some c->c≠b)/\∀p∈X.pn++pins,p.1≠b)
  (keep:∀b o,b≠X.env.locals->b∉X.fs->b∉ch->s.heap.get? b=some o->H b=none->h'.get? b=some o)
  (slot:∀b o,b≠X.env.locals->b∈X.fs->b∉ch->s.heap.get? b=some o->H b=none->∃sl,h'.get? b=some { o with slots:=sl }) (free:∀b o,b∉ch->s.heap.get? b=some o->H b=none->H' b=none)
  (there:∀b o,b∉ch->s.heap.get? b=some o->∃o',h'.get? b=some o')
  (tups:∀b xs,H b=some (.tup xs)->H' b=some (.tup xs)) (frzs:∀b o u,H b=some (.frz o u)->H' b=some (.frz o u)) (tbls:∀b ps,H b=some (.tbl ps)->∃more,H' b=some (.tbl (ps++more)))
  (ns:∀m,s.heap.Ns X.env.locals m->h'.Ns X.env.locals m) (hok:HOk X.prog X.w H' h') (hg:AllBare g') :
  Inv X pins σ H' { s with heap:=h',gens:=g',drawn:=d',toks:=t' }:=by
 have neL:∀b o,X.s₀.heap.get? b=some o->b≠X.env.locals:=fun b o e=>Nat.ne_of_lt (Nat.lt_of_lt_of_le (Heap.lt_size e) I.ok.above)
 have neC:∀b o,X.s₀.heap.get? b=some o->b∉X.ex->b∉ch:=fun b o e hx hb=>by
  rcases(hch b hb).1 with z | z
  ·exact hx z
  ·exact absurd (Nat.lt_of_lt_of_le (Heap.lt_size e) z) (Nat.lt_irrefl _)
 have cellK:∀x c,X.env.cells.lookup x=some c->∀v,s.heap.IsCell c v->h'.IsCell c v:=fun x c e v ⟨o,ho,hd⟩=>by
  have nch:c∉ch:=fun z=>(hch c z).2.2.1 x c e rfl
  by_cases hc:c∈X.fs
  ·obtain⟨sl,q⟩:=slot c o (I.cne x c e) hc nch ho (I.freeC x c e)
   exact⟨_,q,hd⟩
  ·exact⟨o,keep c o (I.cne x c e) hc nch ho (I.freeC x c e),hd⟩
 refine⟨I.ok,I.os,hg,⟨fun b o e n hb hx=>?_,fun b o e n hb hx=>?_,fun b o e n hx=>?_,fun b o e hx=>?_,fun b xs e=>tups b xs (I.base.tups b xs e),fun b o xs e=>frzs b o xs (I.base.frzs b o xs e),fun b ps e=>?_⟩,?_,fun x c e=>?_,?_,fun x c e=>?_,fun p hp=>?_,hok,I.len⟩
 ·exact keep b o (neL b o e) hb (neC b o e hx) (I.base.keep b o e n hb hx) (I.base.free b o e n hx)
 ·obtain⟨sl,e1⟩:=I.base.slot b o e n hb hx
  obtain⟨sl',e2⟩:=slot b _ (neL b o e) hb (neC b o e hx) e1 (I.base.free b o e n hx)
  exact⟨sl',e2⟩
 ·obtain⟨o',e1⟩:=I.base.there b o e hx
  exact free b o' (neC b o e hx) e1 (I.base.free b o e n hx)
 ·obtain⟨o',e1⟩:=I.base.there b o e hx
  exact there b o' (neC b o e hx) e1
 ·obtain⟨m1,e1⟩:=I.base.tbls b ps e
  obtain⟨m2,e2⟩:=tbls b _ e1
  exact⟨m1++m2,by rw[e2,Array.append_assoc]⟩
 ·obtain⟨m,hn,hl⟩:=I.loc
  refine⟨m,ns m hn,fun i x v e1 e2 e3=>?_⟩
  obtain⟨u,r,l⟩:=hl i x v e1 e2 e3
  refine⟨u,r,?_⟩
  rcases l with l | ⟨k,c,e,z⟩
  ·exact .inl l
  ·exact .inr ⟨k,c,e,cellK x c e _ z⟩
 ·obtain⟨v,z⟩:=I.cell x c e
  exact⟨v,cellK x c e v z⟩
 ·obtain⟨m,⟨o,_,_,ho,_⟩,_⟩:=I.loc
  exact free _ o (fun z=>(hch _ z).2.1 rfl) ho I.free
 ·obtain⟨v,o,ho,hd⟩:=I.cell x c e
  exact free c o (fun z=>(hch c z).2.2.1 x c e rfl) ho (I.freeC x c e)
 ·obtain⟨e,n,ne,nf,d⟩:=I.pin p hp
  have nch:p.1∉ch:=fun z=>(hch p.1 z).2.2.2 p hp rfl
  exact⟨keep p.1 p.2 ne nf nch e n,free p.1 p.2 nch e n,ne,nf,d⟩
theorem Inv.un{t':Nat}(I:Inv X pins σ H s)(u:Un X.fs [] H H' s.heap h')(hok:HOk X.prog X.w H' h'):Inv X pins σ H' { s with heap:=h',toks:=t' }:=by
 obtain⟨m,⟨o,es,ep,ho,r⟩,_⟩:=id I.loc
 obtain⟨sl,hL⟩:=u.any ho I.free (by simp)
 exact I.step (g':=s.gens) (d':=s.drawn) (ch:=[]) (fun _ z=>nomatch z) (fun b o _ hb _ e n=>u.keep b o e n hb (by simp)) (fun b o _ hb _ e n=>u.slot b o e n hb (by simp)) (fun b o _ e n=>u.free b o e n (by simp)) (fun b o _ e=>u.there b o e (by simp)) u.tups u.frzs u.tbls (fun m' hm=>by
  obtain⟨o',es',ep',ho',r'⟩:=hm
  rw[ho] at ho';cases ho'
  exact⟨_,es',ep',hL,r'⟩) hok I.bare
theorem Inv.call{g':Array GenState}{t':Nat}{d':Drawn}{ch:List Addr}(I:Inv X pins σ H s)(u:Un (Oy X.stack) ch H H' s.heap h')(hok:HOk X.prog X.w H' h')(hg:AllBare g')
  (hch:∀b∈ch,(b∈X.ex\/X.s₀.heap.objs.size<=b)/\b≠X.env.locals/\(∀x c,X.env.cells.lookup x=some c->c≠b)/\∀p∈X.pn++pins,p.1≠b) :
  Inv X pins σ H' { s with heap:=h',gens:=g',drawn:=d',toks:=t' }:=by
 obtain⟨m,⟨o,es,ep,ho,r⟩,_⟩:=id I.loc
 obtain⟨sl,hL⟩:=u.any ho I.free fun z=>(hch _ z).2.1 rfl
 exact I.step (ch:=ch) hch (fun b o hL hb hc e n=>u.keep b o e n (fun z=>(List.mem_cons.mp (I.stkSub b z)).elim hL hb) hc) (fun b o _ _ hc e n=>u.any e n hc) (fun b o hc e n=>u.free b o e n hc) (fun b o hc e=>u.there b o e hc) u.tups u.frzs u.tbls (fun m' hm=>by
  obtain⟨o',es',ep',ho',r'⟩:=hm
  rw[ho] at ho';cases ho'
  exact⟨_,es',ep',hL,r'⟩) hok hg
theorem Inv.turned{t':Nat}{it:Addr}(I:Inv X pins σ H s)(k:∀b o,b≠it->s.heap.get? b=some o->h'.get? b=some o)(hn:H it=none)(hL:it≠X.env.locals)
  (h1:it∈X.ex\/X.s₀.heap.objs.size<=it) (h2:∀x c,X.env.cells.lookup x=some c->c≠it) (h3:∀p∈X.pn++pins,p.1≠it):Inv X pins σ H { s with heap:=h',toks:=t' }:=by
 have nit:∀b u,H b=some u->b≠it:=fun b u e z=>by rw[z,hn] at e;cases e
 refine I.step (g':=s.gens) (d':=s.drawn) (ch:=[it]) (fun b hb=>?_) (fun b o _ _ hc e _=>k b o (fun z=>hc (by simp[z])) e) (fun b o _ _ hc e _=>⟨o.slots,k b o (fun z=>hc (by simp[z])) e⟩) (fun _ _ _ _ n=>n)
  (fun b o hc e=>⟨o,k b o (fun z=>hc (by simp[z])) e⟩) (fun _ _ e=>e) (fun _ _ _ e=>e) (fun b ps e=>⟨#[],by rw[e];simp⟩) (fun m hm=>?_) (fun b u e=>?_) I.bare
 ·have e:b=it:=by simpa using hb
  subst e
  exact⟨h1,hL,h2,h3⟩
 ·obtain⟨o,es,ep,ho,r⟩:=hm
  exact⟨o,es,ep,k _ o (Ne.symm hL) ho,r⟩
 ·refine(I.hok b u e).stay (fun c v hc q=>k c v ?_ q) (fun _ q=>q) fun _ _ q=>q
  rcases hc with z | z
  ·rw[z];exact nit b u e
  ·exact nit c _ z
theorem Inv.tok(I:Inv X pins σ H s)(t:Nat):Inv X pins σ H { s with toks:=t }:=I.un (h':=s.heap) (t':=t) Un.refl I.hok
theorem Inv.kept{t':Nat}(I:Inv X pins σ H s)(k:∀b u,s.heap.get? b=some u->h'.get? b=some u):Inv X pins σ H { s with heap:=h',toks:=t' }:=I.un (Un.kept k) (I.hok.kept k)
theorem Inv.laid{a:Addr}{o:HO}{t':Nat}(I:Inv X pins σ H s)(k:∀b u,s.heap.get? b=some u->h'.get? b=some u)(hp:s.heap.objs.size<=a)(new:ObjOk X.prog X.w (upd H a o) h' a o) :
  Inv X pins σ (upd H a o) { s with heap:=h',toks:=t' }:=I.un (Un.laid k hp (I.hok.fresh hp)) (I.hok.laid k hp new)
theorem Inv.write{x e:Addr}{o:HO}{t':Nat}(I:Inv X pins σ H s)(mu:W5 (H x))(he:e=x\/H e=some (.own x))(k:∀b u,b≠e->s.heap.get? b=some u->h'.get? b=some u)(heo:∃u,h'.get? e=some u)
  (new:ObjOk X.prog X.w (upd H x o) h' x o):Inv X pins σ (upd H x o) { s with heap:=h',toks:=t' }:=I.un (Un.write mu he k heo) (I.hok.write mu he k heo new)
theorem Inv.weak{σ':List (Option V)}(I:Inv X pins σ H s)(hl:σ'.length=σ.length)(w:∀(i:Nat) v,σ'[i]?=some (some v)->σ[i]?=some (some v)):Inv X pins σ' H s:=
 ⟨I.ok,I.os,I.bare,I.base,let⟨m,hn,hl'⟩:=I.loc;⟨m,hn,fun i x v e1 e2 e3=>hl' i x v e1 (w i v e2) e3⟩,I.cell,I.free,I.freeC,I.pin,I.hok,hl.trans I.len⟩
theorem Inv.pins_of{pins':List (Addr×Obj)}(I:Inv X pins σ H s)(h:∀p∈pins',s.heap.get? p.1=some p.2/\H p.1=none/\p.1≠X.env.locals/\p.1∉X.fs/\∀v,p.2.data≠.cell v):Inv X pins' σ H s:=
 ⟨I.ok,I.os,I.bare,I.base,I.loc,I.cell,I.free,I.freeC,fun p hp=>(List.mem_append.mp hp).elim (fun z=>I.pin p (List.mem_append_left _ z)) (h p),I.hok,I.len⟩
theorem So{N:List Str}(hN:N.Nodup){i j:Nat}{x:Str}(a:N[i]?=some x)(b:N[j]?=some x):i=j:=by
 obtain⟨h1,e1⟩:=List.getElem?_eq_some_iff.mp a
 obtain⟨h2,e2⟩:=List.getElem?_eq_some_iff.mp b
 exact(List.getElem_inj hN).mp (e1.trans e2.symm)
theorem Mx{M:Model}{A:Around}{E:Value->Shared->Prop}{i:Nat}{x:Str}{v:V}{u:Value}{Q:Unit->Shared->Prop}(I:Inv X pins σ H s)(hN:X.N.Nodup)(hi:X.N[i]?=some x)(hx:FL X.env.scope x)(r:RelV v u)
  (h:∀s',Inv X pins (σ.set i (some v)) H s'->(∃a,Heap.SameBut a s.heap s'.heap/\(a=X.env.locals\/X.env.cells.lookup x=some a))->Q () s') (hf:X.fn x=true\/X.env.scope.names.lookup x=some .local:=by first | exact .inl rfl | exact .inr rfl | assumption):wpAny M A (storeName X.env x u) Q E s:=by
 obtain⟨m,hn,hl⟩:=id I.loc
 have hcls:(X.env.scope.kind==.class || (X.env.scope.kind==.module&&X.env.locals != X.env.globals))=false:=by rw[I.ok.kind];rfl
 have hiσ:i<σ.length:=by rw[I.len];exact(List.getElem?_eq_some_iff.mp hi).1
 have cne:=I.cne
 have tracked:∀{a:Addr}{h':Heap},(∃o,s.heap.get? a=some o/\H a=none)->Heap.SameBut a s.heap h'->HOk X.prog X.w H h':=fun{a h'} ha hs b ob e=>by
  obtain⟨_,_,hfree⟩:=ha
  refine(I.hok b ob e).stay (fun c w' hc q=>(hs.2 c ?_).trans q) (fun _ q=>q) fun _ _ q=>q
  rintro rfl
  rcases hc with rfl | hc
  ·rw[hfree] at e;cases e
  ·rw[hfree] at hc;cases hc
 rcases hx with hk | hk
 ·refine wpAny_storeName_local hk hn (fun h' hn' hs=>?_) hcls
  obtain⟨oL,_,_,hoL,_⟩:=id hn
  refine h _ ⟨I.ok,I.os,I.bare,⟨fun b o e n hb hx=>?_,fun b o e n hb hx=>?_,I.base.free,fun b o e hx=>?_,I.base.tups,I.base.frzs,I.base.tbls⟩,⟨_,hn',fun j y v' e1 e2 e3=>?_⟩,fun y c e=>?_,I.free,I.freeC,fun p hp=>?_,tracked ⟨oL,hoL,I.free⟩ hs,by simpa using I.len⟩ ⟨_,hs,.inl rfl⟩
  ·exact(hs.2 b (Nat.ne_of_lt (Nat.lt_of_lt_of_le (Heap.lt_size e) I.ok.above))).trans (I.base.keep b o e n hb hx)
  ·obtain⟨sl,e1⟩:=I.base.slot b o e n hb hx
   exact⟨sl,(hs.2 b (Nat.ne_of_lt (Nat.lt_of_lt_of_le (Heap.lt_size e) I.ok.above))).trans e1⟩
  ·obtain⟨o',e1⟩:=I.base.there b o e hx
   exact⟨o',(hs.2 b (Nat.ne_of_lt (Nat.lt_of_lt_of_le (Heap.lt_size e) I.ok.above))).trans e1⟩
  ·by_cases hj:j=i
   ·subst hj
    rw[hi] at e1;cases e1;rw[List.getElem?_set_self hiσ] at e2;cases e2
    exact⟨u,r,.inl ⟨hk,by simp⟩⟩
   ·rw[List.getElem?_set_ne (Ne.symm hj)] at e2
    obtain⟨u',r',q⟩:=hl j y v' e1 e2 e3
    refine⟨u',r',?_⟩
    rcases q with⟨k,e⟩ | ⟨k,c,e,z⟩
    ·refine .inl ⟨k,?_⟩
     have:y≠x:=fun e=>hj (So hN e1 (e▸hi))
     simp[this,e]
    ·exact .inr ⟨k,c,e,z.sameBut hs (cne y c e)⟩
  ·obtain⟨w',z⟩:=I.cell y c e
   exact⟨w',z.sameBut hs (cne y c e)⟩
  ·obtain⟨e,n,ne,nf,d⟩:=I.pin p hp
   exact⟨(hs.2 p.1 ne).trans e,n,ne,nf,d⟩
 ·have hfn:X.fn x=true:=by
   rcases hf with z | z
   ·exact z
   ·rw[z] at hk;cases hk
  obtain⟨c,hc⟩:=I.ok.has x (.inl hk)
  obtain⟨w',z⟩:=I.cell x c hc
  refine wpAny_storeName_cell I.ok.kind hk hc z (fun h' hc' hs=>?_)
  obtain⟨oc,hoc,hocd⟩:=id z
  refine h { s with heap:=h' } ⟨I.ok,I.os,I.bare,⟨fun b o e n hb hx=>?_,fun b o e n hb hx=>?_,I.base.free,fun b o e hx=>?_,I.base.tups,I.base.frzs,I.base.tbls⟩,⟨m,hn.sameBut hs (Ne.symm (cne x c hc)),fun j y v' e1 e2 e3=>?_⟩,fun y c' e=>?_,I.free,I.freeC,fun p hp=>?_,tracked ⟨oc,hoc,I.freeC x c hc⟩ hs,by simpa using I.len⟩ ⟨c,hs,.inr hc⟩
  ·exact(hs.2 b (Nat.ne_of_lt (Nat.lt_of_lt_of_le (Heap.lt_size e) (I.ok.cab x c hfn hc)))).trans (I.base.keep b o e n hb hx)
  ·obtain⟨sl,e1⟩:=I.base.slot b o e n hb hx
   exact⟨sl,(hs.2 b (Nat.ne_of_lt (Nat.lt_of_lt_of_le (Heap.lt_size e) (I.ok.cab x c hfn hc)))).trans e1⟩
  ·obtain⟨o',e1⟩:=I.base.there b o e hx
   exact⟨o',(hs.2 b (Nat.ne_of_lt (Nat.lt_of_lt_of_le (Heap.lt_size e) (I.ok.cab x c hfn hc)))).trans e1⟩
  ·by_cases hj:j=i
   ·subst hj
    rw[hi] at e1;cases e1;rw[List.getElem?_set_self hiσ] at e2;cases e2
    exact⟨u,r,.inr ⟨.inl hk,c,hc,hc'⟩⟩
   ·rw[List.getElem?_set_ne (Ne.symm hj)] at e2
    obtain⟨u',r',q⟩:=hl j y v' e1 e2 e3
    refine⟨u',r',?_⟩
    rcases q with q | ⟨k,c',e,z'⟩
    ·exact .inl q
    ·refine .inr ⟨k,c',e,z'.sameBut hs ?_⟩
     rintro rfl
     exact hj (So hN e1 (I.ok.inj _ _ _ e hc▸hi))
  ·by_cases hcc:c'=c
   ·subst hcc;exact⟨_,hc'⟩
   ·obtain⟨w2,z2⟩:=I.cell y c' e
    exact⟨w2,z2.sameBut hs hcc⟩
  ·obtain⟨e,n,ne,nf,d⟩:=I.pin p hp
   refine⟨(hs.2 p.1 ?_).trans e,n,ne,nf,d⟩
   intro q;rw[q,hoc] at e
   have q':oc=p.2:=Option.some.inj e
   exact d w' (by rw[<-q'];exact hocd)
theorem Vd{M:Model}{A:Around}{E:Value->Shared->Prop}{i:Nat}{x:Str}{v:V}{u:Value}{Q:Unit->Shared->Prop}(I:Inv X pins σ H s)(hN:X.N.Nodup)(hi:X.N[i]?=some x)(hx:FL X.env.scope x)(r:RelV v u)
  (h:∀s',Inv X pins (σ.set i (some v)) H s'->Q () s') (hf:X.fn x=true\/X.env.scope.names.lookup x=some .local:=by first | exact .inl rfl | exact .inr rfl | assumption):wpAny M A (storeName X.env x u) Q E s:=
 Mx I hN hi hx r (fun s' I' _=>h s' I') hf
theorem Inv.call'{s':Shared}{ch:List Addr}(I:Inv X pins σ H s)(ho:s'.os=s.os)(u:Un (Oy X.stack) ch H H' s.heap s'.heap)(hok:HOk X.prog X.w H' s'.heap)(hg:AllBare s'.gens)
  (hch:∀b∈ch,(b∈X.ex\/X.s₀.heap.objs.size<=b)/\b≠X.env.locals/\(∀x c,X.env.cells.lookup x=some c->c≠b)/\∀p∈X.pn++pins,p.1≠b):Inv X pins σ H' s':=by
 obtain⟨h',g',d',t',o'⟩:=s'
 have e:o'=s.os:=ho
 subst e
 exact I.call (g':=g') (t':=t') (d':=d') u hok hg hch
end
abbrev XK:=Value->Option Addr->Hp->Prop
abbrev St:=List (Option V)
abbrev VK:=V->Hp->Prop
abbrev TE:=St->Hp->VK->Prop
abbrev TT:=St->Hp->(Bool->Hp->Prop)->Prop
abbrev TA:=St->Hp->(List V->Hp->Prop)->Prop
structure Uc where
 nx:St->Hp->Prop
 rt:VK
 bk:St->Hp->Prop:=fun _ _=>False
 ct:St->Hp->Prop:=fun _ _=>False
abbrev TS:=Uc->St->Hp->Prop
def EP(X:Cx)(pins:List (Addr×Obj))(σ:St)(Q:VK)(u:Value)(s':Shared):Prop:=∃v H',Inv X pins σ H' s'/\RelV v u/\Q v H'
def TP(X:Cx)(pins:List (Addr×Obj))(σ:St)(Q:Bool->Hp->Prop)(b:Bool)(s':Shared):Prop:=∃H',Inv X pins σ H' s'/\Q b H'
def AP(X:Cx)(pins:List (Addr×Obj))(σ:St)(Q:List V->Hp->Prop)(us:List Value)(s':Shared):Prop:=∃vs H',Inv X pins σ H' s'/\Vals vs us/\Q vs H'
def SP(X:Cx)(pins:List (Addr×Obj))(D:Uc)(f:Flow)(s':Shared):Prop:=
 match f with
 | .next=>∃σ' H',Inv X pins σ' H' s'/\D.nx σ' H'
 | .brk=>∃σ' H',Inv X pins σ' H' s'/\D.bk σ' H'
 | .cont=>∃σ' H',Inv X pins σ' H' s'/\D.ct σ' H'
 | .ret u=>∃v σ' H',Inv X pins σ' H' s'/\RelV v u/\D.rt v H'
def PE(X:Cx)(e:Expr)(t:TE):Prop:=
 ∀(pins:List (Addr×Obj))(s:Shared)(σ:St)(H:Hp)(Q:VK),Inv X pins σ H s->t σ H Q->wpAny (model X.prog X.w) X.A (eval e X.env) (EP X pins σ Q) X.xe s
def PT(X:Cx)(e:Expr)(t:TT):Prop:=
 ∀(pins:List (Addr×Obj))(s:Shared)(σ:St)(H:Hp)(Q:Bool->Hp->Prop),Inv X pins σ H s->t σ H Q->wpAny (model X.prog X.w) X.A (isTrue e X.env (eval e X.env)) (TP X pins σ Q) X.xe s
def PW(X:Cx)(e:Expr)(t:TT):Prop:=
 ∀(whole:Sem Value)(pins:List (Addr×Obj))(s:Shared)(σ:St)(H:Hp)(Q:Bool->Hp->Prop),Inv X pins σ H s->t σ H Q->wpAny (model X.prog X.w) X.A (isTrue e X.env whole) (TP X pins σ Q) X.xe s
theorem PW.pt{X:Cx}{e:Expr}{t:TT}(h:PW X e t):PT X e t:=h _
def PA(X:Cx)(es:List Expr)(t:TA):Prop:=
 ∀(pos:Pos)(pins:List (Addr×Obj))(s:Shared)(σ:St)(H:Hp)(Q:List V->Hp->Prop),Inv X pins σ H s->t σ H Q->wpAny (model X.prog X.w) X.A (spliced (backTo pos (starEach es X.env))) (AP X pins σ Q) X.xe s
def PS(X:Cx)(st:Stmt)(t:TS):Prop:=
 ∀(pins:List (Addr×Obj))(s:Shared)(σ:St)(H:Hp)(D:Uc),Inv X pins σ H s->t D σ H->wpAny (model X.prog X.w) X.A (exec st X.env) (SP X pins D) X.xe s
def PSs(X:Cx)(st:List Stmt)(t:TS):Prop:=
 ∀(pins:List (Addr×Obj))(s:Shared)(σ:St)(H:Hp)(D:Uc),Inv X pins σ H s->t D σ H->wpAny (model X.prog X.w) X.A (execs st X.env) (SP X pins D) X.xe s
theorem YO{α:Type}{t:Sem α}{Q Q':α->Shared->Prop}{M:Model}{A:Around}{E:Value->Shared->Prop}{s:Shared}(h:wpAny M A t Q E s)(hQ:∀a s,Q a s->Q' a s):wpAny M A t Q' E s:=wpAny_mono h hQ fun _ _ x=>x
section
variable {X:Cx}
theorem bin{a b:Expr}{ta tb:TE}(ha:PE X a ta)(hb:PE X b tb){pins:List (Addr×Obj)}{s:Shared}{σ:St}{H:Hp}{R:V->V->Hp->Prop}(I:Inv X pins σ H s)(h:ta σ H fun x H1=>tb σ H1 fun y H2=>R x y H2)
  {α:Type} {Q:α->Shared->Prop} {f:Value->Value->Sem α}
  (hf:∀v u s2 x y H2,Inv X pins σ H2 s2->RelV x v->RelV y u->R x y H2->wpAny (model X.prog X.w) X.A (f v u) Q X.xe s2) :
  wpAny (model X.prog X.w) X.A (eval a X.env) (fun v s₁=>wpAny (model X.prog X.w) X.A (eval b X.env) (fun u s₂=>wpAny (model X.prog X.w) X.A (f v u) Q X.xe s₂) X.xe s₁) X.xe s:=by
 refine YO (ha pins s σ H _ I h) fun v s1 ⟨x,H1,I1,r1,q1⟩=>?_
 refine YO (hb pins s1 σ H1 _ I1 q1) fun u s2 ⟨y,H2,I2,r2,q2⟩=>?_
 exact hf v u s2 x y H2 I2 r1 r2 q2
def Ur(i:Nat):TE:=fun σ H Q=>∃v,σ[i]?=some (some v)/\Q v H
def tC(v:V):TE:=fun _ H Q=>Q v H
theorem Gf{i:Nat}{x:Str}{pos:Pos}(hN:X.N[i]?=some x)(hv:EU X.env.scope x)(hd:(x==("__debug__" : Str))=false:=by decide)(hcd:(x==("__classdict__" : Str))=false:=by decide):PE X (.Name x pos) (Ur i):=by
 intro pins s σ H Q I h
 obtain⟨v,e,h⟩:=h
 obtain⟨m,hn,hl⟩:=I.loc
 obtain⟨u,r,l⟩:=hl i x v hN e hv
 have fin:EP X pins σ Q u s:=⟨v,H,I,r,h⟩
 rcases l with⟨hk,hm⟩ | ⟨hk,c,hc,hcell⟩
 ·exact wpAny_Name (wpAny_loadName_local I.ok.kind hk hn hm fin) hd
 ·rcases hk with hk | hk
  ·exact wpAny_Name (wpAny_loadName_cell I.ok.kind hk hc hcell fin) hd
  ·exact wpAny_Name (wpAny_loadName_free I.ok.kind hk hc hcell fin hcd) hd
theorem Gg{i j pos}:PE X (.Constant (.int i) j pos) (tC (.int i)):=fun _ _ _ H _ I h=>wpAny_Constant_int ⟨.int i,H,I.tok _,⟨_,rfl⟩,h⟩
theorem FN{b j pos}:PE X (.Constant (.bool b) j pos) (tC (.bl b)):=fun _ _ _ H _ I h=>Constant_bool ⟨.bl b,H,I,rfl,h⟩
theorem Gh{j pos}:PE X (.Constant .none j pos) (tC .non):=fun _ _ _ H _ I h=>Constant_none ⟨.non,H,I,rfl,h⟩
theorem LJ{x j pos}:PE X (.Constant (.str x) j pos) (tC (.str x)):=fun _ _ _ H _ I h=>Calls.Constant_str ⟨.str x,H,I.tok _,⟨_,rfl⟩,h⟩
def Gl(X:Cx)(x:Str):Prop:=X.env.kindOf x=some .globalImplicit
theorem Vw{E:Value->Shared->Prop}{pins:List (Addr×Obj)}{s:Shared}{σ:St}{H:Hp}{x:Str}{u:Value}{pos:Pos}{Q:Value->Shared->Prop}(I:Inv X pins σ H s)(hg:Gl X x)(hm:X.mg x=some u)(h:Q u s)
  (hd:(x==("__debug__" : Str))=false:=by decide):wpAny (model X.prog X.w) X.A (eval (.Name x pos) X.env) Q E s:=
 Calls.Name_function_global I.ok.kind hg (Calls.loadGlobal_global (by rw[I.ok.glob];exact I.mod.glob.keeps I.bk) hm h) hd
theorem Wy{E:Value->Shared->Prop}{pins:List (Addr×Obj)}{s:Shared}{σ:St}{H:Hp}{x:Str}{u:Value}{pos:Pos}{Q:Value->Shared->Prop}(I:Inv X pins σ H s)(hg:Gl X x)(hm:X.mg x=none)(hv:bootBuiltins x=some u)(h:Q u s)
  (hn:x≠"__name__":=by decide) (hd:(x==("__debug__" : Str))=false:=by decide):wpAny (model X.prog X.w) X.A (eval (.Name x pos) X.env) Q E s:=by
 obtain⟨mb,h1,h2⟩:=I.mod.blt
 exact Calls.Name_function_global I.ok.kind hg (Calls.loadGlobal_builtin (by rw[I.ok.glob];exact I.mod.glob.keeps I.bk) hm (by rw[I.ok.blt];exact h1.keeps I.bk) ((h2 x hn).trans hv) h) hd
theorem JS{x:Str}{v:V}{u:Value}{pos:Pos}(hg:Gl X x)(hm:X.mg x=none)(hv:bootBuiltins x=some u)(r:RelV v u)(hn:x≠"__name__":=by decide)(hd:(x==("__debug__" : Str))=false:=by decide):PE X (.Name x pos) (tC v):=
 fun _ _ _ H _ I h=>Wy I hg hm hv ⟨v,H,I,r,h⟩ hn hd
variable {a b:Expr} {ta tb:TE} {pos:Pos}
def PC(X:Cx)(op:CmpOp)(a b:Expr)(t:TE):Prop:=
 ∀(pins:List (Addr×Obj))(s:Shared)(σ:St)(H:Hp)(Q:VK),Inv X pins σ H s->t σ H Q->
  wpAny (model X.prog X.w) X.A (eval a X.env) (fun v s₁=>wpAny (model X.prog X.w) X.A (eval b X.env) (fun u s₂=>wpAny (model X.prog X.w) X.A (compareOp op v u) (EP X pins σ Q) X.xe s₂) X.xe s₁) X.xe s
theorem Pn(b:Expr){op:CmpOp}(h:op≠.In)(h2:op≠.NotIn):behindInMarks op b=false:=by
 have e1:(op==CmpOp.In)=false:=by cases op<;>first | rfl | exact absurd rfl h
 have e2:(op==CmpOp.NotIn)=false:=by cases op<;>first | rfl | exact absurd rfl h2
 cases b<;>simp[behindInMarks,e1,e2]
def FP(ta:TE):TE:=fun σ H Q=>ta σ H fun x H1=>Q (.bl (decide (x = .non))) H1
def Ht(ta:TE):TE:=fun σ H Q=>ta σ H fun x H1=>Q (.bl (!decide (x = .non))) H1
theorem RelV.none_iff{x:V}{v:Value}(r:RelV x v):(v==Value.none)=decide (x = .non):=by
 cases x with
 | non=>cases r;rfl
 | bl _=>cases r;rfl
 | int _=>obtain⟨t,rfl⟩:=r;rfl
 | str _=>obtain⟨t,rfl⟩:=r;rfl
 | byt _=>obtain⟨t,rfl⟩:=r;rfl
 | flt _=>obtain⟨t,rfl⟩:=r;rfl
 | ref _=>cases r;rfl
 | ty _=>cases r;rfl
theorem LK{j pos'}(ha:PE X a ta):PC X .Is a (.Constant .none j pos') (FP ta):=by
 intro pins s σ H Q I h
 refine YO (ha pins s σ H _ I h) fun v s1 ⟨x,H1,I1,r1,q1⟩=>?_
 exact Constant_none (is_none_gen ⟨.bl _,H1,I1,by rw[r1.none_iff];rfl,q1⟩)
theorem JT{j pos'}(ha:PE X a ta):PC X .IsNot a (.Constant .none j pos') (Ht ta):=by
 intro pins s σ H Q I h
 refine YO (ha pins s σ H _ I h) fun v s1 ⟨x,H1,I1,r1,q1⟩=>?_
 exact Constant_none (isnot_none_gen ⟨.bl _,H1,I1,by rw[r1.none_iff];rfl,q1⟩)
def tB(t:TE):TT:=fun σ H Q=>t σ H fun x H1=>∃c,x = .bl c/\Q c H1
theorem Gi{op:CmpOp}{t:TE}(h:PC X op a b t)(h1:behindInMarks op b=false:=by first | exact Pn _ (by decide) (by decide) | rfl):PE X (.Compare a [op] [b] pos) t:=fun pins s σ H Q I hw=>wpAny_Compare1 (h pins s σ H Q I hw) h1
theorem LL{op:CmpOp}{t:TE}(h:PC X op a b t)(h1:behindInMarks op b=false:=by first | exact Pn _ (by decide) (by decide) | rfl):PT X (.Compare a [op] [b] pos) (tB t):=by
 intro pins s σ H Q I hw
 refine wpAny_isTrue_Compare1 (YO (h pins s σ H _ I hw) fun v s1 h1=>YO h1 fun u s2 h2=>YO h2 fun c s3 ⟨x,H1,I1,r1,q1⟩=>?_) h1
 obtain⟨d,rfl,q⟩:=q1
 cases r1
 exact wpAny_truthy_bool ⟨H1,I1,q⟩
theorem Gj{e:Expr}{t:TE}(h:PE X e t)(he:∀whole,isTrue e X.env whole=(do let v <-whole;standAt e.pos;holding [v] (truthy v)):=by intro _;rfl):PT X e (tB t):=by
 intro pins s σ H Q I hw
 refine isTrue_plain (YO (h pins s σ H _ I hw) fun v s1 ⟨x,H1,I1,r1,q1⟩=>?_) (he _)
 obtain⟨d,rfl,q⟩:=q1
 cases r1
 exact wpAny_truthy_bool ⟨H1,I1,q⟩
variable {tA tB':TT} {rest:List Expr}
def Dq(t u:TT):TT:=fun σ H Q=>t σ H fun c H1=>if c=true then Q true H1 else u σ H1 Q
def EW(t:TT):TT:=fun σ H Q=>t σ H fun c H1=>Q (!c) H1
theorem Gk(ha:PT X a tA):PW X (.BoolOp .Or [a] pos) tA:=by
 intro wh pins s σ H Q I h
 refine isTrue_or (YO (ha pins s σ H Q I h) fun c s1 e=>?_)
 cases c with
 | false=>exact isTrue_or_nil e
 | true=>exact e
theorem FQ(ha:PT X a tA)(hb:PW X (.BoolOp .Or (b::rest) pos) tB'):PW X (.BoolOp .Or (a::b::rest) pos) (Dq tA tB'):=by
 intro wh pins s σ H Q I h
 refine isTrue_or (YO (ha pins s σ H _ I h) fun c s1 ⟨H1,I1,q1⟩=>?_)
 cases c with
 | true=>exact⟨H1,I1,q1⟩
 | false=>exact hb wh pins s1 σ H1 Q I1 q1
theorem Gm(ha:PT X a tA):PT X (.UnaryOp .Not a pos) (EW tA):=by
 intro pins s σ H Q I h
 exact isTrue_not (ha pins s σ H (fun c H1=>Q (!c) H1) I h)
def FR(ta tb:TE):TE:=fun σ H Q=>ta σ H fun x H1=>∃c,x = .bl c/\if c=true then tb σ H1 Q else Q (.bl false) H1
def FT(ta:TE):TE:=fun σ H Q=>ta σ H fun x H1=>∃c,x = .bl c/\Q (.bl (!c)) H1
theorem Gn{op}{t:TE}(h:PE X a t):PE X (.BoolOp op [a] pos) t:=fun pins s σ H Q I hw=>BoolOp_one (h pins s σ H Q I hw)
theorem Gp(ha:PE X a ta)(hb:PE X (.BoolOp .And (b::rest) pos) tb):PE X (.BoolOp .And (a::b::rest) pos) (FR ta tb):=by
 intro pins s σ H Q I h
 refine BoolOp_and (YO (ha pins s σ H _ I h) fun v s1 ⟨x,H1,I1,r1,q1⟩=>?_)
 obtain⟨c,rfl,q1⟩:=q1
 cases r1
 refine wpAny_truthy_bool ?_
 cases c with
 | true=>exact hb pins s1 σ H1 Q I1 q1
 | false=>exact⟨.bl false,H1,I1,rfl,q1⟩
theorem Gq(ha:PE X a ta):PE X (.UnaryOp .Not a pos) (FT ta):=by
 intro pins s σ H Q I h
 refine UnaryOp_ (YO (ha pins s σ H _ I h) fun v s1 ⟨x,H1,I1,r1,q1⟩=>?_)
 obtain⟨c,rfl,q1⟩:=q1
 cases r1
 exact not_of (wpAny_truthy_bool ⟨.bl (!c),H1,I1,rfl,q1⟩)
def Dx(t:TT)(ta tb:TE):TE:=fun σ H Q=>t σ H fun c H1=>if c=true then ta σ H1 Q else tb σ H1 Q
theorem LM{c:Expr}(hc:PT X c tA)(ha:PE X a ta)(hb:PE X b tb):PE X (.IfExp c a b pos) (Dx tA ta tb):=by
 intro pins s σ H Q I h
 refine wpAny_IfExp (YO (hc pins s σ H _ I h) fun d s1 ⟨H1,I1,q1⟩=>?_)
 cases d with
 | true=>exact ha pins s1 σ H1 Q I1 q1
 | false=>exact hb pins s1 σ H1 Q I1 q1
end
def SqL(K:PySem.W.Frag)(H:Hp)(a:Addr)(xs:List V):Prop:=
 Rd H a (.lst xs)\/
  ∃(o:Obj) (its:Array Value) (n:Nat),K.lookup a=some o/\o.cls = .type "list"/\o.dict=none/\o.data = .seq its n/\its.size<=sizeLine/\Vals xs its.toList
def SqT(K:PySem.W.Frag)(H:Hp)(a:Addr)(xs:List V):Prop:=
 Rd H a (.tup xs)\/
  ∃(o:Obj) (its:Array Value) (n:Nat),K.lookup a=some o/\o.cls = .type "tuple"/\o.data = .seq its n/\its.size<=sizeLine/\Vals xs its.toList
def EX:Value->Option V
 | .none=>some .non
 | .bool b=>some (.bl b)
 | .int i _=>some (.int i)
 | .str x _=>some (.str x)
 | .bytes b _=>some (.byt b)
 | .float b _=>some (.flt b)
 | .ref a=>some (.ref a)
 | .type n=>some (.ty n)
 | _=>none
theorem RelV.abs{x:V}{u:Value}(r:RelV x u):EX u=some x:=by
 cases x with
 | non=>cases r;rfl
 | bl _=>cases r;rfl
 | int _=>obtain⟨t,rfl⟩:=r;rfl
 | str _=>obtain⟨t,rfl⟩:=r;rfl
 | byt _=>obtain⟨t,rfl⟩:=r;rfl
 | flt _=>obtain⟨t,rfl⟩:=r;rfl
 | ref _=>cases r;rfl
 | ty _=>cases r;rfl
theorem RelV.inj{x y:V}{u:Value}(r:RelV x u)(q:RelV y u):x=y:=Option.some.inj (r.abs.symm.trans q.abs)
theorem Vals.inj:∀{xs ys:List V}{us:List Value},Vals xs us->Vals ys us->xs=ys
 | _,_,_,.nil,.nil=>rfl
 | _,_,_,.cons r t,.cons r' t'=>by rw[r.inj r',Vals.inj t t']
section
variable {X:Cx} {pins:List (Addr×Obj)} {σ:St} {H:Hp} {s:Shared} {a:Addr} {xs ys:List V}
theorem SqL.of{K:PySem.W.Frag}(h:H a=some (.lst xs)):SqL K H a xs:=.inl (.inl h)
theorem SqT.of{K:PySem.W.Frag}(h:H a=some (.tup xs)):SqT K H a xs:=.inl (.inl h)
theorem Inv.list(I:Inv X pins σ H s)(h:SqL X.K H a xs):∃its:List Value,Vals xs its/\PlainL s.heap a its.toArray/\xs.length<=sizeLine:=by
 rcases h with h | ⟨o,its,n,hk,hc,hd,hs,hz,r⟩
 ·obtain⟨z,its,n,r,e⟩:=h.ok I.hok
  exact⟨its,r,⟨_,n,e,rfl,rfl,rfl⟩,z⟩
 ·refine⟨its.toList,r,⟨o,n,I.kIn a o hk,hc,hd,by simpa using hs⟩,?_⟩
  have e:=r.length;simp only[Array.length_toList] at e;omega
theorem Inv.tuple(I:Inv X pins σ H s)(h:SqT X.K H a xs):∃its:List Value,Vals xs its/\IsTup s.heap a its.toArray/\xs.length<=sizeLine:=by
 rcases h with h | ⟨o,its,n,hk,hc,hs,hz,r⟩
 ·obtain⟨z,its,r,p⟩:=h.ok I.hok
  exact⟨its,r,p,z⟩
 ·refine⟨its.toList,r,⟨o,I.kIn a o hk,hc,n,by simpa using hs⟩,?_⟩
  have e:=r.length;simp only[Array.length_toList] at e;omega
theorem Inv.list_inj(I:Inv X pins σ H s)(h:SqL X.K H a xs)(h':SqL X.K H a ys):xs=ys:=by
 obtain⟨its,r,⟨o,n,e,_,_,d⟩,_⟩:=I.list h
 obtain⟨its',r',⟨o',n',e',_,_,d'⟩,_⟩:=I.list h'
 rw[e] at e';cases e'
 rw[d] at d'
 injection d' with d1 _
 have:its=its':=by simpa using congrArg Array.toList d1
 subst this
 exact r.inj r'
theorem Inv.tuple_inj(I:Inv X pins σ H s)(h:SqT X.K H a xs)(h':SqT X.K H a ys):xs=ys:=by
 obtain⟨its,r,⟨o,e,_,n,d⟩,_⟩:=I.tuple h
 obtain⟨its',r',⟨o',e',_,n',d'⟩,_⟩:=I.tuple h'
 rw[e] at e';cases e'
 rw[d] at d'
 injection d' with d1 _
 have:its=its':=by simpa using congrArg Array.toList d1
 subst this
 exact r.inj r'
end
abbrev Cx.wish(X:Cx)(E:Value->Shared->Prop):Cx:={ X with xe:=E }
abbrev Cx.nox(X:Cx):Cx:=X.wish fun _ _=>False
theorem Cx.Ok.wish{X:Cx}(ok:X.Ok)(E:Value->Shared->Prop):(X.wish E).Ok:=
 ⟨ok.mod,ok.kind,ok.glob,ok.blt,ok.above,ok.inj,ok.has,ok.cab,ok.hd,ok.frames,ok.stk,ok.exf,ok.bs,ok.bsz,ok.noex,ok.exfs,ok.funs,ok.frf⟩
theorem Cx.Ok.unwish{X:Cx}{E:Value->Shared->Prop}(ok:(X.wish E).Ok):X.Ok:=
 ⟨ok.mod,ok.kind,ok.glob,ok.blt,ok.above,ok.inj,ok.has,ok.cab,ok.hd,ok.frames,ok.stk,ok.exf,ok.bs,ok.bsz,ok.noex,ok.exfs,ok.funs,ok.frf⟩
section
variable {X:Cx} {pins:List (Addr×Obj)} {σ:St} {H:Hp} {s:Shared} {E:Value->Shared->Prop}
theorem Inv.wish(I:Inv X pins σ H s)(E:Value->Shared->Prop):Inv (X.wish E) pins σ H s:=⟨I.ok.wish E,I.os,I.bare,I.base,I.loc,I.cell,I.free,I.freeC,I.pin,I.hok,I.len⟩
theorem Inv.unwish(I:Inv (X.wish E) pins σ H s):Inv X pins σ H s:=⟨I.ok.unwish,I.os,I.bare,I.base,I.loc,I.cell,I.free,I.freeC,I.pin,I.hok,I.len⟩
theorem SP.unwish{D:Uc}{f:Flow}{s':Shared}(h:SP (X.wish E) pins D f s'):SP X pins D f s':=by
 cases f with
 | next=>obtain⟨σ',H',I,q⟩:=h;exact⟨σ',H',I.unwish,q⟩
 | brk=>obtain⟨σ',H',I,q⟩:=h;exact⟨σ',H',I.unwish,q⟩
 | cont=>obtain⟨σ',H',I,q⟩:=h;exact⟨σ',H',I.unwish,q⟩
 | ret u=>obtain⟨v,σ',H',I,r,q⟩:=h;exact⟨v,σ',H',I.unwish,r,q⟩
theorem PSs.nox{st:List Stmt}{t:TS}(h:PSs X.nox st t):PSs X st t:=fun pins s σ H D I hw=>
 wpAny_mono (h pins s σ H D (I.wish _) hw) (fun _ _ q=>q.unwish) fun _ _ z=>False.elim z
end
section
variable {X:Cx} {st:Stmt} {rest:List Stmt} {t u:TS} {e:Expr} {te:TE} {pos:Pos}
def Hu:TS:=fun D σ H=>D.nx σ H
def FU(t u:TS):TS:=fun D σ H=>t { D with nx:=u D } σ H
theorem JU:PSs X [] Hu:=fun _ _ σ H _ I h=>wpAny_execs_nil ⟨σ,H,I,h⟩
theorem Us(h1:PS X st t)(h2:PSs X rest u):PSs X (st::rest) (FU t u):=by
 intro pins s σ H D I h
 refine wpAny_execs_cons (YO (h1 pins s σ H { D with nx:=u D } I h) fun f s1 q=>?_)
 cases f with
 | next=>
  obtain⟨σ',H',I',q⟩:=q
  exact h2 pins s1 σ' H' D I' q
 | ret v=>exact q
 | brk=>exact q
 | cont=>exact q
theorem Qs(h1:PS X st t):PSs X [st] t:=by
 intro pins s σ H D I h
 refine wpAny_execs_cons (YO (h1 pins s σ H D I h) fun f s1 q=>?_)
 cases f with
 | next=>exact wpAny_execs_nil q
 | ret v=>exact q
 | brk=>exact q
 | cont=>exact q
theorem Inv.quiet{pins:List (Addr×Obj)}{σ:St}{H:Hp}{s:Shared}(I:Inv X pins σ H s):interactive X.env=false:=by simp[interactive,I.ok.kind]
def Po(te:TE):TS:=fun D σ H=>te σ H fun _ H1=>D.nx σ H1
theorem XX(he:PE X e te)(hs:swapsWith e none pos.line X.env=pure false:=by rfl):PS X (.Expr e pos) (Po te):=by
 intro pins s σ H D I h
 exact wpAny_Expr_any (YO (he pins s σ H _ I h) fun v s1 ⟨x,H1,I1,r1,q1⟩=>⟨σ,H1,I1,q1⟩) I.quiet hs
def EY(te:TE):TS:=fun D σ H=>te σ H D.rt
theorem LN(he:PE X e te):PS X (.Return (some e) pos) (EY te):=by
 intro pins s σ H D I h
 exact wpAny_Return_some (YO (he pins s σ H _ I h) fun v s1 ⟨x,H1,I1,r1,q1⟩=>⟨x,σ,H1,I1,r1,q1⟩)
def EZ(c:TT)(t u:TS):TS:=fun D σ H=>c σ H fun b H1=>if b=true then t D σ H1 else u D σ H1
theorem Hv{c:Expr}{a b:List Stmt}{tc:TT}(hc:PT X c tc)(ha:PSs X a t)(hb:PSs X b u):PS X (.If c a b pos) (EZ tc t u):=by
 intro pins s σ H D I h
 refine wpAny_If (YO (hc pins s σ H _ I h) fun d s1 ⟨H1,I1,q1⟩=>?_)
 cases d with
 | true=>exact ha pins s1 σ H1 D I1 q1
 | false=>exact hb pins s1 σ H1 D I1 q1
end
abbrev TG:=V->St->Hp->(St->Hp->Prop)->Prop
abbrev Hw:=List V->St->Hp->(St->Hp->Prop)->Prop
def PG(X:Cx)(target:Expr)(t:TG):Prop:=
 ∀(pins:List (Addr×Obj))(s:Shared)(σ:St)(H:Hp)(v:V)(u:Value)(Q:St->Hp->Prop),Inv X pins σ H s->RelV v u->t v σ H Q->
  wpAny (model X.prog X.w) X.A (assign target X.env u) (fun _ s'=>∃σ' H',Inv X pins σ' H' s'/\Q σ' H') X.xe s
def EJ(X:Cx)(ts:List Expr)(t:Hw):Prop:=
 ∀(pins:List (Addr×Obj))(s:Shared)(σ:St)(H:Hp)(vs:List V)(us:List Value)(Q:St->Hp->Prop),Inv X pins σ H s->Vals vs us->t vs σ H Q->
  wpAny (model X.prog X.w) X.A (assignInOrder ((assignEach ts X.env).map (·.2)) us) (fun _ s'=>∃σ' H',Inv X pins σ' H' s'/\Q σ' H') X.xe s
abbrev Gr:=V->V->V->Hp->(Hp->Prop)->Prop
def FV(X:Cx)(t:Gr):Prop:=
 ∀(pins:List (Addr×Obj))(s:Shared)(σ:St)(H:Hp)(o i v:V)(ov iv u:Value)(Q:Hp->Prop),Inv X pins σ H s->RelV o ov->RelV i iv->RelV v u->t o i v H Q->
  wpAny (model X.prog X.w) X.A (setItem ov iv u) (fun _ s'=>∃H',Inv X pins σ H' s'/\Q H') X.xe s
section
variable {X:Cx} {pos:Pos}
def Ut(i:Nat):TG:=fun v σ H Q=>Q (σ.set i (some v)) H
theorem Zv{i:Nat}{x:Str}(hN:X.N.Nodup)(hi:X.N[i]?=some x)(hx:FL X.env.scope x)(hf:X.fn x=true\/X.env.scope.names.lookup x=some .local:=by first | exact .inl rfl | exact .inr rfl | assumption):PG X (.Name x pos) (Ut i):=by
 intro pins s σ H v u Q I r h
 exact wpAny_assign_Name (Vd I hN hi hx r (fun s' I'=>⟨_,H,I',h⟩) hf)
def FX:Hw:=fun vs σ H Q=>vs=[]/\Q σ H
def Hx(t:TG)(u:Hw):Hw:=fun vs σ H Q=>∃v r,vs=v::r/\t v σ H fun σ' H'=>u r σ' H' Q
theorem Vx:EJ X [] FX:=by
 intro pins s σ H vs us Q I r h
 obtain⟨e,h⟩:=h
 subst e;cases r
 exact assignInOrder_nil ⟨σ,H,I,h⟩
theorem YD{e:Expr}{es:List Expr}{t:TG}{u:Hw}(h1:PG X e t)(h2:EJ X es u)
  (hs:(assignEach (e::es) X.env).map (·.2)=assign e X.env::(assignEach es X.env).map (·.2):=by rfl):EJ X (e::es) (Hx t u):=by
 intro pins s σ H vs us Q I r h
 obtain⟨v,vr,e1,h⟩:=h
 subst e1
 cases r with
 | cons r rr=>
  rw[hs]
  refine assignInOrder_cons (YO (h1 pins s σ H _ _ _ I r h) fun _ s1 ⟨σ1,H1,I1,q1⟩=>?_)
  exact h2 pins s1 σ1 H1 _ _ Q I1 rr q1
def FY(K:PySem.W.Frag)(n:Nat)(t:Hw):TG:=fun v σ H Q=>∃a xs,v = .ref a/\SqT K H a xs/\xs.length=n/\t xs σ H Q
theorem UX{es:List Expr}{k:Nat}{t:Hw}{n:Nat}(hc:X.calm=true)(h:EJ X es t)
  (hn:(assignEach es X.env).length=n:=by rfl) (hst:(assignEach es X.env).findIdx? (·.1)=none:=by rfl):PG X (.Tuple es k pos) (FY X.K n t):=by
 intro pins s σ H v u Q I r hw
 obtain⟨a,xs,e1,hq,hl,hw⟩:=hw
 subst e1;cases r
 obtain⟨its,rv,ht,hz⟩:=I.tuple hq
 refine assign_Tuple_tuple (I.ok.hd hc) ht (by simp[hn,<-hl,rv.length]) hst fun h' hx=>?_
 have I1:Inv X pins σ H { s with heap:=h' }:=I.kept (t':=s.toks) fun b o e=>hx b o (Nat.ne_of_lt (Heap.lt_size e)) e
 exact h pins _ σ H xs _ Q I1 (by simpa using rv) hw
def Gs(to ti:TE)(t:Gr):TG:=fun v σ H Q=>to σ H fun o H1=>ti σ H1 fun i H2=>t o i v H2 fun H3=>Q σ H3
theorem Ud{o i:Expr}{to ti:TE}{t:Gr}(ho:PE X o to)(hi:PE X i ti)(hs:FV X t)
  (ha:∀v,assign (.Subscript o i pos) X.env v=(do
   let ov <-holding [v] (eval o X.env)
   let iv <-holding [v,ov] (eval i X.env)
   standAt pos
   holding [v,ov,iv] (setItem ov iv v)
   release [v,ov,iv] []):=by intro _;rfl):PG X (.Subscript o i pos) (Gs to ti t):=by
 intro pins s σ H v u Q I r h;rw[ha]
 refine wpAny_bind (wpAny_holding (YO (ho pins s σ H _ I h) fun ov s1 ⟨x,H1,I1,r1,q1⟩=>?_))
 refine wpAny_bind (wpAny_holding (YO (hi pins s1 σ H1 _ I1 q1) fun iv s2 ⟨y,H2,I2,r2,q2⟩=>?_))
 refine wpAny_bind (wpAny_standAt (wpAny_bind (wpAny_holding (YO (hs pins s2 σ H2 x y v ov iv u _ I2 r1 r2 r q2) fun _ s3 ⟨H3,I3,q3⟩=>?_))))
 exact wpAny_release ⟨σ,H3,I3,q3⟩
def Qt(te:TE)(g:TG):TS:=fun D σ H=>te σ H fun x H1=>g x σ H1 D.nx
theorem Ve{tg e:Expr}{te:TE}{g:TG}(he:PE X e te)(hg:PG X tg g)(hs:swapsWithSole [tg] e pos.line X.env=pure false:=by rfl)(hw:swappedStores [tg] e X.env=pure none:=by rfl)
  (h1:(assignEach [tg] X.env).map (·.2)=[assign tg X.env]:=by rfl):PS X (.Assign [tg] e pos) (Qt te g):=by
 intro pins s σ H D I h
 refine wpAny_Assign_stores (YO (he pins s σ H _ I h) fun v s1 ⟨x,H1,I1,r1,q1⟩=>?_) hs hw
 rw[h1]
 exact YO (hg pins s1 σ H1 x v _ I1 r1 q1) fun _ s2 q=>q
theorem LO{i:Nat}{x:Str}{e:Expr}{te:TE}{pos':Pos}(hN:X.N.Nodup)(hi:X.N[i]?=some x)(hx:FL X.env.scope x)(he:PE X e te)(hs:swapsWith e (some (.Name x pos')) pos.line X.env=pure false:=by rfl)(hf:X.fn x=true\/X.env.scope.names.lookup x=some .local:=by first | exact .inl rfl | exact .inr rfl | assumption) :
  PS X (.Assign [.Name x pos'] e pos) (Qt te (Ut i)):=by
 intro pins s σ H D I h
 refine wpAny_Assign_Name (YO (he pins s σ H _ I h) fun v s1 ⟨y,H1,I1,r1,q1⟩=>?_) hs
 exact Vd I1 hN hi hx r1 (fun s2 I2=>⟨_,H1,I2,q1⟩) hf
end
structure It where
 go:Nat->Hp->Prop
 yld:Nat->Hp->V->Hp->Prop
 stop:Nat->Hp->Prop
def T5(X:Cx)(pins:List (Addr×Obj))(H:Hp)(b:Addr):Prop:=
 H b=none/\b≠X.env.locals/\b∉X.fs/\(b∈X.ex\/X.s₀.heap.objs.size<=b)/\(∀x c,X.env.cells.lookup x=some c->c≠b)/\∀p∈X.pn++pins,p.1≠b
theorem Inv.fpOk{X:Cx}{pins:List (Addr×Obj)}{σ:St}{H H':Hp}{s:Shared}{b:Addr}(I:Inv X pins σ H s)(hb:s.heap.objs.size<=b)(hn:H' b=none):T5 X pins H' b:=by
 refine⟨hn,Nat.ne_of_gt (Nat.lt_of_lt_of_le I.lt hb),I.nofs hb,.inr (Nat.le_trans I.sz hb),fun x c e z=>?_,fun p hp z=>?_⟩
 ·obtain⟨v,q⟩:=I.cell x c e
  exact absurd (Nat.lt_of_lt_of_le q.lt (by rw[z];exact hb)) (Nat.lt_irrefl _)
 ·exact absurd (Nat.lt_of_lt_of_le (Heap.lt_size (I.pin p hp).1) (by rw[z];exact hb)) (Nat.lt_irrefl _)
structure My(P:Program)(w:World)(K:PySem.W.Frag)(tg:Expr)(J:It)(fp:List Addr)(it:Addr)(tn:Nat->Heap->Prop):Prop where
 mem:it∈fp
 obj:∀i h,tn i h->∀b∈fp,∃o,h.get? b=some o/\∀v,o.data≠.cell v
 keep:∀i h h',tn i h->(∀b∈fp,∀o,h.get? b=some o->h'.get? b=some o)->tn i h'
 item:∀(X:Cx),X.prog=P->X.w=w->X.K=K->X.calm=true->∀(i:Nat)(pins:List (Addr×Obj))(s:Shared)(σ:St)(H:Hp)(E:Value->Shared->Prop),Inv X pins σ H s->(∀b∈fp,T5 X pins H b)->tn i s.heap->J.go i H->
  wpAny (model P w) X.A (pyNext (.ref it)) (fun r s1=>∃u,r=some u/\
   wpAny (model P w) X.A (letOwnedTupleGo tg (.ref it) u) (fun _ s2=>∃x H',Inv X pins σ H' s2/\RelV x u/\J.yld i H x H'/\tn (i+1) s2.heap/\∀b∈fp,H' b=none) E s1) E s
 done:∀(X:Cx),X.prog=P->X.w=w->X.K=K->X.calm=true->∀(i:Nat)(pins:List (Addr×Obj))(s:Shared)(σ:St)(H:Hp)(E:Value->Shared->Prop),Inv X pins σ H s->(∀b∈fp,T5 X pins H b)->tn i s.heap->J.stop i H->
  wpAny (model P w) X.A (pyNext (.ref it)) (fun r s1=>r=none/\Inv X pins σ H s1) E s
 self:∀(A:Around)(i:Nat)(s:Shared)(Q:Value->Shared->Prop)(E:Value->Shared->Prop),tn i s.heap->Q (.ref it) s->wpAny (model P w) A (pyIter (.ref it)) Q E s
abbrev TI:=St->Hp->(It->Hp->Prop)->Prop
def Dr(X:Cx)(pins:List (Addr×Obj))(σ:St)(tg:Expr)(R:It->Hp->Prop)(itv:Value)(s2:Shared):Prop:=
 ∃(it:Addr) (fp:List Addr) (tn:Nat->Heap->Prop) (J:It) (H':Hp),itv = .ref it/\Inv X pins σ H' s2/\My X.prog X.w X.K tg J fp it tn/\tn 0 s2.heap/\(∀b∈fp,T5 X pins H' b)/\R J H'
def PI(X:Cx)(tg iter:Expr)(wi:TI):Prop:=
 ∀(pins:List (Addr×Obj))(s:Shared)(σ:St)(H:Hp)(R:It->Hp->Prop),Inv X pins σ H s->wi σ H R->
  wpAny (model X.prog X.w) X.A (eval iter X.env) (fun v s1=>wpAny (model X.prog X.w) X.A (pyIter v) (Dr X pins σ tg R) X.xe s1) X.xe s
theorem LP{M:Model}{A:Around}{E:Value->Shared->Prop}{s:Shared}{tg:Expr}{it:Addr}{u:Value}{o:Obj}{n:String}{vs:Array Value}{Q:Unit->Shared->Prop}(ho:s.heap.get? it=some o)(hc:o.cls = .type n)(hd:o.data = .fields vs)
    (hn:["enumerate","zip","dict_itemiterator","dict_reverseitemiterator","odict_iterator","itertools.zip_longest","itertools.pairwise"].contains n=false) (hQ:Q () s):wpAny M A (letOwnedTupleGo tg (.ref it) u) Q E s:=by
  unfold letOwnedTupleGo
  cases tg<;>first
    | exact wpAny_pure hQ
    | (cases u<;>first
        | exact wpAny_pure hQ
        | (refine wpAny_bind (wpAny_load ho ?_)
           rw[hc,hd]
           show wpAny M A (if(["enumerate","zip","dict_itemiterator","dict_reverseitemiterator","odict_iterator","itertools.zip_longest","itertools.pairwise"].contains n&&vs[0]?==some (rawInt _))=true then _ else _) Q E s
           rw[if_neg (by intro h;rw[hn,Bool.false_and] at h;cases h)]
           exact wpAny_pure hQ))
def E1(K:PySem.W.Frag)(a:Addr):It:=
 ⟨fun i H=>∃xs x,SqL K H a xs/\xs[i]?=some x,fun i H x H'=>H'=H/\∀xs,SqL K H a xs->xs[i]?=some x,fun i H=>∃xs,SqL K H a xs/\xs.length<=i⟩
def Ds(K:PySem.W.Frag)(a:Addr):It:=
 ⟨fun i H=>∃xs x,SqT K H a xs/\xs[i]?=some x,fun i H x H'=>H'=H/\∀xs,SqT K H a xs->xs[i]?=some x,fun i H=>∃xs,SqT K H a xs/\xs.length<=i⟩
def FZ(lo:Int)(n:Nat):It:=⟨fun i _=>i<n,fun i H x H'=>H'=H/\x = .int (lo+i),fun i _=>n<=i⟩
theorem Mz{P:Program}{w:World}{K:PySem.W.Frag}{tg:Expr}(a it:Addr):My P w K tg (E1 K a) [it] it (fun i h=>h.IsListIter it a i) where
 mem:=by simp
 obj:=fun i h st b hb=>by
  have e:b=it:=by simpa using hb
  subst e
  obtain⟨o,e,c,d⟩:=st
  exact⟨o,e,fun v z=>by rw[d] at z;cases z⟩
 keep:=fun i h h' st k=>st.at fun o e=>k it (by simp) o e
 item:=by
  intro X hP hw hK hc i pins s σ H E I hf st hg
  subst hP hw hK
  obtain⟨xs,x,hq,hx⟩:=hg
  obtain⟨its,rv,p,hz⟩:=I.list hq
  obtain⟨u,hu,ru⟩:=rv.get hx
  obtain⟨f0,f1,f2,f3,f4,f5⟩:=hf it (by simp)
  refine wpAny_pyNext_list_item st p.isList (x:=u) (by simpa using hu) fun h' st' sb=>?_
  have I1:Inv X pins σ H { s with heap:=h' }:=I.turned (t':=s.toks) (fun b o hb e=>(sb.2 b hb).trans e) f0 f1 f3 f4 f5
  obtain⟨o,e,c,d⟩:=id st'
  exact⟨u,rfl,LP (s:={ s with heap:=h' }) e c d (by decide) ⟨x,H,I1,ru,⟨rfl,fun ys hy=>by rw[I.list_inj hy hq];exact hx⟩,st',fun b hb=>(hf b hb).1⟩⟩
 done:=by
  intro X hP hw hK hc i pins s σ H E I hf st hg
  subst hP hw hK
  obtain⟨xs,hq,hx⟩:=hg
  obtain⟨its,rv,p,hz⟩:=I.list hq
  obtain⟨f0,f1,f2,f3,f4,f5⟩:=hf it (by simp)
  have hl:=rv.length
  exact wpAny_pyNext_list_end (I.ok.hd hc) st p.isList (by simp;omega) fun h' eb=>⟨rfl,I.turned (t':=s.toks) (fun b o hb e=>eb b o hb e) f0 f1 f3 f4 f5⟩
 self:=fun _ _ _ _ _ st h=>wpAny_pyIter_listiter st h
theorem OA{P:Program}{w:World}{K:PySem.W.Frag}{tg:Expr}(a it:Addr):My P w K tg (Ds K a) [it] it (fun i h=>h.IsTupleIter it a i) where
 mem:=by simp
 obj:=fun i h st b hb=>by
  have e:b=it:=by simpa using hb
  subst e
  obtain⟨o,e,c,d⟩:=st
  exact⟨o,e,fun v z=>by rw[d] at z;cases z⟩
 keep:=fun i h h' st k=>st.at fun o e=>k it (by simp) o e
 item:=by
  intro X hP hw hK hc i pins s σ H E I hf st hg
  subst hP hw hK
  obtain⟨xs,x,hq,hx⟩:=hg
  obtain⟨its,rv,p,hz⟩:=I.tuple hq
  obtain⟨u,hu,ru⟩:=rv.get hx
  obtain⟨f0,f1,f2,f3,f4,f5⟩:=hf it (by simp)
  refine wpAny_pyNext_tuple_item st (show s.heap.IsTuple a its.toArray from p) (x:=u) (by simpa using hu) fun h' st' sb=>?_
  have I1:Inv X pins σ H { s with heap:=h' }:=I.turned (t':=s.toks) (fun b o hb e=>(sb.2 b hb).trans e) f0 f1 f3 f4 f5
  obtain⟨o,e,c,d⟩:=id st'
  exact⟨u,rfl,LP (s:={ s with heap:=h' }) e c d (by decide) ⟨x,H,I1,ru,⟨rfl,fun ys hy=>by rw[I.tuple_inj hy hq];exact hx⟩,st',fun b hb=>(hf b hb).1⟩⟩
 done:=by
  intro X hP hw hK hc i pins s σ H E I hf st hg
  subst hP hw hK
  obtain⟨xs,hq,hx⟩:=hg
  obtain⟨its,rv,p,hz⟩:=I.tuple hq
  obtain⟨f0,f1,f2,f3,f4,f5⟩:=hf it (by simp)
  have hl:=rv.length
  exact wpAny_pyNext_tuple_end (I.ok.hd hc) st (show s.heap.IsTuple a its.toArray from p) (by simp;omega) fun h' eb=>⟨rfl,I.turned (t':=s.toks) (fun b o hb e=>eb b o hb e) f0 f1 f3 f4 f5⟩
 self:=fun _ _ _ _ _ st h=>wpAny_pyIter_tupleiter st h
theorem OB{P:Program}{w:World}{K:PySem.W.Frag}{tg:Expr}(it:Addr)(lo:Int)(n:Nat):My P w K tg (FZ lo n) [it] it (fun i h=>IsRangeIter h it (lo+(i:Nat)*1) ((n:Int)-(i:Nat)) 1) where
 mem:=by simp
 obj:=fun i h st b hb=>by
  have e:b=it:=by simpa using hb
  subst e
  exact⟨_,st,fun v z=>by
   have z':Data.fields _=Data.cell v:=z
   cases z'⟩
 keep:=fun i h h' st k=>k it (by simp) _ st
 item:=by
  intro X hP hw hK hc i pins s σ H E I hf st hg
  subst hP hw hK
  obtain⟨f0,f1,f2,f3,f4,f5⟩:=hf it (by simp)
  have W:=Walks.range (prog:=X.prog) (w:=X.w) (I.ok.hd hc) it lo 1 n
  refine W.item i s _ _ hg st fun v h' tk hv st' kk=>?_
  obtain⟨t,rfl⟩:=hv
  have I1:Inv X pins σ H { s with heap:=h',toks:=tk }:=I.turned (fun b o hb e=>kk b o (by simpa using hb) e) f0 f1 f3 f4 f5
  refine⟨_,rfl,LP (s:={ s with heap:=h',toks:=tk }) (n:="range_iterator") st' rfl rfl (by decide) ⟨.int (lo+i),H,I1,⟨t,?_⟩,⟨rfl,rfl⟩,st',fun b hb=>(hf b hb).1⟩⟩
  rw[Int.mul_one]
 done:=by
  intro X hP hw hK hc i pins s σ H E I hf st hg
  subst hP hw hK
  obtain⟨f0,f1,f2,f3,f4,f5⟩:=hf it (by simp)
  exact wpAny_pyNext_range_end (I.ok.hd hc) st (by have:n<=i:=hg;omega) fun h' eb=>⟨rfl,I.turned (t':=s.toks) (fun b o hb e=>eb b o hb e) f0 f1 f3 f4 f5⟩
 self:=fun _ _ _ _ _ st h=>wpAny_pyIter_rangeiter st h
section
variable {X:Cx} {tg:Expr}
def F0(K:PySem.W.Frag)(tl:TE):TI:=fun σ H R=>tl σ H fun x H1=>∃a,x = .ref a/\(∃xs,SqL K H1 a xs)/\R (E1 K a) H1
def E2(K:PySem.W.Frag)(tl:TE):TI:=fun σ H R=>tl σ H fun x H1=>∃a,x = .ref a/\(∃xs,SqT K H1 a xs)/\R (Ds K a) H1
theorem JV{l:Expr}{tl:TE}(hl:PE X l tl):PI X tg l (F0 X.K tl):=by
 intro pins s σ H R I h
 refine YO (hl pins s σ H _ I h) fun v s1 ⟨x,H1,I1,r1,q1⟩=>?_
 obtain⟨a,e,⟨xs,hq⟩,q⟩:=q1
 subst e;cases r1
 obtain⟨its,rv,p,hz⟩:=I1.list hq
 refine wpAny_pyIter_list p.isList ?_
 refine⟨s1.heap.objs.size,[s1.heap.objs.size],_,_,H1,rfl,I1.kept (t':=s1.toks) fun b o e=>Heap.get?_push_of_some _ e,Mz a _,⟨_,Heap.get?_push_size _ rfl,rfl,rfl⟩,fun b hb=>?_,q⟩
 have e:b=s1.heap.objs.size:=by simpa using hb
 subst e
 exact I1.fpOk (Nat.le_refl _) (I1.hok.fresh (Nat.le_refl _))
theorem Gu{l:Expr}{tl:TE}(hl:PE X l tl):PI X tg l (E2 X.K tl):=by
 intro pins s σ H R I h
 refine YO (hl pins s σ H _ I h) fun v s1 ⟨x,H1,I1,r1,q1⟩=>?_
 obtain⟨a,e,⟨xs,hq⟩,q⟩:=q1
 subst e;cases r1
 obtain⟨its,rv,p,hz⟩:=I1.tuple hq
 refine wpAny_pyIter_tuple (show s1.heap.IsTuple a its.toArray from p) ?_
 refine⟨s1.heap.objs.size,[s1.heap.objs.size],_,_,H1,rfl,I1.kept (t':=s1.toks) fun b o e=>Heap.get?_push_of_some _ e,OA a _,⟨_,Heap.get?_push_size _ rfl,rfl,rfl⟩,fun b hb=>?_,q⟩
 have e:b=s1.heap.objs.size:=by simpa using hb
 subst e
 exact I1.fpOk (Nat.le_refl _) (I1.hok.fresh (Nat.le_refl _))
theorem Pp{pins:List (Addr×Obj)}{σ:St}{H:Hp}{s:Shared}{R:It->Hp->Prop}{E:Value->Shared->Prop}{lo hi:Int}{t u v:Tok}{tk:Nat}(I:Inv X pins σ H s)(h1 : -(2^62)<=lo)(h2:lo<2^62)(h3 : -(2^62)<=hi)(h4:hi<2^62)
  (q:R (FZ lo (hi-lo).toNat) H):wpAny (model X.prog X.w) X.A (pyIter (.ref s.heap.objs.size)) (Dr X pins σ tg R) E { s with heap:=s.heap.push { cls:=.type "range",data:=.fields #[.int lo t,.int hi u,.int 1 v] },toks:=tk }:=by
 refine wpAny_pyIter_range (IsRange.new ..) (small_one h1 h2 h3 h4) ?_
 have I1:Inv X pins σ H { s with heap:=s.heap.push { cls:=.type "range",data:=.fields #[.int lo t,.int hi u,.int 1 v] },toks:=tk }:=I.kept fun b o e=>Heap.get?_push_of_some _ e
 refine⟨(s.heap.push { cls:=.type "range",data:=.fields #[.int lo t,.int hi u,.int 1 v] }).objs.size,[(s.heap.push { cls:=.type "range",data:=.fields #[.int lo t,.int hi u,.int 1 v] }).objs.size],_,_,H,rfl,
  I1.kept (t':=tk) fun b o e=>Heap.get?_push_of_some _ e,OB _ lo (hi-lo).toNat,?_,fun b hb=>?_,q⟩
 ·have e1:lo+((0:Nat):Int)*1=lo:=by simp
  have e2:(((hi-lo).toNat:Nat):Int)-((0:Nat):Int)=Builtin.Range.rangeSize lo hi 1:=by rw[rangeSize_one];split<;>omega
  show IsRangeIter _ _ (lo+((0:Nat):Int)*1) ((((hi-lo).toNat:Nat):Int)-((0:Nat):Int)) 1
  rw[e1,e2]
  exact Heap.get?_push_size _ rfl
 ·have e:b=(s.heap.push { cls:=.type "range",data:=.fields #[.int lo t,.int hi u,.int 1 v] }).objs.size:=by simpa using hb
  subst e
  exact I1.fpOk (Nat.le_refl _) (I1.hok.fresh (Nat.le_refl _))
def F1(ta:TA):TI:=fun σ H R=>ta σ H fun vs H1=>∃j:Int,vs=[.int j]/\-(2^62)<=j/\j<2^62/\R (FZ 0 j.toNat) H1
def F2(ta:TA):TI:=fun σ H R=>ta σ H fun vs H1=>∃i j:Int,vs=[.int i,.int j]/\(-(2^62)<=i/\i<2^62/\-(2^62)<=j/\j<2^62)/\R (FZ i (j-i).toNat) H1
theorem MA{a:Expr}{ta:TA}{p pos:Pos}(hg:Gl X "range")(hm:X.mg "range" = none)(ha:PA X [a] ta)(hs:starEach [a] X.env=[(false,eval a X.env)]:=by rfl):PI X tg (.Call (.Name "range" p) [a] [] pos) (F1 ta):=by
 intro pins s σ H R I h
 refine Call_ (Wy I hg hm boot_range (PyProof.Rows.callWith_type1 (YO (ha pos pins s σ H _ I h) fun us s1 ⟨vs,H1,I1,r1,q1⟩=>?_) hs rfl))
 obtain⟨j,e,q1,q2,q⟩:=q1
 subst e
 cases r1 with
 | cons r rr=>
  cases rr
  obtain⟨t,rfl⟩:=r
  exact call_range_1 (Pp I1 (by omega) (by omega) q1 q2 (by simpa using q))
theorem MB{a b:Expr}{ta:TA}{p pos:Pos}(hg:Gl X "range")(hm:X.mg "range" = none)(ha:PA X [a,b] ta)(hs:starEach [a,b] X.env=[(false,eval a X.env),(false,eval b X.env)]:=by rfl)(hs2:starEach [b] X.env=[(false,eval b X.env)]:=by rfl) :
  PI X tg (.Call (.Name "range" p) [a,b] [] pos) (F2 ta):=by
 intro pins s σ H R I h
 refine Call_ (Wy I hg hm boot_range (PyProof.Rows.callWith_type1 (YO (ha pos pins s σ H _ I h) fun us s1 ⟨vs,H1,I1,r1,q1⟩=>?_) (by rw[hs,hs2]) (by rw[hs2];rfl)))
 obtain⟨i,j,e,⟨q1,q2,q3,q4⟩,q⟩:=q1
 subst e
 cases r1 with
 | cons r rr=>
  cases rr with
  | cons r' rr=>
   cases rr
   obtain⟨t,rfl⟩:=r
   obtain⟨t',rfl⟩:=r'
   exact call_range_2 (Pp I1 q1 q2 q3 q4 q)
def E3(wi:TI)(g:TG)(tb:TS):TS:=fun D σ H=>wi σ H fun J H1=>∃W:Nat->Nat->St->Hp->Prop,(∃m,W 0 m σ H1)/\∀i m σ H,W i m σ H->
 (J.stop i H/\D.nx σ H)\/(J.go i H/\∃N:St->Hp->Prop,(∀σ' H',N σ' H'->∃m',m'<m/\W (i+1) m' σ' H')/\∀x H',J.yld i H x H'->g x σ H' fun σ2 H2=>tb { D with nx:=N,ct:=N,bk:=D.nx } σ2 H2)
def UY(fp:List Addr)(h:Heap):List (Addr×Obj):=fp.filterMap fun b=>(h.get? b).map fun o=>(b,o)
theorem WO{fp:List Addr}{h:Heap}{b:Addr}{o:Obj}(hb:b∈fp)(e:h.get? b=some o):(b,o)∈UY fp h:=List.mem_filterMap.mpr ⟨b,hb,by rw[e];rfl⟩
theorem MC{fp:List Addr}{h:Heap}{p:Addr×Obj}(hp:p∈UY fp h):p.1∈fp/\h.get? p.1=some p.2:=by
 obtain⟨b,hb,e⟩:=List.mem_filterMap.mp hp
 cases q:h.get? b with
 | none=>rw[q] at e;cases e
 | some o=>
  rw[q] at e
  have e':(b,o)=p:=Option.some.inj e
  subst e'
  exact⟨hb,q⟩
theorem Inv.pinned{pins:List (Addr×Obj)}{σ:St}{H:Hp}{s:Shared}{fp:List Addr}(I:Inv X pins σ H s)(hf:∀b∈fp,T5 X pins H b)(ho:∀b∈fp,∃o,s.heap.get? b=some o/\∀v,o.data≠.cell v):Inv X (pins++UY fp s.heap) σ H s:=
 I.pins_of fun p hp=>(List.mem_append.mp hp).elim (fun z=>I.pin p (List.mem_append_right _ z)) fun z=>by
  obtain⟨hb,e⟩:=MC z
  obtain⟨f0,f1,f2,_⟩:=hf p.1 hb
  obtain⟨o,e',d⟩:=ho p.1 hb
  rw[e] at e';cases e'
  exact⟨e,f0,f1,f2,d⟩
theorem Inv.unpinned{pins pl:List (Addr×Obj)}{σ:St}{H:Hp}{s:Shared}(I:Inv X (pins++pl) σ H s):Inv X pins σ H s:=I.pins_of fun p hp=>I.pin p (List.mem_append_right _ (List.mem_append_left _ hp))
theorem Gv{iter:Expr}{body:List Stmt}{wi:TI}{g:TG}{tb:TS}{pos:Pos}(hp:PassesOwn (model X.prog X.w) X.A X.env X.xe)(hc:X.calm=true)(hi:PI X tg iter wi)(hg:PG X tg g)(hb:PSs X body tb)
  (hs:∀x,foldedSetIterable iter X.env x=pure x:=by intro _;rfl):PS X (.For tg iter body [] pos) (E3 wi g tb):=by
 intro pins s σ H D I h
 refine wpAny_For (YO (hi pins s σ H _ I h) fun v s1 h1=>YO h1 fun itv s2 h2=>?_) hs
 obtain⟨it,fp,tn,J,H2,e,I2,T,st2,f2,W,⟨m0,w0⟩,turn⟩:=h2
 subst e
 -- what stays true of the iterator's objects through the loop
 have stat:∀{H':Hp},(∀b∈fp,H' b=none)->∀b∈fp,T5 X pins H' b:=fun hn b hb=>⟨hn b hb,(f2 b hb).2⟩
 refine codeAny_forLoop_any (fun n s'=>∃i σ' H',Inv X pins σ' H' s'/\tn i s'.heap/\(∀b∈fp,H' b=none)/\W i n σ' H') ?_ m0 ⟨0,σ,H2,I2,st2,fun b hb=>(f2 b hb).1,w0⟩
 rintro n s3 ⟨i,σ3,H3,I3,st3,fr3,w3⟩
 rcases turn i n σ3 H3 w3 with⟨stop,qn⟩ | ⟨go,N,hN,step⟩
 ·refine wpAny_passesOwn hp (YO (T.done X rfl rfl rfl hc i pins s3 σ3 H3 X.xe I3 (stat fr3) st3 stop) fun r s4 ⟨hr,I4⟩=>?_)
  subst hr
  exact wpAny_execs_nil ⟨σ3,H3,I4,qn⟩
 ·refine wpAny_passesOwn hp (YO (T.item X rfl rfl rfl hc i pins s3 σ3 H3 X.xe I3 (stat fr3) st3 go) fun r s4 ⟨u,hr,h4⟩=>?_)
  subst hr
  refine wpAny_passesOwn hp (YO h4 fun _ s5 ⟨x,H5,I5,r5,y5,st5,fr5⟩=>?_)
  have I5':=I5.pinned (stat fr5) (T.obj _ _ st5)
  refine wpAny_passesOwn hp (YO (hg _ s5 σ3 H5 x u _ I5' r5 (step x H5 y5)) fun _ s6 ⟨σ6,H6,I6,q6⟩=>?_)
  refine wpAny_passesOwn hp (YO (hb _ s6 σ6 H6 _ I6 q6) fun f s7 q7=>?_)
  have again:∀{σ7:St}{H7:Hp},Inv X (pins++UY fp s5.heap) σ7 H7 s7->N σ7 H7->∃m,m<n/\∃i σ' H',Inv X pins σ' H' s7/\tn i s7.heap/\(∀b∈fp,H' b=none)/\W i m σ' H':=fun{σ7 H7} I7 n7=>by
   obtain⟨m',hm,w7⟩:=hN σ7 H7 n7
   refine⟨m',hm,i+1,σ7,H7,I7.unpinned,T.keep _ _ _ st5 fun b hb o e=>(I7.pin (b,o) (List.mem_append_right _ (List.mem_append_right _ (WO hb e)))).1,fun b hb=>?_,w7⟩
   obtain⟨o,e,d⟩:=T.obj _ _ st5 b hb
   exact(I7.pin (b,o) (List.mem_append_right _ (List.mem_append_right _ (WO hb e)))).2.1
  cases f with
  | next=>obtain⟨σ7,H7,I7,n7⟩:=q7;exact again I7 n7
  | cont=>obtain⟨σ7,H7,I7,n7⟩:=q7;exact again I7 n7
  | brk=>obtain⟨σ7,H7,I7,q7⟩:=q7;exact⟨σ7,H7,I7.unpinned,q7⟩
  | ret v=>obtain⟨x7,σ7,H7,I7,r7,q7⟩:=q7;exact⟨x7,σ7,H7,I7.unpinned,r7,q7⟩
end
abbrev R2:=V->V->Hp->VK->Prop
def UT(X:Cx)(f:Value->Value->Sem Value)(r:R2):Prop:=
 ∀(pins:List (Addr×Obj))(s:Shared)(σ:St)(H:Hp)(x y:V)(v u:Value)(Q:VK),Inv X pins σ H s->RelV x v->RelV y u->r x y H Q->
  wpAny (model X.prog X.w) X.A (f v u) (EP X pins σ Q) X.xe s
def E4(X:Cx)(f:Value->Sem Value)(r:V->Hp->VK->Prop):Prop:=
 ∀(pins:List (Addr×Obj))(s:Shared)(σ:St)(H:Hp)(x:V)(v:Value)(Q:VK),Inv X pins σ H s->RelV x v->r x H Q->
  wpAny (model X.prog X.w) X.A (f v) (EP X pins σ Q) X.xe s
def Wc(X:Cx)(f:Value)(r:List V->Hp->VK->Prop):Prop:=
 ∀(pins:List (Addr×Obj))(s:Shared)(σ:St)(H:Hp)(xs:List V)(us:List Value)(Q:VK),Inv X pins σ H s->Vals xs us->r xs H Q->
  wpAny (model X.prog X.w) X.A (call f us) (EP X pins σ Q) X.xe s
def E5(X:Cx)(r:V->Hp->(Bool->Hp->Prop)->Prop):Prop:=
 ∀(pins:List (Addr×Obj))(s:Shared)(σ:St)(H:Hp)(x:V)(v:Value)(Q:Bool->Hp->Prop),Inv X pins σ H s->RelV x v->r x H Q->
  wpAny (model X.prog X.w) X.A (truthy v) (TP X pins σ Q) X.xe s
def FK(r:R2)(ta tb:TE):TE:=fun σ H Q=>ta σ H fun x H1=>tb σ H1 fun y H2=>r x y H2 Q
def Dy(r:V->Hp->VK->Prop)(ta:TE):TE:=fun σ H Q=>ta σ H fun x H1=>r x H1 Q
def rI(C:Int->Int->Prop)(g:Int->Int->V):R2:=fun x y H Q=>∃i j,x = .int i/\y = .int j/\C i j/\Q (g i j) H
def JN(g:Int->Int->V):R2:=fun x y H Q=>∃i j,x = .int i/\y = .int j/\Q (g i j) H
def rU(g:Int->V):V->Hp->VK->Prop:=fun x H Q=>∃i,x = .int i/\Q (g i) H
section
variable {X:Cx} {a b c:Expr} {ta tb tc:TE} {pos:Pos}
theorem Gw(ha:PE X a ta)(hb:PE X b tb){pins:List (Addr×Obj)}{s:Shared}{σ:St}{H:Hp}{R:V->V->Hp->Prop}(I:Inv X pins σ H s)
  (h:ta σ H fun x H1=>tb σ H1 fun y H2=>R x y H2) {Q:Value->Shared->Prop} {f:Value->Value->Sem Value}
  (hf:∀v u s2 x y H2,Inv X pins σ H2 s2->RelV x v->RelV y u->R x y H2->wpAny (model X.prog X.w) X.A (f v u) Q X.xe s2) :
  wpAny (model X.prog X.w) X.A (eval a X.env) (fun v s₁=>wpAny (model X.prog X.w) X.A (eval b X.env) (fun u s₂=>wpAny (model X.prog X.w) X.A (f v u) Q X.xe s₂) X.xe s₁) X.xe s:=by
 refine YO (ha pins s σ H _ I h) fun v s1 ⟨x,H1,I1,r1,q1⟩=>?_
 refine YO (hb pins s1 σ H1 _ I1 q1) fun u s2 ⟨y,H2,I2,r2,q2⟩=>?_
 exact hf v u s2 x y H2 I2 r1 r2 q2
theorem LQ{op:Operator}{r:R2}(ho:UT X (binaryOp op) r)(ha:PE X a ta)(hb:PE X b tb):PE X (.BinOp a op b pos) (FK r ta tb):=by
 intro pins s σ H Q I h
 exact wpAny_BinOp (Gw ha hb I h fun v u s2 x y H2 I2 rx ry q=>ho pins s2 σ H2 x y v u Q I2 rx ry q)
theorem F3{op:UnaryOp}{r:V->Hp->VK->Prop}(ho:E4 X (unaryOp op) r)(ha:PE X a ta):PE X (.UnaryOp op a pos) (Dy r ta):=by
 intro pins s σ H Q I h
 exact UnaryOp_ (YO (ha pins s σ H _ I h) fun v s1 ⟨x,H1,I1,r1,q1⟩=>ho pins s1 σ H1 x v Q I1 r1 q1)
theorem F4{f:Value->Value->Sem Value}{C:Int->Int->Prop}{g:Int->Int->Int}
  (rule:∀(i j:Int)(t u:Tok)(s:Shared)(Q:Value->Shared->Prop)(E:Value->Shared->Prop),C i j->Q (.int (g i j) s.toks) { s with toks:=s.toks+1 }->wpAny (model X.prog X.w) X.A (f (.int i t) (.int j u)) Q E s) :
  UT X f (rI C fun i j=>.int (g i j)):=by
 intro pins s σ H x y v u Q I rx ry h
 obtain⟨i,j,rfl,rfl,hc,q⟩:=h
 obtain⟨t,rfl⟩:=rx
 obtain⟨t',rfl⟩:=ry
 exact rule i j t t' s _ _ hc ⟨.int (g i j),H,I.tok _,⟨_,rfl⟩,q⟩
theorem Gx{f:Value->Value->Sem Value}{g:Int->Int->Int}
  (rule:∀(i j:Int)(t u:Tok)(s:Shared)(Q:Value->Shared->Prop)(E:Value->Shared->Prop),Q (.int (g i j) s.toks) { s with toks:=s.toks+1 }->wpAny (model X.prog X.w) X.A (f (.int i t) (.int j u)) Q E s) :
  UT X f (JN fun i j=>.int (g i j)):=by
 intro pins s σ H x y v u Q I rx ry h
 obtain⟨i,j,rfl,rfl,q⟩:=h
 obtain⟨t,rfl⟩:=rx
 obtain⟨t',rfl⟩:=ry
 exact rule i j t t' s _ _ ⟨.int (g i j),H,I.tok _,⟨_,rfl⟩,q⟩
theorem Gy{f:Value->Value->Sem Value}{g:Int->Int->Bool}
  (rule:∀(i j:Int)(t u:Tok)(s:Shared)(Q:Value->Shared->Prop)(E:Value->Shared->Prop),Q (.bool (g i j)) s->wpAny (model X.prog X.w) X.A (f (.int i t) (.int j u)) Q E s) :
  UT X f (JN fun i j=>.bl (g i j)):=by
 intro pins s σ H x y v u Q I rx ry h
 obtain⟨i,j,rfl,rfl,q⟩:=h
 obtain⟨t,rfl⟩:=rx
 obtain⟨t',rfl⟩:=ry
 exact rule i j t t' s _ _ ⟨.bl (g i j),H,I,rfl,q⟩
def Vb(i j:Int):Prop:=0<j/\j<1073741824
def Hy(i j:Int):Prop:=j≠0/\j.natAbs<1073741824
def LR(i j:Int):Prop:=0<=j/\j<=1000000/\i.natAbs<2^64
def CMul(i j:Int):Prop:=(-(2^64)<i/\i<2^64)\/(-(2^64)<j/\j<2^64)
theorem CMul.ok{i j:Int}(h:CMul i j):IntMulOk i j:=by
 rcases h with⟨h1,h2⟩ | ⟨h1,h2⟩
 ·exact .of_left (intBits_le_64 h1 h2)
 ·exact .of_right (intBits_le_64 h1 h2)
theorem OC(k:Nat):(0:Int)<=2^k:=by
 rw[two_pow_cast]
 exact Int.natCast_nonneg _
theorem Gz:UT X (binaryOp .Add) (JN fun i j=>.int (i+j)):=Gx fun _ _ _ _ _ _ _ q=>add_int q
theorem GA:UT X (binaryOp .Sub) (JN fun i j=>.int (i-j)):=Gx fun _ _ _ _ _ _ _ q=>sub_int q
theorem GB:UT X (binaryOp .Mult) (rI CMul fun i j=>.int (i*j)):=F4 fun _ _ _ _ _ _ _ hc q=>mul_int q hc.ok
theorem JW:UT X (binaryOp .FloorDiv) (rI Vb fun i j=>.int (i/j)):=F4 fun i j _ _ _ _ _ hc q=>by
 have h1:(0:Int)<j:=hc.1
 have h2:j<1073741824:=hc.2
 exact floordiv_int (by omega) (by rw[Int.fdiv_eq_ediv_of_nonneg i (by omega)];exact q) (.inl (PyProof.noPylong_small (by omega)))
theorem GC:UT X (binaryOp .Mod) (rI (fun _ j=>0<j) fun i j=>.int (i%j)):=F4 fun i j _ _ _ _ _ hc q=>by
 have h1:(0:Int)<j:=hc
 exact mod_int' (by omega) (by rw[Int.fmod_eq_emod_of_nonneg i (by omega)];exact q)
theorem GD:UT X (binaryOp .LShift) (rI LR fun i j=>.int (i*2^j.toNat)):=F4 fun _ _ _ _ _ _ _ hc q=>lshift_int_small hc.1 hc.2.1 hc.2.2 q
theorem GF:UT X (binaryOp .RShift) (rI (fun _ j=>0<=j) fun i j=>.int (i/2^j.toNat)):=F4 fun i j _ _ _ _ _ hc q=>
 rshift_int hc (by rw[Int.fdiv_eq_ediv_of_nonneg i (OC _)];exact q)
theorem GG:UT X (binaryOp .BitAnd) (JN fun i j=>.int (Builtin.bitAnd i j)):=Gx fun _ _ _ _ _ _ _ q=>and_int q
theorem Dz{f:Value->Sem Value}{g:Int->Int}
  (rule:∀(i:Int)(t:Tok)(s:Shared)(Q:Value->Shared->Prop)(E:Value->Shared->Prop),Q (.int (g i) s.toks) { s with toks:=s.toks+1 }->wpAny (model X.prog X.w) X.A (f (.int i t)) Q E s) :
  E4 X f (rU fun i=>.int (g i)):=by
 intro pins s σ H x v Q I rx h
 obtain⟨i,rfl,q⟩:=h
 obtain⟨t,rfl⟩:=rx
 exact rule i t s _ _ ⟨.int (g i),H,I.tok _,⟨_,rfl⟩,q⟩
theorem GH:E4 X (unaryOp .USub) (rU fun i=>.int (-i)):=Dz fun _ _ _ _ _ q=>neg_int q
end
section
variable {X:Cx} {a b c:Expr} {ta tb tc:TE} {pos:Pos}
theorem Hz:UT X (compareOp .Lt) (JN fun i j=>.bl (decide (i<j))):=Gy fun _ _ _ _ _ _ _ q=>lt_int q
theorem HA:UT X (compareOp .Gt) (JN fun i j=>.bl (decide (j<i))):=Gy fun _ _ _ _ _ _ _ q=>gt_int q
theorem F5:UT X (compareOp .GtE) (JN fun i j=>.bl (decide (j<=i))):=Gy fun _ _ _ _ _ _ _ q=>ge_int q
theorem Vf(b:Expr){op:CmpOp}(h:op≠.In:=by decide)(h2:op≠.NotIn:=by decide):behindInMarks op b=false:=by
 have e1:(op==CmpOp.In)=false:=by cases op<;>first | rfl | exact absurd rfl h
 have e2:(op==CmpOp.NotIn)=false:=by cases op<;>first | rfl | exact absurd rfl h2
 cases b<;>simp[behindInMarks,e1,e2]
theorem JX{op:CmpOp}{r:R2}(ho:UT X (compareOp op) r)(ha:PE X a ta)(hb:PE X b tb)(hm:behindInMarks op b=false):PE X (.Compare a [op] [b] pos) (FK r ta tb):=by
 intro pins s σ H Q I h
 exact wpAny_Compare1 (Gw ha hb I h fun v u s2 x y H2 I2 rx ry q=>ho pins s2 σ H2 x y v u Q I2 rx ry q) hm
def NK(t:TE):TT:=fun σ H Q=>t σ H fun x H'=>∃k,x = .bl k/\Q k H'
theorem JY{op:CmpOp}{r:R2}(ho:UT X (compareOp op) r)(ha:PE X a ta)(hb:PE X b tb)(hm:behindInMarks op b=false):PT X (.Compare a [op] [b] pos) (NK (FK r ta tb)):=by
 intro pins s σ H Q I h
 refine wpAny_isTrue_Compare1 (YO (ha pins s σ H _ I h) fun v s1 ⟨x,H1,I1,r1,q1⟩=>YO (hb pins s1 σ H1 _ I1 q1) fun u s2 ⟨y,H2,I2,r2,q2⟩=>
  YO (ho pins s2 σ H2 x y v u _ I2 r1 r2 q2) fun c s3 ⟨z,H3,I3,r3,k,e,q3⟩=>?_) hm
 subst e;cases r3
 exact wpAny_truthy_bool ⟨H3,I3,q3⟩
def E6(K:PySem.W.Frag)(x:V)(H:Hp)(k:Bool):Prop:=
 match x with
 | .non=>k=false
 | .bl b=>k=b
 | .int i=>k=(i != 0)
 | .str y=>y.length<=sizeLine/\k=((y.length:Int) != 0)
 | .byt y=>y.size<=sizeLine/\k=((y.size:Int) != 0)
 | .ref p=>(∃xs,SqL K H p xs/\k = !xs.isEmpty)\/(∃xs,SqT K H p xs/\k = !xs.isEmpty)\/∃kvs,H p=some (.dK kvs)/\k = !kvs.isEmpty
 | _=>False
theorem OD{κ:Type}{kvs:List (κ×V)}{vs:List (κ×Value)}(r:KV kvs vs):(!vs.isEmpty) = !kvs.isEmpty:=by
 cases r<;>rfl
theorem Sq{xs:List V}{its:List Value}(r:Vals xs its):(!its.toArray.isEmpty) = !xs.isEmpty:=by
 cases r<;>simp
theorem UZ:(sizeLine:Nat)<2^63:=by rw[sizeLine_eq];decide
theorem tru_ok:E5 X (fun x H Q=>∃k,E6 X.K x H k/\Q k H):=by
 intro pins s σ H x v Q I rx h
 obtain⟨k,e,q⟩:=h
 have hl:=UZ
 have hs:sizeLine=16777216:=sizeLine_eq
 cases x with
 | non=>
  cases rx
  have e':k=false:=e
  subst e'
  exact truthy_none ⟨H,I,q⟩
 | bl b=>
  cases rx
  have e':k=b:=e
  subst e'
  exact wpAny_truthy_bool ⟨H,I,q⟩
 | int i=>
  obtain⟨t,rfl⟩:=rx
  have e':k=(i != 0):=e
  subst e'
  exact PySem.P.truthy_int ⟨H,I,q⟩
 | str y=>
  obtain⟨t,rfl⟩:=rx
  obtain⟨hy,e'⟩:y.length<=sizeLine/\k=((y.length:Int) != 0):=e
  subst e'
  exact PySem.P.truthy_str (by omega) ⟨H,I.tok _,q⟩
 | byt y=>
  obtain⟨t,rfl⟩:=rx
  obtain⟨hy,e'⟩:y.size<=sizeLine/\k=((y.size:Int) != 0):=e
  subst e'
  exact PySem.W.truthy_bytes (by omega) ⟨H,I.tok _,q⟩
 | ref p=>
  cases rx
  have e':(∃xs,SqL X.K H p xs/\k = !xs.isEmpty)\/(∃xs,SqT X.K H p xs/\k = !xs.isEmpty)\/∃kvs,H p=some (.dK kvs)/\k = !kvs.isEmpty:=e
  rcases e' with⟨xs,hx,e'⟩ | ⟨xs,hx,e'⟩ | ⟨kvs,hx,e'⟩
  ·subst e'
   obtain⟨its,r,pl,hz⟩:=I.list hx
   have hlen:=r.length
   exact wpAny_truthy_list pl.isList (by simp only[List.size_toArray];omega) ⟨H,I.tok _,by rw[Sq r];exact q⟩
  ·subst e'
   obtain⟨its,r,pl,hz⟩:=I.tuple hx
   have hlen:=r.length
   exact truthy_tuple pl (by simp only[List.size_toArray];omega) ⟨H,I.tok _,by rw[Sq r];exact q⟩
  ·subst e'
   obtain⟨hz,hS,vs,r,m⟩:kvs.length<=sizeLine/\(p==sysModules)=false/\∃vs,KV kvs vs/\s.heap.DictOf (Qq X.prog X.w) p vs:=I.hok p _ hx
   have hlen:kvs.length=vs.length:=Paired.length r
   exact wpAny_truthy_dict hS m (by omega) ⟨H,I.tok _,by rw[OD r];exact q⟩
 | _=>exact(show False from e).elim
theorem Uu{x:V}{us:List Value}(r:Vals [x] us):∃u,us=[u]/\RelV x u:=by
 cases r with
 | cons r1 r2=>cases r2;exact⟨_,rfl,r1⟩
theorem HB{x y:V}{us:List Value}(r:Vals [x,y] us):∃u w',us=[u,w']/\RelV x u/\RelV y w':=by
 cases r with
 | cons r1 r2=>
  cases r2 with
  | cons r3 r4=>cases r4;exact⟨_,_,rfl,r1,r3⟩
theorem MD(hc:X.calm=true):Wc X (.builtin "max") (fun xs H Q=>∃i j,xs=[.int i,.int j]/\Q (.int (if j>i then j else i)) H):=by
 intro pins s σ H xs us Q I r h
 obtain⟨i,j,rfl,q⟩:=h
 obtain⟨u,w',rfl,⟨t,rfl⟩,⟨t',rfl⟩⟩:=HB r
 refine max_two_ints (I.ok.hd hc) fun h' tk k=>⟨_,H,I.kept k,?_,q⟩
 by_cases hj:j>i
 ·rw[if_pos hj,if_pos hj];exact⟨_,rfl⟩
 ·rw[if_neg hj,if_neg hj];exact⟨_,rfl⟩
theorem ME:Wc X (.type "int") (fun xs H Q=>(∃i,xs=[.int i]/\Q (.int i) H)\/∃k,xs=[.bl k]/\Q (.int (if k then 1 else 0)) H):=by
 intro pins s σ H xs us Q I r h
 rcases h with⟨i,rfl,q⟩ | ⟨k,rfl,q⟩
 ·obtain⟨u,rfl,t,rfl⟩:=Uu r
  exact call_int_int ⟨.int i,H,I,⟨_,rfl⟩,q⟩
 ·obtain⟨u,rfl,r1⟩:=Uu r
  cases r1
  exact call_int_bool ⟨.int (if k then 1 else 0),H,I.tok _,⟨_,rfl⟩,q⟩
def F6(K:PySem.W.Frag)(x:V)(H:Hp)(n:Nat):Prop:=
 match x with
 | .str y=>y.length<=sizeLine/\n=y.length
 | .byt y=>y.size<=sizeLine/\n=y.size
 | .ref p=>(∃xs,SqL K H p xs/\n=xs.length)\/∃xs,SqT K H p xs/\n=xs.length
 | _=>False
theorem ZD:Wc X (.builtin "len") (fun xs H Q=>∃x n,xs=[x]/\F6 X.K x H n/\Q (.int n) H):=by
 intro pins s σ H xs us Q I r h
 obtain⟨x,n,rfl,e,q⟩:=h
 obtain⟨u,rfl,rx⟩:=Uu r
 have hl:=UZ
 have hs:sizeLine=16777216:=sizeLine_eq
 cases x with
 | str y=>
  obtain⟨t,rfl⟩:=rx
  obtain⟨hy,e'⟩:y.length<=sizeLine/\n=y.length:=e
  subst e'
  exact len_str (by omega) ⟨.int _,H,I.tok _,⟨_,rfl⟩,q⟩
 | byt y=>
  obtain⟨t,rfl⟩:=rx
  obtain⟨hy,e'⟩:y.size<=sizeLine/\n=y.size:=e
  subst e'
  exact PySem.W.len_bytes (by omega) ⟨.int _,H,I.tok _,⟨_,rfl⟩,q⟩
 | ref p=>
  cases rx
  have e':(∃xs,SqL X.K H p xs/\n=xs.length)\/∃xs,SqT X.K H p xs/\n=xs.length:=e
  rcases e' with⟨xs,hx,e'⟩ | ⟨xs,hx,e'⟩
  ·subst e'
   obtain⟨its,r',pl,hz⟩:=I.list hx
   have hlen:=r'.length
   exact Calls.call_len_list pl.isList (by simp only[List.size_toArray];omega) ⟨.int xs.length,H,I.tok _,⟨_,by simp only[List.size_toArray];rw[hlen]⟩,q⟩
  ·subst e'
   obtain⟨its,r',pl,hz⟩:=I.tuple hx
   have hlen:=r'.length
   exact len_tuple pl (by simp only[List.size_toArray];omega) ⟨.int xs.length,H,I.tok _,⟨_,by simp only[List.size_toArray];rw[hlen]⟩,q⟩
 | _=>exact(show False from e).elim
end
structure ObjM(h:Heap)(x dx C:Addr)(mA:Str->Option Value):Prop where
 obj:h.get? x=some (PySem.W.instObj C dx)
 ns:h.Ns1 dx mA
 ne:dx≠x
theorem MF{h:Heap}{dx:Addr}{mA:Str->Option Value}(n:h.Ns1 dx mA):∃od,h.get? dx=some od/\∀name,PySem.W.lookIn name od=some (mA name):=by
 obtain⟨o,es,ep,ho,hd,hk,_,hm⟩:=n
 refine⟨o,ho,fun name=>?_⟩
 have e:=hm name;unfold nsFind findBy at e;rw[<-Array.find?_toList] at e;unfold PySem.W.lookIn;rw[hd]
 dsimp only
 split
 ·rename_i y q
  rw[q] at e
  exact congrArg some e
 ·rename_i q
  rw[q] at e
  have a:es.toList.any (·.refKey)=false:=by
   rw[List.any_eq_false];intro y hy
   obtain⟨z,t,hkey⟩:=hk y (Array.mem_toList_iff.mp hy)
   simp[DictEntry.refKey,hkey]
  have a':¬es.toList.any (·.refKey)=true:=by rw[a];exact Bool.false_ne_true
  rw[if_neg a']
  exact congrArg some e
theorem ObjM.look{h:Heap}{x dx C:Addr}{mA:Str->Option Value}(I:ObjM h x dx C mA):∃od,PySem.W.InstAt h x (PySem.W.instObj C dx) C (some od)/\∀name,PySem.W.lookIn name od=some (mA name):=
 let⟨od,ho,hl⟩:=MF I.ns
 ⟨od,⟨I.obj,rfl,rfl,ho⟩,hl⟩
section
variable {P:Program} {w:World} {H H':Hp} {h h':Heap} {a C dx:Addr} {fs fs':List (Str×V)}
theorem JZ(hok:HOk P w H h)(e:H a=some (.ins C dx fs)):∃mA,ObjM h a dx C mA/\(∀f,Ge (fs.lookup f) (mA f))/\PySem.Within mA (fs.map (·.1))/\fs.length<=1000/\H dx=some (.own a):=by
 obtain⟨d,z,ne,ob,mA,n,r,q⟩:=(show ObjOk P w H h a (.ins C dx fs) from hok a _ e)
 exact⟨mA,⟨ob,n,ne⟩,r,q,z,d⟩
end
structure Cls(K:PySem.W.Frag)(C:Addr):Prop where
 pg:PySem.W.plainGet K C Str.empty=true
 hd:PySem.W.hasDictIn K C=true
 po:PySem.W.plainOver K C=true
 sa:PySem.W.findIn K (.ref C) "__setattr__" = some (some (.builtin "object.__setattr__"))
theorem Cls.get{K:PySem.W.Frag}{C:Addr}(c:Cls K C)(f:Str):PySem.W.plainGet K C f=true:=c.pg
section
variable {X:Cx} {pins:List (Addr×Obj)} {σ:St} {H:Hp} {s:Shared} {a C dx:Addr} {fs:List (Str×V)} {f:Str} {v:V} {A:Around} {E:Value->Shared->Prop}
theorem J0{prog:Program}{w:World}{env:Env}{e:Expr}{f:Str}{pos:Pos}{s:Shared}{Q:Value->Shared->Prop}(hb:attributeBase e f env (eval e env)=eval e env)
  (h:wpAny (model prog w) A (eval e env) (fun o s₁=>wpAny (model prog w) A (getAttr o f true) Q E s₁) E s):wpAny (model prog w) A (eval (.Attribute e f pos) env) Q E s:=
 Attribute_any_ h (by rw[arm_eval_Attribute,hb])
end
section
variable {X:Cx} {pins:List (Addr×Obj)} {σ:St} {H:Hp} {s:Shared} {A:Around} {E:Value->Shared->Prop} {Q:Value->Shared->Prop} {c:Value} {b:Bool}
inductive TyOf(K:PySem.W.Frag)(H:Hp):V->Value->Prop where
 | non:TyOf K H .non (.type "NoneType")
 | bl (x:Bool):TyOf K H (.bl x) (.type "bool")
 | int (i:Int):TyOf K H (.int i) (.type "int")
 | str (x:Str):TyOf K H (.str x) (.type "str")
 | flt (x:UInt64):TyOf K H (.flt x) (.type "float")
 | lst {a:Addr} {xs:List V} (e:H a=some (.lst xs)):TyOf K H (.ref a) (.type "list")
 | frz {a:Addr} {o:Obj} {xs:List V} (e:H a=some (.frz o (.lst xs))):TyOf K H (.ref a) (.type "list")
 | tup {a:Addr} {xs:List V} (e:H a=some (.tup xs)):TyOf K H (.ref a) (.type "tuple")
 | dK {a:Addr} {kvs:List (Se×V)} (e:H a=some (.dK kvs)):TyOf K H (.ref a) (.type "dict")
 | dT {a:Addr} {kvs:List (List Se×V)} (e:H a=some (.dT kvs)):TyOf K H (.ref a) (.type "dict")
 | ins {a C dx:Addr} {fs:List (Str×V)} (e:H a=some (.ins C dx fs)) (cl:Cls K C) (ha:PySem.W.findIn K (.ref C) "__class__" = some (some (.builtin "object.__class__")))
   (hn:PySem.W.specialIn K (.builtin "object.__class__") "__get__" = some (some (.builtin "getset_descriptor.__get__"))) (htk:PySem.W.takesIn K (.builtin "object.__class__")=some true)
   (hm:PySem.W.mroIn K C (.type "object")=some true):TyOf K H (.ref a) (.ref C)
theorem MG{x:V}{u t:Value}(I:Inv X pins σ H s)(rx:RelV x u)(ty:TyOf X.K H x t)(e:PySem.W.kitOne X.K t c=some b)(h:∀tk,Q (.bool b) { s with toks:=tk }) :
  wpAny (model X.prog X.w) A (call (.builtin "isinstance") [u,c]) Q E s:=by
 cases ty with
 | non=>cases (show u=Value.none from rx);exact PySem.W.kia_one PySem.W.kitx_none I.kIn True.intro e (fun z=>nomatch z) h
 | bl y=>cases (show u=Value.bool y from rx);exact PySem.W.kia_one PySem.W.kitx_bool I.kIn True.intro e (fun z=>nomatch z) h
 | int i=>obtain⟨t,q⟩:=(show ∃t,u=Value.int i t from rx);cases q;exact PySem.W.kia_one PySem.W.kitx_int I.kIn True.intro e (fun z=>nomatch z) h
 | str y=>obtain⟨t,q⟩:=(show ∃t,u=Value.str y t from rx);cases q;exact PySem.W.kia_one PySem.W.kitx_str I.kIn True.intro e (fun z=>nomatch z) h
 | flt y=>obtain⟨t,q⟩:=(show ∃t,u=Value.float y t from rx);cases q;exact PySem.W.kia_one PySem.W.kitx_float I.kIn True.intro e (fun z=>nomatch z) h
 | @lst a xs ea=>
  cases (show u=Value.ref a from rx)
  obtain⟨_,_,n,_,h1⟩:=(show ObjOk X.prog X.w H s.heap a (.lst xs) from I.hok a _ ea)
  exact PySem.W.kia_one PySem.W.kitx_list I.kIn ⟨_,h1,rfl⟩ e (fun z=>nomatch z) h
 | @frz a ob xs ea=>
  cases (show u=Value.ref a from rx)
  obtain⟨_,_,_,n,_,h1⟩:=(show ObjOk X.prog X.w H s.heap a (.frz ob (.lst xs)) from I.hok a _ ea)
  exact PySem.W.kia_one PySem.W.kitx_list I.kIn ⟨_,h1,rfl⟩ e (fun z=>nomatch z) h
 | @tup a xs ea=>
  cases (show u=Value.ref a from rx)
  obtain⟨_,_,_,p⟩:=(show ObjOk X.prog X.w H s.heap a (.tup xs) from I.hok a _ ea)
  obtain⟨o,h1,h2,_⟩:=p
  exact PySem.W.kia_one PySem.W.kitx_tuple I.kIn ⟨o,h1,h2⟩ e (fun z=>nomatch z) h
 | @dK a kvs ea=>
  cases (show u=Value.ref a from rx)
  obtain⟨_,_,vs,_,p⟩:=(show ObjOk X.prog X.w H s.heap a (.dK kvs) from I.hok a _ ea)
  obtain⟨o,es,ep,h1,h2,_⟩:=p
  exact PySem.W.kia_one PySem.W.kitx_dict I.kIn ⟨o,h1,h2.1⟩ e (fun z=>nomatch z) h
 | @dT a kvs ea=>
  cases (show u=Value.ref a from rx)
  obtain⟨_,_,xs,_,o,es,ep,h1,h2,_⟩:=(show ObjOk X.prog X.w H s.heap a (.dT kvs) from I.hok a _ ea)
  exact PySem.W.kia_one PySem.W.kitx_dict I.kIn ⟨o,h1,h2.1⟩ e (fun z=>nomatch z) h
 | @ins a C dx fs ea cl ha hn htk hm=>
  cases (show u=Value.ref a from rx)
  obtain⟨mA,O,_⟩:=JZ I.hok ea
  obtain⟨od,J,_⟩:=O.look
  exact PySem.W.kia_one (PySem.W.kitx_own (cl.get _) cl.hd ha hn htk hm) I.kIn J e (fun z=>nomatch z) h
end
structure Room(k:Nat)(A:Around):Prop where
 hd:A.handled=none
 dp:A.depth+3*k+5<recursionLimit
 un:A.units+16*k+200<cLine
 gd:A.guards=some []
theorem Room.mono{j k:Nat}{A:Around}(r:Room k A)(h:j<=k):Room j A:=⟨r.hd,by have:=r.dp;omega,by have:=r.un;omega,r.gd⟩
theorem Room.deeper{k:Nat}{A:Around}(r:Room (k+1) A)(env:Env):Room k (A.deeper env):=
 ⟨r.hd,by have:=r.dp;show A.depth+1+3*k+5<_;omega,by have:=r.un;show A.units+3+16*k+200<_;omega,r.gd⟩
theorem OE{A:Around}{C:Addr}{us:List Value}{kw:List (Str×Value)}:(A.under (.builtin "type.__call__" ⟨.ref C::us,kw⟩)).depth=A.depth+1:=by
 first | rfl | simp[Around.under,Code.weight,Code.isCreation,Code.isGuard,Code.isCaller,Code.frames,Code.isFrame,guardIds]
theorem OF{A:Around}{C:Addr}{us:List Value}{kw:List (Str×Value)}:(A.under (.builtin "type.__call__" ⟨.ref C::us,kw⟩)).units=A.units+1:=by
 first | rfl | simp[Around.under,Code.cUnits,Code.frames,Code.isFrame]
theorem Room.make{k:Nat}{A:Around}(r:Room (k+1) A)(C:Addr)(us:List Value)(kw:List (Str×Value)):Room k (A.under (.builtin "type.__call__" ⟨.ref C::us,kw⟩)):=
 ⟨r.hd,by have:=r.dp;rw[OE];omega,by have:=r.un;rw[OF];omega,by first | exact r.gd | (simpa [Around.under,pushGuards,Code.guards,Code.isGuard,guardIds] using r.gd)⟩
theorem Room.depth{k:Nat}{A:Around}(r:Room k A):A.depth<recursionLimit:=by have:=r.dp;omega
theorem Room.units{k:Nat}{A:Around}(r:Room k A):A.units+64<cLine:=by have:=r.un;omega
def OG:TA:=fun _ H Q=>Q [] H
def Uv(ta:TE)(tr:TA):TA:=fun σ H Q=>ta σ H fun x H1=>tr σ H1 fun xs H2=>Q (x::xs) H2
section
variable {X:Cx} {e:Expr} {es:List Expr} {te:TE} {t:TA} {pos:Pos}
theorem XI:PA X [] OG:=fun _ _ _ _ H Q I h=>Calls.spliced_nil ⟨[],H,I,.nil,h⟩
theorem YI(ha:PE X e te)(hr:PA X es t)(hs:starEach (e::es) X.env=(false,eval e X.env)::starEach es X.env:=by rfl):PA X (e::es) (Uv te t):=by
 intro pos pins s σ H Q I h;rw[hs]
 show wpAny _ _ (spliced ((false,eval e X.env)::backTo pos (starEach es X.env))) _ _ s
 refine Calls.spliced_cons (YO (ha pins s σ H _ I h) fun u s1 ⟨x,H1,I1,r1,q1⟩=>?_)
 exact YO (hr pos pins s1 σ H1 _ I1 q1) fun us s2 ⟨xs,H2,I2,r2,q2⟩=>⟨x::xs,H2,I2,.cons r1 r2,q2⟩
def E7(t:TA):TE:=fun σ H Q=>t σ H fun xs H1=>xs.length<=sizeLine/\∀p,H1 p=none->Q (.ref p) (upd H1 p (.tup xs))
def E8(t:TA):TE:=fun σ H Q=>t σ H fun xs H1=>xs.length<=sizeLine/\∀p,H1 p=none->Q (.ref p) (upd H1 p (.lst xs))
theorem GI{x1}(h:PA X es t):PE X (.Tuple es x1 pos) (E7 t):=by
 intro pins s σ H Q I hq
 refine wpAny_Tuple_spliced (YO (h pos pins s σ H _ I hq) fun us s1 ⟨xs,H1,I1,r,z,q⟩=>⟨by rw[<-r.length];exact z,?_⟩)
 have hf:H1 s1.heap.objs.size=none:=I1.hok.fresh (Nat.le_refl _)
 refine⟨.ref s1.heap.objs.size,upd H1 s1.heap.objs.size (.tup xs),I1.laid (t':=s1.toks) (fun b u e=>Heap.get?_push_of_some _ e) (Nat.le_refl _) ?_,rfl,q _ hf⟩
 exact⟨z,us,r,⟨_,Heap.get?_push_size _ rfl,rfl,_,rfl⟩⟩
theorem LS(h:PA X es t):PE X (.List es pos) (E8 t):=by
 intro pins s σ H Q I hq
 refine wpAny_List_spliced (YO (h pos pins s σ H _ I hq) fun us s1 ⟨xs,H1,I1,r,z,q⟩=>⟨by rw[<-r.length];exact z,?_⟩)
 have hf:H1 s1.heap.objs.size=none:=I1.hok.fresh (Nat.le_refl _)
 refine⟨.ref s1.heap.objs.size,upd H1 s1.heap.objs.size (.lst xs),I1.laid (t':=s1.toks) (fun b u e=>Heap.get?_push_of_some _ e) (Nat.le_refl _) ?_,rfl,q _ hf⟩
 exact⟨z,us,0,r,Heap.get?_push_size _ rfl⟩
end
abbrev Sp:=List V->Hp->VK->XK->Prop
abbrev LU:=List Env->Hp->Shared->XK->Value->Shared->Prop
structure Env0(P:Program)(w:World)(K:PySem.W.Frag)(mg:Str->Option Value)(base:Heap)(A:Around)(outer:List Env)(s:Shared)(H:Hp):Prop where
 frames:A.frames=some outer
 mod:Mod K mg base
 bs:∀b o,base.get? b=some o->s.heap.get? b=some o/\H b=none
 bsz:base.objs.size<=s.heap.objs.size
 funs:s.heap.FunFrames base outer
 frf:∀b∈Oy outer,H b=none
 hok:HOk P w H s.heap
 bare:AllBare s.gens
def CE(outer:List Env)(P:Program)(w:World)(H:Hp)(s:Shared)(Q:VK)(u:Value)(s':Shared):Prop:=
 ∃v H',s'.os=s.os/\AllBare s'.gens/\Un (Oy outer) [] H H' s.heap s'.heap/\HOk P w H' s'.heap/\RelV v u/\Q v H'
def CR(CX:LU)(outer:List Env)(P:Program)(w:World)(H:Hp)(s:Shared)(Q:VK)(E:XK)(r:Result)(s':Shared):Prop:=
 match r with
 | .ok (.ret u)=>CE outer P w H s Q u s'
 | .ok _=>False
 | .error e=>CX outer H s E e s'
structure V5(P:Program)(w:World)(K:PySem.W.Frag)(mg:Str->Option Value)(base:Heap)(CX:LU)(k:Nat)(f:Addr)(fd:FuncData)(ps:List Str)(sp:Sp):Prop where
 len:∀vs H Q E,sp vs H Q E->vs.length=ps.length
 run:∀(A:Around)(outer:List Env)(s:Shared)(H:Hp)(args:Args)(us:List Value)(vs:List V)(Q:VK)(E:XK),Room k A->Env0 P w K mg base A outer s H->BindsTo s fd args (ps.zip us)->Vals vs us->sp vs H Q E->
  codeAny (model P w) A (.call (.ref f) args) (CR CX outer P w H s Q E) s
theorem Env0.make{P:Program}{w:World}{K:PySem.W.Frag}{mg:Str->Option Value}{base:Heap}{A:Around}{outer:List Env}{s:Shared}{H:Hp}(e:Env0 P w K mg base A outer s H)(C:Addr)(us:List Value)(kw:List (Str×Value)) :
  Env0 P w K mg base (A.under (.builtin "type.__call__" ⟨.ref C::us,kw⟩)) outer s H:=⟨by first | exact e.frames | (simpa [Around.under,Code.envs,Code.isFrame,pushEnvs] using e.frames),e.mod,e.bs,e.bsz,e.funs,e.frf,e.hok,e.bare⟩
section
variable {X:Cx} {pins:List (Addr×Obj)} {σ:St} {H:Hp} {s s':Shared}
theorem Inv.env0(I:Inv X pins σ H s):Env0 X.prog X.w X.K X.mg X.base X.A X.stack s H:=
 ⟨I.ok.frames,I.ok.mod,I.bs,Nat.le_trans I.ok.bsz I.sz,I.stack,I.stkFree,I.hok,I.bare⟩
theorem Inv.after{Q:VK}{u:Value}(I:Inv X pins σ H s)(h:CE X.stack X.prog X.w H s Q u s'):EP X pins σ Q u s':=by
 obtain⟨v,H',os,bare,un,hok,r,q⟩:=h
 obtain⟨hh,g,d,t,os'⟩:=s'
 obtain rfl:os'=s.os:=os
 exact⟨v,H',I.call (h':=hh) (g':=g) (d':=d) (t':=t) (ch:=[]) un hok bare (fun b z=>absurd z (by simp)),r,q⟩
end
def HC(sp:Sp)(dvs:List V)(E:XK)(t:TA):TE:=fun σ H Q=>t σ H fun vs H1=>sp (vs++dvs) H1 Q E
def Binds(K:PySem.W.Frag)(fd:FuncData)(ps:List Str)(ds:List Value):Prop:=
 ∀(s:Shared)(us:List Value),K.In s.heap->(us++ds).length=ps.length->BindsTo s fd ⟨us,[]⟩ (ps.zip (us++ds))
theorem Binds.all{K:PySem.W.Frag}{fd:FuncData}{ps:List Str}(h:∀us:List Value,us.length=ps.length->bindArgs fd ⟨us,[]⟩=pure (ps.zip us)):Binds K fd ps []:=fun s us _ hl=>by
 rw[List.append_nil] at hl ⊢
 exact .of_eq (h us hl)
def Qu(CX:LU)(X:Cx)(E:XK):Prop:=∀(pins:List (Addr×Obj))(σ:St)(H:Hp)(s:Shared)(e:Value)(s':Shared),Inv X pins σ H s->CX X.stack H s E e s'->X.xe e s'
section
variable {X:Cx} {CX:LU} {k:Nat} {f C:Addr} {fd:FuncData} {ps:List Str} {sp:Sp} {dvs:List V} {ds:List Value} {E:XK} {x m:Str} {p pos apos:Pos} {e o:Expr} {es:List Expr} {ta:TE} {t:TA}
theorem GJ{pins:List (Addr×Obj)}{σ:St}{H:Hp}{s:Shared}{Q:VK}{us:List Value}{vs:List V}(F:V5 X.prog X.w X.K X.mg X.base CX k f fd ps sp)(hr:Room k X.A)(hb:Binds X.K fd ps ds)(hd:Vals dvs ds)(hx:Qu CX X E)
  (I:Inv X pins σ H s) (r:Vals vs us) (h:sp (vs++dvs) H Q E):wpAny (model X.prog X.w) X.A (call (.ref f) us) (EP X pins σ Q) X.xe s:=by
 have r2:Vals (vs++dvs) (us++ds):=r.append hd
 have hl:(us++ds).length=ps.length:=by rw[<-r2.length];exact F.len _ _ _ _ h
 refine wpAny_call (codeAny_mono (F.run X.A X.stack s H ⟨us,[]⟩ (us++ds) (vs++dvs) Q E hr I.env0 (hb s us I.kIn hl) r2 h) fun r s' hq=>?_)
 cases r with
 | error e=>exact hx pins σ H s e s' I hq
 | ok fl=>
  cases fl with
  | ret u=>exact I.after hq
  | next=>exact False.elim hq
  | brk=>exact False.elim hq
  | cont=>exact False.elim hq
theorem J1(F:V5 X.prog X.w X.K X.mg X.base CX k f fd ps sp)(hr:Room k X.A)(hg:Gl X x)(hm:X.mg x=some (.ref f))(hk:PySem.W.keepIn X.K (.ref f)=true)(hb:Binds X.K fd ps ds)(hd:Vals dvs ds)(hx:Qu CX X E)
  (ha:PA X (e::es) t) (hdb:(x==("__debug__" : Str))=false:=by decide) (he:starEach (e::es) X.env=(false,eval e X.env)::starEach es X.env:=by rfl) (hpl:(backTo pos (starEach es X.env)).any (·.1)=false:=by rfl) :
  PE X (.Call (.Name x p) (e::es) [] pos) (HC sp dvs E t):=by
 intro pins s σ H Q I h
 refine wpAny_Call_Name_kw (Vw I hg hm ?_ hdb)
 refine PySem.W.callWith_K (h₀:=X.base) I.ok.mod.kin hk (YO (ha pos pins s σ H _ I h) fun us s1 ⟨vs,H1,I1,r,q⟩=>⟨I1.kIn,?_⟩) he hpl
 exact GJ F hr hb hd hx I1 r q
end
def PK(X:Cx)(kws:List Keyword)(t:TA):Prop:=
 ∀(pos:Pos)(pins:List (Addr×Obj))(s:Shared)(σ:St)(H:Hp)(Q:List V->Hp->Prop),Inv X pins σ H s->t σ H Q->wpAny (model X.prog X.w) X.A (evalAll ((backToKw pos (keywordEach kws X.env)).map (·.2))) (AP X pins σ Q) X.xe s
structure ZH(N P:List Str)(sc:Scope):Prop where
 kind:sc.kind = .function
 co:sc.isCoroutine=false
 gen:sc.isGenerator=false
 nd:N.Nodup
 pre:N.take P.length=P
 par:∀x∈P,sc.names.lookup x=some .local\/sc.names.lookup x=some .cell
 nofree:∀y∈sc.names,y.2≠.free
theorem RQ{kindOf:Str->Option NameKind}{x:Str}:∀{binds:List (Str×Value)}{m:Str->Option Value},(∀v,(x,v)∉binds)->bindL kindOf binds m x=m x
 | [],_,_=>rfl
 | (n,v)::r,m,h=>by
  unfold bindL;rw[RQ fun w hw=>h w (List.mem_cons_of_mem _ hw)]
  split
  ·have:x≠n:=by rintro rfl;exact h v List.mem_cons_self
   simp[this]
  ·rfl
theorem RS{kindOf:Str->Option NameKind}{x:Str}:∀{binds:List (Str×Value)}{m:Str->Option Value},(∀v,(x,v)∉binds)->bindC kindOf binds m x=m x
 | [],_,_=>rfl
 | (n,v)::r,m,h=>by
  unfold bindC;rw[RS fun w hw=>h w (List.mem_cons_of_mem _ hw)]
  split
  ·rfl
  ·have:x≠n:=by rintro rfl;exact h v List.mem_cons_self
   simp[this]
theorem RT{kindOf:Str->Option NameKind}{x:Str}{v:Value}:∀{P:List Str}{vs:List Value}{i:Nat}{m:Str->Option Value},P.Nodup->P[i]?=some x->vs[i]?=some v->kindOf x=some .local->
  bindL kindOf (P.zip vs) m x=some v
 | [],_,_,_,_,h,_,_=>by simp at h
 | _::_,[],_,_,_,_,h,_=>by simp at h
 | p::P,w::vs,0,m,nd,h1,h2,hk=>by
  simp at h1 h2;subst h1;subst h2
  show bindL kindOf ((p,w)::P.zip vs) m p=_
  unfold bindL;rw[RQ fun v hv=>(List.nodup_cons.mp nd).1 (List.of_mem_zip hv).1,if_pos hk]
  simp
 | p::P,w::vs,i+1,m,nd,h1,h2,hk=>by
  show bindL kindOf ((p,w)::P.zip vs) m x=_
  unfold bindL
  exact RT (i:=i) (List.nodup_cons.mp nd).2 (by simpa using h1) (by simpa using h2) hk
theorem RU{kindOf:Str->Option NameKind}{x:Str}{v:Value}:∀{P:List Str}{vs:List Value}{i:Nat}{m:Str->Option Value},P.Nodup->P[i]?=some x->vs[i]?=some v->kindOf x≠some .local->
  bindC kindOf (P.zip vs) m x=some v
 | [],_,_,_,_,h,_,_=>by simp at h
 | _::_,[],_,_,_,_,h,_=>by simp at h
 | p::P,w::vs,0,m,nd,h1,h2,hk=>by
  simp at h1 h2;subst h1;subst h2
  show bindC kindOf ((p,w)::P.zip vs) m p=_
  unfold bindC;rw[RS fun v hv=>(List.nodup_cons.mp nd).1 (List.of_mem_zip hv).1,if_neg hk]
  simp
 | p::P,w::vs,i+1,m,nd,h1,h2,hk=>by
  show bindC kindOf ((p,w)::P.zip vs) m x=_
  unfold bindC
  exact RU (i:=i) (List.nodup_cons.mp nd).2 (by simpa using h1) (by simpa using h2) hk
def start(N:List Str)(vs:List V):St:=vs.map some++List.replicate (N.length-vs.length) none
def U0(CX:LU)(P:Program)(w:World)(K:PySem.W.Frag)(mg:Str->Option Value)(base:Heap)(N:List Str)(qual:Str)(scope:Scope)(f:Addr)(cd:Value)(A:Around)(outer:List Env)(s:Shared)(H:Hp)(E:XK):Cx where
 prog:=P
 w:=w
 K:=K
 mg:=mg
 base:=base
 A:=A.deeper (envOfC qual scope s.heap.objs.size f cd)
 N:=N
 s₀:=s
 H₀:=H
 env:=envOfC qual scope s.heap.objs.size f cd
 outer:=outer
 stack:=envOfC qual scope s.heap.objs.size f cd::outer
 ex:=[]
 calm:=true
 fn:=fun _=>true
 pn:=[]
 xe:=fun e s'=>wpAny (model P w) (A.deeper (envOfC qual scope s.heap.objs.size f cd)) (leaving (envOfC qual scope s.heap.objs.size f cd) e) (fun _ s''=>CX outer H s E e s'') (fun e' s''=>CX outer H s E e' s'') s'
theorem Pq{sc:Scope}{n:Nat}{x:Str}(h:sc.names.lookup x=some .cell):∃c,(cellsFrom n sc.names []).lookup x=some c:=by
 have q:=PySem.W.cellsFrom_some sc.names n [] (.inl h)
 exact Option.isSome_iff_exists.mp q
theorem MH{CX:LU}{P:Program}{w:World}{K:PySem.W.Frag}{mg:Str->Option Value}{base:Heap}{N ps:List Str}{qual:Str}{scope:Scope}{f:Addr}{cd:Value}{A:Around}{outer:List Env}{s s1:Shared}{H:Hp}{E:XK}{us:List Value}{vs:List V}
  (S:ZH N ps scope) (hd:A.handled=none) (e0:Env0 P w K mg base A outer s H) (hl:vs.length=ps.length) (r:Vals vs us)
  (x:InCallC s s.heap.objs.size (bindL (envOfC qual scope s.heap.objs.size f cd).kindOf (ps.zip us) fun _=>none) (cellsFrom (s.heap.objs.size+1) scope.names []) (bindC (envOfC qual scope s.heap.objs.size f cd).kindOf (ps.zip us) fun _=>none) s1) :
  Inv (U0 CX P w K mg base N qual scope f cd A outer s H E) [] (start N vs) H s1:=by
 have hpl:ps.length<=N.length:=by have:=congrArg List.length S.pre;rw[List.length_take] at this;omega
 obtain⟨h1,tk,rfl,hk⟩:=x.done
 have noA:∀b:Addr,b∉(U0 CX P w K mg base N qual scope f cd A outer s H E).ex:=fun b z=>absurd (show b∈([]:List Addr) from z) (by simp)
 refine⟨⟨e0.mod,S.kind,rfl,rfl,Nat.le_refl _,fun y z c h1 h2=>?_,fun y hy=>?_,fun y c _ h=>?_,fun _=>hd,Around.frames_deeper e0.frames,.inr ⟨rfl,rfl⟩,fun b z=>absurd z (noA b),e0.bs,e0.bsz,fun b _ _=>noA b,fun b z=>absurd z (noA b),e0.funs,e0.frf⟩,
  rfl,e0.bare,Un.kept hk,⟨_,x.toInCall.ns,fun i y v h1 h2 h3=>?_⟩,fun y c h=>⟨_,x.cell y c h⟩,e0.hok.fresh (Nat.le_refl _),fun y c h=>?_,fun p hp=>absurd (show p∈([]:List (Addr×Obj)) from hp) (by simp),e0.hok.kept hk,?_⟩
 ·exact name_of_addr x.apart (PySem.mem_of_lookup h1) (PySem.mem_of_lookup h2)
 ·have hy:scope.names.lookup y=some .cell\/scope.names.lookup y=some .free:=hy
  rcases hy with hy | hy
  ·exact Pq hy
  ·exact absurd rfl (S.nofree _ (PySem.mem_of_lookup hy))
 ·exact Nat.le_of_lt (x.above y c (PySem.mem_of_lookup h))
 ·have hi:i<vs.length:=by
   unfold start at h2
   by_cases hi:i<vs.length
   ·exact hi
   ·rw[List.getElem?_append_right (by simpa using hi)] at h2
    rw[List.getElem?_replicate] at h2
    split at h2<;>cases h2
  have ha:vs[i]?=some v:=by
   unfold start at h2;rw[List.getElem?_append_left (by simpa using hi),List.getElem?_map] at h2
   cases e:vs[i]? with
   | none=>rw[e] at h2;cases h2
   | some a=>rw[e] at h2;cases h2;rfl
  obtain⟨u,hu,rv⟩:=r.get ha
  have hp:ps[i]?=some y:=by
   rw[<-S.pre,List.getElem?_take_of_lt (by omega)];exact h1
  have ndP:ps.Nodup:=by rw[<-S.pre];exact S.nd.sublist (List.take_sublist _ _)
  refine⟨u,rv,?_⟩
  rcases S.par y (List.mem_of_getElem? hp) with k | k
  ·exact .inl ⟨k,RT ndP hp hu k⟩
  ·obtain⟨c,e⟩:=Pq (n:=s.heap.objs.size+1) k
   refine .inr ⟨.inl k,c,e,?_⟩
   have q:=x.cell y c e
   rw[RU ndP hp hu (by show scope.names.lookup y≠_;rw[k];decide)] at q
   exact q
 ·exact e0.hok.fresh (Nat.le_of_lt (x.above y c (PySem.mem_of_lookup h)))
 ·unfold start
  show _=N.length
  rw[List.length_append,List.length_map,List.length_replicate];omega
theorem HD{CX:LU}{P:Program}{w:World}{K:PySem.W.Frag}{mg:Str->Option Value}{base:Heap}{k:Nat}{f:Addr}{name qual:Str}{params:Arguments}{body:List Stmt}{scope:Scope}{dV kV doc pm cdv ct oc:Value}{an od:Option Addr}
  {osl:Array (Option Value)} {N ps:List Str} {sp:Sp} (lk:K.lookup f=some ⟨oc,od,.func (PySem.W.fnOf name qual params body scope dV kV doc pm an cdv ct),osl⟩) (hcd:PySem.W.codeIn K cdv qual=true) (S:ZH N ps scope)
  (len:∀vs H Q E,sp vs H Q E->vs.length=ps.length)
  (hbody:∀(A:Around)(outer:List Env)(s:Shared)(H:Hp)(vs:List V)(Q:VK)(E:XK),Room k (A.deeper (envOfC qual scope s.heap.objs.size f cdv))->sp vs H Q E->
   ∃t,PSs (U0 CX P w K mg base N qual scope f cdv A outer s H E) body t/\t { nx:=fun _ H'=>Q .non H',rt:=Q } (start N vs) H) :
  V5 P w K mg base CX (k+1) f (PySem.W.fnOf name qual params body scope dV kV doc pm an cdv ct) ps sp:=by
 refine⟨len,fun A outer s H args us vs Q E hr e0 hb r hsp=>?_⟩
 have hl:=len _ _ _ _ hsp
 have KX:K.In s.heap:=e0.mod.kin.keeps fun b o e=>(e0.bs b o e).1
 have lim:s.heap.NoLimit:=e0.mod.nolimit.keeps fun b o e=>(e0.bs b o e).1
 have hkind:∀y∈ps.zip us,scope.names.lookup y.1=some .local\/(scope.names.lookup y.1=some .cell/\((cellsFrom (s.heap.objs.size+1) scope.names []).lookup y.1).isSome=true):=fun⟨n,v⟩ hy=>by
  rcases S.par n (List.of_mem_zip hy).1 with q | q
  ·exact .inl q
  ·exact .inr ⟨q,PySem.W.cellsFrom_some _ _ _ (.inl q)⟩
 refine codeAny_call_function hr.depth (KX _ _ lk) rfl S.co S.gen rfl (PySem.W.codeRec_of KX hcd) (hb _ _ _ _ ?_)
 refine wpAny_newFunctionEnv_cells S.kind hkind fun env he s1 x=>?_
 subst he
 refine⟨lim.keeps x.toInCall.keep,codeAny_func ?_⟩
 obtain⟨t,ht,hq⟩:=hbody A outer s H vs Q E (hr.deeper _) hsp
 have I:Inv (U0 CX P w K mg base N qual scope f cdv A outer s H E) [] (start N vs) H s1:=MH S hr.hd e0 hl r x
 refine wpAny_mono (ht [] s1 (start N vs) H _ I hq) (fun fl s' hs=>?_) fun e s' hs=>hs
 have fin:∀{σ':St}{H':Hp}{v:V}{u:Value},Inv (U0 CX P w K mg base N qual scope f cdv A outer s H E) [] σ' H' s'->RelV v u->Q v H'->CE outer P w H s Q u s':=
  fun{σ' H' v u} J rv q=>⟨v,H',J.os,J.bare,J.base,J.hok,rv,q⟩
 cases fl with
 | ret u=>
  obtain⟨v,σ',H',J,rv,q⟩:=hs
  exact fin J rv q
 | next=>
  obtain⟨σ',H',J,q⟩:=hs
  exact fin (v:=V.non) (u:=Value.none) J rfl q
 | brk=>
  obtain⟨_,_,_,q⟩:=hs
  exact False.elim q
 | cont=>
  obtain⟨_,_,_,q⟩:=hs
  exact False.elim q
section
variable {X:Cx} {x:Str} {p pos:Pos} {e:Expr} {es:List Expr} {t:TA} {id T:String} {r:List V->Hp->VK->Prop}
def EK(r:List V->Hp->VK->Prop)(t:TA):TE:=fun σ H Q=>t σ H fun vs H1=>r vs H1 Q
theorem Pr(hc:Wc X (.builtin id) r)(hg:Gl X x)(hm:X.mg x=none)(hv:bootBuiltins x=some (.builtin id))(ha:PA X (e::es) t)(hn:x≠"__name__":=by decide)(hdb:(x==("__debug__" : Str))=false:=by decide)
  (he:starEach (e::es) X.env=(false,eval e X.env)::starEach es X.env:=by rfl) (hpl:(backTo pos (starEach es X.env)).any (·.1)=false:=by rfl):PE X (.Call (.Name x p) (e::es) [] pos) (EK r t):=by
 intro pins s σ H Q I h
 refine wpAny_Call_Name_kw (Wy I hg hm hv ?_ hn hdb)
 exact PyProof.Rows.callWith_builtin1 (YO (ha pos pins s σ H _ I h) fun us s1 ⟨vs,H1,I1,r1,q1⟩=>hc pins s1 σ H1 vs us Q I1 r1 q1) he hpl
theorem RV(hc:Wc X (.type T) r)(hg:Gl X x)(hm:X.mg x=none)(hv:bootBuiltins x=some (.type T))(ha:PA X (e::es) t)(hn:x≠"__name__":=by decide)(hdb:(x==("__debug__" : Str))=false:=by decide)
  (he:starEach (e::es) X.env=(false,eval e X.env)::starEach es X.env:=by rfl) (hpl:(backTo pos (starEach es X.env)).any (·.1)=false:=by rfl):PE X (.Call (.Name x p) (e::es) [] pos) (EK r t):=by
 intro pins s σ H Q I h
 refine wpAny_Call_Name_kw (Wy I hg hm hv ?_ hn hdb)
 exact PyProof.Rows.callWith_type1 (YO (ha pos pins s σ H _ I h) fun us s1 ⟨vs,H1,I1,r1,q1⟩=>hc pins s1 σ H1 vs us Q I1 r1 q1) he hpl
end
end L2
namespace HT
open PySem PyProof.Rows
section
variable {prog:Program} {w:World} {A:Around} {E:Value->Shared->Prop} {s:Shared}
theorem cat_tup{t b:Addr}{vs ws:List Value}{Q:Value->Shared->Prop}(ht:IsTup s.heap t vs.toArray)(hb:IsTup s.heap b ws.toArray)(hv:vs≠[])
  (h1:ws=[]->Q (.ref t) s) (h2:ws≠[]->Q (.ref s.heap.objs.size) { s with heap:=s.heap.push { cls:=.type "tuple",data:=.seq (vs++ws).toArray } })
  (hsz:vs.length+ws.length<=sizeLine):wpAny (model prog w) A (binaryOp .Add (.ref t) (.ref b)) Q E s:=by
 obtain⟨⟨cls,dd,data,sl⟩,ho,hc,n,hd⟩:=id ht
 obtain⟨⟨cls2,dd2,data2,sl2⟩,ho2,hc2,n2,hd2⟩:=id hb
 simp only at hc hd hc2 hd2
 subst hc hd hc2 hd2
 have e:vs.toArray++ws.toArray=(vs++ws).toArray:=by simp
 by_cases hw:ws=[]
 ·exact concat_meets ⟨_,ho,rfl⟩ ⟨_,ho2,rfl⟩ noFill_tuple_add seq_tuple_add PySem.F.slot_tuple_add PySem.F.entry_tuple_add (PySem.F.args_tuple_add_2 _ _)
   (tuple_addW1 t b vs.toArray ws.toArray n n2 dd dd2 sl sl2 (by simpa using hv) (by simp[hw])) ⟨ho,ho2,h1 hw⟩
 ·refine concat_meets ⟨_,ho,rfl⟩ ⟨_,ho2,rfl⟩ noFill_tuple_add seq_tuple_add PySem.F.slot_tuple_add PySem.F.entry_tuple_add (PySem.F.args_tuple_add_2 _ _)
   (tuple_addW2 t b vs.toArray ws.toArray n n2 dd dd2 sl sl2 (by simpa using hv) (by simpa using hw) (by rw[List.size_toArray,List.size_toArray];exact hsz)) ⟨ho,ho2,?_⟩
  rw[e]
  exact h2 hw
def sIx(n d:Nat):Option Int->Nat
 | none=>d
 | some v=>if v<0 then(v+(n:Int)).toNat else min v.toNat n
theorem sIx_none(n d:Nat):sIx n d none=d:=rfl
theorem sIx_nat(n d k:Nat):sIx n d (some (k:Int))=min k n:=by
 show(if(k:Int)<0 then((k:Int)+(n:Int)).toNat else min (k:Int).toNat n)=min k n
 rw[if_neg (by omega),Int.toNat_natCast]
theorem GK(n d:Nat)(hd:d<=n)(o:Option Int):sIx n d o<=n:=by
 cases o with
 | none=>exact hd
 | some v=>
  show(if v<0 then(v+(n:Int)).toNat else min v.toNat n)<=n
  by_cases hv:v<0
  ·rw[if_pos hv];omega
  ·rw[if_neg hv];exact Nat.min_le_right _ _
theorem NL(v:Int)(n d:Nat):(if v<0 then max (v+(n:Int)) 0 else min v (n:Int))=((sIx n d (some v):Nat):Int):=by
 show(if v<0 then max (v+(n:Int)) 0 else min v (n:Int))=(((if v<0 then(v+(n:Int)).toNat else min v.toNat n):Nat):Int)
 by_cases hv:v<0
 ·simp only[if_pos hv];omega
 ·simp only[if_neg hv];omega
theorem OH(lo hi:Option Int)(n:Nat):Builtin.Slice.sliceAdjust lo hi 1 (n:Int)=(((sIx n 0 lo:Nat):Int),((sIx n n hi:Nat):Int)):=by
 have h1:¬((1:Int)<0):=by omega
 unfold Builtin.Slice.sliceAdjust;simp only[h1,if_false]
 refine Prod.ext ?_ ?_
 ·cases lo with
  | none=>rfl
  | some v=>exact NL v n 0
 ·cases hi with
  | none=>rfl
  | some v=>exact NL v n n
theorem OI(i j:Nat):Builtin.Slice.slicePlaces (i:Int) (j:Int) 1=j-i:=by
 unfold Builtin.Slice.slicePlaces
 have h1:(1:Int)>0:=by omega
 simp only[h1,if_true,Int.ediv_one]
 split<;>omega
theorem Sr{v:Value}{o:Option Int}{Q:Option Int->Shared->Prop}(p:IsPart v o)(h:Q o s):wpAny (model prog w) A (Builtin.Slice.slicePartIndex v) Q E s:=by
 cases p with
 | none=>exact slicePart_none h
 | int i t=>exact slicePart_int h
theorem U1{sl:Addr}{vl vu:Value}{lo hi:Option Int}{n:Nat}{Q:Int×Int×Nat->Shared->Prop}(hs:s.heap.IsSliceOf sl vl vu .none)(pl:IsPart vl lo)(pu:IsPart vu hi)
  (h:Q (((sIx n 0 lo:Nat):Int),1,sIx n n hi-sIx n 0 lo) s):wpAny (model prog w) A (Builtin.Slice.sliceApplied (.ref sl) (pure (n:Int))) Q E s:=by
 obtain⟨os,hos,hcs,hds⟩:=id hs
 unfold Builtin.Slice.sliceApplied Builtin.Slice.sliceFields
 refine wpAny_bind (wpAny_bind (wpAny_field hos hds (x:=vl) rfl (wpAny_bind (wpAny_field hos hds (x:=vu) rfl (wpAny_bind (wpAny_field hos hds (x:=.none) rfl (wpAny_pure ?_)))))))
 refine wpAny_bind (slicePart_none ?_)
 show wpAny _ _ (if((1:Int)==0)=true then _ else _) _ _ s
 rw[if_neg (by decide)]
 refine wpAny_bind (Sr pl (wpAny_bind (Sr pu (wpAny_bind (wpAny_pure ?_)))))
 show wpAny _ _ (match Builtin.Slice.sliceAdjust lo hi 1 (n:Int) with | (lo,hi)=>pure (lo,(1:Int),Builtin.Slice.slicePlaces lo hi 1)) _ _ s
 rw[OH lo hi n]
 show wpAny _ _ (pure (((sIx n 0 lo:Nat):Int),(1:Int),Builtin.Slice.slicePlaces ((sIx n 0 lo:Nat):Int) ((sIx n n hi:Nat):Int) 1)) _ _ s
 rw[OI]
 exact wpAny_pure h
theorem LV(xs:Array Value)(i k:Nat):((List.range k).filterMap fun(m:Nat)=>xs[((i:Int)+(m:Int)*1).toNat]?).toArray=((xs.toList.drop i).take k).toArray:=by
 have e:(fun(m:Nat)=>xs[((i:Int)+(m:Int)*1).toNat]?)=fun m=>xs[i+m]?:=by
  funext m
  have:((i:Int)+(m:Int)*1).toNat=i+m:=by omega
  rw[this]
 rw[e]
 have:=pick_run xs i k
 rw[List.filterMap_map] at this
 have e2:((fun x=>xs[x]?) ∘ fun x=>i+x)=fun m=>xs[i+m]?:=rfl
 rw[e2] at this;rw[this]
theorem getItem_tuple_cut{t sl:Addr}{items:Array Value}{vl vu:Value}{lo hi:Option Int}{Q:Value->Shared->Prop}(ht:IsTup s.heap t items)(hs:s.heap.IsSliceOf sl vl vu .none)(pl:IsPart vl lo)(pu:IsPart vu hi)
  (hw:¬(sIx items.size 0 lo=0/\sIx items.size items.size hi=items.size))
  (h:Q (.ref s.heap.objs.size) { s with heap:=s.heap.push { cls:=.type "tuple",data:=.seq ((items.toList.drop (sIx items.size 0 lo)).take (sIx items.size items.size hi-sIx items.size 0 lo)).toArray } })
  (hsz:items.size<=sizeLine):wpAny (model prog w) A (getItem (.ref t) (.ref sl)) Q E s:=by
 have htake:sizeOk (.seq ((items.toList.drop (sIx items.size 0 lo)).take (sIx items.size items.size hi-sIx items.size 0 lo)).toArray):=by
  show((items.toList.drop (sIx items.size 0 lo)).take (sIx items.size items.size hi-sIx items.size 0 lo)).toArray.size<=sizeLine
  rw[List.size_toArray,List.length_take,List.length_drop,Array.length_toList];omega
 have hj:sIx items.size items.size hi<=items.size:=GK _ _ (Nat.le_refl _) hi
 obtain⟨os,hos,hcs,hds⟩:=id hs
 have hTs:s.TypeIs (.ref sl) "slice":=⟨os,hos,hcs⟩
 unfold getItem
 try with_reducible refine wpAny_holding ?_
 first | refine wpAny_bind (wpAny_pure ?_) | skip
 refine wpAny_bind (wpAny_sequenceKey ht.typeIs (by decide) ?_)
 refine wpAny_bind (wpAny_callSpecial?_slot (name:=Str.ofString "__getitem__") ht.typeIs PyProof.Rows.slot_tuple_getitem
  (wpAny_call_entry PyProof.Rows.slot_tuple_getitem ht.typeIs entry_tuple_getitem ?_ (args_tuple_getitem _ _)))
 show wpAny _ _ (Builtin.Tuple.tupleItemsOf (.ref t) >>= _) _ _ s
 refine wpAny_bind (tupleItemsOf_ ht ?_)
 refine wpAny_bind (wpAny_typeOf hTs ?_)
 rw[if_pos (by decide)]
 refine wpAny_bind (U1 hs pl pu ?_)
 have hno:¬((((sIx items.size 0 lo:Nat):Int)==0&&(1:Int)==1&&(sIx items.size items.size hi-sIx items.size 0 lo)==items.size)=true):=by
  intro q;rw[Bool.and_eq_true,Bool.and_eq_true] at q
  have q1:((sIx items.size 0 lo:Nat):Int)=0:=eq_of_beq q.1.1
  have q2:sIx items.size items.size hi-sIx items.size 0 lo=items.size:=eq_of_beq q.2
  exact hw ⟨by omega,by omega⟩
 show wpAny _ _ (if(((sIx items.size 0 lo:Nat):Int)==0&&(1:Int)==1&&(sIx items.size items.size hi-sIx items.size 0 lo)==items.size)=true then _ else _) _ _ s
 rw[if_neg hno,LV]
 first
  | exact wpAny_bind (m:=Builtin.Tuple.tupleExact _) (wpAny_newObj_type (wpAny_pure ⟨_,rfl,wpAny_pure h⟩) htake)
  | exact wpAny_bind (m:=Builtin.Tuple.tupleExact _) (wpAny_newObj_type (wpAny_bind (wpAny_pure (wpAny_pure ⟨_,rfl,wpAny_pure h⟩))) htake)
  | exact wpAny_bind (wpAny_bind (m:=Builtin.Tuple.tupleExact _) (wpAny_newObj_type (wpAny_pure (wpAny_pure ⟨_,rfl,wpAny_pure h⟩)) htake))
  | exact wpAny_bind (wpAny_bind (m:=Builtin.Tuple.tupleExact _) (wpAny_newObj_type (wpAny_pure ⟨_,rfl,wpAny_pure h⟩) htake))
end
end HT
namespace L2
open PySem PySem.Spec PyProof.Rows
abbrev TO:=St->Hp->(Option Int->Hp->Prop)->Prop
def PO(X:Cx)(e:Option Expr)(t:TO):Prop:=
 ∀(pins:List (Addr×Obj))(s:Shared)(σ:St)(H:Hp)(Q:Option Int->Hp->Prop),Inv X pins σ H s->t σ H Q->
  wpAny (model X.prog X.w) X.A (evalPart e X.env) (fun u s'=>∃o H',Inv X pins σ H' s'/\IsPart u o/\Q o H') X.xe s
def J2:TO:=fun _ H Q=>Q none H
def F7(t:TE):TO:=fun σ H Q=>t σ H fun x H1=>∃i,x = .int i/\Q (some i) H1
theorem Ss{ns:List Int}:∀{us:List Value},Vals (ns.map V.int) us->IntsAre us ns:=by
 induction ns with
 | nil=>intro us r;rw[List.map_nil] at r;cases r;exact .nil
 | cons n ns ih=>
  intro us r;rw[List.map_cons] at r
  cases r with
  | cons r1 r2=>
   obtain⟨t,e⟩:=r1
   subst e
   exact .cons n t (ih r2)
section
variable {X:Cx} {e:Expr} {te:TE} {lo hi:Option Expr} {tl th:TO} {pos p2:Pos}
theorem J3:PO X none J2:=by
 intro pins s σ H Q I h;rw[evalPart_none]
 exact wpAny_pure ⟨none,H,I,.none,h⟩
theorem J4(h:PE X e te):PO X (some e) (F7 te):=by
 intro pins s σ H Q I hw;rw[evalPart_some]
 refine YO (h pins s σ H _ I hw) fun u s1 ⟨x,H1,I1,r1,q1⟩=>?_
 obtain⟨i,rfl,q⟩:=q1
 obtain⟨t,rfl⟩:=r1
 exact⟨some i,H1,I1,.int i t,q⟩
def E9(X:Cx)(r:V->Option Int->Option Int->Hp->VK->Prop):Prop:=
 ∀(pins:List (Addr×Obj))(s:Shared)(σ:St)(H:Hp)(x:V)(v vl vu:Value)(lo hi:Option Int)(sl:Addr)(Q:VK),Inv X pins σ H s->RelV x v->s.heap.IsSliceOf sl vl vu .none->IsPart vl lo->IsPart vu hi->r x lo hi H Q->
  ∃T id,typeLookup (.type T) "__getitem__" = pure (some (.builtin id))/\s.TypeIs v T/\wpAny (model X.prog X.w) X.A (getItem v (.ref sl)) (EP X pins σ Q) X.xe s
def DA(r:V->Option Int->Option Int->Hp->VK->Prop)(te:TE)(tl th:TO):TE:=fun σ H Q=>te σ H fun x H1=>tl σ H1 fun l H2=>th σ H2 fun u H3=>r x l u H3 Q
theorem Pt{r:V->Option Int->Option Int->Hp->VK->Prop}(hr:E9 X r)(he:PE X e te)(hl:PO X lo tl)(hu:PO X hi th):PE X (.Subscript e (.Slice lo hi none p2) pos) (DA r te tl th):=by
 intro pins s σ H Q I h
 refine Subscript_ (YO (he pins s σ H _ I h) fun v s1 ⟨x,H1,I1,r1,q1⟩=>?_)
 refine wpAny_Slice (YO (hl pins s1 σ H1 _ I1 q1) fun vl s2 ⟨l,H2,I2,pl,q2⟩=>YO (hu pins s2 σ H2 _ I2 q2) fun vu s3 ⟨u,H3,I3,pu,q3⟩=>?_)
 rw[evalPart_none]
 refine wpAny_pure ?_
 have I4:Inv X pins σ H3 { s3 with heap:=s3.heap.push { cls:=.type "slice",data:=.fields #[vl,vu,.none] } }:=I3.kept (t':=s3.toks) fun b ob q=>Heap.get?_push_of_some _ q
 obtain⟨T,id,hT,ht,hg⟩:=hr pins { s3 with heap:=s3.heap.push { cls:=.type "slice",data:=.fields #[vl,vu,.none] } } σ H3 x v vl vu l u s3.heap.objs.size Q I4 r1 (Heap.IsSliceOf.new ..) pl pu q3
 show wpAny (model X.prog X.w) X.A (subscriptTail e (.Slice lo hi none p2) v (.ref s3.heap.objs.size)) (EP X pins σ Q) X.xe { s3 with heap:=s3.heap.push { cls:=.type "slice",data:=.fields #[vl,vu,.none] } }
 exact tail_any (ops:=[.ref s3.heap.objs.size,v]) ht hT hg (by with_unfolding_all rfl)
def Pu(xs:List V)(lo hi:Option Int):List V:=(xs.drop (HT.sIx xs.length 0 lo)).take (HT.sIx xs.length xs.length hi-HT.sIx xs.length 0 lo)
theorem TB(xs:List V)(lo hi:Option Int):(Pu xs lo hi).length<=xs.length:=by
 unfold Pu;rw[List.length_take,List.length_drop];omega
def Dc(K:PySem.W.Frag):V->Option Int->Option Int->Hp->VK->Prop:=fun x lo hi H Q=>∃a xs,x = .ref a/\SqT K H a xs/\
 ¬(HT.sIx xs.length 0 lo=0/\HT.sIx xs.length xs.length hi=xs.length)/\∀p,H p=none->Q (.ref p) (upd H p (.tup (Pu xs lo hi)))
theorem GL:E9 X (Dc X.K):=by
 intro pins s σ H x v vl vu lo hi sl Q I rx hs pl pu h
 obtain⟨a,xs,rfl,hx,hw,q⟩:=h
 cases rx
 obtain⟨its,r,ht,hz⟩:=I.tuple hx
 have hlen:its.toArray.size=xs.length:=by rw[List.size_toArray];exact r.length.symm
 refine⟨"tuple",_,PyProof.Rows.slot_tuple_getitem.lookup,ht.typeIs,?_⟩
 refine HT.getItem_tuple_cut ht hs pl pu (by rw[hlen];exact hw) ?_ (by rw[hlen];exact hz)
 rw[hlen]
 refine⟨.ref s.heap.objs.size,_,I.laid (t':=s.toks) (o:=.tup (Pu xs lo hi)) (fun b ob q=>Heap.get?_push_of_some _ q) (Nat.le_refl _) ?_,rfl,q _ (I.hok.fresh (Nat.le_refl _))⟩
 exact⟨Nat.le_trans (TB xs lo hi) hz,_,(r.drop (HT.sIx xs.length 0 lo)).take (HT.sIx xs.length xs.length hi-HT.sIx xs.length 0 lo),IsTup.new _ _⟩
def F8(K:PySem.W.Frag):R2:=fun x y H Q=>∃a b xs ys,x = .ref a/\y = .ref b/\SqT K H a xs/\SqT K H b ys/\xs≠[]/\xs.length+ys.length<=sizeLine/\
 (ys=[]->Q (.ref a) H)/\(ys≠[]->∀p,H p=none->Q (.ref p) (upd H p (.tup (xs++ys))))
theorem Vals.nil_iff{xs:List V}{us:List Value}(r:Vals xs us):us=[]↔xs=[]:=by
 cases r with
 | nil=>simp
 | cons _ _=>simp
theorem J5:UT X (binaryOp .Add) (F8 X.K):=by
 intro pins s σ H x y v u Q I rx ry h
 obtain⟨a,b,xs,ys,rfl,rfl,ha,hb,hx,hz,q1,q2⟩:=h
 cases rx;cases ry
 obtain⟨its,r1,p1,_⟩:=I.tuple ha
 obtain⟨its2,r2,p2,_⟩:=I.tuple hb
 refine HT.cat_tup p1 p2 (fun z=>hx (r1.nil_iff.mp z)) (fun z=>⟨.ref a,H,I,rfl,q1 (r2.nil_iff.mp z)⟩) (fun z=>?_) (by rw[<-r1.length,<-r2.length];exact hz)
 refine⟨.ref s.heap.objs.size,_,I.laid (t':=s.toks) (o:=.tup (xs++ys)) (fun b ob q=>Heap.get?_push_of_some _ q) (Nat.le_refl _) ?_,rfl,q2 (fun w=>z (r2.nil_iff.mpr w)) _ (I.hok.fresh (Nat.le_refl _))⟩
 exact⟨by rw[List.length_append];exact hz,_,r1.append r2,IsTup.new _ _⟩
end
def Pl(n:Nat)(i:Int):Option Nat:=if 0<=i then(if i<n then some i.toNat else none) else if -(n:Int)<=i then some (i+n).toNat else none
def U2{α:Type}(xs:List α)(i:Int):Option α:=(Pl xs.length i).bind fun j=>xs[j]?
theorem NM{n:Nat}{i:Int}{j:Nat}(h:Pl n i=some j):seqIndex? i n=some j/\j<n/\-(n:Int)<=i/\i<n:=by
 unfold Pl at h
 by_cases h0:0<=i
 ·rw[if_pos h0] at h
  by_cases h1:i<n
  ·rw[if_pos h1] at h
   have e:i.toNat=j:=Option.some.inj h
   exact⟨by rw[seqIndex_of h0 h1,e],by omega,by omega,h1⟩
  ·rw[if_neg h1] at h;cases h
 ·rw[if_neg h0] at h
  by_cases h1 : -(n:Int)<=i
  ·rw[if_pos h1] at h
   have e:(i+n).toNat=j:=Option.some.inj h
   exact⟨by rw[seqIndex_neg (by omega) h1,e],by omega,h1,by omega⟩
  ·rw[if_neg h1] at h;cases h
theorem Qv{α:Type}{xs:List α}{i:Int}{v:α}(h:U2 xs i=some v):∃j,seqIndex? i xs.length=some j/\xs[j]?=some v/\j<xs.length/\-(xs.length:Int)<=i/\i<xs.length:=by
 unfold U2 at h
 cases e:Pl xs.length i with
 | none=>rw[e] at h;cases h
 | some j=>
  rw[e] at h
  obtain⟨h1,h2,h3,h4⟩:=NM e
  exact⟨j,h1,h,h2,h3,h4⟩
theorem Sf{α:Type}{xs:List α}{j:Nat}{v:α}(h:xs[j]?=some v):U2 xs (j:Int)=some v:=by
 have hj:j<xs.length:=(List.getElem?_eq_some_iff.mp h).1
 have e:Pl xs.length (j:Int)=some j:=by
  unfold Pl
  rw[if_pos (by omega),if_pos (by omega)];simp
 unfold U2;rw[e];exact h
def Qw(b:Expr):Prop:=∀o i,subscripted b false o i=operate [o,i] (getItem o i)
def IxR(X:Cx)(r:R2):Prop:=
 ∀(value slice:Expr)(pins:List (Addr×Obj))(s:Shared)(σ:St)(H:Hp)(x y:V)(v u:Value)(Q:VK),Inv X pins σ H s->RelV x v->RelV y u->r x y H Q->
  subscripted slice false v u=operate [v,u] (getItem v u)->wpAny (model X.prog X.w) X.A (subscriptTail value slice v u) (EP X pins σ Q) X.xe s
def DB(X:Cx)(id:String)(r:V->List V->Hp->VK->Prop):Prop:=
 ∀(pins:List (Addr×Obj))(s:Shared)(σ:St)(H:Hp)(x:V)(xs:List V)(v:Value)(us:List Value)(Q:VK),Inv X pins σ H s->RelV x v->Vals xs us->r x xs H Q->
  wpAny (model X.prog X.w) X.A (call (.builtin id) (v::us)) (EP X pins σ Q) X.xe s
section
variable {X:Cx} {a b:Expr} {ta tb:TE} {pos:Pos}
theorem IxR.or{r r':R2}(h:IxR X r)(h':IxR X r'):IxR X (fun x y H Q=>r x y H Q\/r' x y H Q):=by
 intro value slice pins s σ H x y v u Q I rx ry q hs
 rcases q with q | q
 ·exact h value slice pins s σ H x y v u Q I rx ry q hs
 ·exact h' value slice pins s σ H x y v u Q I rx ry q hs
theorem Pw{r:R2}(hr:IxR X r)(ha:PE X a ta)(hb:PE X b tb)(hs:Qw b):PE X (.Subscript a b pos) (FK r ta tb):=by
 intro pins s σ H Q I h
 exact Subscript_ (Gw ha hb I h fun v u s2 x y H2 I2 rx ry q=>hr a b pins s2 σ H2 x y v u Q I2 rx ry q (hs _ _))
def GN(K:PySem.W.Frag):R2:=fun x y H Q=>∃p xs i v,x = .ref p/\y = .int i/\SqL K H p xs/\U2 xs i=some v/\Q v H
def F9(K:PySem.W.Frag):R2:=fun x y H Q=>∃p xs i v,x = .ref p/\y = .int i/\SqT K H p xs/\U2 xs i=some v/\Q v H
def Ea:R2:=fun x y H Q=>∃z i c,x = .str z/\y = .int i/\z.length<=sizeLine/\U2 z.cps.toList i=some c/\Q (.str ⟨#[c]⟩) H
theorem ix_list:IxR X (GN X.K):=by
 intro value slice pins s σ H x y v u Q I rx ry h hs
 obtain⟨p,xs,i,z,rfl,rfl,hq,he,q⟩:=h
 cases rx
 obtain⟨t,rfl⟩:=ry
 obtain⟨its,r,pl,hz⟩:=I.list hq
 obtain⟨j,h1,h2,h3,h4,h5⟩:=Qv he
 obtain⟨w,ew,Rz⟩:=r.get h2
 have hl:=r.length;have hn:=UZ
 have fin:EP X pins σ Q w s:=⟨z,H,I,Rz,q⟩
 by_cases h0:0<=i
 ·have hj:i.toNat=j:=by
   rw[seqIndex_of h0 h5] at h1
   exact Option.some.inj h1
  exact item_listR pl.isList h0 (by omega) (by rw[hj];simpa using ew) fin hs
 ·have hj:(i+(its.toArray.size:Int)).toNat=j:=by
   rw[seqIndex_neg (by omega) h4] at h1;rw[List.size_toArray,<-hl]
   exact Option.some.inj h1
  exact subscriptTail_builtinR (x:=w) pl.isList.typeIs slot_list_getitem.lookup
   (wpAny_getItem_list_neg (Q:=fun r s'=>r=w/\EP X pins σ Q r s') pl.isList (by omega) (by rw[List.size_toArray]<;>omega) (by omega) (by rw[hj];simpa using ew) ⟨rfl,fin⟩) hs
theorem ix_tup:IxR X (F9 X.K):=by
 intro value slice pins s σ H x y v u Q I rx ry h hs
 obtain⟨p,xs,i,z,rfl,rfl,hq,he,q⟩:=h
 cases rx
 obtain⟨t,rfl⟩:=ry
 obtain⟨its,r,pl,hz⟩:=I.tuple hq
 obtain⟨j,h1,h2,h3,h4,h5⟩:=Qv he
 obtain⟨w,ew,Rz⟩:=r.get h2
 have hl:=r.length;have hn:=UZ
 have fin:EP X pins σ Q w s:=⟨z,H,I,Rz,q⟩
 exact subscriptTail_builtinR (x:=w) pl.typeIs slot_tuple_getitem.lookup
  (getItem_tuple (j:=j) (Q:=fun r s'=>r=w/\EP X pins σ Q r s') pl (by omega) (by omega) (by rw[List.size_toArray,<-hl];exact h1) (by simpa using ew) ⟨rfl,fin⟩) hs
theorem GO:IxR X Ea:=by
 intro value slice pins s σ H x y v u Q I rx ry h hs
 obtain⟨z,i,c,rfl,rfl,hz,he,q⟩:=h
 obtain⟨t,rfl⟩:=rx
 obtain⟨t',rfl⟩:=ry
 obtain⟨j,h1,h2,h3,h4,h5⟩:=Qv he
 have hl:z.cps.toList.length=z.length:=by simp[Str.length]
 rw[hl] at h1 h4 h5
 have hn:=UZ
 exact tail_any (typeIs_str s z t) slot_str_getitem.lookup (getItem_str (c:=c) (by
  have e1:decide (i < -(2^63:Int))=false:=decide_eq_false (by omega)
  have e2:decide (i ≥ 2^63)=false:=decide_eq_false (by omega)
  rw[e1,e2,Bool.or_false]) (by rw[h1];simpa using h2) ⟨.str ⟨#[c]⟩,H,I.tok _,⟨_,rfl⟩,q⟩) hs
def Dt(K:PySem.W.Frag):R2:=fun x y H Q=>GN K x y H Q\/F9 K x y H Q\/Ea x y H Q
theorem GP:IxR X (Dt X.K):=ix_list.or (ix_tup.or GO)
theorem OJ(its:List Value)(n j:Nat)(u:Value):Obj.mapSeq (·.setIfInBounds j u) { cls:=.type "list",data:=.seq its.toArray n }={ cls:=.type "list",data:=.seq (its.set j u).toArray n }:=by
 simp[Obj.mapSeq]
theorem Inv.lst{pins:List (Addr×Obj)}{σ:St}{H:Hp}{s:Shared}{p:Addr}{xs:List V}(I:Inv X pins σ H s)(h:H p=some (.lst xs)) :
  ∃(its:List Value) (n:Nat),Vals xs its/\s.heap.get? p=some { cls:=.type "list",data:=.seq its.toArray n }/\xs.length<=sizeLine:=by
 obtain⟨z,its,n,r,e⟩:=I.hok p _ h
 exact⟨its,n,r,e,z⟩
theorem Inv.lstUpd{pins:List (Addr×Obj)}{σ:St}{H:Hp}{s:Shared}{p:Addr}{xs ys:List V}{its its':List Value}{n n':Nat}{f:Obj->Obj}(I:Inv X pins σ H s)(h:H p=some (.lst xs))
  (ho:s.heap.get? p=some { cls:=.type "list",data:=.seq its.toArray n }) (hf:f { cls:=.type "list",data:=.seq its.toArray n }={ cls:=.type "list",data:=.seq its'.toArray n' }) (r:Vals ys its') (hz:ys.length<=sizeLine) (t:Nat) :
  Inv X pins σ (upd H p (.lst ys)) { s with heap:=s.heap.update p f,toks:=t }:=by
 have e:(s.heap.update p f).get? p=some { cls:=.type "list",data:=.seq its'.toArray n' }:=by
  rw[Heap.get?_update_self f ho (by rw[hf]<;>rfl),hf]
 refine I.write (x:=p) (e:=p) (by rw[h];trivial) (.inl rfl) (fun b u hb q=>(Heap.get?_update_other _ _ (Ne.symm hb)).trans q) ⟨_,e⟩ ?_
 exact⟨hz,its',n',r,e⟩
def LW:V->V->V->Hp->(Hp->Prop)->Prop:=fun o i v H Q=>∃p xs k j,o = .ref p/\i = .int k/\H p=some (.lst xs)/\Pl xs.length k=some j/\Q (upd H p (.lst (xs.set j v)))
theorem Wd:FV X LW:=by
 intro pins s σ H o i v ov iv u Q I ro ri rv h
 obtain⟨p,xs,k,j,rfl,rfl,hp,hj,q⟩:=h
 cases ro
 obtain⟨t,rfl⟩:=ri
 obtain⟨its,n,r,ho,hz⟩:=I.lst hp
 obtain⟨h1,h2,h3,h4⟩:=NM hj
 have hl:=r.length;have hn:=UZ
 have I':Inv X pins σ (upd H p (.lst (xs.set j v))) { s with heap:=s.heap.update p (Obj.mapSeq (·.setIfInBounds j u)) }:=
  I.lstUpd hp ho (OJ its n j u) (r.set rv j) (by rw[List.length_set];exact hz) s.toks
 by_cases h0:0<=k
 ·have hk:k.toNat=j:=by
   rw[seqIndex_of h0 h4] at h1
   exact Option.some.inj h1
  exact PySem.W.ki_setAt ho h0 (by omega) (by rw[List.size_toArray,<-hl];exact h4) (by rw[hk];exact⟨_,I',q⟩)
 ·have hk:(k+(its.toArray.size:Int)).toNat=j:=by
   rw[seqIndex_neg (by omega) h3] at h1;rw[List.size_toArray,<-hl]
   exact Option.some.inj h1
  exact PySem.W.ki_setBack ho (by omega) (by rw[List.size_toArray,<-hl];exact h3) (by omega) (by rw[hk];exact⟨_,I',q⟩)
theorem Qx(lo hi:Option Int)(n:Nat):(sliceBounds lo hi none n).1=((HT.sIx n 0 lo:Nat):Int)/\(sliceBounds lo hi none n).2.1=((HT.sIx n n hi:Nat):Int)/\(sliceBounds lo hi none n).2.2=1:=by
 refine⟨?_,?_,rfl⟩
 ·cases lo with
  | none=>simp[sliceBounds,HT.sIx]
  | some i=>
   simp only[sliceBounds,HT.sIx,Option.getD_none,show(1:Int)>0 by decide,if_true]
   by_cases h:i<0
   ·simp only[h,if_true]<;>omega
   ·simp only[h,if_false]<;>omega
 ·cases hi with
  | none=>simp[sliceBounds,HT.sIx]
  | some i=>
   simp only[sliceBounds,HT.sIx,Option.getD_none,show(1:Int)>0 by decide,if_true]
   by_cases h:i<0
   ·simp only[h,if_true]<;>omega
   ·simp only[h,if_false]<;>omega
theorem RH(its:List Value)(lo hi:Option Int):slicePick its.toArray lo hi none=((its.drop (HT.sIx its.length 0 lo)).take (HT.sIx its.length its.length hi-HT.sIx its.length 0 lo)).toArray:=by
 obtain⟨h1,h2,h3⟩:=Qx lo hi its.toArray.size
 unfold slicePick;rw[h1,h2,h3]
 simp only[sliceRange_one,pick_run,List.size_toArray]<;>rfl
def Dd(K:PySem.W.Frag):V->Option Int->Option Int->Hp->VK->Prop:=fun x lo hi H Q=>∃a xs,x = .ref a/\SqL K H a xs/\∀p,H p=none->Q (.ref p) (upd H p (.lst (Pu xs lo hi)))
theorem J6:E9 X (Dd X.K):=by
 intro pins s σ H x v vl vu lo hi sl Q I rx hs pl pu h
 obtain⟨a,xs,rfl,hx,q⟩:=h
 cases rx
 obtain⟨its,r,ht,hz⟩:=I.list hx
 have hlen:=r.length
 refine⟨"list",_,slot_list_getitem.lookup,ht.isList.typeIs,?_⟩
 refine wpAny_getItem_list_slice ht.isList hs pl pu .none (by simp) ?_ (by rw[List.size_toArray]<;>omega)
 rw[RH,<-hlen]
 refine⟨.ref s.heap.objs.size,_,I.laid (t':=s.toks) (o:=.lst (Pu xs lo hi)) (fun b ob q=>Heap.get?_push_of_some _ q) (Nat.le_refl _) ?_,rfl,q _ (I.hok.fresh (Nat.le_refl _))⟩
 exact⟨Nat.le_trans (TB xs lo hi) hz,_,0,(r.drop (HT.sIx xs.length 0 lo)).take (HT.sIx xs.length xs.length hi-HT.sIx xs.length 0 lo),Heap.get?_push_size _ rfl⟩
theorem Uw:Wc X (.type "list") (fun xs H Q=>∃p ys,xs=[.ref p]/\(SqL X.K H p ys\/SqT X.K H p ys)/\∀l,H l=none->Q (.ref l) (upd H l (.lst ys))):=by
 intro pins s σ H xs us Q I r h
 obtain⟨p,ys,rfl,hq,q⟩:=h
 obtain⟨u,rfl,rx⟩:=Uu r
 cases rx
 have fin:∀(its:List Value),Vals ys its->ys.length<=sizeLine->∀(h':Heap)(c':Nat),(∀b o',s.heap.get? b=some o'->h'.get? b=some o')->
   h'.get? s.heap.objs.size=some { cls:=.type "list",dict:=none,data:=.seq its.toArray c',slots:=#[] }->EP X pins σ Q (.ref s.heap.objs.size) { s with heap:=h' }:=fun its r' hz h' c' kp e=>
  ⟨.ref s.heap.objs.size,_,I.laid (t':=s.toks) kp (Nat.le_refl _) (show ObjOk X.prog X.w _ h' _ (.lst ys) from⟨hz,its,c',r',e⟩),rfl,q _ (I.hok.fresh (Nat.le_refl _))⟩
 rcases hq with hq | hq
 ·obtain⟨its,r',pl,hz⟩:=I.list hq
  have hlen:=r'.length
  obtain⟨o,ho,hc,n,hd⟩:=pl.isList
  exact call_list_seq p (.inl rfl) ho hc hd (fun h' c' kp e=>fin its r' hz h' c' kp e) (by simp only[List.size_toArray]<;>omega)
 ·obtain⟨its,r',pl,hz⟩:=I.tuple hq
  have hlen:=r'.length
  obtain⟨o,ho,hc,n,hd⟩:=pl
  exact call_list_seq p (.inr rfl) ho hc hd (fun h' c' kp e=>fin its r' hz h' c' kp e) (by simp only[List.size_toArray]<;>omega)
theorem ZU:Wc X (.type "tuple") (fun xs H Q=>∃p ys,xs=[.ref p]/\((SqL X.K H p ys/\∀l,H l=none->Q (.ref l) (upd H l (.tup ys)))\/(SqT X.K H p ys/\Q (.ref p) H))):=by
 intro pins s σ H xs us Q I r h
 obtain⟨p,ys,rfl,h⟩:=h
 obtain⟨u,rfl,rx⟩:=Uu r
 cases rx
 rcases h with⟨hq,q⟩ | ⟨hq,q⟩
 ·obtain⟨its,r',pl,hz⟩:=I.list hq
  have hlen:=r'.length
  refine call_tuple_list pl.isList (fun h' kp=>?_) (by simp only[List.size_toArray]<;>omega)
  have I1:Inv X pins σ H { s with heap:=h' }:=I.kept (t':=s.toks) kp
  have I2:Inv X pins σ (upd H h'.objs.size (.tup ys)) { s with heap:=h'.push { cls:=.type "tuple",data:=.seq its.toArray } }:=
   I1.laid (t':=s.toks) (fun b o e=>Heap.get?_push_of_some _ e) (Nat.le_refl _) (show ObjOk X.prog X.w _ _ _ (.tup ys) from⟨hz,its,r',IsTup.new _ _⟩)
  exact⟨.ref h'.objs.size,_,I2,rfl,q _ (I1.hok.fresh (Nat.le_refl _))⟩
 ·obtain⟨its,r',pl,hz⟩:=I.tuple hq
  exact call_tuple_same pl ⟨.ref p,H,I,rfl,q⟩
def De(K:PySem.W.Frag)(T:String)(x:V)(H:Hp):Prop:=match x with
 | .str _=>T = "str"
 | .int _=>T = "int"
 | .ref p=>(T = "list"/\∃xs,SqL K H p xs)\/(T = "tuple"/\∃o,K.lookup p=some o/\o.cls = .type "tuple"/\o.dict=none)\/
   (T = "dict"/\((∃kvs,H p=some (.dK kvs))\/∃kvs,H p=some (.dT kvs)))\/(T = "set"/\∃S n,H p=some (.set S n))
 | _=>False
theorem GQ{pins:List (Addr×Obj)}{σ:St}{H:Hp}{s:Shared}{T:String}{x:V}{v:Value}(I:Inv X pins σ H s)(r:RelV x v)(ty:De X.K T x H) :
  s.TypeIs v T/\∀a,v = .ref a->∃ob,s.heap.get? a=some ob/\ob.dict=none:=by
 cases x with
 | str z=>
  obtain⟨t,rfl⟩:=r
  cases (show T = "str" from ty)
  exact⟨typeIs_str s z t,fun _ e=>nomatch e⟩
 | int i=>
  obtain⟨t,rfl⟩:=r
  cases (show T = "int" from ty)
  exact⟨typeIs_int s i t,fun _ e=>nomatch e⟩
 | ref p=>
  cases r
  rcases ty with⟨rfl,xs,hq⟩ | ⟨rfl,o,hk,hc,hd⟩ | ⟨rfl,hk⟩ | ⟨rfl,S,n,hk⟩
  ·obtain⟨its,_,pl,_⟩:=I.list hq
   refine⟨pl.isList.typeIs,fun a e=>?_⟩
   cases e
   obtain⟨o,n,e,c,hd,_⟩:=pl
   exact⟨o,e,hd⟩
  ·refine⟨⟨o,I.kIn p o hk,hc⟩,fun a e=>?_⟩
   cases e
   exact⟨o,I.kIn _ o hk,hd⟩
  ·have z:∃o,s.heap.get? p=some o/\o.ExactDict:=by
    rcases hk with⟨kvs,hk⟩ | ⟨kvs,hk⟩
    ·obtain⟨_,_,_,_,o,_,_,e,ex,_⟩:=I.hok p _ hk
     exact⟨o,e,ex⟩
    ·obtain⟨_,_,_,_,o,_,_,e,ex,_⟩:=I.hok p _ hk
     exact⟨o,e,ex⟩
   obtain⟨o,e,ex⟩:=z
   refine⟨⟨o,e,ex.1⟩,fun a e2=>?_⟩
   cases e2
   exact⟨o,e,ex.2.1⟩
  ·obtain⟨o,_,_,_,e,ex,_⟩:=I.hok p _ hk
   refine⟨⟨o,e,ex.1⟩,fun a e2=>?_⟩
   cases e2
   exact⟨o,e,ex.2.1⟩
 | _=>exact False.elim ty
def Eb(K:PySem.W.Frag)(T:String)(r:V->List V->Hp->VK->Prop)(to:TE)(t:TA):TE:=fun σ H Q=>to σ H fun x H1=>De K T x H1/\t σ H1 fun xs H2=>r x xs H2 Q
variable {o e:Expr} {es:List Expr} {to:TE} {t:TA} {name:Str} {apos cpos:Pos} {T id:String} {r:V->List V->Hp->VK->Prop}
theorem TC(pa:PlainAttrs T)(slot:Slot T name id)(hty:typeOf (.builtin id)=pure (.type "method_descriptor"))(hm:DB X id r)(ho:PE X o to)(ha:PA X (e::es) t)
  (hbase:attributeBase o name X.env (eval o X.env)=eval o X.env:=by rfl)
  (hfew:((backTo cpos (starEach (e::es) X.env)).all (fun x=>!x.1)&&(backToKw cpos (keywordEach [] X.env)).all (fun x=>x.1.isSome)
   &&decide ((e::es).length+([]:List Keyword).length+(if([]:List Keyword).isEmpty then 0 else 1)<30))=true:=by rfl)
  (hline:(apos.endLine==cpos.line)=true:=by rfl) (hs:starEach (e::es) X.env=(false,eval e X.env)::starEach es X.env:=by rfl) (hplain:(backTo cpos (starEach es X.env)).any (·.1)=false:=by rfl) :
  PE X (.Call (.Attribute o name apos) (e::es) [] cpos) (Eb X.K T r to t):=by
 intro pins s σ H Q I h
 refine wpAny_Call_method_late hbase hfew hline rfl (YO (ho pins s σ H _ I h) fun v s1 ⟨x,H1,I1,r1,ty,q1⟩=>?_)
 obtain⟨h1,h2⟩:=GQ I1 r1 ty
 refine⟨T,id,pa,slot,hty,h1,h2,?_⟩
 have hA:=ha cpos pins s1 σ H1 _ I1 q1
 rw[hs] at hA ⊢
 refine Calls.callWith_builtin (by show(false || (backTo cpos (starEach es X.env)).any (·.1))=false;rw[hplain]<;>rfl) (Calls.evalArgs_plain ?_)
 exact YO hA fun us s2 ⟨vs,H2,I2,r2,q2⟩=>hm pins s2 σ H2 x vs v us Q I2 r1 r2 q2
end
def EL(X:Cx)(id:String)(r:V->List V->Hp->VK->Prop):Prop:=
 ∀(pins:List (Addr×Obj))(s:Shared)(σ:St)(H:Hp)(x:V)(xs:List V)(v:Value)(us:List Value)(Q:VK),Inv X pins σ H s->RelV x v->Vals xs us->r x xs H Q->
  wpAny (model X.prog X.w) X.A (call (.builtin id) (v::us)) (EP X pins σ Q) X.xe s
theorem Vals.one:∀{x:V}{us:List Value},Vals [x] us->∃u,us=[u]/\RelV x u
 | _,_,.cons r .nil=>⟨_,rfl,r⟩
theorem Vals.two:∀{x y:V}{us:List Value},Vals [x,y] us->∃u v,us=[u,v]/\RelV x u/\RelV y v
 | _,_,_,.cons r (.cons q .nil)=>⟨_,_,rfl,r,q⟩
theorem Vals.dropLast{xs:List V}{us:List Value}(h:Vals xs us):Vals xs.dropLast us.dropLast:=by
 induction h with
 | nil=>exact .nil
 | cons r t ih=>
  cases t with
  | nil=>exact .nil
  | cons q t'=>exact .cons r ih
theorem Vals.eraseIdx:∀{xs:List V}{us:List Value}(i:Nat),Vals xs us->Vals (xs.eraseIdx i) (us.eraseIdx i)
 | _,_,_,.nil=>.nil
 | _,_,0,.cons _ t=>t
 | _,_,i+1,.cons r t=>.cons r (Vals.eraseIdx i t)
theorem Vals.rep{xs:List V}{us:List Value}(h:Vals xs us):∀k:Nat,Vals (List.replicate k xs).flatten (List.replicate k us).flatten
 | 0=>.nil
 | k+1=>by
  rw[List.replicate_succ,List.replicate_succ,List.flatten_cons,List.flatten_cons]
  exact Vals.append h (Vals.rep h k)
theorem RW{α:Type}:∀(l:List α)(i:Nat),(l.eraseIdx i).length<=l.length
 | [],_=>Nat.le_refl _
 | _::_,0=>Nat.le_succ _
 | _::r,i+1=>Nat.succ_le_succ (RW r i)
theorem RX(its:List Value):∀(k:Nat)(acc:List Value),
  List.foldl (fun x1 x2=>x1++x2) acc.toArray (List.replicate k its.toArray)=(acc++(List.replicate k its).flatten).toArray
 | 0,acc=>by simp
 | k+1,acc=>by
  have e:acc.toArray++its.toArray=(acc++its).toArray:=by simp
  have e2:(acc++its)++(List.replicate k its).flatten=acc++(List.replicate (k+1) its).flatten:=by
   rw[List.replicate_succ,List.flatten_cons,List.append_assoc]
  rw[<-e2,<-RX its k (acc++its),<-e,List.replicate_succ,List.foldl_cons]
section
variable {X:Cx} {pins:List (Addr×Obj)} {σ:St} {H:Hp} {s:Shared} {l b:Addr} {xs ys zs:List V}
theorem Inv.lset{its its':List Value}{n:Nat}{f:Array Value->Array Value}{t':Nat}(I:Inv X pins σ H s)(hH:H l=some (.lst xs))
  (e:s.heap.get? l=some { cls:=.type "list",data:=.seq its.toArray n }) (hf:f its.toArray=its'.toArray) (hv:Vals ys its') (hz:ys.length<=sizeLine) :
  Inv X pins σ (upd H l (.lst ys)) { s with heap:=s.heap.update l (Obj.mapSeq f),toks:=t' }:=by
 have q:=PySem.IsL.update e f;rw[hf] at q
 refine I.write (x:=l) (e:=l) (by rw[hH];exact trivial) (.inl rfl) (fun b' u hb hu=>(Heap.get?_update_other s.heap (Obj.mapSeq f) (Ne.symm hb)).trans hu) ⟨_,q⟩ ?_
 exact⟨hz,its',_,hv,q⟩
theorem Inv.lnew{its:List Value}{t':Nat}(I:Inv X pins σ H s)(hv:Vals ys its)(hz:ys.length<=sizeLine) :
  Inv X pins σ (upd H s.heap.objs.size (.lst ys)) { s with heap:=s.heap.push { cls:=.type "list",data:=.seq its.toArray },toks:=t' }:=
 I.laid (fun _ _ q=>Heap.get?_push_of_some _ q) (Nat.le_refl _) ⟨hz,its,0,hv,Heap.get?_push_size _ rfl⟩
theorem Inv.fresh(I:Inv X pins σ H s):H s.heap.objs.size=none:=I.hok.fresh (Nat.le_refl _)
theorem Inv.lstM(I:Inv X pins σ H s)(hH:H l=some (.lst xs)):xs.length<=sizeLine/\∃(its:List Value) (n:Nat),Vals xs its/\xs.length=its.length/\s.heap.get? l=some { cls:=.type "list",data:=.seq its.toArray n }:=by
 obtain⟨z,its,n,r,e⟩:=I.hok l _ hH
 exact⟨z,its,n,r,r.length,e⟩
theorem Px{n:Nat}(h:n<=sizeLine):Builtin.List.listTooLong n=false:=by
 unfold Builtin.List.listTooLong
 exact decide_eq_false (by omega)
end
section
variable {X:Cx}
def NN:V->List V->Hp->VK->Prop:=fun x vs H Q=>∃l xs y,x = .ref l/\vs=[y]/\H l=some (.lst xs)/\xs.length<sizeLine/\Q .non (upd H l (.lst (xs++[y])))
theorem Vy:EL X "list.append" NN:=by
 intro pins s σ H x vs v us Q I rx rv h
 obtain⟨l,xs,y,rfl,rfl,hH,hz,q⟩:=h
 cases rx
 obtain⟨u,rfl,ru⟩:=rv.one
 obtain⟨z,its,n,r,hl,e⟩:=I.lstM hH
 refine call_meets F.slot_list_append ⟨_,e,rfl⟩ F.entry_list_append (F.args_list_append_2 _ _) (PySem.list_append l its.toArray n u (by rw[List.size_toArray];omega)) ⟨e,?_⟩
 refine⟨.non,_,I.lset (its':=its++[u]) hH e (by simp) (r.append (.cons ru .nil)) ?_,rfl,q⟩
 rw[List.length_append,List.length_singleton];omega
def NO:V->List V->Hp->VK->Prop:=fun x vs H Q=>∃l b xs zs,x = .ref l/\vs=[.ref b]/\H l=some (.lst xs)/\H b=some (.lst zs)/\xs.length+zs.length<=sizeLine/\Q .non (upd H l (.lst (xs++zs)))
theorem RY:EL X "list.extend" NO:=by
 intro pins s σ H x vs v us Q I rx rv h
 obtain⟨l,b,xs,zs,rfl,rfl,hH,hB,hz,q⟩:=h
 cases rx
 obtain⟨u,rfl,ru⟩:=rv.one
 cases ru
 obtain⟨z,its,n,r,hl,e⟩:=I.lstM hH
 obtain⟨z2,its2,n2,r2,hl2,e2⟩:=I.lstM hB
 have hsz:its.toArray.size+its2.toArray.size<=sizeLine:=by rw[List.size_toArray,List.size_toArray];omega
 have hlong:¬(!its.toArray.isEmpty&&Builtin.List.listTooLong (its.toArray.size+its2.toArray.size))=true:=by
  rw[Px hsz,Bool.and_false];exact Bool.false_ne_true
 refine call_meets F.slot_list_extend ⟨_,e,rfl⟩ F.entry_list_extend (F.args_list_extend_2 _ _)
  (AutoSeq1.list_extend_list_list_0 l its.toArray n b its2.toArray n2 hlong (by rw[List.size_toArray];omega) (by omega)) ⟨e,e2,?_⟩
 refine⟨.non,_,I.lset (its':=its++its2) hH e (by simp) (r.append r2) ?_,rfl,q⟩
 rw[List.length_append];omega
def LX:V->List V->Hp->VK->Prop:=fun x vs H Q=>∃l xs i k y,x = .ref l/\vs=[.int i]/\H l=some (.lst xs)/\-(2^63)<=i/\i<2^63/\seqIndex? i xs.length=some k/\xs[k]?=some y/\Q y (upd H l (.lst (xs.eraseIdx k)))
theorem LY:EL X "list.pop" LX:=by
 intro pins s σ H x vs v us Q I rx rv h
 obtain⟨l,xs,i,k,y,rfl,rfl,hH,h1,h2,hk,hy,q⟩:=h
 cases rx
 obtain⟨u,rfl,ru⟩:=rv.one
 obtain⟨t,rfl⟩:=ru
 obtain⟨z,its,n,r,hl,e⟩:=I.lstM hH
 obtain⟨w,hw,Rz⟩:=r.get hy
 refine call_meets F.slot_list_pop ⟨_,e,rfl⟩ F.entry_list_pop (F.args_list_pop_2 _ _)
  (MeetsSeq.list_pop_at l its.toArray n i t k w (fitsIndex_both h1 h2) (by rw[List.size_toArray,<-hl];exact hk) (by rw[<-Array.getElem?_toList];exact hw) (by rw[List.size_toArray];omega)) ⟨e,?_⟩
 refine⟨y,_,I.lset (its':=its.eraseIdx k) hH e ?_ (r.eraseIdx k) ?_,Rz,q⟩
 ·show its.toArray.eraseIdxIfInBounds k=(its.eraseIdx k).toArray
  rw[List.eraseIdxIfInBounds_toArray]
 ·have:=RW xs k
  omega
def Ec:R2:=fun x y H Q=>∃l b xs zs,x = .ref l/\y = .ref b/\H l=some (.lst xs)/\H b=some (.lst zs)/\xs.length+zs.length<=sizeLine/\∀p,H p=none->Q (.ref p) (upd H p (.lst (xs++zs)))
theorem LZ:UT X (binaryOp .Add) Ec:=by
 intro pins s σ H x y v u Q I rx ry h
 obtain⟨l,b,xs,zs,rfl,rfl,hH,hB,hz,q⟩:=h
 cases rx;cases ry
 obtain⟨z,its,n,r,hl,e⟩:=I.lstM hH
 obtain⟨z2,its2,n2,r2,hl2,e2⟩:=I.lstM hB
 refine PySem.P.add_list e e2 ?_ (by rw[List.size_toArray,List.size_toArray];omega)
 have ea:its.toArray++its2.toArray=(its++its2).toArray:=by simp
 rw[ea]
 exact⟨.ref _,_,I.lnew (t':=s.toks) (r.append r2) (by rw[List.length_append];omega),rfl,q _ I.fresh⟩
def Dg:R2:=fun x y H Q=>∃l k xs,x = .ref l/\y = .int k/\H l=some (.lst xs)/\-(2^63)<=k/\k<2^63/\xs.length*k.toNat<=sizeLine/\
 ∀p,H p=none->Q (.ref p) (upd H p (.lst (List.replicate k.toNat xs).flatten))
theorem J7{α:Type}(xs:List α)(k:Nat):(List.replicate k xs).flatten.length=k*xs.length:=by
 induction k with
 | zero=>simp
 | succ k ih=>rw[List.replicate_succ,List.flatten_cons,List.length_append,ih,Nat.succ_mul,Nat.add_comm]
theorem GR:UT X (binaryOp .Mult) Dg:=by
 intro pins s σ H x y v u Q I rx ry h
 obtain⟨l,k,xs,rfl,rfl,hH,h1,h2,hz,q⟩:=h
 cases rx
 obtain⟨t,rfl⟩:=ry
 obtain⟨z,its,n,r,hl,e⟩:=I.lstM hH
 have hlen:its.toArray.size*k.toNat<=sizeLine:=by rw[List.size_toArray,<-hl];exact hz
 have hcap:¬its.toArray.size*k.toNat>(2^63-1)/8:=by
  have:(sizeLine:Nat)<=(2^63-1)/8:=by decide
  omega
 have hfit:¬(!Builtin.List.listFitsIndex k)=true:=by
  rw[fitsIndex_both h1 h2];exact Bool.false_ne_true
 have hlong:¬Builtin.List.listTooLong (its.toArray.size*k.toNat)=true:=by
  rw[Px hlen];exact Bool.false_ne_true
 have hnew:List.foldl (fun x1 x2=>x1++x2) #[] (List.replicate (if its.toArray.isEmpty=true then 0 else k.toNat) its.toArray)=(List.replicate k.toNat its).flatten.toArray:=by
  have f0:∀m:Nat,List.foldl (fun x1 x2=>x1++x2) #[] (List.replicate m its.toArray)=(List.replicate m its).flatten.toArray:=fun m=>by
   have:=RX its m []
   rw[List.nil_append] at this;exact this
  rw[f0]
  cases its with
  | nil=>simp
  | cons a r'=>rw[if_neg (by simp)]
 refine wpAny_binaryOp_repeat_ref (T:="list") (U:="int") (by decide) ⟨_,e,rfl⟩ (fun s'=>typeIs_int s' k t) noFill_list_mul F.fills_int_mul F.slot_int_rmul repeat_list F.slot_int_index.lookup
  (call_meets F.slot_int_rmul (typeIs_int s k t) F.entry_int_rmul (F.args_int_rmul_2 _ _) (int___rmul___int_list k t l its.toArray n)
   ⟨e,rfl,⟨_,e,rfl⟩,call_meets F.slot_list_mul ⟨_,e,rfl⟩ F.entry_list_mul (F.args_list_mul_2 _ _) (AutoListH.list___mul___list_int_3 l its.toArray n k t hfit hcap hlong) ⟨e,?_⟩⟩)
 rw[hnew]
 exact⟨.ref _,_,I.lnew (t':=s.toks) (r.rep k.toNat) (by rw[J7,Nat.mul_comm];exact hz),rfl,q _ I.fresh⟩
end
end L2
namespace Att
open PySem PySem.W PySem.Calls PyProof.Rows
theorem T6{P:Params}{h:Heap}:∀(ns:List Int)(vs:List Value),WellAll P h vs (ns.map WData.int)->IntsAre vs ns:=by
 intro ns
 induction ns with
 | nil=>
  intro vs w;rw[List.map_nil] at w;cases w;exact .nil
 | cons n ns ih=>
  intro vs w;rw[List.map_cons] at w
  cases w with
  | cons a b=>
   cases a
   exact .cons _ _ (ih _ b)
theorem MI{l:OpenLaw}{n:Nat}(hn:l.most=some n){P:Params}{h:Heap}{args:List WData}{vals:List Value}
  (hpre:l.row.toRowW.claim.pre args=true) (hwl:WellAll P h vals args) :
  ∃a vs ns,vals=[Value.ref a]/\args=[WData.list (ns.map WData.int)]/\h.get? a=some { cls:=.type "list",data:=.seq vs.toArray }/\IntsAre vs ns/\ns.length<=n:=by
 have hsh:WShape.hasAll [] args [.list .int]=true:=(pre_splitW hpre).1
 have hc:l.pre.holds [] { args:=args }=true:=(pre_splitW hpre).2
 obtain⟨d,r,rfl,h1,h2⟩:=hasAllW_cons hsh
 obtain rfl:=hasAllW_nil h2
 obtain⟨xs,rfl,h3⟩:=hasW_list h1
 obtain⟨ns,rfl⟩:=items_int h3
 have hlen:ns.length<=n:=by
  unfold OpenLaw.pre at hc
  have h4:(WTm.not (.lt (.lit (.int (n:Int))) (.len (.arg 0)))).holds [] { args:=[.list (ns.map .int)] }=true:=by
   have h4:=(holds_andW hc).1
   rw[hn] at h4;exact h4
  have h5:=condW_of h4 (w_not (w_lt w_lit (w_len_list (w_arg rfl))))
  rw[List.length_map] at h5
  refine Nat.le_of_not_lt fun q=>?_
  have q':(n:Int)<((ns.length:Nat):Int):=by omega
  first
   | (rw[decide_eq_true q'] at h5;exact absurd h5 (by decide))
   | (simp at h5;omega)
 cases hwl with
 | cons w1 w2=>
  cases w2
  cases w1 with
  | list ho hall=>exact⟨_,_,ns,rfl,rfl,ho,T6 ns _ hall,hlen⟩
theorem MJ(l:OpenLaw)(args:List WData):l.row.toRowW.claim.post args (.bool true) args=true:=
 postW_of (r:=l.row.toRowW) (X:=(true==true))
  (show WShape.has [] (.bool true) .bool=true by first | rfl | decide | simp[WShape.has,WShape.arms,WShape.armsAll])
  (show(WTm.eq .res (.lit (.bool true))).value [] { args:=args,res:=some (.bool true),after:=args }=some (.bool (true==true)) from w_eq_bool (w_res rfl) w_lit) rfl
theorem attach_call{l:OpenLaw}{n:Nat}{q:Program}{loose:List Str}{XP:(Str->Option Value)->Heap->Prop}{YP:World->Heap->Prop}{d:DefRec}
  (hn:l.most=some n) (hdf:d.params.defaults=[])
  (call:∀(w:World)(s₀ s₁:Shared)(mg mb:Str->Option Value)(fa:Addr)(o:Obj)(pm cd doc:Value)(a:Addr)(vs:List Value)(ns:List Int),
   Ground q loose [] XP w s₀ mg mb s₁.heap->YP w s₁.heap->
   s₁.heap.get? fa=some o->o.data = .func (docDef d.name d.params d.body d.scope pm cd doc)->s₁.heap.CodeRec cd d.name->mg d.name=some (.ref fa)->
   s₁.heap.get? a=some { cls:=.type "list",data:=.seq vs.toArray }->IntsAre vs ns->ns.length<=n->s₁.gens = #[]->
   codeAny (model l.prog w) callerA (.call (.ref fa) ⟨[.ref a],[]⟩) (fun r s'=>r = .ok (.ret (.bool true))/\OldK s₁.heap s'.heap/\s'.os=s₁.os/\AllBare s'.gens) s₁) :
  WalkO q loose XP YP l.row.toRowW d [] (fun f vs=>PySem.call f vs):=by
 intro w s₀ s₁ mg mb G Y fa o pm cd doc dV kV ho hd hcd hD hmg hg args vals as hpre hlay hrd hwl hlo
 obtain rfl:dV = .none:=Dflts.none hD hdf
 obtain rfl:kV = .none:=Dflts.noKw hD
 obtain⟨a,vs,ns,rfl,rfl,hobj,hints,hlen⟩:=MI hn hpre hwl
 refine enter_call (codeAny_mono (call w s₀ s₁ mg mb fa o pm cd doc a vs ns G Y ho (fd_plain hd) hcd hmg hobj hints hlen hg) fun r s' hq=>?_)
 obtain⟨rfl,h2,h3,h4⟩:=hq
 exact⟨.inl ⟨.bool true,.bool true,[],rfl,fun _=>rfl,.bool true,MJ l _,fun _=>⟨List.Pairwise.nil,fun _ hm=>(nomatch hm)⟩⟩,h2,h3,h4⟩
end Att
namespace L2
open PySem PySem.Spec PyProof.Rows
theorem RZ:∀{vs:List Value}{ns:List Int},IntsAre vs ns->Vals (ns.map V.int) vs
 | _,_,.nil=>.nil
 | _,_,.cons n t h=>.cons ⟨t,rfl⟩ (RZ h)
def J8(H:Hp):Prop:=∀b,H b=none\/∃o xs,H b=some (.frz o (.lst xs))
theorem L5{P:Program}{w:World}{K:PySem.W.Frag}{mg mb:Str->Option Value}{CX:LU}{k:Nat}{fa a:Addr}{fd:FuncData}{x:Str}{sp:Sp}{s₁:Shared}{vs:List Value}{ns:List Int}
  (KX:K.In s₁.heap) (hns:s₁.heap.Ns mainGlobals mg) (hb:s₁.heap.Ns builtinsNs mb) (hbb:∀x:Str,x≠"__name__"->mb x=bootBuiltins x) (hlim:s₁.heap.NoLimit) (hg:s₁.gens = #[])
  (ha:s₁.heap.get? a=some { cls:=.type "list",data:=.seq vs.toArray }) (hi:IntsAre vs ns) (hl:ns.length<=sizeLine) (hr:Room k callerA)
  (F:∀base:Heap,K.In base->base.Ns mainGlobals mg->V5 P w K mg base CX k fa fd [x] sp) (hbind:∀(s:Shared)(u:Value),BindsTo s fd ⟨[u],[]⟩ [(x,u)])
  (hsp:∀H:Hp,J8 H->SqL K H a (ns.map V.int)->sp [.ref a] H (fun v _=>v = .bl true) fun _ _ _=>False)
  (hCX:∀H e s',CX [] H s₁ (fun _ _ _=>False) e s'->False) :
  codeAny (model P w) callerA (.call (.ref fa) ⟨[.ref a],[]⟩) (fun r s'=>r = .ok (.ret (.bool true))/\OldK s₁.heap s'.heap/\s'.os=s₁.os/\AllBare s'.gens) s₁:=by
 have rv:=RZ hi;have lenV:=hi.length
 -- from an abstract heap in which nothing but the script may be tracked
 have core:∀H:Hp,J8 H->SqL K H a (ns.map V.int)->HOk P w H s₁.heap->(∀b,H b≠none->b=a)->(H a≠none->K.lookup a=none)->
   codeAny (model P w) callerA (.call (.ref fa) ⟨[.ref a],[]⟩) (fun r s'=>r = .ok (.ret (.bool true))/\OldK s₁.heap s'.heap/\s'.os=s₁.os/\AllBare s'.gens) s₁:=by
  intro H hO hS hok hA hK
  have base_of:∀{b:Addr}{o:Obj},s₁.heap.get? b=some o->H b=none->(Qr s₁.heap H).get? b=some o:=fun e n=>LI e n
  have noA:∀{b:Addr}{o:Obj}{es:Array DictEntry}{ep:Nat},s₁.heap.get? b=some o->o.data = .dict es ep->H b=none:=fun{b o es ep} e d=>by
   cases q:H b with
   | none=>rfl
   | some u=>
    have e':b=a:=hA b (by rw[q];simp)
    subst e'
    rw[ha] at e;cases e
    have d':Data.seq vs.toArray _=Data.dict es ep:=d
    cases d'
  have nsK:∀{b:Addr}{m:Str->Option Value},s₁.heap.Ns b m->(Qr s₁.heap H).Ns b m:=fun{b m} ⟨o,es,ep,e,d,r⟩=>⟨o,es,ep,base_of e (noA e d),d,r⟩
  have hKb:K.In (Qr s₁.heap H):=fun b o e=>base_of (KX b o e) (by
   cases q:H b with
   | none=>rfl
   | some u=>
    have e':b=a:=hA b (by rw[q];simp)
    subst e'
    rw[hK (by rw[q];simp)] at e;cases e)
  have hM:Mod K mg (Qr s₁.heap H):=⟨hKb,nsK hns,⟨mb,nsK hb,hbb⟩,let⟨mc,h1,h2⟩:=hlim;⟨mc,nsK h1,h2⟩⟩
  have e0:Env0 P w K mg (Qr s₁.heap H) callerA [] s₁ H:=⟨rfl,hM,fun b o e=>JQ e,Nat.le_of_eq (Mw _ _),trivial,fun b hb=>absurd (show b∈([]:List Addr) from hb) (by simp),hok,.of_eq hg⟩
  refine codeAny_mono ((F _ hKb (nsK hns)).run callerA [] s₁ H ⟨[.ref a],[]⟩ [.ref a] [.ref a] _ _ hr e0 (hbind s₁ (.ref a)) (.cons rfl .nil) (hsp H hO hS)) fun r s' h=>?_
  cases r with
  | error e=>exact(hCX H e s' h).elim
  | ok fl=>
   cases fl with
   | next=>exact False.elim h
   | brk=>exact False.elim h
   | cont=>exact False.elim h
   | ret u=>
    obtain⟨v,H',os,bare,un,hok',r',q⟩:=h
    have q':v = .bl true:=q
    subst q'
    obtain rfl:u=Value.bool true:=r'
    refine⟨rfl,OldK.of_keep fun b o e=>?_,os,bare⟩
    cases q:H b with
    | none=>exact un.keep b o e q (by intro z;exact absurd (show b∈([]:List Addr) from z) (by simp)) (by simp)
    | some u=>
     rcases hO b with z | ⟨ob,xs,z⟩
     ·rw[q] at z;cases z
     ·have z2:=un.frzs b ob _ z
      obtain⟨e1,_⟩:=hok b _ z
      obtain⟨e2,_⟩:=hok' b _ z2
      rw[e] at e1;cases e1;exact e2
 cases hk:K.lookup a with
 | some o=>
  -- the script is one of the module's own objects
  have e:=KX a o hk;rw[ha] at e;cases e
  refine core (fun _=>none) (fun _=>.inl rfl) (.inr ⟨_,vs.toArray,_,hk,rfl,rfl,rfl,by rw[List.size_toArray,lenV];exact hl,by simpa using rv⟩) (fun b u z=>by have z':(none:Option HO)=some u:=z;cases z') (fun b z=>absurd rfl z) fun z=>absurd rfl z
 | none=>
  refine core (fun b=>if b=a then some (.frz { cls:=.type "list",data:=.seq vs.toArray } (.lst (ns.map V.int))) else none) (fun b=>?_) (.inl (.inr ⟨{ cls:=.type "list",data:=.seq vs.toArray },if_pos rfl⟩)) (fun b u z=>?_) (fun b z=>?_) fun _=>hk
  ·by_cases hb:b=a
   ·exact .inr ⟨_,_,if_pos hb⟩
   ·exact .inl (if_neg hb)
  ·by_cases hb:b=a
   ·have z':=(if_pos hb).symm.trans z
    cases z'
    subst hb
    exact⟨ha,by rw[List.length_map];exact hl,vs,_,rv,ha⟩
   ·have z':=(if_neg hb).symm.trans z
    cases z'
  ·by_cases hb:b=a
   ·exact hb
   ·exact absurd (if_neg hb) z
theorem walk_of{l:PySem.W.OpenLaw}{n k:Nat}{q:Program}{loose:List Str}{XP:(Str->Option Value)->Heap->Prop}{YP:World->Heap->Prop}{d:DefRec}{K:Params->PySem.W.Frag}{CX:World->LU}{sp:World->Sp}{x:Str}
  (hn:l.most=some n) (hn2:n<=sizeLine) (hdf:d.params.defaults=[]) (hr:Room k callerA)
  (hY:∀(w:World)(h:Heap),YP w h->(K w.params).In h)
  (F:∀(w:World)(mg:Str->Option Value)(fa:Addr)(h:Heap),(K w.params).In h->h.Ns mainGlobals mg->mg d.name=some (.ref fa)->
   ∃fd:FuncData,(∀(s:Shared)(u:Value),BindsTo s fd ⟨[u],[]⟩ [(x,u)])/\
    ∀base:Heap,(K w.params).In base->base.Ns mainGlobals mg->V5 l.prog w (K w.params) mg base (CX w) k fa fd [x] (sp w))
  (hsp:∀(w:World)(H:Hp)(a:Addr)(ns:List Int),ns.length<=n->J8 H->SqL (K w.params) H a (ns.map V.int)->sp w [.ref a] H (fun v _=>v = .bl true) fun _ _ _=>False)
  (hCX:∀(w:World)(H:Hp)(s:Shared)(e:Value)(s':Shared),CX w [] H s (fun _ _ _=>False) e s'->False) :
  PySem.W.WalkO q loose XP YP l.row.toRowW d [] (fun f vs=>PySem.call f vs):=by
 refine Att.attach_call hn hdf fun w s₀ s₁ mg mb fa o pm cd doc a vs ns G Y ho hd hcd hmg hobj hints hlen hg=>?_
 have KX:=hY w _ Y
 obtain⟨fd,hb,hF⟩:=F w mg fa _ KX G.T.g hmg
 exact L5 KX G.T.g G.T.b G.T.builtins G.T.nolimit hg hobj hints (Nat.le_trans hlen hn2) hr hF hb (fun H hO hS=>hsp w H a ns hlen hO hS) fun H e s'=>hCX w H s₁ e s'
def Y9(s:Stmt):Arguments:=match s with
 | .FunctionDef _ a _ _ _ _ _ _ _ _=>a
 | _=>{ posonlyargs:=[],args:=[],vararg:=none,kwonlyargs:=[],kw_defaults:=[],kwarg:=none,defaults:=[] }
def Yb(s:Stmt):List Stmt:=match s with
 | .FunctionDef _ _ b _ _ _ _ _ _ _=>b
 | _=>[]
def Zl(s:Stmt):Scope:=match s with
 | .FunctionDef _ _ _ _ _ _ sc _ _ _=>sc
 | _=>{ kind:=.function,names:=[],isGenerator:=false,isCoroutine:=false }
abbrev Py:LU:=fun _ _ _ _ _ _=>False
abbrev E0:XK:=fun _ _ _=>False
theorem Ed{X:Cx}:Qu Py X E0:=fun _ _ _ _ _ _ _ h=>h.elim
structure Fun(K:PySem.W.Frag)(x qual:Str)(st:Stmt)(f:Addr)(fd:FuncData):Prop where
 ex:∃(oc:Value) (od:Option Addr) (kV doc pm:Value) (an:Option Addr) (cdv ct:Value) (osl:Array (Option Value)),
  fd=PySem.W.fnOf x qual (Y9 st) (Yb st) (Zl st) .none kV doc pm an cdv ct/\K.lookup f=some ⟨oc,od,.func fd,osl⟩/\PySem.W.codeIn K cdv qual=true
 kp:PySem.W.keepIn K (.ref f)=true
section
variable {P:Program} {w:World} {K:PySem.W.Frag} {mg:Str->Option Value} {base:Heap}
theorem Fun.ok{x qual:Str}{st:Stmt}{f:Addr}{fd:FuncData}{N ps:List Str}{k:Nat}{sp:Sp}(F:Fun K x qual st f fd)(S:ZH N ps (Zl st))(len:∀vs H Q E,sp vs H Q E->vs.length=ps.length)
  (hbody:∀(cdv:Value)(A:Around)(outer:List Env)(s:Shared)(H:Hp)(vs:List V)(Q:VK)(E:XK),Room k (A.deeper (envOfC qual (Zl st) s.heap.objs.size f cdv))->sp vs H Q E->
   ∃t,PSs (U0 Py P w K mg base N qual (Zl st) f cdv A outer s H E).nox (Yb st) t/\t { nx:=fun _ H'=>Q .non H',rt:=Q } (start N vs) H):V5 P w K mg base Py (k+1) f fd ps sp:=by
 obtain⟨oc,od,kV,doc,pm,an,cdv,ct,osl,rfl,lk,hcd⟩:=F.ex
 refine HD lk hcd S len fun A outer s H vs Q E hr hsp=>?_
 obtain⟨t,h,q⟩:=hbody cdv A outer s H vs Q E hr hsp
 exact⟨t,h.nox,q⟩
theorem Fun.binds{x qual:Str}{st:Stmt}{f:Addr}{fd:FuncData}{ps:List Str}(F:Fun K x qual st f fd)
  (h:∀(kV doc pm:Value)(an:Option Addr)(cdv ct:Value)(us:List Value),us.length=ps.length->bindArgs (PySem.W.fnOf x qual (Y9 st) (Yb st) (Zl st) .none kV doc pm an cdv ct) ⟨us,[]⟩=pure (ps.zip us)):Binds K fd ps []:=by
 obtain⟨oc,od,kV,doc,pm,an,cdv,ct,osl,rfl,lk,hcd⟩:=F.ex
 exact .all (h kV doc pm an cdv ct)
theorem L6{x qual:Str}{st:Stmt}{f:Addr}{oc:Value}{od an:Option Addr}{osl:Array (Option Value)}{kV doc pm cdv ct:Value}(l:K.lookup f=some ⟨oc,od,.func (PySem.W.fnOf x qual (Y9 st) (Yb st) (Zl st) .none kV doc pm an cdv ct),osl⟩)
  (c:PySem.W.codeIn K cdv qual=true) (k:PySem.W.keepIn K (.ref f)=true):Fun K x qual st f (PySem.W.fnOf x qual (Y9 st) (Yb st) (Zl st) .none kV doc pm an cdv ct):=⟨⟨oc,od,kV,doc,pm,an,cdv,ct,osl,rfl,l,c⟩,k⟩
end
section
variable {X:Cx}
theorem pv(i:Nat){x:Str}{pos:Pos}(hN:X.N[i]?=some x:=by rfl)(hv:EU X.env.scope x:=by first | exact Or.inl rfl | exact Or.inr (Or.inl rfl) | exact Or.inr (Or.inr rfl))(hd:(x==("__debug__" : Str))=false:=by decide)
  (hcd:(x==("__classdict__" : Str))=false:=by decide):PE X (.Name x pos) (Ur i):=Gf hN hv hd hcd
end
theorem Ee{A B:Prop}(h:B):if false=true then A else B:=by
 rw[if_neg Bool.false_ne_true];exact h
theorem Ef{A B:Prop}(h:A):if true=true then A else B:=by
 rw[if_pos rfl];exact h
def Same(H H':Hp):Prop:=∀b o,H b=some o->H' b=some o
theorem Same.refl(H:Hp):Same H H:=fun _ _ h=>h
theorem Same.trans{H H1 H2:Hp}(a:Same H H1)(b:Same H1 H2):Same H H2:=fun c o h=>b c o (a c o h)
theorem Same.free{H H':Hp}(e:Same H H'){l:Addr}(h:H' l=Option.none):H l=Option.none:=by
 cases q:H l with
 | none=>rfl
 | some o=>
  rw[e l o q] at h;cases h
end L2
set_option maxHeartbeats 4000000
namespace L2
open PySem PySem.Spec PyProof.Rows
def YY(cells:List (Str×Addr)):List (Str×NameKind)->List (Str×Addr)->List (Str×Addr)
 | [],acc=>acc
 | (n,k)::r,acc=>YY cells r (if(k==NameKind.free)=true then(n,(cells.lookup n).getD 0)::acc else acc)
theorem V7{env:Env}:∀(names:List (Str×NameKind))(acc:List (Str×Addr)),(∀y∈names,y.2 = .free->(env.cells.lookup y.1).isSome=true)->
  (forIn (m:=Sem) names acc fun(x:Str×NameKind) (cs:List (Str×Addr))=>
   match x with
   | (name,kind)=>if(kind==NameKind.free)=true then do
     let c <-cellOf env name
     pure (ForInStep.yield ((name,c)::cs))
    else pure (ForInStep.yield cs))=pure (YY env.cells names acc)
 | [],acc,_=>rfl
 | (n,k)::r,acc,h=>by
  rw[List.forIn_cons]
  have ih:=fun acc'=>V7 r acc' fun y hy=>h y (List.mem_cons_of_mem _ hy)
  cases hk:(k==NameKind.free) with
  | true=>
   have hs:=h (n,k) List.mem_cons_self (by simpa using hk)
   obtain⟨c,hc⟩:=Option.isSome_iff_exists.mp hs
   have hc:env.cells.lookup n=some c:=hc
   have e1:cellOf env n=pure c:=by unfold cellOf;rw[hc]
   dsimp only
   rw[hk,if_pos rfl,e1]
   refine Eq.trans (ih ((n,c)::acc)) ?_
   show _=pure (YY env.cells r (if(k==NameKind.free)=true then(n,(env.cells.lookup n).getD 0)::acc else acc))
   rw[if_pos hk,hc];rfl
  | false=>
   dsimp only
   rw[hk,if_neg Bool.false_ne_true]
   refine Eq.trans (ih acc) ?_
   show _=pure (YY env.cells r (if(k==NameKind.free)=true then(n,(env.cells.lookup n).getD 0)::acc else acc))
   rw[if_neg (by rw[hk];exact Bool.false_ne_true)]
theorem V8{scope:Scope}{env:Env}(h:∀y∈scope.names,y.2 = .free->(env.cells.lookup y.1).isSome=true):closureFor scope env=pure (YY env.cells scope.names []):=by
 have e:=V7 (env:=env) scope.names [] h
 unfold closureFor
 dsimp only
 rw[e];rfl
theorem U3{cells:List (Str×Addr)}{x:Str}{c:Addr}:∀(names:List (Str×NameKind))(acc:List (Str×Addr)),(∀y∈names,y.2 = .free->(cells.lookup y.1).isSome=true)->(acc.lookup x=some c->cells.lookup x=some c)->
  (YY cells names acc).lookup x=some c->cells.lookup x=some c
 | [],_,_,h,e=>h e
 | (n,k)::r,acc,hf,h,e=>by
  refine U3 r _ (fun y hy=>hf y (List.mem_cons_of_mem _ hy)) ?_ e
  intro q
  by_cases hk:(k==NameKind.free)=true
  ·rw[if_pos hk,List.lookup_cons] at q
   cases hx:x==n with
   | true=>
    rw[hx] at q
    have exn:x=n:=by simpa using hx
    obtain⟨d,hd⟩:=Option.isSome_iff_exists.mp (hf (n,k) List.mem_cons_self (by simpa using hk))
    have hd:cells.lookup n=some d:=hd
    rw[hd] at q
    rw[exn,hd];exact q
   | false=>rw[hx] at q;exact h q
  ·rw[if_neg hk] at q;exact h q
theorem Su{cells:List (Str×Addr)}{x:Str}:∀(names:List (Str×NameKind))(acc:List (Str×Addr)),(acc.lookup x).isSome=true->((YY cells names acc).lookup x).isSome=true
 | [],_,h=>h
 | (n,k)::r,acc,h=>by
  refine Su r _ ?_
  split
  ·rw[List.lookup_cons];split<;>simp_all
  ·exact h
theorem U4{cells:List (Str×Addr)}{x:Str}:∀(names:List (Str×NameKind))(acc:List (Str×Addr)),(x,NameKind.free)∈names->((YY cells names acc).lookup x).isSome=true
 | (n,k)::r,acc,h=>by
  rcases List.mem_cons.mp h with e | h
  ·cases e
   refine Su r _ ?_
   rw[if_pos (by decide),List.lookup_cons]
   simp
  ·exact U4 r _ h
structure CompScope(N:List Str)(around scope:Scope)(own fr:List Str)(ix:List Nat):Prop where
 kind:scope.kind = .function
 nocell:∀y∈scope.names,y.2≠.cell
 names:∀y∈scope.names,y.2 = .local->scope.names.lookup y.1=some .local
 frees:∀y∈scope.names,y.2 = .free->(around.names.lookup y.1=some .cell\/around.names.lookup y.1=some .free)
 slots:fr.map some=ix.map (fun i=>N[i]?)
 outs:∀x∈fr,(x,NameKind.free)∈scope.names
 apart:∀x∈fr,scope.names.lookup x≠some .local
def ZO(X:Cx)(N':List Str)(scope:Scope)(cl:List (Str×Addr))(C:Addr)(s:Shared)(H:Hp)(ex:List Addr):Cx:=
 { X with N:=N',s₀:=s,H₀:=H,env:=compEnvC scope cl C X.env,outer:=X.stack,ex:=ex,fn:=fun _=>false,pn:=[],xe:=fun _ _=>False }
def Yh(n:Nat)(ix:List Nat)(σ:St):St:=List.replicate n none++ix.map (fun i=>(σ[i]?).join)
theorem XY{env:Env}{x:Str}:∀{names:List (Str×NameKind)}{k:NameKind},names.lookup x=some k->
  (names.map fun(n,k)=>if(k==NameKind.free&&env.scope.kind==.function&&env.kindOf n==some .cell) then(n,NameKind.cell) else(n,k)).lookup x =
   some (if(k==NameKind.free&&env.scope.kind==.function&&env.kindOf x==some .cell)=true then NameKind.cell else k)
 | [],_,h=>by simp at h
 | (n,k')::r,k,h=>by
  show List.lookup x ((if(k'==NameKind.free&&env.scope.kind==.function&&env.kindOf n==some .cell)=true then(n,NameKind.cell) else(n,k'))::_)=_
  cases hx:x==n with
  | true=>
   simp only[List.lookup_cons,hx] at h;cases h
   have e:x=n:=by simpa using hx
   subst e
   split
   ·simp[List.lookup_cons]
   ·simp[List.lookup_cons]
  | false=>
   simp only[List.lookup_cons,hx] at h
   split
   ·simp only[List.lookup_cons,hx];exact XY h
   ·simp only[List.lookup_cons,hx];exact XY h
theorem WQ{env:Env}{x:Str}:∀{names:List (Str×NameKind)}{k':NameKind},
  (names.map fun(n,k)=>if(k==NameKind.free&&env.scope.kind==.function&&env.kindOf n==some .cell) then(n,NameKind.cell) else(n,k)).lookup x=some k'->∃k,names.lookup x=some k
 | [],_,h=>by simp at h
 | (n,k0)::r,k',h=>by
  have h:List.lookup x ((if(k0==NameKind.free&&env.scope.kind==.function&&env.kindOf n==some .cell)=true then(n,NameKind.cell) else(n,k0))::_)=some k':=h
  cases hx:x==n with
  | true=>exact⟨k0,by simp[List.lookup_cons,hx]⟩
  | false=>
   have:∃k,r.lookup x=some k:=by
    apply WQ (env:=env) (k':=k')
    split at h<;>simpa [List.lookup_cons,hx] using h
   obtain⟨k,e⟩:=this
   exact⟨k,by simp[List.lookup_cons,hx,e]⟩
section
variable {X:Cx} {pins:List (Addr×Obj)} {σ:St} {H:Hp} {s:Shared} {own fr:List Str} {ix:List Nat} {scope:Scope}
theorem CompScope.clos(S:CompScope X.N X.env.scope scope own fr ix)(I:Inv X pins σ H s):∀y∈scope.names,y.2 = .free->(X.env.cells.lookup y.1).isSome=true:=fun y hy hf=>by
 obtain⟨c,e⟩:=I.ok.has y.1 (S.frees y hy hf)
 rw[e];rfl
end
theorem Qy{prog:Program}{w:World}{A:Around}{R:Result->Shared->Prop}{s:Shared}{elt target iter:Expr}{ifs:List Expr}{scope:Scope}{pos:Pos}{it acc:Value}{env:Env}(I:Nat->Shared->Prop)
  (turn:∀n s,I n s->wpAny (model prog w) A (pyNext it) (fun r s₁=>match r with
   | none=>R (.ok .next) s₁
   | some v=>wpAny (model prog w) A (letOwnedTupleGo target it v) (fun _ s₁'=>wpAny (model prog w) A (assign target env v) (fun _ s₂=>
     wpAny (model prog w) A (forIn ifs true fun c r=>if r=true then do let ok <-isTrue c env (eval c env);pure (ForInStep.yield ok) else pure (ForInStep.yield r)) (fun ok s₃=>
      if ok=true then wpAny (model prog w) A (eval elt env) (fun x s₄=>
       wpAny (model prog w) A (call (.builtin "list.append") [acc,x]) (fun _ s₅=>∃m,m<n/\I m s₅) (notedBy (model prog w) A env fun e s'=>R (.error e) s') s₄) (notedBy (model prog w) A env fun e s'=>R (.error e) s') s₃
      else ∃m,m<n/\I m s₃) (notedBy (model prog w) A env fun e s'=>R (.error e) s') s₂) (notedBy (model prog w) A env fun e s'=>R (.error e) s') s₁') (notedBy (model prog w) A env fun e s'=>R (.error e) s') s₁) (notedBy (model prog w) A env fun e s'=>R (.error e) s') s)
  (n:Nat) (h:I n s) :
  codeAny (model prog w) A (.compLoop (.ListComp elt [⟨target,iter,ifs,0⟩] scope pos) 0 it acc env) R s:=by
 refine codeAny_loop rfl I (fun n s hI=>?_) n h
 show wpAny _ A ((compTurn (.ListComp elt [⟨target,iter,ifs,0⟩] scope pos) 0 it acc env).onRaise (fun x=>do noteFrame x env;theTreesLotGoes x)) _ _ s
 refine wpAny_noted ?_
 rw[compTurn_list]
 refine wpAny_bind (wpAny_standAt (wpAny_bind (wpAny_mono (turn n s hI) (fun r s₁ h₁=>?_) fun _ _ h'=>h')))
 cases r with
 | none=>exact wpAny_pure h₁
 | some v=>
  refine wpAny_bind (wpAny_mono h₁ (fun _ s₁' h₁'=>?_) fun _ _ h'=>h')
  refine wpAny_bind (wpAny_mono h₁' (fun _ s₂ h₂=>wpAny_bind (wpAny_mono h₂ (fun ok s₃ h₃=>?_) fun _ _ h'=>h')) fun _ _ h'=>h')
  cases ok with
  | false=>exact wpAny_pure ⟨rfl,h₃⟩
  | true=>
   exact wpAny_bind (wpAny_bind (wpAny_mono h₃ (fun x s₄ h₄=>wpAny_bind (wpAny_mono h₄ (fun _ s₅ h₅=>wpAny_pure (wpAny_pure ⟨rfl,h₅⟩)) fun _ _ h'=>h')) fun _ _ h'=>h'))
def L7(X:Cx)(ifs:List Expr)(t:TT):Prop:=
 ∀(pins:List (Addr×Obj))(s:Shared)(σ:St)(H:Hp)(Q:Bool->Hp->Prop),Inv X pins σ H s->t σ H Q->
  wpAny (model X.prog X.w) X.A (forIn ifs true fun c r=>if r=true then do let ok <-isTrue c X.env (eval c X.env);pure (ForInStep.yield ok) else pure (ForInStep.yield r)) (TP X pins σ Q) X.xe s
def Eg:TT:=fun _ H Q=>Q true H
theorem J9{X:Cx}:L7 X [] Eg:=fun _ _ _ H _ I h=>wpAny_tests_nil ⟨H,I,h⟩
theorem Ia{X:Cx}{c:Expr}{t:TT}(h:PT X c t):L7 X [c] t:=fun pins s σ H Q I hq=>wpAny_tests_one (h pins s σ H Q I hq)
def Eh(n:Nat)(ix:List Nat)(g:TG)(tt:TT)(te:TE)(σ:St)(Q:VK)(J:It)(H1:Hp):Prop:=
 ∃W:Nat->Nat->List V->Hp->Prop,(∃m,W 0 m [] H1)/\∀i m ys H,W i m ys H->ys.length<=sizeLine/\
  ((J.stop i H/\∀p,H p=none->Q (.ref p) (upd H p (.lst ys)))\/
   (J.go i H/\∃N:List V->Hp->Prop,(∀ys' H',N ys' H'->∃m',m'<m/\W (i+1) m' ys' H')/\
    ∀x H',J.yld i H x H'->g x (Yh n ix σ) H' fun σ2 H2=>σ2.drop n=(Yh n ix σ).drop n/\tt σ2 H2 fun b H3=>if b=true then te σ2 H3 fun y H4=>N (ys++[y]) H4 else N ys H3))
def R0(n:Nat)(ix:List Nat)(wi:TI)(g:TG)(tt:TT)(te:TE):TE:=fun σ H Q=>wi σ H fun J H1=>Eh n ix g tt te σ Q J H1
theorem MK{n:Nat}{ix:List Nat}{σ σ2:St}(hd:σ2.drop n=(Yh n ix σ).drop n):∀(i:Nat) v,(Yh n ix σ)[i]?=some (some v)->σ2[i]?=some (some v):=fun i v e=>by
 by_cases hi:i<n
 ·unfold Yh at e
  rw[List.getElem?_append_left (by simpa using hi),List.getElem?_replicate] at e
  rw[if_pos hi] at e;cases e
 ·have q:=congrArg (fun l=>l[i-n]?) hd
  simp only[List.getElem?_drop] at q;rw[show n+(i-n)=i by omega] at q
  rw[q];exact e
section
variable {X:Cx} {tg elt iter:Expr} {ifs:List Expr} {scope:Scope} {pos:Pos} {own fr:List Str} {ix:List Nat} {wi:TI} {g:TG} {tt:TT} {te:TE}
theorem L8{pins:List (Addr×Obj)}{σ:St}{H2:Hp}{s2:Shared}{fp:List Addr}{h₁:Heap}{tk:Nat}{C:Addr}(S:CompScope X.N X.env.scope scope own fr ix)(I2:Inv X pins σ H2 s2)(f2:∀b∈fp,T5 X pins H2 b)(hfp:∀b∈fp,b<s2.heap.objs.size)
  (hC:s2.heap.objs.size<=C) (hns:h₁.Ns C fun _=>none) (old:∀b o,s2.heap.get? b=some o->h₁.get? b=some o) :
  Inv (ZO X (own++fr) scope (YY X.env.cells scope.names []) C s2 H2 fp) [] (Yh own.length ix σ) H2 { s2 with heap:=h₁,toks:=tk }:=by
 have cs:=S.clos I2
 have sub:∀x c,(YY X.env.cells scope.names []).lookup x=some c->X.env.cells.lookup x=some c:=fun x c e=>U3 scope.names [] cs (fun h=>by simp at h) e
 have stk:=I2.stkSub
 have okk:(ZO X (own++fr) scope (YY X.env.cells scope.names []) C s2 H2 fp).Ok:=by
  refine⟨I2.ok.mod,S.kind,I2.ok.glob,I2.ok.blt,hC,fun x y c h1 h2=>I2.ok.inj x y c (sub x c h1) (sub y c h2),fun x hx=>?_,fun x c h _=>?_,I2.ok.hd,I2.ok.frames,.inl rfl,fun b hb=>⟨?_,fun x c e=>?_⟩,I2.bs,?_,fun b o e hb=>?_,fun b hb z=>?_,I2.stack,I2.stkFree⟩
  ·-- the cells of the block's free names
   have hx:(relabel scope X.env).names.lookup x=some .cell\/(relabel scope X.env).names.lookup x=some .free:=hx
   have key:(x,NameKind.free)∈scope.names:=by
    have:∃k',(relabel scope X.env).names.lookup x=some k'/\(k' = .cell\/k' = .free):=by
     rcases hx with h | h
     ·exact⟨_,h,.inl rfl⟩
     ·exact⟨_,h,.inr rfl⟩
    obtain⟨k',e,hk'⟩:=this
    obtain⟨k,e0⟩:=WQ e
    have e1:=XY (env:=X.env) e0
    have e:(scope.names.map fun(n,k)=>if(k==NameKind.free&&X.env.scope.kind==.function&&X.env.kindOf n==some .cell) then(n,NameKind.cell) else(n,k)).lookup x=some k':=e
    rw[e1] at e;have m:=PySem.mem_of_lookup e0
    cases k with
    | free=>exact m
    | cell=>exact absurd rfl (S.nocell _ m)
    | _=>simp at e;subst e;rcases hk' with z | z<;>cases z
   exact Option.isSome_iff_exists.mp (U4 _ _ key)
  ·cases h
  ·-- fp differs from the frame
   exact Nat.ne_of_lt (Nat.lt_of_lt_of_le (hfp b hb) hC)
  ·exact(f2 b hb).2.2.2.2.1 x c (sub x c e)
  ·exact Nat.le_trans I2.ok.bsz I2.sz
  ·rcases(f2 b hb).2.2.2.1 with z | z
   ·exact I2.ok.noex b o e z
   ·exact absurd (Nat.lt_of_lt_of_le (Heap.lt_size (I2.ok.bs b o e).1) z) (Nat.lt_irrefl _)
  ·rcases List.mem_cons.mp (stk b z) with e | e
   ·exact(f2 b hb).2.1 e
   ·exact(f2 b hb).2.2.1 e
 have sl:fr.length=ix.length:=by simpa using congrArg List.length S.slots
 refine⟨okk,rfl,I2.bare,Un.kept old,⟨_,hns,fun i x v h1 h2 h3=>?_⟩,fun x c e=>?_,I2.hok.fresh hC,fun x c e=>I2.freeC x c (sub x c e),fun p hp=>absurd (show p∈([]:List (Addr×Obj)) from hp) (by simp),I2.hok.kept old,?_⟩
 ·-- a name of the def around
  have h1:(own++fr)[i]?=some x:=h1
  have hi:¬i<own.length:=fun hi=>by
   unfold Yh at h2;rw[List.getElem?_append_left (by simpa using hi),List.getElem?_replicate,if_pos hi] at h2;cases h2
  rw[List.getElem?_append_right (by omega)] at h1;unfold Yh at h2;rw[List.getElem?_append_right (by simpa using hi),List.length_replicate,List.getElem?_map] at h2
  cases ej:ix[i-own.length]? with
  | none=>rw[ej] at h2;cases h2
  | some j=>
   rw[ej] at h2
   have h2:(σ[j]?).join=some v:=by simpa using h2
   have h2:σ[j]?=some (some v):=by
    cases q:σ[j]? with
    | none=>rw[q] at h2;cases h2
    | some z=>rw[q] at h2;exact congrArg some h2
   have hN:X.N[j]?=some x:=by
    have q:=congrArg (fun l=>l[i-own.length]?) S.slots
    simp only[List.getElem?_map,h1,ej,Option.map_some] at q
    exact(Option.some.inj q).symm
   have hm:=S.outs x (List.mem_of_getElem? h1)
   have hk:=S.frees _ hm rfl
   have hk:X.env.scope.names.lookup x=some .cell\/X.env.scope.names.lookup x=some .free:=hk
   obtain⟨m,hn,hl⟩:=I2.loc
   obtain⟨u,r,l⟩:=hl j x v hN h2 (by rcases hk with k | k;exact .inr (.inl k);exact .inr (.inr k))
   refine⟨u,r,?_⟩
   rcases l with⟨k,_⟩ | ⟨_,c,hc,hcell⟩
   ·have k:X.env.scope.names.lookup x=some .local:=k
    rcases hk with q | q<;>rw[k] at q<;>cases q
   ·obtain⟨c',hc'⟩:=Option.isSome_iff_exists.mp (U4 (cells:=X.env.cells) _ [] hm)
    have ec:=sub x c' hc'
    rw[hc] at ec;cases ec
    refine .inr ⟨?_,c,hc',?_⟩
    ·have h3:(relabel scope X.env).names.lookup x=some .local\/(relabel scope X.env).names.lookup x=some .cell\/(relabel scope X.env).names.lookup x=some .free:=h3
     rcases h3 with h3 | h3
     ·obtain⟨k0,e0⟩:=WQ h3
      have e1:=XY (env:=X.env) e0
      have h3:(scope.names.map fun(n,k)=>if(k==NameKind.free&&X.env.scope.kind==.function&&X.env.kindOf n==some .cell) then(n,NameKind.cell) else(n,k)).lookup x=some .local:=h3
      rw[e1] at h3
      have k0l:k0 = .local:=by
       cases k0<;>simp at h3 ⊢
       split at h3<;>cases h3
      subst k0l
      exact absurd e0 (S.apart x (List.mem_of_getElem? h1))
     ·exact h3
    ·obtain⟨o,ho,hd⟩:=hcell
     exact⟨o,old _ _ ho,hd⟩
 ·obtain⟨v,o,ho,hd⟩:=I2.cell x c (sub x c e)
  exact⟨v,o,old _ _ ho,hd⟩
 ·show(Yh own.length ix σ).length=(own++fr).length
  unfold Yh;rw[List.length_append,List.length_replicate,List.length_map,List.length_append,sl]
theorem Sv{pins:List (Addr×Obj)}{σ:St}{H2:Hp}{s2:Shared}{fp:List Addr}{it:Addr}{tn:Nat->Heap->Prop}{J:It}{Fin:List V->Hp->Prop}{RR:Value->Addr->Result->Shared->Prop}{E:Value->Shared->Prop}
  (hcalm:X.calm=true) (S:CompScope X.N X.env.scope scope own fr ix)
  (hg:∀cl C s H ex,PG (ZO X (own++fr) scope cl C s H ex) tg g) (ht:∀cl C s H ex,L7 (ZO X (own++fr) scope cl C s H ex) ifs tt) (he:∀cl C s H ex,PE (ZO X (own++fr) scope cl C s H ex) elt te)
  (I2:Inv X pins σ H2 s2) (T:My X.prog X.w X.K tg J fp it tn) (st2:tn 0 s2.heap) (f2:∀b∈fp,T5 X pins H2 b)
  {W:Nat->Nat->List V->Hp->Prop} {m0:Nat} (w0:W 0 m0 [] H2)
  (turn:∀i m ys H,W i m ys H->ys.length<=sizeLine/\
   ((J.stop i H/\Fin ys H)\/
    (J.go i H/\∃N:List V->Hp->Prop,(∀ys' H',N ys' H'->∃m',m'<m/\W (i+1) m' ys' H')/\
     ∀x H',J.yld i H x H'->g x (Yh own.length ix σ) H' fun σ2 H2=>σ2.drop own.length=(Yh own.length ix σ).drop own.length/\tt σ2 H2 fun b H3=>if b=true then te σ2 H3 fun y H4=>N (ys++[y]) H4 else N ys H3)))
  (hRR:∀(D C:Addr)(oC:Obj)(m:Str->Option Value)(s':Shared)(H':Hp)(ys:List V),Inv X (pins++[(C,oC)]) σ (upd H' D (.lst ys)) s'->s'.heap.get? C=some oC->s'.heap.Ns C m->T5 X pins (upd H' D (.lst ys)) C->H' D=none->Fin ys H'->RR (.ref D) C (.ok .next) s') :
  wpAny (model X.prog X.w) X.A (newList []) (fun acc s₃=>wpAny (model X.prog X.w) X.A (newFunctionEnv scope X.env.globals (YY X.env.cells scope.names []) [] X.env.qual none .none (some X.env)) (fun cenv s₄=>
   codeAny (model X.prog X.w) X.A (.compStart (.ListComp elt [⟨tg,iter,ifs,0⟩] scope pos) 0 (.ref it) acc { cenv with scope:=relabel scope X.env }) (RR acc cenv.locals) s₄) E s₃) E s2:=by
 have hfp:∀b∈fp,b<s2.heap.objs.size:=fun b hb=>by
  obtain⟨o,e,_⟩:=T.obj 0 s2.heap st2 b hb
  exact Heap.lt_size e
 refine wpAny_newObj_type (wpAny_newFunctionEnv S.nocell (by intro y hy;simp at hy) (fun h₁ hns₁ hsb₁=>?_) S.kind)
 dsimp only at hns₁ hsb₁ ⊢
 generalize hH2:s2.heap.push { cls:=.type "list",dict:=none,data:=.seq ([]:List Value).toArray }=G2 at hns₁ hsb₁ ⊢
 have hC:G2.objs.size=s2.heap.objs.size+1:=by rw[<-hH2,Heap.size_push]
 generalize hCC:G2.objs.size=C at hns₁ hsb₁ hC ⊢
 generalize hDD:s2.heap.objs.size=D at hC ⊢
 have hDC:D≠C:=by omega
 have below:∀b,b<s2.heap.objs.size->b≠C/\b≠D:=fun b hb=>by
  rw[hDD] at hb
  exact⟨Nat.ne_of_lt (by omega),Nat.ne_of_lt hb⟩
 have old:∀b o,s2.heap.get? b=some o->h₁.get? b=some o:=fun b o e=>hsb₁.extBut b o (below b (Heap.lt_size e)).1 (Heap.get?_push_of_some _ (hH2▸Heap.get?_push_of_some _ e))
 have hacc:h₁.get? D=some { cls:=.type "list",data:=.seq ([]:List Value).toArray 0 }:=by
  have e0:G2.get? D=some { cls:=.type "list",data:=.seq ([]:List Value).toArray 0 }:=by
   rw[<-hH2,<-hDD]
   exact Heap.get?_push_size _ rfl
  exact hsb₁.extBut _ _ hDC (Heap.get?_push_of_some _ e0)
 have hns₁':h₁.Ns C fun _=>none:=by simpa using hns₁
 have I0:=fun tk=>L8 (tk:=tk) S I2 f2 hfp (C:=C) (by omega) hns₁' old
 -- what stays true of the iterator's objects in the block
 have loop:∀s₃:Shared,s₃={ s2 with heap:=h₁,toks:=s2.toks+([]:List (Str×Value)).length }->
   codeAny (model X.prog X.w) X.A (.compLoop (.ListComp elt [⟨tg,iter,ifs,0⟩] scope pos) 0 (.ref it) (.ref D) (compEnvC scope (YY X.env.cells scope.names []) C X.env)) (RR (.ref D) C) s₃:=by
  rintro s₃ rfl
  generalize hY:ZO X (own++fr) scope (YY X.env.cells scope.names []) C s2 H2 fp=Y at I0
  have stat:∀{H':Hp}{pn:List (Addr×Obj)},(∀b∈fp,H' b=none)->(∀p∈pn,∀b∈fp,p.1≠b)->∀b∈fp,T5 Y pn H' b:=fun{H' pn} hn hp b hb=>by
   subst hY
   refine⟨hn b hb,(below b (hfp b hb)).1,fun z=>?_,.inl hb,fun x c e=>?_,fun p hp'=>hp p hp' b hb⟩
   ·exact(I0 0).ok.exfs b hb z
   ·exact((I0 0).ok.exf b hb).2 x c e
  have dfp:∀b∈fp,D≠b:=fun b hb=>Ne.symm (below b (hfp b hb)).2
  have hcellD:∀x c,Y.env.cells.lookup x=some c->c≠D:=fun x c e z=>by
   subst hY
   have e:(YY X.env.cells scope.names []).lookup x=some c:=e
   have e':=U3 scope.names [] (S.clos I2) (fun h=>by simp at h) e
   obtain⟨v,q⟩:=I2.cell x c e'
   exact(below c q.lt).2 z
  have hfsD:D∉Y.fs:=fun z=>by
   subst hY
   obtain⟨_,o,ho,_⟩:=(I0 0).ok.funs.mem z
   have:=Heap.lt_size ho
   have:D<s2.heap.objs.size:=this
   omega
  have eL:Y.env.locals=C:=by subst hY;rfl
  have eS:Y.s₀=s2:=by subst hY;rfl
  have eP:Y.pn=[]:=by subst hY;rfl
  refine Qy (fun n s'=>∃i ys its nn H',Inv Y [] (Yh own.length ix σ) H' s'/\tn i s'.heap/\(∀b∈fp,H' b=none)/\s'.heap.get? D=some { cls:=.type "list",data:=.seq its nn }/\Vals ys its.toList/\H' D=none/\W i n ys H') ?_ m0
   ⟨0,[],#[],0,H2,I0 _,T.keep _ _ _ st2 fun b _ o e=>old b o e,fun b hb=>(f2 b hb).1,hacc,.nil,I2.hok.fresh (by omega),w0⟩
  rintro n s3 ⟨i,ys,its,nn,H3,I3,st3,fr3,oD,vD,nD,w3⟩
  obtain⟨hlen,cases3⟩:=turn i n ys H3 w3
  have hsize:its.size<=sizeLine:=by
   have:=vD.length
   simp only[Array.length_toList] at this;omega
  have pD:Inv Y [(D,{ cls:=.type "list",data:=.seq its nn })] (Yh own.length ix σ) H3 s3:=I3.pins_of fun p hp=>by
   rw[List.mem_singleton.mp hp]
   exact⟨oD,nD,by rw[eL];exact hDC,hfsD,fun v z=>by cases z⟩
  have YP:Y.prog=X.prog:=by subst hY;rfl
  have Yw:Y.w=X.w:=by subst hY;rfl
  have YK:Y.K=X.K:=by subst hY;rfl
  have YA:Y.A=X.A:=by subst hY;rfl
  have Yx:Y.xe=fun _ _=>False:=by subst hY;rfl
  have Ye:Y.env=compEnvC scope (YY X.env.cells scope.names []) C X.env:=by subst hY;rfl
  have ne1:∀p∈[((D,{ cls:=.type "list",data:=.seq its nn }):Addr×Obj)],∀b∈fp,p.1≠b:=fun p hp b hb=>by rw[List.mem_singleton.mp hp];exact dfp b hb
  rcases cases3 with⟨stop,qn⟩ | ⟨go,N,hN,step⟩
  ·have d:=T.done Y YP Yw YK (by subst hY;exact hcalm) i _ s3 _ H3 (notedBy (model X.prog X.w) X.A (compEnvC scope (YY X.env.cells scope.names []) C X.env) fun e s'=>RR (.ref D) C (.error e) s') pD (stat fr3 ne1) st3 stop
   rw[YA] at d
   refine YO d fun r s4 ⟨hr,I4⟩=>?_
   subst hr
   show RR (.ref D) C (.ok .next) s4
   obtain⟨oD4,nD4,_⟩:=I4.pin (D,_) (by rw[eP];exact List.mem_cons_self)
   obtain⟨m,hn,_⟩:=I4.loc
   rw[eL] at hn
   obtain⟨oC,es,ep,hoC,hdC,hrest⟩:=id hn
   have hfreeC:H3 C=none:=by have:=I4.free;rw[eL] at this;exact this
   have un:Un (Oy X.stack) fp H2 H3 s2.heap s4.heap:=by
    have:=I4.base
    subst hY;exact this
   have lt2:∀b o,s2.heap.get? b=some o->b≠D:=fun b o e=>(below b (Heap.lt_size e)).2
   have un':Un (Oy X.stack) fp H2 (upd H3 D (.lst ys)) s2.heap s4.heap:=by
    refine⟨un.keep,un.slot,fun b o e n hx=>?_,un.there,fun b xs e=>?_,fun b o u e=>?_,fun b ps e=>?_⟩
    ·rw[upd_ne (lt2 b o e)];exact un.free b o e n hx
    ·have q:=un.tups b xs e
     rw[upd_ne (ZK q nD4)];exact q
    ·have q:=un.frzs b o u e
     rw[upd_ne (ZK q nD4)];exact q
    ·obtain⟨more,q⟩:=un.tbls b ps e
     exact⟨more,by rw[upd_ne (ZK q nD4)];exact q⟩
   have hok4:HOk X.prog X.w H3 s4.heap:=by
    have:=I4.hok
    rw[YP,Yw] at this;exact this
   have hok':HOk X.prog X.w (upd H3 D (.lst ys)) s4.heap:=fun b u q=>by
    by_cases hb:b=D
    ·subst hb
     rw[Zq] at q;cases q
     exact⟨hlen,its.toList,nn,vD,by simpa using oD4⟩
    ·rw[upd_ne hb] at q
     exact(hok4 b u q).stay (fun c v _ z=>z) (fun c z=>by rw[upd_ne (ZK z nD4)];exact z) fun c xs z=>by rw[upd_ne (ZK z nD4)];exact z
   have os4:s4.os=s2.os:=by rw[I4.os,eS]
   have I5:Inv X pins σ (upd H3 D (.lst ys)) s4:=I2.call' os4 un' hok' I4.bare fun b hb=>⟨(f2 b hb).2.2.2.1,(f2 b hb).2.1,(f2 b hb).2.2.2.2.1,(f2 b hb).2.2.2.2.2⟩
   have CL:C≠X.env.locals:=fun z=>by
    exact(below _ I2.lt).1 z.symm
   have fpC:T5 X pins (upd H3 D (.lst ys)) C:=I2.fpOk (by omega) (by rw[upd_ne (Ne.symm hDC)];exact hfreeC)
   refine hRR D C oC m s4 H3 ys (I5.pins_of fun p hp=>?_) hoC hn fpC nD4 qn
   rcases List.mem_append.mp hp with z | z
   ·exact I5.pin p (List.mem_append_right _ z)
   ·rw[List.mem_singleton.mp z]
    exact⟨hoC,fpC.1,fpC.2.1,fpC.2.2.1,fun v z=>by rw[hdC] at z;cases z⟩
  ·have d:=T.item Y YP Yw YK (by subst hY;exact hcalm) i _ s3 _ H3 (fun _ _=>False) pD (stat fr3 ne1) st3 go
   rw[YA] at d
   refine wpAny_mono d (fun r s4 ⟨u,hr,h4⟩=>?_) fun _ _ z=>z.elim
   subst hr
   refine wpAny_mono h4 (fun _ s5 ⟨x,H5,I5,r5,y5,st5,fr5⟩=>?_) fun _ _ z=>z.elim
   have I5':=I5.pinned (stat fr5 ne1) (T.obj _ _ st5)
   have hg':=hg (YY X.env.cells scope.names []) C s2 H2 fp
   have ht':=ht (YY X.env.cells scope.names []) C s2 H2 fp
   have he':=he (YY X.env.cells scope.names []) C s2 H2 fp
   rw[hY] at hg' ht' he'
   have a6:=hg' _ s5 _ H5 x u _ I5' r5 (step x H5 y5)
   rw[YP,Yw,YA,Ye,Yx] at a6
   refine wpAny_mono a6 (fun _ s6 ⟨σ6,H6,I6,dr,q6⟩=>?_) fun _ _ z=>z.elim
   have a7:=ht' _ s6 σ6 H6 _ I6 q6;rw[YP,Yw,YA,Ye,Yx] at a7
   refine wpAny_mono a7 (fun ok s7 ⟨H7,I7,q7⟩=>?_) fun _ _ z=>z.elim
   have back:∀{H8:Hp}{s8:Shared},Inv Y ([((D,{ cls:=.type "list",data:=.seq its nn }):Addr×Obj)]++UY fp s5.heap) σ6 H8 s8->
     s8.heap.get? D=some { cls:=.type "list",data:=.seq its nn }/\H8 D=none/\tn (i+1) s8.heap/\(∀b∈fp,H8 b=none):=fun{H8 s8} I8=>by
    obtain⟨e1,e2,_⟩:=I8.pin (D,{ cls:=.type "list",data:=.seq its nn }) (by rw[eP];exact List.mem_cons_self)
    refine⟨e1,e2,T.keep _ _ _ st5 fun b hb o e=>(I8.pin (b,o) (by rw[eP];exact List.mem_cons_of_mem _ (WO hb e))).1,fun b hb=>?_⟩
    obtain⟨o,e,_⟩:=T.obj _ _ st5 b hb
    exact(I8.pin (b,o) (by rw[eP];exact List.mem_cons_of_mem _ (WO hb e))).2.1
   have unp:∀{H8:Hp}{s8:Shared},Inv Y ([((D,{ cls:=.type "list",data:=.seq its nn }):Addr×Obj)]++UY fp s5.heap) σ6 H8 s8->Inv Y [] (Yh own.length ix σ) H8 s8:=fun{H8 s8} I8=>
    (I8.pins_of (pins':=[]) fun p hp=>absurd hp (by simp)).weak (by
     have e1:=(I0 0).len
     have e2:=I8.len
     rw[e1,e2]) (MK dr)
   cases ok with
   | false=>
    rw[if_neg Bool.false_ne_true] at q7
    show ∃m,m<n/\_
    obtain⟨e1,e2,e3,e4⟩:=back I7
    obtain⟨m',hm,w7⟩:=hN _ _ q7
    exact⟨m',hm,i+1,ys,its,nn,H7,unp I7,e3,e4,e1,vD,e2,w7⟩
   | true=>
    rw[if_pos rfl] at q7
    show wpAny _ _ _ _ _ _
    have a8:=he' _ s7 σ6 H7 _ I7 q7;rw[YP,Yw,YA,Ye,Yx] at a8
    refine wpAny_mono a8 (fun yv s8 ⟨y,H8,I8,ry,q8⟩=>?_) fun _ _ z=>z.elim
    obtain⟨e1,e2,e3,e4⟩:=back I8
    obtain⟨m',hm,w8⟩:=hN _ _ q8
    refine append_at e1 (fun h9 hs9 hD9=>?_) hsize
    have I9:Inv Y [] (Yh own.length ix σ) H8 { s8 with heap:=h9 }:=(unp I8).turned (t':=s8.toks) (it:=D) (fun b o hb e=>hs9.extBut b o hb e) e2 (by rw[eL];exact hDC) (.inr (by rw[eS];omega)) hcellD (fun p hp=>absurd (show p∈([]:List (Addr×Obj)) by rw[eP] at hp;exact hp) (by simp))
    refine⟨m',hm,i+1,ys++[y],its.push yv,nn+1,H8,I9,T.keep _ _ _ e3 fun b hb o e=>hs9.extBut b o (Ne.symm (dfp b hb)) e,e4,hD9,?_,e2,w8⟩
    rw[Array.toList_push]
    exact vD.append (.cons ry .nil)
 exact codeAny_compStart_list (loop _ rfl) (T.self X.A 0 _ _ _ (T.keep _ _ _ st2 fun b _ o e=>old b o e) (loop _ rfl))
theorem Ib(hcalm:X.calm=true)(hi:PI X tg iter wi)(S:CompScope X.N X.env.scope scope own fr ix)
  (hg:∀cl C s H ex,PG (ZO X (own++fr) scope cl C s H ex) tg g) (ht:∀cl C s H ex,L7 (ZO X (own++fr) scope cl C s H ex) ifs tt) (he:∀cl C s H ex,PE (ZO X (own++fr) scope cl C s H ex) elt te)
  (hs:∀x,foldedSetIterable iter X.env x=pure x:=by intro _;rfl):PE X (.ListComp elt [⟨tg,iter,ifs,0⟩] scope pos) (R0 own.length ix wi g tt te):=by
 intro pins s σ H Q I h;rw[eval_ListComp]
 refine wpAny_comprehension_free (use:=none) (cl:=YY X.env.cells scope.names []) rfl hs (V8 (S.clos I)) S.kind S.names (YO (hi pins s σ H _ I h) fun v s1 h1=>YO h1 fun itv s2 h2=>?_)
 obtain⟨it,fp,tn,J,H2,e,I2,T,st2,f2,W,⟨m0,w0⟩,turn⟩:=h2
 subst e
 refine Sv (Fin:=fun ys H=>∀p,H p=none->Q (.ref p) (upd H p (.lst ys))) (RR:=fun acc C=>compPost (model X.prog X.w) X.A X.xe none (EP X pins σ Q) acc C) hcalm S hg ht he I2 T st2 f2 w0 turn ?_
 intro D C oC m s' H' ys I5 hoC hn fpC nD fin
 refine⟨m,hn,fun h' hs'=>⟨.ref D,upd H' D (.lst ys),?_,rfl,fin D nD⟩⟩
 exact(I5.unpinned (pl:=[(C,oC)])).turned (t':=s'.toks) (it:=C) (fun b o hb e=>hs'.extBut b o hb e) fpC.1 fpC.2.1 fpC.2.2.2.1 fpC.2.2.2.2.1 fpC.2.2.2.2.2
theorem Ic{i:Nat}{y:Str}{py spos:Pos}(hN:X.N.Nodup)(hy:X.N[i]?=some y)(hloc:X.env.scope.names.lookup y=some .local)(hcalm:X.calm=true)(hi:PI X tg iter wi)(S:CompScope X.N X.env.scope scope own fr ix)
  (hg:∀cl C s H ex,PG (ZO X (own++fr) scope cl C s H ex) tg g) (ht:∀cl C s H ex,L7 (ZO X (own++fr) scope cl C s H ex) ifs tt) (he:∀cl C s H ex,PE (ZO X (own++fr) scope cl C s H ex) elt te)
  (hsw:swapsWith (.ListComp elt [⟨tg,iter,ifs,0⟩] scope pos) (some (.Name y py)) spos.line X.env=pure true:=by rfl)
  (hs:∀x,foldedSetIterable iter X.env x=pure x:=by intro _;rfl):PS X (.Assign [.Name y py] (.ListComp elt [⟨tg,iter,ifs,0⟩] scope pos) spos) (Qt (R0 own.length ix wi g tt te) (Ut i)):=by
 intro pins s σ H D0 I h;rw[exec_Assign_Name_used _ _ _ _ hsw]
 refine wpAny_bind (wpAny_standAt (wpAny_bind ?_))
 show wpAny _ X.A (do let _ <-comprehension (.ListComp elt [⟨tg,iter,ifs,0⟩] scope pos) scope X.env _ (newList []) false (eval iter X.env) (some (assign (.Name y py) X.env))) _ _ s
 refine wpAny_bind (wpAny_mono (wpAny_comprehension_free (cl:=YY X.env.cells scope.names []) (use:=some (assign (.Name y py) X.env)) (Q:=fun _ s'=>SP X pins D0 .next s') (E:=X.xe) rfl hs (V8 (S.clos I)) S.kind S.names
  (YO (hi pins s σ H _ I h) fun v s1 h1=>YO h1 fun itv s2 h2=>?_)) (fun _ s' hq=>wpAny_pure (wpAny_pure hq)) fun _ _ e=>e)
 obtain⟨it,fp,tn,J,H2,e,I2,T,st2,f2,W,⟨m0,w0⟩,turn⟩:=h2
 subst e
 refine Sv (Fin:=fun ys H=>∀p,H p=none->Ut i (.ref p) σ (upd H p (.lst ys)) D0.nx) (RR:=fun acc C=>compPost (model X.prog X.w) X.A X.xe (some (assign (.Name y py) X.env)) (fun _ s'=>SP X pins D0 .next s') acc C) hcalm S hg ht he I2 T st2 f2 w0 turn ?_
 intro D C oC m s' H' ys I5 hoC hn fpC nD fin
 show wpAny _ X.A (assign (.Name y py) X.env (.ref D)) _ _ _
 refine wpAny_assign_Name (Vd I5 hN hy (.inl hloc) (v:=.ref D) rfl (fun s6 I6=>?_) (.inr hloc))
 obtain⟨e6,_⟩:=I6.pin (C,oC) (List.mem_append_right _ (List.mem_append_right _ List.mem_cons_self))
 obtain⟨o',es,ep,ho',r'⟩:=hn
 rw[hoC] at ho';cases ho'
 refine⟨m,⟨oC,es,ep,e6,r'⟩,fun h' hs'=>⟨_,upd H' D (.lst ys),?_,fin D nD⟩⟩
 exact(I6.unpinned (pl:=[(C,oC)])).turned (t':=s6.toks) (it:=C) (fun b o hb e=>hs'.extBut b o hb e) fpC.1 fpC.2.1 fpC.2.2.2.1 fpC.2.2.2.2.1 fpC.2.2.2.2.2
end
open AutoSeq1 (wpAny_loadPart')
section
variable {prog:Program} {w:World} {A:Around} {E:Value->Shared->Prop} {s:Shared}
theorem Ux{it l:Addr}{i:Nat}{items}{x:Value}{Q:Value->Shared->Prop}(hit:s.heap.IsTupleIter it l i)
  (hl:s.heap.IsTuple l items) (hx:items[i]?=some x)
  (hQ:∀h',h'.IsTupleIter it l (i+1)->Heap.SameBut it s.heap h'->Q x { s with heap:=h' }) :
  wpAny (model prog w) A (Builtin.SmallTypes.nextOf (.ref it)) Q E s:=by
 obtain⟨o,ho,hc,hd⟩:=id hit
 obtain⟨ol,hol,_,nl,hdl⟩:=hl
 unfold Builtin.SmallTypes.nextOf
 refine wpAny_bind (wpAny_callSpecial?_slot (name:=Str.ofString "__next__") hit.typeIs F.slot_tuple_iterator_next
  (wpAny_call_entry F.slot_tuple_iterator_next hit.typeIs F.entry_tuple_iterator_next ?_ (F.args_tuple_iterator_next_1 _)))
 show wpAny _ _ (field (.ref it) 0 >>= _) _ _ s
 refine wpAny_bind (wpAny_field ho hd (x:=.ref l) rfl ?_)
 show wpAny _ _ (if(Value.ref l==Value.none)=true then _ else _) _ _ s
 rw[if_neg (show ¬((Value.ref l==Value.none)=true) from Bool.false_ne_true)]
 show wpAny _ _ (field (.ref it) 1 >>= _) _ _ s
 refine wpAny_bind (wpAny_field ho hd (x:=.int i 0) rfl ?_)
 show wpAny _ _ (seqItems? (.ref l) >>= _) _ _ s
 refine wpAny_bind (wpAny_seqItems hol hdl ?_)
 simp only[Int.toNat_natCast,hx]
 refine wpAny_bind (wpAny_setField ho hd (by simp) (wpAny_pure ⟨x,rfl,wpAny_pure (hQ _ ?_ (Heap.SameBut.update ..))⟩))
 exact⟨_,Heap.get?_update_self _ ho (Obj.isFreed_of_fields (Obj.data_mapFields hd _)),(Obj.cls_mapFields ..).trans hc,by
  rw[Obj.data_mapFields hd];simp[rawInt]⟩
theorem U5{it l:Addr}{i:Nat}{items}{Q:Value->Shared->Prop}(hh:A.handled=none)
  (hit:s.heap.IsTupleIter it l i) (hl:s.heap.IsTuple l items) (hx:items[i]?=none)
  (hE:∀h' e,Heap.ExtBut it s.heap h'->(∃o,h'.get? e=some o/\o.cls = .type "StopIteration")->E (.ref e) { s with heap:=h' }) :
  wpAny (model prog w) A (Builtin.SmallTypes.nextOf (.ref it)) Q E s:=by
 obtain⟨o,ho,hc,hd⟩:=id hit
 obtain⟨ol,hol,_,nl,hdl⟩:=hl
 unfold Builtin.SmallTypes.nextOf
 refine wpAny_bind (wpAny_callSpecial?_slot (name:=Str.ofString "__next__") hit.typeIs F.slot_tuple_iterator_next
  (wpAny_call_entry F.slot_tuple_iterator_next hit.typeIs F.entry_tuple_iterator_next ?_ (F.args_tuple_iterator_next_1 _)))
 show wpAny _ _ (field (.ref it) 0 >>= _) _ _ s
 refine wpAny_bind (wpAny_field ho hd (x:=.ref l) rfl ?_)
 show wpAny _ _ (if(Value.ref l==Value.none)=true then _ else _) _ _ s
 rw[if_neg (show ¬((Value.ref l==Value.none)=true) from Bool.false_ne_true)]
 show wpAny _ _ (field (.ref it) 1 >>= _) _ _ s
 refine wpAny_bind (wpAny_field ho hd (x:=.int i 0) rfl ?_)
 show wpAny _ _ (seqItems? (.ref l) >>= _) _ _ s
 refine wpAny_bind (wpAny_seqItems hol hdl ?_)
 simp only[Int.toNat_natCast,hx]
 refine wpAny_bind (wpAny_rule (wpAny_bind (wpAny_setField ho hd (by simp) ?_)))
 show wpAny _ _ (newExc (.type "StopIteration") [] >>= _) _ _ _
 refine wpAny_bind ?_
 simp only[newExc,newTuple]
 refine wpAny_bind (wpAny_newObj_type ?_ (by size_fits))
 refine wpAny_bind (m:=firstArgMember _ _) (wpAny_of_eq (a:=Value.none) (by first | rfl | (simp only[firstArgMember];rfl)) ?_)
 refine wpAny_newObj_type ?_ (by size_fits)
 simp only[raiseNew]
 refine wpAny_bind (wpAny_handled ?_)
 first | rw[show A.in1.handled=none from hh] | rw[hh]
 refine wpAny_bind (wpAny_pure (wpAny_throw ?_))
 exact hE _ _ (((Heap.SameBut.update ..).extBut.push _).push _) ⟨_,Heap.get?_push_size _ rfl,rfl⟩
end
def SeqB(b:Bool)(h:Heap)(a:Addr)(its:Array Value):Prop:=if b=true then h.IsList a its else h.IsTuple a its
def IterB(b:Bool)(h:Heap)(it a:Addr)(i:Nat):Prop:=if b=true then h.IsListIter it a i else h.IsTupleIter it a i
def ML(b:Bool)(K:PySem.W.Frag)(H:Hp)(a:Addr)(xs:List V):Prop:=if b=true then SqL K H a xs else SqT K H a xs
def Sw(b:Bool)(a:Addr):Obj:={ cls:=.type (if b=true then "list_iterator" else "tuple_iterator"),data:=.fields #[.ref a,.int 0 0] }
theorem SeqB.at{b:Bool}{h h':Heap}{a:Addr}{its:Array Value}(x:SeqB b h a its)(k:∀o,h.get? a=some o->h'.get? a=some o):SeqB b h' a its:=by
 cases b with
 | true=>obtain⟨o,e,r⟩:=(show h.IsList a its from x);exact⟨o,k o e,r⟩
 | false=>obtain⟨o,e,r⟩:=(show h.IsTuple a its from x);exact⟨o,k o e,r⟩
theorem SeqB.has{b:Bool}{h:Heap}{a:Addr}{its:Array Value}(x:SeqB b h a its):∃o,h.get? a=some o:=by
 cases b with
 | true=>obtain⟨o,e,r⟩:=(show h.IsList a its from x);exact⟨o,e⟩
 | false=>obtain⟨o,e,r⟩:=(show h.IsTuple a its from x);exact⟨o,e⟩
theorem IterB.at{b:Bool}{h h':Heap}{it a:Addr}{i:Nat}(x:IterB b h it a i)(k:∀o,h.get? it=some o->h'.get? it=some o):IterB b h' it a i:=by
 cases b with
 | true=>obtain⟨o,e,r⟩:=(show h.IsListIter it a i from x);exact⟨o,k o e,r⟩
 | false=>obtain⟨o,e,r⟩:=(show h.IsTupleIter it a i from x);exact⟨o,k o e,r⟩
theorem IterB.has{b:Bool}{h:Heap}{it a:Addr}{i:Nat}(x:IterB b h it a i):∃o,h.get? it=some o/\∀v,o.data≠.cell v:=by
 cases b with
 | true=>obtain⟨o,e,_,d⟩:=(show h.IsListIter it a i from x);exact⟨o,e,fun v z=>by rw[d] at z;cases z⟩
 | false=>obtain⟨o,e,_,d⟩:=(show h.IsTupleIter it a i from x);exact⟨o,e,fun v z=>by rw[d] at z;cases z⟩
theorem IterB.new{b:Bool}{h:Heap}{it a:Addr}(e:h.get? it=some (Sw b a)):IterB b h it a 0:=by
 cases b with
 | true=>exact⟨_,e,rfl,rfl⟩
 | false=>exact⟨_,e,rfl,rfl⟩
section
variable {X:Cx} {pins:List (Addr×Obj)} {σ:St} {H:Hp} {s:Shared} {a:Addr} {xs ys:List V} {b:Bool}
theorem Inv.seqB(I:Inv X pins σ H s)(h:ML b X.K H a xs):∃its:List Value,Vals xs its/\SeqB b s.heap a its.toArray/\xs.length<=sizeLine:=by
 cases b with
 | true=>
  obtain⟨its,r,p,z⟩:=I.list (show SqL X.K H a xs from h)
  exact⟨its,r,p.isList,z⟩
 | false=>
  obtain⟨its,r,p,z⟩:=I.tuple (show SqT X.K H a xs from h)
  exact⟨its,r,p,z⟩
theorem Inv.seqB_inj(I:Inv X pins σ H s)(h:ML b X.K H a xs)(h':ML b X.K H a ys):xs=ys:=by
 cases b with
 | true=>exact I.list_inj (show SqL X.K H a xs from h) (show SqL X.K H a ys from h')
 | false=>exact I.tuple_inj (show SqT X.K H a xs from h) (show SqT X.K H a ys from h')
end
theorem Draws.seq{prog:Program}{w:World}{A:Around}(b:Bool)(hh:A.handled=none)(it l:Addr)(hne:l≠it)(items:Array Value) :
  Draws prog w A it [it,l] items.size (fun i v=>items[i]?=some v) (fun i h=>IterB b h it l i/\SeqB b h l items) where
 live:=fun _ _ st=>let⟨o,ho,_⟩:=st.1.has;⟨o,ho⟩
 frame:=fun _ _ _ st hk=>⟨st.1.at fun o e=>hk it (by simp) o e,st.2.at fun o e=>hk l (by simp) o e⟩
 item:=fun i s Q E hi st hQ=>by
  cases b with
  | true=>
   refine wpAny_nextOf_list_item (show s.heap.IsListIter it l i from st.1) (show s.heap.IsList l items from st.2) (x:=items[i]) (by simp[hi]) fun h' hit' hs'=>?_
   exact hQ _ h' s.toks (by simp[hi]) ⟨hit',st.2.at fun o e=>hs'.extBut l o hne e⟩ hs'
  | false=>
   refine Ux (show s.heap.IsTupleIter it l i from st.1) (show s.heap.IsTuple l items from st.2) (x:=items[i]) (by simp[hi]) fun h' hit' hs'=>?_
   exact hQ _ h' s.toks (by simp[hi]) ⟨hit',st.2.at fun o e=>hs'.extBut l o hne e⟩ hs'
 done:=fun s Q E st hE=>by
  cases b with
  | true=>exact wpAny_nextOf_list_end hh (show s.heap.IsListIter it l _ from st.1) (show s.heap.IsList l items from st.2) (by simp) hE
  | false=>exact U5 hh (show s.heap.IsTupleIter it l _ from st.1) (show s.heap.IsTuple l items from st.2) (by simp) hE
theorem XA{prog:Program}{w:World}{A:Around}{E:Value->Shared->Prop}{s:Shared}{b:Bool}{a:Addr}{its:Array Value}{Q:Value->Shared->Prop}(h:SeqB b s.heap a its)
  (hQ:Q (.ref s.heap.objs.size) { s with heap:=s.heap.push (Sw b a) }):wpAny (model prog w) A (pyIter (.ref a)) Q E s:=by
 cases b with
 | true=>exact wpAny_pyIter_list (show s.heap.IsList a its from h) hQ
 | false=>exact wpAny_pyIter_tuple (show s.heap.IsTuple a its from h) hQ
set_option maxHeartbeats 4000000 in
theorem Sx(b:Bool)(l:Addr)(items:Array Value) :
  Meets (Builtin.«enumerate.__new__» ⟨[.type "enumerate",.ref l],[]⟩) (fun _ R s=>SeqB b s.heap l items/\
   R (.ok (.ret (.ref (s.heap.push (Sw b l)).objs.size)))
    { s with heap:=(s.heap.push (Sw b l)).push { cls:=.type "enumerate",data:=.fields #[.none,.bool false,.ref s.heap.objs.size,rawInt 0,.none,.none] } }):=
 .of_wp fun prog w A R s h=>by
  obtain⟨hp,g,d,tk,os⟩:=s;obtain⟨hl,h⟩:=h
  have hsub:=sub_enumerate
  obtain⟨o,ho⟩:=hl.has
  have hL:SeqB b (Shared.heap ⟨hp,g,d,tk,os⟩) l items:=hl
  wp_walk using wpAny_loadPart' ho
  refine wpAny_stack_any fun st=>wpAny_pure ?_
  split
  ·rename_i c _ _ _ _ _
   cases (c==Value.type "enumerate")
   ·wp_walk using wpAny_loadPart' ho,XA hL
    exact⟨_,rfl,h⟩
   ·wp_walk using wpAny_loadPart' ho,XA hL
    exact⟨_,rfl,h⟩
  ·wp_walk using wpAny_loadPart' ho,XA hL
   exact⟨_,rfl,h⟩
section
variable {prog:Program} {w:World} {A:Around} {E:Value->Shared->Prop} {s:Shared}
theorem RI{b:Bool}{l:Addr}{items:Array Value}{Q:Value->Shared->Prop}(hL:SeqB b s.heap l items)
  (h:∀h',IsEnum h' (s.heap.objs.size+1) s.heap.objs.size 0 .none->IterB b h' s.heap.objs.size l 0->h'.objs.size=s.heap.objs.size+2->
   (∀b o,s.heap.get? b=some o->h'.get? b=some o)->Q (.ref (s.heap.objs.size+1)) { s with heap:=h' }) :
  wpAny (model prog w) A (call (.type "enumerate") [.ref l]) Q E s:=by
 refine callType_new F.called_enumerate (by decide) (F.typeCall_enumerate_1 _) (F.newCall_enumerate_1 _) (fun obj=>F.args_object_init_2 obj _) F.entry_enumerate_new
  (Sx b l items) ⟨hL,?_⟩
 have hz:(s.heap.push (Sw b l)).objs.size=s.heap.objs.size+1:=Heap.size_push ..
 show _/\_
 rw[hz]
 have he:IsEnum ((s.heap.push (Sw b l)).push
   { cls:=.type "enumerate",data:=.fields #[.none,.bool false,.ref s.heap.objs.size,rawInt 0,.none,.none] }) (s.heap.objs.size+1) s.heap.objs.size 0 .none:=by
  have:=Heap.get?_push_size (s.heap.push (Sw b l))
   (o:={ cls:=.type "enumerate",data:=.fields #[.none,.bool false,.ref s.heap.objs.size,rawInt 0,.none,.none] }) rfl
  rw[hz] at this;exact this
 refine⟨⟨_,he,rfl⟩,h _ he (IterB.new (Heap.get?_push_of_some _ (Heap.get?_push_size _ rfl))) (by rw[Heap.size_push,hz]) fun b o x=>Heap.get?_push_of_some _ (Heap.get?_push_of_some _ x)⟩
end
def Du(b:Bool)(K:PySem.W.Frag)(a:Addr):It:=
  ⟨fun i H=>∃xs x,ML b K H a xs/\xs[i]?=some x,
   fun i H v H'=>∃p x,H p=none/\v = .ref p/\H'=upd H p (.tup [.int i,x])/\∀xs,ML b K H a xs->xs[i]?=some x,
   fun i H=>∃xs,ML b K H a xs/\xs.length=i⟩
theorem MM{P:Program}{w:World}{K:PySem.W.Frag}{elts:List Expr}{k:Nat}{pos:Pos}(b:Bool)(a e it:Addr)(hei:e≠it) :
  My P w K (.Tuple elts k pos) (Du b K a) [e,it] e (fun i h=>(∃old,IsEnum h e it i old)/\IterB b h it a i) where
 mem:=by simp
 obj:=fun i h st c hc=>by
  rcases List.mem_cons.mp hc with rfl | hc
  ·obtain⟨⟨old,q⟩,_⟩:=st
   exact⟨_,q,fun v z=>by cases z⟩
  ·rw[List.mem_singleton.mp hc]
   exact st.2.has
 keep:=fun i h h' st kk=>⟨let⟨old,q⟩:=st.1;⟨old,kk e (by simp) _ q⟩,st.2.at fun o q=>kk it (by simp) o q⟩
 item:=by
  intro X hP hw hK hc i pins s σ H E I hf st hg
  subst hP hw hK
  obtain⟨xs,x,hq,hx⟩:=hg
  obtain⟨its,rv,p,hz⟩:=I.seqB hq
  obtain⟨u,hu,ru⟩:=rv.get hx
  obtain⟨⟨old,he⟩,hit⟩:=st
  have fe:=hf e (by simp)
  have fi:=hf it (by simp)
  obtain⟨oa,hoa⟩:=p.has
  have tra:H a=none->a<X.s₀.heap.objs.size\/True:=fun _=>.inr trivial
  -- the sequence is neither record
  have ne_of_fp:∀c,T5 X pins H c->(∃oc,s.heap.get? c=some oc/\∃n vs,oc.cls = .type n/\oc.data = .fields vs)->a≠c:=fun c _ ⟨oc,hoc,n,vs,hn,hv⟩ z=>by
   subst z
   rw[hoa] at hoc;cases hoc
   cases b with
   | true=>obtain⟨o,e1,_,m,d⟩:=(show s.heap.IsList a its.toArray from p);rw[hoa] at e1;cases e1;rw[hv] at d;cases d
   | false=>obtain⟨o,e1,_,m,d⟩:=(show s.heap.IsTuple a its.toArray from p);rw[hoa] at e1;cases e1;rw[hv] at d;cases d
  have ae:a≠e:=ne_of_fp e fe ⟨_,he,_,_,rfl,rfl⟩
  have ai:a≠it:=ne_of_fp it fi (by
   cases b with
   | true=>obtain⟨o,e1,c1,d1⟩:=(show s.heap.IsListIter it a i from hit);exact⟨o,e1,_,_,c1,d1⟩
   | false=>obtain⟨o,e1,c1,d1⟩:=(show s.heap.IsTupleIter it a i from hit);exact⟨o,e1,_,_,c1,d1⟩)
  have D:=Draws.seq (prog:=X.prog) (w:=X.w) (A:=X.A.in1) b (I.ok.hd hc) it a ai its.toArray
  have hlt:i<its.toArray.size:=by
   have:=(List.getElem?_eq_some_iff.mp hu).1
   simpa using this
  refine wpAny_pyNext_enum_itemD D he ⟨hit,p⟩ hlt hei (by simp[hei,Ne.symm ae]) fun y h' tk hPy ho hs' hT hsz hk=>?_
  have ey:y=u:=by
   have q1:its.toArray[i]?=some y:=hPy
   have q2:its.toArray[i]?=some u:=by simpa using hu
   rw[q1] at q2;exact Option.some.inj q2
  subst ey
  refine⟨_,rfl,wpAny_letOwnedTupleGo_enum ho fun h2 he2 hs2=>?_⟩
  have hs2:Heap.SameBut e h' h2:=hs2
  have Tne:s.heap.objs.size≠e:=Nat.ne_of_gt (Heap.lt_size he)
  have hTn:H s.heap.objs.size=none:=I.hok.fresh (Nat.le_refl _)
  have kk:∀c o,c∉[e,it]->s.heap.get? c=some o->h2.get? c=some o:=fun c o hc' q=>hs2.extBut c o (fun z=>hc' (by simp[z])) (hk c o (fun z=>hc' (by simp[z])) (fun z=>hc' (by simp[z])) q)
  have hT2:h2.get? s.heap.objs.size=some { cls:=.type "tuple",data:=.seq #[.int i tk,y] }:=hs2.extBut _ _ Tne hT
  have hcs:∀c∈[e,it],(c∈X.ex\/X.s₀.heap.objs.size<=c)/\c≠X.env.locals/\(∀x d,X.env.cells.lookup x=some d->d≠c)/\∀p∈X.pn++pins,p.1≠c:=fun c hc'=>by
   have f:=hf c hc'
   exact⟨f.2.2.2.1,f.2.1,f.2.2.2.2.1,f.2.2.2.2.2⟩
  have nfp:∀c u',H c=some u'->c∉[e,it]:=fun c u' q hc'=>by rw[(hf c hc').1] at q;cases q
  have hok0:HOk X.prog X.w H h2:=fun c u' q=>(I.hok c u' q).stay (fun d v hd q'=>kk d v (by
    rcases hd with z | z
    ·rw[z];exact nfp c u' q
    ·exact nfp d _ z) q') (fun _ z=>z) fun _ _ z=>z
  have new:ObjOk X.prog X.w (upd H s.heap.objs.size (.tup [.int i,x])) h2 s.heap.objs.size (.tup [.int i,x]):=
   ⟨by show 2<=sizeLine;decide,[.int i tk,y],.cons ⟨tk,rfl⟩ (.cons ru .nil),⟨_,hT2,rfl,_,rfl⟩⟩
  have hok1:HOk X.prog X.w (upd H s.heap.objs.size (.tup [.int i,x])) h2:=fun c u' q=>by
   by_cases hb:c=s.heap.objs.size
   ·subst hb;rw[Zq] at q;cases q;exact new
   ·rw[upd_ne hb] at q
    exact(hok0 c u' q).stay (fun d v _ q'=>q') (fun d z=>by rw[upd_ne (ZK z hTn)];exact z) fun d zs z=>by rw[upd_ne (ZK z hTn)];exact z
  have un:Un (Oy X.stack) [e,it] H (upd H s.heap.objs.size (.tup [.int i,x])) s.heap h2:=by
   refine⟨fun c o q _ _ hx'=>kk c o hx' q,fun c o q _ _ hx'=>⟨o.slots,kk c o hx' q⟩,fun c o q n _=>?_,fun c o q hx'=>⟨o,kk c o hx' q⟩,fun c zs q=>?_,fun c o zs q=>?_,fun c ps q=>⟨#[],?_⟩⟩
   ·rw[upd_ne (Nat.ne_of_lt (Heap.lt_size q))];exact n
   ·rw[upd_ne (ZK q hTn)];exact q
   ·rw[upd_ne (ZK q hTn)];exact q
   ·rw[upd_ne (ZK q hTn),q];simp
  have I2:Inv X pins σ (upd H s.heap.objs.size (.tup [.int i,x])) { s with heap:=h2,toks:=tk+1 }:=I.call (g':=s.gens) (d':=s.drawn) un hok1 I.bare hcs
  refine⟨.ref s.heap.objs.size,upd H s.heap.objs.size (.tup [.int i,x]),I2,rfl,⟨_,x,hTn,rfl,rfl,fun zs hzs=>by rw[I.seqB_inj hzs hq];exact hx⟩,⟨⟨y,by simpa using he2⟩,?_⟩,fun c hc'=>?_⟩
  ·exact hs'.1.at fun o q=>hs2.extBut it o (Ne.symm hei) q
  ·rw[upd_ne (Nat.ne_of_lt (by
    rcases List.mem_cons.mp hc' with rfl | hc'
    ·exact Heap.lt_size he
    ·rw[List.mem_singleton.mp hc'];obtain⟨o,q,_⟩:=hit.has;exact Heap.lt_size q))]
   exact(hf c hc').1
 done:=by
  intro X hP hw hK hc i pins s σ H E I hf st hg
  subst hP hw hK
  obtain⟨xs,hq,hx⟩:=hg
  obtain⟨its,rv,p,hz⟩:=I.seqB hq
  obtain⟨⟨old,he⟩,hit⟩:=st
  have fi:=hf it (by simp)
  obtain⟨oa,hoa⟩:=p.has
  have ai:a≠it:=fun z=>by
   subst z
   cases b with
   | true=>
    obtain⟨o,e1,_,m,d⟩:=(show s.heap.IsList a its.toArray from p)
    obtain⟨o',e2,_,d2⟩:=(show s.heap.IsListIter a a i from hit)
    rw[e1] at e2;cases e2;rw[d] at d2;cases d2
   | false=>
    obtain⟨o,e1,_,m,d⟩:=(show s.heap.IsTuple a its.toArray from p)
    obtain⟨o',e2,_,d2⟩:=(show s.heap.IsTupleIter a a i from hit)
    rw[e1] at e2;cases e2;rw[d] at d2;cases d2
  have D:=Draws.seq (prog:=X.prog) (w:=X.w) (A:=X.A.in1) b (I.ok.hd hc) it a ai its.toArray
  have hl:=rv.length
  have hi:i=its.toArray.size:=by simp;omega
  refine wpAny_pyNext_enum_endD D he (by rw[<-hi];exact⟨hit,p⟩) fun h' hx'=>⟨rfl,?_⟩
  obtain⟨f0,f1,f2,f3,f4,f5⟩:=fi
  exact I.turned (t':=s.toks) (fun c o hb q=>hx' c o hb q) f0 f1 f3 f4 f5
 self:=fun A i s Q E st hQ=>by
  obtain⟨⟨old,he⟩,_⟩:=st
  exact wpAny_pyIter_enum he hQ
end L2
namespace L2
open PySem PySem.Spec PyProof.Rows
section
variable {X:Cx}
def Ei(b:Bool)(K:PySem.W.Frag)(ta:TA):TI:=fun σ H R=>ta σ H fun vs H1=>∃a,vs=[.ref a]/\(∃xs,ML b K H1 a xs)/\R (Du b K a) H1
theorem Ie{elts:List Expr}{k:Nat}{tpos:Pos}(b:Bool){a:Expr}{ta:TA}{p pos:Pos}(hg:Gl X "enumerate")(hm:X.mg "enumerate" = none)(ha:PA X [a] ta)(hs:starEach [a] X.env=[(false,eval a X.env)]:=by rfl) :
  PI X (.Tuple elts k tpos) (.Call (.Name "enumerate" p) [a] [] pos) (Ei b X.K ta):=by
 intro pins s σ H R I h
 refine Call_ (Wy I hg hm (by decide +kernel:bootBuiltins "enumerate" = some (.type "enumerate")) (PyProof.Rows.callWith_type1 (YO (ha pos pins s σ H _ I h) fun us s1 ⟨vs,H1,I1,r1,q1⟩=>?_) hs rfl))
 obtain⟨a,e,⟨xs,hq⟩,q⟩:=q1
 subst e
 cases r1 with
 | cons r rr=>
  cases rr;cases r
  obtain⟨its,rv,hseq,hz⟩:=I1.seqB hq
  refine RI hseq fun h' he hit hsz hk=>?_
  refine wpAny_pyIter_enum he ?_
  have I2:Inv X pins σ H1 { s1 with heap:=h' }:=I1.kept (t':=s1.toks) hk
  have ne:s1.heap.objs.size+1≠s1.heap.objs.size:=Nat.ne_of_gt (Nat.lt_succ_self _)
  refine⟨s1.heap.objs.size+1,[s1.heap.objs.size+1,s1.heap.objs.size],_,_,H1,rfl,I2,MM b a (s1.heap.objs.size+1) s1.heap.objs.size ne,⟨⟨.none,he⟩,hit⟩,fun c hc=>?_,q⟩
  rcases List.mem_cons.mp hc with rfl | hc
  ·exact I1.fpOk (Nat.le_succ _) (I1.hok.fresh (Nat.le_succ _))
  ·rw[List.mem_singleton.mp hc]
   exact I1.fpOk (Nat.le_refl _) (I1.hok.fresh (Nat.le_refl _))
end
theorem Walks.seqB{prog:Program}{w:World}{A:Around}(b:Bool)(hh:A.handled=none)(I ax:Addr)(hne:ax≠I)(items:Array Value) :
  Walks prog w A I [I,ax] [I] items.size (fun i v=>items[i]?=some v) (fun i h=>IterB b h I ax i/\SeqB b h ax items):=by
 cases b with
 | true=>exact Walks.list hh I ax hne items
 | false=>exact Walks.tuple hh I ax hne items
section
variable {X:Cx}
theorem Xv(hc:X.calm=true):Wc X (.builtin "sum") (fun xs H Q=>∃(b:Bool) (p:Addr) (ns:List Int),xs=[.ref p]/\ML b X.K H p (ns.map V.int)/\Q (.int ns.sum) H):=by
 intro pins s σ H xs us Q I r h
 obtain⟨b,p,ns,rfl,hq,q⟩:=h
 obtain⟨u,rfl,rx⟩:=Uu r
 cases rx
 obtain⟨its,rv,hseq,hz⟩:=I.seqB hq
 have hp:p<s.heap.objs.size:=let⟨_,e⟩:=hseq.has;Heap.lt_size e
 refine call_sum_walkG (XA hseq ?_)
 refine⟨_,_,_,_,_,_,fun i=>ns.getD i 0,rfl,Walks.seqB (A:=X.A.in1) b (I.ok.hd hc) s.heap.objs.size p (Nat.ne_of_lt hp) its.toArray,⟨IterB.new (Heap.get?_push_size _ rfl),hseq.at fun o e=>Heap.get?_push_of_some _ e⟩,fun c hcm=>?_,fun i v hv=>?_,fun h' tk t' hk=>?_⟩
 ·show c<(s.heap.push _).objs.size
  rw[Heap.size_push]
  rcases List.mem_cons.mp hcm with rfl | hcm
  ·exact Nat.lt_succ_self _
  ·rw[List.mem_singleton.mp hcm];exact Nat.lt_succ_of_lt hp
 ·have hv:its.toArray[i]?=some v:=hv
  have hv:its[i]?=some v:=by simpa using hv
  have hl:=rv.length;rw[List.length_map] at hl
  have hi:i<ns.length:=by rw[hl];exact(List.getElem?_eq_some_iff.mp hv).1
  obtain⟨u,hu,ru⟩:=rv.get (i:=i) (x:=.int ns[i]) (by rw[List.getElem?_map,List.getElem?_eq_getElem hi];rfl)
  rw[hv] at hu;cases hu
  obtain⟨t,rfl⟩:=ru
  refine⟨t,?_⟩
  show Value.int ns[i] t=Value.int (ns.getD i 0) t
  rw[List.getD_eq_getElem?_getD,List.getElem?_eq_getElem hi];rfl
 ·have e:preSum (fun i=>ns.getD i 0) its.toArray.size=ns.sum:=by
   have hl:=rv.length;rw[List.length_map] at hl;rw[List.size_toArray,<-hl]
   have gen:∀k,k<=ns.length->preSum (fun i=>ns.getD i 0) k=(ns.take k).sum:=by
    intro k
    induction k with
    | zero=>intro _;simp[preSum]
    | succ k ih=>
     intro hk;rw[preSum,ih (by omega),List.take_add_one,List.getD_eq_getElem?_getD,List.getElem?_eq_getElem (by omega),List.sum_append]
     simp
   rw[gen _ (Nat.le_refl _),List.take_length]
  rw[e]
  refine⟨.int ns.sum,H,I.kept (fun c o hco=>hk c o ?_ (Heap.get?_push_of_some _ hco)),⟨_,rfl⟩,q⟩
  intro hm;rw[List.mem_singleton.mp hm] at hco
  exact absurd (Heap.lt_size hco) (Nat.lt_irrefl _)
theorem MN(hc:X.calm=true):Wc X (.builtin "all") (fun xs H Q=>∃(b:Bool) (p:Addr) (bs:List Bool),xs=[.ref p]/\ML b X.K H p (bs.map V.bl)/\Q (.bl (bs.all id)) H):=by
 intro pins s σ H xs us Q I r h
 obtain⟨b,p,bs,rfl,hq,q⟩:=h
 obtain⟨u,rfl,rx⟩:=Uu r
 cases rx
 obtain⟨its,rv,hseq,hz⟩:=I.seqB hq
 have hp:p<s.heap.objs.size:=let⟨_,e⟩:=hseq.has;Heap.lt_size e
 have hl:=rv.length;rw[List.length_map] at hl
 refine call_all_walk (XA hseq ?_)
 refine⟨_,_,_,_,_,_,fun i=>bs.getD i true,rfl,Walks.seqB (A:=X.A.in1) b (I.ok.hd hc) s.heap.objs.size p (Nat.ne_of_lt hp) its.toArray,⟨IterB.new (Heap.get?_push_size _ rfl),hseq.at fun o e=>Heap.get?_push_of_some _ e⟩,fun i v s' Q' E' hv hQ=>?_,fun h' tk hk=>?_⟩
 ·have hv:its.toArray[i]?=some v:=hv
  have hv:its[i]?=some v:=by simpa using hv
  have hi:i<bs.length:=by rw[hl];exact(List.getElem?_eq_some_iff.mp hv).1
  obtain⟨u,hu,ru⟩:=rv.get (i:=i) (x:=.bl bs[i]) (by rw[List.getElem?_map,List.getElem?_eq_getElem hi];rfl)
  rw[hv] at hu;cases hu;cases ru
  refine wpAny_truthy_bool ?_
  have e:bs.getD i true=bs[i]:=by rw[List.getD_eq_getElem?_getD,List.getElem?_eq_getElem hi];rfl
  rw[<-e];exact hQ
 ·have e:(List.range its.toArray.size).all (fun i=>bs.getD i true)=bs.all id:=by
   rw[List.size_toArray,<-hl,Bool.eq_iff_iff,List.all_eq_true,List.all_eq_true];constructor
   ·intro h x hx
    obtain⟨i,hi,rfl⟩:=List.mem_iff_getElem.mp hx
    have:=h i (List.mem_range.mpr hi)
    rw[List.getD_eq_getElem?_getD,List.getElem?_eq_getElem hi] at this;exact this
   ·intro h i hi
    have hi:=List.mem_range.mp hi;rw[List.getD_eq_getElem?_getD,List.getElem?_eq_getElem hi]
    exact h _ (List.getElem_mem hi)
  rw[e]
  refine⟨.bl (bs.all id),H,I.kept (fun c o hco=>hk c o ?_ (Heap.get?_push_of_some _ hco)),rfl,q⟩
  intro hm;rw[List.mem_singleton.mp hm] at hco
  exact absurd (Heap.lt_size hco) (Nat.lt_irrefl _)
theorem Vg:Wc X (.builtin "isinstance") (fun xs H Q=>∃x T t b,xs=[x,.ty T]/\TyOf X.K H x t/\PySem.W.kitOne X.K t (.type T)=some b/\Q (.bl b) H):=by
 intro pins s σ H xs us Q I r h
 obtain⟨x,T,t,b,rfl,ht,hk,q⟩:=h
 obtain⟨u,v,rfl,ru,rv⟩:=HB r
 cases rv
 exact MG I ru ht hk fun tk=>⟨.bl b,H,I.tok tk,rfl,q⟩
theorem Pz{K:PySem.W.Frag}:PySem.W.kitOne K (.type "int") (.type "int")=some true:=rfl
theorem Qz{K:PySem.W.Frag}:PySem.W.kitOne K (.type "int") (.type "bool")=some false:=by first | rfl | decide | (unfold PySem.W.kitOne;rw[if_neg (by decide)];first | rfl | decide | kernel_rfl)
theorem PB{K:PySem.W.Frag}:PySem.W.kitOne K (.type "tuple") (.type "tuple")=some true:=rfl
theorem RJ{K:PySem.W.Frag}:PySem.W.kitOne K (.type "list") (.type "list")=some true:=rfl
theorem PD{K:PySem.W.Frag}:PySem.W.kitOne K (.type "str") (.type "str")=some true:=rfl
def NP:V->List V->Hp->VK->Prop:=fun x vs H Q=>∃l xs k y,x = .ref l/\vs=[.int k,y]/\H l=some (.lst xs)/\0<=k/\k<2^63/\xs.length<sizeLine/\Q .non (upd H l (.lst (xs.take k.toNat++y::xs.drop k.toNat)))
theorem MO:EL X "list.insert" NP:=by
 intro pins s σ H x vs v us Q I rx rv h
 obtain⟨l,xs,k,y,rfl,rfl,hH,h0,h1,hz,q⟩:=h
 cases rx
 obtain⟨u1,u2,rfl,r1,r2⟩:=rv.two
 obtain⟨t,rfl⟩:=r1
 obtain⟨z,its,n,r,hl,e⟩:=I.lstM hH
 have hfit:¬(!Builtin.List.listFitsIndex k)=true:=by
  rw[fitsIndex_both (by omega) h1];exact Bool.false_ne_true
 refine call_meets F.slot_list_insert ⟨_,e,rfl⟩ F.entry_list_insert (F.args_list_insert_3 _ _ _) (AutoListH.list_insert_list_int_val_1 l its.toArray n k t u2 hfit (by rw[List.size_toArray];omega)) ⟨e,?_⟩
 refine⟨.non,_,I.lset (its':=its.take k.toNat++u2::its.drop k.toNat) hH e ?_ ((r.take k.toNat).append (.cons r2 (r.drop k.toNat))) ?_,rfl,q⟩
 ·show(have j:=if k<0 then(k+((its.toArray.size:Nat):Int)).toNat else min k.toNat its.toArray.size;(its.toArray.extract 0 j).push u2++its.toArray.extract j)=_
  rw[if_neg (by omega)]
  dsimp only
  by_cases hle:k.toNat<=its.length
  ·rw[Nat.min_eq_left (by rw[List.size_toArray];exact hle)]
   simp
   rw[List.take_of_length_le (by rw[List.length_drop];exact Nat.le_refl _)]
  ·rw[Nat.min_eq_right (by rw[List.size_toArray];omega)]
   rw[List.take_of_length_le (by omega),List.drop_eq_nil_of_le (by omega)]
   simp
 ·rw[List.length_append,List.length_cons,List.length_take,List.length_drop]
  omega
end
def TK(H H':Hp):Prop:=∀b xs,H b=some (.tup xs)->H' b=some (.tup xs)
theorem Same.tk{H H':Hp}(s:Same H H'):TK H H':=fun b xs h=>s b _ h
theorem Same.new{H:Hp}{p:Addr}(h:H p=none)(o:HO):Same H (upd H p o):=fun b u q=>by rw[upd_ne (ZK q h)];exact q
structure Def(K:PySem.W.Frag)(mg:Str->Option Value)(x:Str)(st:Stmt):Prop where
 ex:∃f fd,mg x=some (.ref f)/\Fun K x x st f fd
theorem def_mk{K:PySem.W.Frag}{h:Heap}{mg:Str->Option Value}{x:Str}{st:Stmt}{f:Addr}{oc:Value}{od an:Option Addr}{osl:Array (Option Value)}{kV doc pm cdv ct:Value}(X:K.In h)(G:h.Ns mainGlobals mg)
  (a:PySem.W.nsIn K mainGlobals x=some (some (.ref f))) (l:K.lookup f=some ⟨oc,od,.func (PySem.W.fnOf x x (Y9 st) (Yb st) (Zl st) .none kV doc pm an cdv ct),osl⟩)
  (c:PySem.W.codeIn K cdv x=true) (k:PySem.W.keepIn K (.ref f)=true):Def K mg x st:=⟨f,_,PySem.W.mg_of X G a,L6 (st:=st) l c k⟩
structure Y2(P:Program)(w:World)(K:PySem.W.Frag)(mg:Str->Option Value)(base:Heap)(x:Str)(ps:List Str)(sp:Sp)(k:Nat):Prop where
 ex:∃f fd,mg x=some (.ref f)/\PySem.W.keepIn K (.ref f)=true/\Binds K fd ps []/\V5 P w K mg base Py k f fd ps sp
section
variable {P:Program} {w:World} {K:PySem.W.Frag} {mg:Str->Option Value} {base:Heap}
theorem Def.cal{x:Str}{st:Stmt}{N ps:List Str}{k:Nat}{sp:Sp}(D:Def K mg x st)(S:ZH N ps (Zl st))
  (hb:∀(kV doc pm:Value)(an:Option Addr)(cdv ct:Value)(us:List Value),us.length=ps.length->bindArgs (PySem.W.fnOf x x (Y9 st) (Yb st) (Zl st) .none kV doc pm an cdv ct) ⟨us,[]⟩=pure (ps.zip us))
  (len:∀vs H Q E,sp vs H Q E->vs.length=ps.length)
  (hbody:∀(f:Addr)(cdv:Value)(A:Around)(outer:List Env)(s:Shared)(H:Hp)(vs:List V)(Q:VK)(E:XK),Room k (A.deeper (envOfC x (Zl st) s.heap.objs.size f cdv))->sp vs H Q E->
   ∃t,PSs (U0 Py P w K mg base N x (Zl st) f cdv A outer s H E).nox (Yb st) t/\t { nx:=fun _ H'=>Q .non H',rt:=Q } (start N vs) H):Y2 P w K mg base x ps sp (k+1):=by
 obtain⟨f,fd,hm,F⟩:=D.ex
 exact⟨f,fd,hm,F.kp,F.binds hb,F.ok S len fun cdv A outer s H vs Q E hr h=>hbody f cdv A outer s H vs Q E hr h⟩
end
section
variable {X:Cx} {x:Str} {ps:List Str} {sp:Sp} {k:Nat} {e:Expr} {es:List Expr} {t:TA} {p pos:Pos}
theorem GS(C:Y2 X.prog X.w X.K X.mg X.base x ps sp k)(hr:Room k X.A)(hg:Gl X x)(ha:PA X (e::es) t)
  (hdb:(x==("__debug__" : Str))=false:=by decide) (he:starEach (e::es) X.env=(false,eval e X.env)::starEach es X.env:=by rfl) (hpl:(backTo pos (starEach es X.env)).any (·.1)=false:=by rfl) :
  PE X (.Call (.Name x p) (e::es) [] pos) (HC sp [] E0 t):=by
 obtain⟨f,fd,a,b,c,d⟩:=C.ex
 exact J1 d hr hg a b c .nil Ed ha hdb he hpl
end
def Ue(N:List Str)(around scope:Scope)(own fr:List Str)(ix:List Nat):Bool:=
 (match scope.kind with | .function=>true | _=>false)&&scope.names.all (fun y=>y.2 != .cell)&&scope.names.all (fun y=>y.2 != .local || scope.names.lookup y.1==some .local)&&
 scope.names.all (fun y=>y.2 != .free || (around.names.lookup y.1==some .cell || around.names.lookup y.1==some .free))&&(fr.map some==ix.map (fun i=>N[i]?))&&
 fr.all (fun x=>scope.names.contains (x,NameKind.free))&&fr.all (fun x=>scope.names.lookup x != some .local)
theorem R1{N:List Str}{around scope:Scope}{own fr:List Str}{ix:List Nat}(h:Ue N around scope own fr ix=true):CompScope N around scope own fr ix:=by
 unfold Ue at h;simp only[Bool.and_eq_true] at h
 obtain⟨⟨⟨⟨⟨⟨h1,h2⟩,h3⟩,h4⟩,h5⟩,h6⟩,h7⟩:=h
 refine⟨?_,fun y hy=>?_,fun y hy e=>?_,fun y hy e=>?_,by simpa using h5,fun x hx=>?_,fun x hx=>?_⟩
 ·split at h1
  ·assumption
  ·cases h1
 ·simpa using List.all_eq_true.mp h2 y hy
 ·have:=List.all_eq_true.mp h3 y hy
  rw[e] at this
  simpa using this
 ·have:=List.all_eq_true.mp h4 y hy
  rw[e] at this
  simpa using this
 ·simpa using List.all_eq_true.mp h6 x hx
 ·simpa using List.all_eq_true.mp h7 x hx
section
variable {X:Cx} {tg elt iter:Expr} {ifs:List Expr} {scope:Scope} {pos:Pos} {wi:TI} {g:TG} {tt:TT} {te:TE}
theorem PF(own fr:List Str)(ix:List Nat)(hcalm:X.calm=true)(hi:PI X tg iter wi)(S:Ue X.N X.env.scope scope own fr ix=true)
  (hg:∀cl C s H ex,PG (ZO X (own++fr) scope cl C s H ex) tg g) (ht:∀cl C s H ex,L7 (ZO X (own++fr) scope cl C s H ex) ifs tt) (he:∀cl C s H ex,PE (ZO X (own++fr) scope cl C s H ex) elt te)
  (hs:∀x,foldedSetIterable iter X.env x=pure x:=by intro _;rfl):PE X (.ListComp elt [⟨tg,iter,ifs,0⟩] scope pos) (R0 own.length ix wi g tt te):=
 Ib hcalm hi (R1 S) hg ht he hs
theorem L9(own fr:List Str)(ix:List Nat){i:Nat}{y:Str}{py spos:Pos}(hN:X.N.Nodup)(hy:X.N[i]?=some y)(hloc:X.env.scope.names.lookup y=some .local)(hcalm:X.calm=true)(hi:PI X tg iter wi)(S:Ue X.N X.env.scope scope own fr ix=true)
  (hg:∀cl C s H ex,PG (ZO X (own++fr) scope cl C s H ex) tg g) (ht:∀cl C s H ex,L7 (ZO X (own++fr) scope cl C s H ex) ifs tt) (he:∀cl C s H ex,PE (ZO X (own++fr) scope cl C s H ex) elt te)
  (hsw:swapsWith (.ListComp elt [⟨tg,iter,ifs,0⟩] scope pos) (some (.Name y py)) spos.line X.env=pure true:=by rfl)
  (hs:∀x,foldedSetIterable iter X.env x=pure x:=by intro _;rfl):PS X (.Assign [.Name y py] (.ListComp elt [⟨tg,iter,ifs,0⟩] scope pos) spos) (Qt (R0 own.length ix wi g tt te) (Ut i)):=
 Ic hN hy hloc hcalm hi (R1 S) hg ht he hsw hs
end
structure UU(mg:Str->Option Value):Prop where
 «len» : mg "len" = none
 «sum» : mg "sum" = none
 «range» : mg "range" = none
 «enumerate» : mg "enumerate" = none
 «zip» : mg "zip" = none
 «tuple» : mg "tuple" = none
 «list» : mg "list" = none
 «all» : mg "all" = none
 «any» : mg "any" = none
 «isinstance» : mg "isinstance" = none
 «int» : mg "int" = none
 «bool» : mg "bool" = none
 «str» : mg "str" = none
 «min» : mg "min" = none
 «max» : mg "max" = none
 «sorted» : mg "sorted" = none
 «abs» : mg "abs" = none
 «ValueError» : mg "ValueError" = none
 «reversed» : mg "reversed" = none
 «set» : mg "set" = none
abbrev Dh(g:TG)(tb:TS)(D:Uc)(σ:St)(J:It)(H:Hp):Prop:=
 ∃W:Nat->Nat->St->Hp->Prop,(∃m,W 0 m σ H)/\∀i m σ H,W i m σ H->
   (J.stop i H/\D.nx σ H)\/(J.go i H/\∃N:St->Hp->Prop,(∀σ' H',N σ' H'->∃m',m'<m/\W (i+1) m' σ' H')/\∀x H',J.yld i H x H'->g x σ H' fun σ2 H2=>tb { D with nx:=N,ct:=N,bk:=D.nx } σ2 H2)
def ZA(l:List Int)(i:Nat):Int:=l.getD i 0
theorem U6(l:List Int):(List.range l.length).map (ZA l)=l:=by
 apply List.ext_getElem?
 intro i;rw[List.getElem?_map]
 by_cases h:i<l.length
 ·rw[List.getElem?_eq_getElem (by simpa using h),List.getElem?_eq_getElem h]
  simp[ZA,List.getD_eq_getElem?_getD,List.getElem?_eq_getElem h]
 ·rw[List.getElem?_eq_none (by simpa using h),List.getElem?_eq_none (by omega)];rfl
theorem Y3{f:Nat->Int}{n i:Nat}(h:i<n):ZA ((List.range n).map f) i=f i:=by
 unfold ZA
 rw[List.getD_eq_getElem?_getD,List.getElem?_map,List.getElem?_range h];rfl
def ZF(w:List (List Int))(i:Nat):List Int:=w.getD i []
theorem Sy{w:List (List Int)}{i:Nat}(h:i<w.length):w[i]?=some (ZF w i):=by
 unfold ZF
 rw[List.getD_eq_getElem?_getD,List.getElem?_eq_getElem h];rfl
def ZV(w:List (List Int))(i j:Nat):Int:=ZA (ZF w i) j
structure ZW(w:List (List Int)):Prop where
 pos:1<=w.length
 few:w.length<=7
 sq:∀i,i<w.length->(ZF w i).length=w.length
 lo:∀i j,i<w.length->j<w.length->0<=ZV w i j
 hi:∀i j,i<w.length->j<w.length->ZV w i j<=9
 sym:∀i j,i<w.length->j<w.length->ZV w i j=ZV w j i
 dia:∀i,i<w.length->ZV w i i=0
def GU(K:PySem.W.Frag):List V->Hp->VK->Prop:=fun xs H Q=>∃p ys,xs=[.ref p]/\((SqL K H p ys/\∀l,H l=none->Q (.ref l) (upd H l (.tup ys)))\/(SqT K H p ys/\Q (.ref p) H))
def Ig(K:PySem.W.Frag):List V->Hp->VK->Prop:=fun xs H Q=>∃p ys,xs=[.ref p]/\(SqL K H p ys\/SqT K H p ys)/\∀l,H l=none->Q (.ref l) (upd H l (.lst ys))
theorem Same.off{H Hc:Hp}{p:Addr}(s:Same H Hc)(n:Hc p=none):H p=none:=s.free n
abbrev DC:=Nat×Nat×Int
def WC(M:List (List Int))(a b:Nat)(t:Int):List (List Int):=M.set a ((ZF M a).set b t)
structure MatOk(n:Nat)(M:List (List Int)):Prop where
 len:M.length=n
 row:∀i,i<n->(ZF M i).length=n
 lo:∀i j,i<n->j<n->0<=ZV M i j
 hi:∀i j,i<n->j<n->ZV M i j<=9
 sym:∀i j,i<n->j<n->ZV M i j=ZV M j i
 dia:∀i,i<n->ZV M i i=0
theorem R3{M:List (List Int)}{a i:Nat}{r:List Int}(ha:a<M.length):ZF (M.set a r) i=if a=i then r else ZF M i:=by
 unfold ZF;rw[List.getD_eq_getElem?_getD,List.getD_eq_getElem?_getD,List.getElem?_set]
 by_cases h:a=i
 ·subst h;simp[ha]
 ·simp[h]
theorem nth_set{l:List Int}{b j:Nat}{t:Int}(hb:b<l.length):ZA (l.set b t) j=if b=j then t else ZA l j:=by
 unfold ZA;rw[List.getD_eq_getElem?_getD,List.getD_eq_getElem?_getD,List.getElem?_set]
 by_cases h:b=j
 ·subst h;simp[hb]
 ·simp[h]
theorem Sz{n:Nat}{M:List (List Int)}{a b i j:Nat}{t:Int}(hl:M.length=n)(hr:∀i,i<n->(ZF M i).length=n)(ha:a<n)(hb:b<n):ZV (WC M a b t) i j=if a=i/\b=j then t else ZV M i j:=by
 show ZA (ZF (M.set a ((ZF M a).set b t)) i) j=_
 rw[R3 (by omega)]
 by_cases h:a=i
 ·subst h
  rw[if_pos rfl,nth_set (by rw[hr a ha];exact hb)]
  by_cases q:b=j
  ·rw[if_pos q,if_pos ⟨rfl,q⟩]
  ·rw[if_neg q,if_neg (fun z=>q z.2)];rfl
 ·rw[if_neg h,if_neg (fun z=>h z.1)];rfl
theorem We{n:Nat}{M:List (List Int)}{a b:Nat}{t:Int}(hl:M.length=n)(hr:∀i,i<n->(ZF M i).length=n)(ha:a<n):(WC M a b t).length=n/\∀i,i<n->(ZF (WC M a b t) i).length=n:=by
 refine⟨by unfold WC;rw[List.length_set];exact hl,fun i hi=>?_⟩
 show(ZF (M.set a ((ZF M a).set b t)) i).length=n
 rw[R3 (by omega)]
 split
 ·rw[List.length_set];exact hr a ha
 ·exact hr i hi
theorem MatOk.zero(n:Nat):MatOk n (List.replicate n (List.replicate n 0)):=by
 have r:∀i,i<n->ZF (List.replicate n (List.replicate n (0:Int))) i=List.replicate n 0:=fun i hi=>by
  unfold ZF
  rw[List.getD_eq_getElem?_getD,List.getElem?_replicate,if_pos hi];rfl
 have z:∀i j,i<n->j<n->ZV (List.replicate n (List.replicate n (0:Int))) i j=0:=fun i j hi hj=>by
  show ZA (ZF _ i) j=0
  rw[r i hi];unfold ZA
  rw[List.getD_eq_getElem?_getD,List.getElem?_replicate,if_pos hj];rfl
 exact⟨by simp,fun i hi=>by rw[r i hi];simp,fun i j hi hj=>by rw[z i j hi hj];omega,fun i j hi hj=>by rw[z i j hi hj];omega,fun i j hi hj=>by rw[z i j hi hj,z j i hj hi],fun i hi=>z i i hi hi⟩
theorem MatOk.web{n:Nat}{M:List (List Int)}(h:MatOk n M)(h1:1<=n)(h7:n<=7):ZW M:=by
 have e:=h.len;subst e
 exact⟨h1,h7,h.row,h.lo,h.hi,h.sym,h.dia⟩
theorem Xj(f:Nat->Int)(n:Nat):((List.range (n+1)).map f).sum=((List.range n).map f).sum+f n:=by
 rw[List.range_succ,List.map_append,List.sum_append];simp
theorem WD{f g:Nat->Int}{n:Nat}(h:∀i,i<n->f i=g i):((List.range n).map f).sum=((List.range n).map g).sum:=by
 congr 1
 apply List.map_congr_left
 intro i hi
 exact h i (List.mem_range.mp hi)
theorem NQ(f g:Nat->Int)(n:Nat):((List.range n).map fun i=>f i-g i).sum=((List.range n).map f).sum-((List.range n).map g).sum:=by
 induction n with
 | zero=>simp
 | succ n ih=>rw[Xj,Xj,Xj,ih];omega
theorem MP(c:Int)(n:Nat):((List.range n).map fun _=>c).sum=n*c:=by
 induction n with
 | zero=>simp
 | succ n ih=>rw[Xj,ih];rw[show((n+1:Nat):Int)=(n:Int)+1 by omega,Int.add_mul];omega
theorem NR(l:List Int):((List.range l.length).map (ZA l)).sum=l.sum:=by rw[U6]
theorem PH{α:Type}(n:Nat)(x:α):(List.replicate n [x]).flatten=List.replicate n x:=by
 induction n with
 | zero=>rfl
 | succ n ih=>rw[List.replicate_succ,List.flatten_cons,ih];rfl
structure NamesOk(i:Nat)(l:List Int):Prop where
 len:l.length=i
 nd:l.Nodup
 lo:∀x∈l,0<=x
 hi:∀x∈l,x<i
theorem NamesOk.nil:NamesOk 0 []:=⟨rfl,List.nodup_nil,fun _ h=>by simp at h,fun _ h=>by simp at h⟩
theorem NamesOk.ins{i:Nat}{l:List Int}(h:NamesOk i l)(k:Nat):NamesOk (i+1) (l.take k++(i:Int)::l.drop k):=by
 have hp:(l.take k++(i:Int)::l.drop k).Perm ((i:Int)::l):=by
  have:=List.perm_middle (a:=(i:Int)) (l₁:=l.take k) (l₂:=l.drop k)
  rw[List.take_append_drop] at this;exact this
 refine⟨by rw[hp.length_eq,List.length_cons,h.len],?_,fun x hx=>?_,fun x hx=>?_⟩
 ·rw[hp.nodup_iff,List.nodup_cons]
  exact⟨fun hm=>by have:=h.hi _ hm;omega,h.nd⟩
 ·rcases List.mem_cons.mp (hp.mem_iff.mp hx) with e | e
  ·omega
  ·exact h.lo x e
 ·rcases List.mem_cons.mp (hp.mem_iff.mp hx) with e | e
  ·omega
  ·have:=h.hi x e;omega
theorem NamesOk.at{i:Nat}{l:List Int}(h:NamesOk i l){x:Nat}(hx:x<i):0<=ZA l x/\ZA l x<i:=by
 have e:ZA l x=l[x]'(by rw[h.len];exact hx):=by
  unfold ZA
  rw[List.getD_eq_getElem?_getD,List.getElem?_eq_getElem (by rw[h.len];exact hx)];rfl
 rw[e]
 exact⟨h.lo _ (List.getElem_mem _),h.hi _ (List.getElem_mem _)⟩
theorem NamesOk.ne{i:Nat}{l:List Int}(h:NamesOk i l){x y:Nat}(hx:x<i)(hy:y<i)(n:x≠y):ZA l x≠ZA l y:=by
 have ex:ZA l x=l[x]'(by rw[h.len];exact hx):=by
  unfold ZA
  rw[List.getD_eq_getElem?_getD,List.getElem?_eq_getElem (by rw[h.len];exact hx)];rfl
 have ey:ZA l y=l[y]'(by rw[h.len];exact hy):=by
  unfold ZA
  rw[List.getD_eq_getElem?_getD,List.getElem?_eq_getElem (by rw[h.len];exact hy)];rfl
 rw[ex,ey];intro e
 exact n ((List.getElem_inj h.nd).mp e)
theorem lt_size{n:Nat}(h:n<=10000):n<sizeLine:=Nat.lt_of_le_of_lt h (by decide)
end L2
namespace VL
open PySem PySem.Spec PyProof.Rows L2
variable {K:PySem.W.Frag}
def NsO(od:Obj)(f:Str)(u:Value):Prop:=∀(hp:Heap)(dx:Addr),hp.get? dx=some od->hp.Ns1 dx (fun n=>if n=f then some u else none)
def XZ(n:Str):Str:=if n = "NoWeb" then "place" else if n = "Apart" then "houses" else if n = "TooMany" then "most" else "total"
inductive PV where
 | non | bl (b:Bool) | int (i:Int) | str (x:Str) | ty (n:String) | exc (n:Str) | exf (n:Str) (l:PV)
 | tup (l:List PV) | lst (l:List PV) | cst (l:List PV)
 | dK (ks:List Se) (vs:List PV) | dT (ks:List (List Se)) (vs:List PV)
instance:Inhabited PV:=⟨.non⟩
mutual
/-- nothing in it can be changed -/
def Z4:PV->Bool
 | .tup l=>ZG l
 | .cst l=>ZG l
 | .lst _=>false
 | .dK _ _=>false
 | .dT _ _=>false
 | .non=>true
 | .bl _=>true
 | .int _=>true
 | .str _=>true
 | .ty _=>true
 | .exc _=>true
 | .exf _ _=>true
def ZG:List PV->Bool
 | []=>true
 | x::r=>Z4 x&&ZG r
end
theorem Xw:∀l:List PV,ZG l=l.all Z4
 | []=>rfl
 | x::r=>by rw[List.all_cons,<-Xw r];rfl
def KL(K:PySem.W.Frag)(a:Addr)(xs:List V):Prop:=
 ∃(o:Obj) (its:Array Value) (n:Nat),K.lookup a=some o/\o.cls = .type "list"/\o.dict=none/\o.data = .seq its n/\its.size<=sizeLine/\Vals xs its.toList
def CsK(K:PySem.W.Frag)(H:Hp)(p:Addr)(xs:List V):Prop:=(∃o,H p=some (.frz o (.lst xs)))\/KL K p xs
theorem CsK.sq{K:PySem.W.Frag}{H:Hp}{p:Addr}{xs:List V}(h:CsK K H p xs):SqL K H p xs:=by
 rcases h with h | h
 ·exact .inl (.inr h)
 ·exact .inr h
mutual
/-- v is the tree l in the heap H;fp: the addresses of its lists and dicts -/
def Is(K:PySem.W.Frag)(H:Hp):PV->V->List Addr->Prop
 | .non,v,fp=>v = .non/\fp=[]
 | .bl b,v,fp=>v = .bl b/\fp=[]
 | .int i,v,fp=>v = .int i/\fp=[]
 | .str x,v,fp=>v = .str x/\fp=[]
 | .ty n,v,fp=>v = .ty n/\fp=[]
 | .exc n,v,fp=>(∃e o x C,v = .ref e/\H e=some (.frz o (.own x))/\o.cls = .ref C/\PySem.W.nsIn K mainGlobals n=some (some (.ref C))/\o.dict=none/\∃vs,o.data = .fields vs)/\fp=[]
 | .exf n l,v,fp=>(∃e o x C dx od u z,v = .ref e/\H e=some (.frz o (.own x))/\o.cls = .ref C/\PySem.W.nsIn K mainGlobals n=some (some (.ref C))/\o.dict=some dx/\(∃vs,o.data = .fields vs)/\H dx=some (.frz od (.own dx))/\NsO od (XZ n) u/\RelV z u/\Is K H l z [])/\fp=[]
 | .tup l,v,fp=>∃p xs,v = .ref p/\H p=some (.tup xs)/\Iss K H l xs fp
 | .lst l,v,fp=>∃p xs fq,v = .ref p/\H p=some (.lst xs)/\Iss K H l xs fq/\fp=p::fq
 | .cst l,v,fp=>∃p xs,v = .ref p/\CsK K H p xs/\Iss K H l xs fp
 | .dK ks l,v,fp=>∃p kvs fq,v = .ref p/\Rd H p (.dK kvs)/\kvs.map (·.1)=ks/\Iss K H l (kvs.map (·.2)) fq/\fp=p::fq
 | .dT ks l,v,fp=>∃p kvs fq,v = .ref p/\Rd H p (.dT kvs)/\kvs.map (·.1)=ks/\Iss K H l (kvs.map (·.2)) fq/\fp=p::fq
def Iss(K:PySem.W.Frag)(H:Hp):List PV->List V->List Addr->Prop
 | [],xs,fp=>xs=[]/\fp=[]
 | l::ls,xs,fp=>∃x r f1 f2,xs=x::r/\Is K H l x f1/\Iss K H ls r f2/\fp=f1++f2
end
def RdK(H H':Hp)(p:Addr):Prop:=(∀xs,H p=some (.lst xs)->H' p=some (.lst xs))/\(∀kvs,Rd H p (.dK kvs)->Rd H' p (.dK kvs))/\∀kvs,Rd H p (.dT kvs)->Rd H' p (.dT kvs)
theorem RdK.of{H H':Hp}{p:Addr}(h:∀o,H p=some o->H' p=some o):RdK H H' p:=by
 have r:∀u,Rd H p u->Rd H' p u:=fun u q=>by
  rcases q with q | ⟨o,q⟩
  ·exact .inl (h _ q)
  ·exact .inr ⟨o,h _ q⟩
 exact⟨fun _=>h _,fun _=>r _,fun _=>r _⟩
structure GV(H H':Hp):Prop where
 tup:TK H H'
 frz:∀b o xs,H b=some (.frz o (.lst xs))->H' b=some (.frz o (.lst xs))
 exc:∀b o x,H b=some (.frz o (.own x))->H' b=some (.frz o (.own x))
theorem Same.tk2{H H':Hp}(s:Same H H'):GV H H':=⟨s.tk,fun b o xs h=>s b _ h,fun b o x h=>s b _ h⟩
theorem CsK.tr{K:PySem.W.Frag}{H H':Hp}(t:GV H H'){p:Addr}{xs:List V}(h:CsK K H p xs):CsK K H' p xs:=by
 rcases h with⟨o,h⟩ | h
 ·exact .inl ⟨o,t.frz p o xs h⟩
 ·exact .inr h
mutual
theorem Is.tr{H H':Hp}(ht:GV H H'):∀(l:PV)(v:V)(fp:List Addr),(∀p∈fp,RdK H H' p)->Is K H l v fp->Is K H' l v fp
 | .non,_,_,_,h=>by simpa only[Is] using h
 | .bl _,_,_,_,h=>by simpa only[Is] using h
 | .int _,_,_,_,h=>by simpa only[Is] using h
 | .str _,_,_,_,h=>by simpa only[Is] using h
 | .ty _,_,_,_,h=>by simpa only[Is] using h
 | .exc _,_,_,_,h=>by
  simp only[Is] at h ⊢
  obtain⟨⟨e,o,x,C,a,b,c⟩,d⟩:=h
  exact⟨⟨e,o,x,C,a,ht.exc e o x b,c⟩,d⟩
 | .exf _ l,_,_,_,h=>by
  simp only[Is] at h ⊢
  obtain⟨⟨e,o,x,C,dx,od,u,z,a,b,c1,c2,c3,c4,c5,c6,c7,c8⟩,d⟩:=h
  exact⟨⟨e,o,x,C,dx,od,u,z,a,ht.exc e o x b,c1,c2,c3,c4,ht.exc dx od dx c5,c6,c7,Is.tr ht l z [] (fun p hp=>by simp at hp) c8⟩,d⟩
 | .tup l,v,fp,hm,h=>by
  simp only[Is] at h ⊢
  obtain⟨p,xs,e,hp,hi⟩:=h
  exact⟨p,xs,e,ht.tup p xs hp,Iss.tr ht l xs fp hm hi⟩
 | .lst l,v,fp,hm,h=>by
  simp only[Is] at h ⊢
  obtain⟨p,xs,fq,e,hr,hi,rfl⟩:=h
  exact⟨p,xs,fq,e,(hm p List.mem_cons_self).1 _ hr,Iss.tr ht l xs fq (fun q hq=>hm q (List.mem_cons_of_mem _ hq)) hi,rfl⟩
 | .cst l,v,fp,hm,h=>by
  simp only[Is] at h ⊢
  obtain⟨p,xs,e,hr,hi⟩:=h
  exact⟨p,xs,e,hr.tr ht,Iss.tr ht l xs fp hm hi⟩
 | .dK ks l,v,fp,hm,h=>by
  simp only[Is] at h ⊢
  obtain⟨p,kvs,fq,e,hr,hk,hi,rfl⟩:=h
  exact⟨p,kvs,fq,e,(hm p List.mem_cons_self).2.1 _ hr,hk,Iss.tr ht l _ fq (fun q hq=>hm q (List.mem_cons_of_mem _ hq)) hi,rfl⟩
 | .dT ks l,v,fp,hm,h=>by
  simp only[Is] at h ⊢
  obtain⟨p,kvs,fq,e,hr,hk,hi,rfl⟩:=h
  exact⟨p,kvs,fq,e,(hm p List.mem_cons_self).2.2 _ hr,hk,Iss.tr ht l _ fq (fun q hq=>hm q (List.mem_cons_of_mem _ hq)) hi,rfl⟩
theorem Iss.tr{H H':Hp}(ht:GV H H'):∀(l:List PV)(xs:List V)(fp:List Addr),(∀p∈fp,RdK H H' p)->Iss K H l xs fp->Iss K H' l xs fp
 | [],_,_,_,h=>by simpa only[Iss] using h
 | l::ls,xs,fp,hm,h=>by
  simp only[Iss] at h ⊢
  obtain⟨x,r,f1,f2,e,h1,h2,rfl⟩:=h
  exact⟨x,r,f1,f2,e,Is.tr ht l x f1 (fun q hq=>hm q (List.mem_append_left _ hq)) h1,Iss.tr ht ls r f2 (fun q hq=>hm q (List.mem_append_right _ hq)) h2,rfl⟩
end
theorem Is.mono{H H':Hp}(s:Same H H'){l:PV}{v:V}{fp:List Addr}(h:Is K H l v fp):Is K H' l v fp:=Is.tr (Same.tk2 s) l v fp (fun p _=>RdK.of fun o q=>s p o q) h
theorem Iss.mono{H H':Hp}(s:Same H H'){l:List PV}{v:List V}{fp:List Addr}(h:Iss K H l v fp):Iss K H' l v fp:=Iss.tr (Same.tk2 s) l v fp (fun p _=>RdK.of fun o q=>s p o q) h
mutual
theorem Is.pure{H:Hp}:∀(l:PV)(v:V)(fp:List Addr),Z4 l=true->Is K H l v fp->fp=[]
 | .non,_,_,_,h=>by simp only[Is] at h;exact h.2
 | .bl _,_,_,_,h=>by simp only[Is] at h;exact h.2
 | .int _,_,_,_,h=>by simp only[Is] at h;exact h.2
 | .str _,_,_,_,h=>by simp only[Is] at h;exact h.2
 | .ty _,_,_,_,h=>by simp only[Is] at h;exact h.2
 | .exc _,_,_,_,h=>by simp only[Is] at h;exact h.2
 | .exf _ _,_,_,_,h=>by simp only[Is] at h;exact h.2
 | .tup l,v,fp,hp,h=>by
  simp only[Is] at h
  obtain⟨p,xs,e,_,hi⟩:=h
  exact Iss.pure l xs fp (by simpa only[Z4] using hp) hi
 | .lst l,v,fp,hp,h=>by simp[Z4] at hp
 | .cst l,v,fp,hp,h=>by
  simp only[Is] at h
  obtain⟨p,xs,e,_,hi⟩:=h
  exact Iss.pure l xs fp (by simpa only[Z4] using hp) hi
 | .dK ks l,v,fp,hp,h=>by simp[Z4] at hp
 | .dT ks l,v,fp,hp,h=>by simp[Z4] at hp
theorem Iss.pure{H:Hp}:∀(l:List PV)(xs:List V)(fp:List Addr),ZG l=true->Iss K H l xs fp->fp=[]
 | [],_,_,_,h=>by simp only[Iss] at h;exact h.2
 | l::ls,xs,fp,hp,h=>by
  simp only[Iss] at h;simp only[ZG,Bool.and_eq_true] at hp
  obtain⟨x,r,f1,f2,e,h1,h2,rfl⟩:=h
  rw[Is.pure l x f1 hp.1 h1,Iss.pure ls r f2 hp.2 h2];rfl
end
section
variable {H H':Hp}
theorem Iss.len:∀{l:List PV}{xs:List V}{fp:List Addr},Iss K H l xs fp->xs.length=l.length
 | [],xs,fp,h=>by simp only[Iss] at h;rw[h.1];rfl
 | l::ls,xs,fp,h=>by
  simp only[Iss] at h
  obtain⟨x,r,f1,f2,rfl,_,h2,_⟩:=h
  rw[List.length_cons,List.length_cons,h2.len]
theorem Iss.get:∀{l:List PV}{xs:List V}{fp:List Addr}{i:Nat}{a:PV},Iss K H l xs fp->l[i]?=some a->∃x f1,xs[i]?=some x/\Is K H a x f1/\∀p∈f1,p∈fp
 | [],xs,fp,i,a,h,e=>by simp at e
 | l::ls,xs,fp,0,a,h,e=>by
  simp only[Iss] at h
  obtain⟨x,r,f1,f2,rfl,h1,_,rfl⟩:=h
  simp at e;subst e
  exact⟨x,f1,rfl,h1,fun p hp=>List.mem_append_left _ hp⟩
 | l::ls,xs,fp,i+1,a,h,e=>by
  simp only[Iss] at h
  obtain⟨x,r,f1,f2,rfl,_,h2,rfl⟩:=h
  obtain⟨y,g,h3,h4,h5⟩:=h2.get (i:=i) (a:=a) (by simpa using e)
  exact⟨y,g,by simpa using h3,h4,fun p hp=>List.mem_append_right _ (h5 p hp)⟩
theorem Iss.get'{l:List PV}{xs:List V}{fp:List Addr}{i:Nat}{x:V}(h:Iss K H l xs fp)(e:xs[i]?=some x):∃a f1,l[i]?=some a/\Is K H a x f1/\∀p∈f1,p∈fp:=by
 have hi:i<l.length:=by rw[<-h.len];exact(List.getElem?_eq_some_iff.mp e).1
 obtain⟨y,f1,h1,h2,h3⟩:=h.get (List.getElem?_eq_getElem hi)
 rw[e] at h1;cases h1
 exact⟨_,f1,List.getElem?_eq_getElem hi,h2,h3⟩
theorem Iss.nil:Iss K H [] [] []:=by simp[Iss]
theorem Iss.cons{l:PV}{ls:List PV}{x:V}{xs:List V}{f1 f2:List Addr}(h1:Is K H l x f1)(h2:Iss K H ls xs f2):Iss K H (l::ls) (x::xs) (f1++f2):=by
 simp only[Iss];exact⟨x,xs,f1,f2,rfl,h1,h2,rfl⟩
theorem Iss.inv{l:PV}{ls:List PV}{xs:List V}{fp:List Addr}(h:Iss K H (l::ls) xs fp):∃x r f1 f2,xs=x::r/\Is K H l x f1/\Iss K H ls r f2/\fp=f1++f2:=by
 simpa only[Iss] using h
theorem Iss.append:∀{l m:List PV}{xs ys:List V}{f1 f2:List Addr},Iss K H l xs f1->Iss K H m ys f2->Iss K H (l++m) (xs++ys) (f1++f2)
 | [],m,xs,ys,f1,f2,h,h'=>by
  simp only[Iss] at h
  rw[h.1,h.2];exact h'
 | l::ls,m,xs,ys,f1,f2,h,h'=>by
  obtain⟨x,r,g1,g2,rfl,a,b,rfl⟩:=h.inv
  rw[List.append_assoc]
  exact Iss.cons a (b.append h')
theorem Iss.one{l:PV}{x:V}{f:List Addr}(h:Is K H l x f):Iss K H [l] [x] f:=by
 have:=Iss.cons h (Iss.nil (H:=H))
 rwa [List.append_nil] at this
theorem Iss.take:∀{l:List PV}{xs:List V}{fp:List Addr}(n:Nat),Iss K H l xs fp->∃f1,Iss K H (l.take n) (xs.take n) f1/\∀p∈f1,p∈fp
 | l,xs,fp,0,h=>⟨[],by rw[List.take_zero,List.take_zero];exact Iss.nil,fun p hp=>by simp at hp⟩
 | [],xs,fp,n+1,h=>by
  simp only[Iss] at h;rw[h.1]
  exact⟨[],by rw[List.take_nil,List.take_nil];exact Iss.nil,fun p hp=>by simp at hp⟩
 | l::ls,xs,fp,n+1,h=>by
  obtain⟨x,r,f1,f2,rfl,h1,h2,rfl⟩:=h.inv
  obtain⟨f3,a,b⟩:=h2.take n
  refine⟨f1++f3,Iss.cons h1 a,fun p hp=>?_⟩
  rcases List.mem_append.mp hp with h | h
  ·exact List.mem_append_left _ h
  ·exact List.mem_append_right _ (b p h)
theorem Iss.drop:∀{l:List PV}{xs:List V}{fp:List Addr}(n:Nat),Iss K H l xs fp->∃f1,Iss K H (l.drop n) (xs.drop n) f1/\∀p∈f1,p∈fp
 | l,xs,fp,0,h=>⟨fp,h,fun p hp=>hp⟩
 | [],xs,fp,n+1,h=>by
  simp only[Iss] at h;rw[h.1]
  exact⟨[],by rw[List.drop_nil,List.drop_nil];exact Iss.nil,fun p hp=>by simp at hp⟩
 | l::ls,xs,fp,n+1,h=>by
  obtain⟨x,r,f1,f2,rfl,h1,h2,rfl⟩:=h.inv
  obtain⟨f3,a,b⟩:=h2.drop n
  exact⟨f3,a,fun p hp=>List.mem_append_right _ (b p hp)⟩
theorem Iss.setP:∀{l:List PV}{xs:List V}{a:PV}{x:V}(i:Nat),ZG l=true->Z4 a=true->Iss K H l xs []->Is K H a x []->Iss K H (l.set i a) (xs.set i x) []
 | [],xs,a,x,i,_,_,h,_=>by
  simp only[Iss] at h
  rw[h.1];simp only[List.set_nil];exact Iss.nil
 | l::ls,xs,a,x,0,hp,_,h,ha=>by
  simp only[ZG,Bool.and_eq_true] at hp
  obtain⟨y,r,f1,f2,rfl,_,h2,e⟩:=h.inv
  have e2:=Iss.pure _ _ _ hp.2 h2;subst e2
  exact Iss.cons (f1:=[]) ha h2
 | l::ls,xs,a,x,i+1,hp,hq,h,ha=>by
  simp only[ZG,Bool.and_eq_true] at hp
  obtain⟨y,r,f1,f2,rfl,h1,h2,e⟩:=h.inv
  have e1:=Is.pure _ _ _ hp.1 h1;have e2:=Iss.pure _ _ _ hp.2 h2
  subst e1 e2
  exact Iss.cons (f1:=[]) h1 (Iss.setP i hp.2 hq h2 ha)
theorem Is.int_inv{i:Int}{v:V}{fp:List Addr}(h:Is K H (.int i) v fp):v = .int i/\fp=[]:=by simpa only[Is] using h
theorem Is.int(i:Int):Is K H (.int i) (.int i) []:=by simp[Is]
theorem Is.bl(i:Bool):Is K H (.bl i) (.bl i) []:=by simp[Is]
theorem Is.non:Is K H .non .non []:=by simp[Is]
theorem Is.str(x:Str):Is K H (.str x) (.str x) []:=by simp[Is]
theorem Is.ty(n:String):Is K H (.ty n) (.ty n) []:=by simp[Is]
theorem Is.bl_inv{i:Bool}{v:V}{fp:List Addr}(h:Is K H (.bl i) v fp):v = .bl i/\fp=[]:=by simpa only[Is] using h
theorem Is.str_inv{i:Str}{v:V}{fp:List Addr}(h:Is K H (.str i) v fp):v = .str i/\fp=[]:=by simpa only[Is] using h
theorem Is.non_inv{v:V}{fp:List Addr}(h:Is K H .non v fp):v = .non/\fp=[]:=by simpa only[Is] using h
theorem Is.ty_inv{n:String}{v:V}{fp:List Addr}(h:Is K H (.ty n) v fp):v = .ty n/\fp=[]:=by simpa only[Is] using h
theorem Is.tup_inv{l:List PV}{v:V}{fp:List Addr}(h:Is K H (.tup l) v fp):∃p xs,v = .ref p/\H p=some (.tup xs)/\Iss K H l xs fp:=by simpa only[Is] using h
theorem Is.tup{l:List PV}{p:Addr}{xs:List V}{fp:List Addr}(h:H p=some (.tup xs))(hi:Iss K H l xs fp):Is K H (.tup l) (.ref p) fp:=by simp only[Is];exact⟨p,xs,rfl,h,hi⟩
theorem Is.lst_inv{l:List PV}{v:V}{fp:List Addr}(h:Is K H (.lst l) v fp):∃p xs fq,v = .ref p/\H p=some (.lst xs)/\Iss K H l xs fq/\fp=p::fq:=by simpa only[Is] using h
theorem Is.lst{l:List PV}{p:Addr}{xs:List V}{fp:List Addr}(h:H p=some (.lst xs))(hi:Iss K H l xs fp):Is K H (.lst l) (.ref p) (p::fp):=by
 simp only[Is];exact⟨p,xs,fp,rfl,h,hi,rfl⟩
theorem Is.cst_inv{l:List PV}{v:V}{fp:List Addr}(h:Is K H (.cst l) v fp):∃p xs,v = .ref p/\CsK K H p xs/\Iss K H l xs fp:=by simpa only[Is] using h
theorem Is.cst{l:List PV}{p:Addr}{xs:List V}{fp:List Addr}(h:CsK K H p xs)(hi:Iss K H l xs fp):Is K H (.cst l) (.ref p) fp:=by
 simp only[Is];exact⟨p,xs,rfl,h,hi⟩
theorem Is.dT_inv{ks:List (List Se)}{l:List PV}{v:V}{fp:List Addr}(h:Is K H (.dT ks l) v fp):∃p kvs fq,v = .ref p/\Rd H p (.dT kvs)/\kvs.map (·.1)=ks/\Iss K H l (kvs.map (·.2)) fq/\fp=p::fq:=by simpa only[Is] using h
theorem Is.dK_inv{ks:List Se}{l:List PV}{v:V}{fp:List Addr}(h:Is K H (.dK ks l) v fp):∃p kvs fq,v = .ref p/\Rd H p (.dK kvs)/\kvs.map (·.1)=ks/\Iss K H l (kvs.map (·.2)) fq/\fp=p::fq:=by simpa only[Is] using h
end
abbrev iL(l:List Int):List PV:=l.map PV.int
theorem Yk(l:List Int):ZG (iL l)=true:=by
 rw[Xw,List.all_eq_true];intro x hx
 obtain⟨i,_,rfl⟩:=List.mem_map.mp hx
 rfl
theorem Iss.iL{H:Hp}:∀{l:List Int}{xs:List V}{fp:List Addr},Iss K H (VL.iL l) xs fp->xs=l.map V.int/\fp=[]
 | [],xs,fp,h=>by simpa only[VL.iL,List.map_nil,Iss] using h
 | i::l,xs,fp,h=>by
  obtain⟨x,r,f1,f2,rfl,h1,h2,rfl⟩:=Iss.inv (show Iss K H (PV.int i::VL.iL l) xs fp from h)
  obtain⟨rfl,rfl⟩:=h1.int_inv
  obtain⟨rfl,rfl⟩:=h2.iL
  exact⟨rfl,rfl⟩
theorem Iss.ofInts{H:Hp}:∀(l:List Int),Iss K H (VL.iL l) (l.map V.int) []
 | []=>Iss.nil
 | i::l=>Iss.cons (f1:=[]) (Is.int i) (Iss.ofInts l)
end VL
namespace VL
open PySem PySem.Spec PyProof.Rows L2
variable {K:PySem.W.Frag}
abbrev TF:=L2.St
abbrev ZP:=List (Option PV)
abbrev XE:=ZP->Option PV
structure EnvIs(K:PySem.W.Frag)(Rm:Addr->Prop)(H:Hp)(s:ZP)(σ:TF):Prop where
 is:∀(i:Nat) l,s[i]?=some (some l)->∃v fp,σ[i]?=some (some v)/\Is K H l v fp/\∀p∈fp,¬Rm p
theorem EnvIs.mono{Rm:Addr->Prop}{H H':Hp}{s:ZP}{σ:TF}(h:EnvIs K Rm H s σ)(e:Same H H'):EnvIs K Rm H' s σ:=⟨fun i l q=>by
 obtain⟨v,fp,a,b,c⟩:=h.is i l q
 exact⟨v,fp,a,b.mono e,c⟩⟩
theorem EnvIs.free{Rm:Addr->Prop}{H:Hp}{s:ZP}{σ:TF}(h:EnvIs K Rm H s σ):EnvIs K (fun _=>False) H s σ:=⟨fun i l q=>by
 obtain⟨v,fp,a,b,c⟩:=h.is i l q
 exact⟨v,fp,a,b,fun _ _ z=>z⟩⟩
theorem Same.mut{H H':Hp}(e:Same H H'){p:Addr}(h:W5 (H p)):W5 (H' p):=by
 cases q:H p with
 | none=>rw[q] at h;exact h.elim
 | some o=>rw[e p o q,<-q];exact h
theorem Xk{H:Hp}{p:Addr}(h:W5 (H p)):H p≠none:=fun z=>by rw[z] at h;exact h
def tF(K:PySem.W.Frag)(f:XE):TE:=fun σ H Q=>∃(Rm:Addr->Prop) (s:ZP) (l:PV),(∀p,Rm p->W5 (H p))/\EnvIs K Rm H s σ/\f s=some l/\∀v H' fp,Same H H'->Is K H' l v fp->(∀p∈fp,¬Rm p)->Q v H'
def tM(K:PySem.W.Frag)(f:XE):TE:=fun σ H Q=>∃(s:ZP) (l:PV),EnvIs K (fun _=>False) H s σ/\f s=some l/\∀v H' fp,Same H H'->Is K H' l v fp->fp.Nodup->(∀p∈fp,H p=none/\W5 (H' p))->Q v H'
def VE(X:Cx)(e:Expr)(f:XE):Prop:=PE X e (tF X.K f)
def VM(X:Cx)(e:Expr)(f:XE):Prop:=PE X e (tM X.K f)
section
variable {X:Cx} {e:Expr} {f g:XE} {t t':TE}
theorem PE.imp(h:PE X e t)(i:∀σ H Q,t' σ H Q->t σ H Q):PE X e t':=fun pins s σ H Q I q=>h pins s σ H Q I (i σ H Q q)
theorem VM.ve(h:VM X e f):VE X e f:=PE.imp h fun σ H Q ⟨Rm,s,l,hd,env,e,k⟩=>
 ⟨s,l,env.free,e,fun v H' fp sm i _ n=>k v H' fp sm i fun p hp z=>Xk (hd p z) (n p hp).1⟩
def eP(f:XE):XE:=fun s=>(f s).bind fun l=>if Z4 l=true then some l else none
theorem Ih{s:ZP}{l:PV}(h:eP f s=some l):f s=some l/\Z4 l=true:=by
 unfold eP at h
 cases q:f s with
 | none=>rw[q] at h;cases h
 | some a=>
  rw[q] at h;simp only[Option.bind_some] at h
  split at h
  ·cases h;exact⟨rfl,by assumption⟩
  ·cases h
theorem VE.pure(h:VE X e f):VM X e (eP f):=PE.imp h fun σ H Q ⟨s,l,env,e,k⟩=>by
 obtain⟨e1,e2⟩:=Ih e
 refine⟨fun _=>False,s,l,fun _ z=>z.elim,env,e1,fun v H' fp sm i n=>?_⟩
 have:=Is.pure l v fp e2 i
 subst this
 exact k v H' [] sm i List.nodup_nil fun p hp=>by simp at hp
end
def Za(i:Nat):XE:=fun s=>(s[i]?).join
def eC(l:PV):XE:=fun _=>some l
theorem R4{i:Nat}{s:ZP}{l:PV}(h:Za i s=some l):s[i]?=some (some l):=by
 unfold Za at h
 cases q:s[i]? with
 | none=>rw[q] at h;cases h
 | some o=>rw[q] at h;cases o with
  | none=>cases h
  | some a=>cases h;rfl
section
variable {X:Cx} {pos:Pos}
theorem Zd{e:Expr}{i:Nat}(h:PE X e (Ur i)):VE X e (Za i):=PE.imp h fun σ H Q ⟨Rm,s,l,hd,env,e,k⟩=>by
 obtain⟨v,fp,a,b,c⟩:=env.is i l (R4 e)
 exact⟨v,a,k v H fp (Same.refl H) b c⟩
theorem Ii{e:Expr}{v:V}{l:PV}(h:PE X e (tC v))(hv:∀H,Is X.K H l v []):VE X e (eC l):=PE.imp h fun σ H Q ⟨Rm,s,l',hd,env,e,k⟩=>by
 cases e
 exact k v H [] (Same.refl H) (hv H) fun p hp=>by simp at hp
theorem Zi{i j}:VE X (.Constant (.int i) j pos) (eC (.int i)):=Ii Gg fun _=>Is.int i
theorem SA{i j}:VE X (.Constant (.bool i) j pos) (eC (.bl i)):=Ii FN fun _=>Is.bl i
theorem Ka{j}:VE X (.Constant .none j pos) (eC .non):=Ii Gh fun _=>Is.non
end
def RB(K:PySem.W.Frag)(r:R2)(g:PV->PV->Option PV):Prop:=∀(H:Hp)(x y:V)(a b l:PV)(fa fb:List Addr),Is K H a x fa->Is K H b y fb->g a b=some l->∀Q:VK,
 (∀v H' fp,Same H H'->Is K H' l v fp->(∀p∈fp,p∈fa\/p∈fb\/H p=none)->Q v H')->r x y H Q
def Ze(g:PV->PV->Option PV)(a b:XE):XE:=fun s=>(a s).bind fun x=>(b s).bind fun y=>g x y
theorem SD{g:PV->PV->Option PV}{a b:XE}{s:ZP}{l:PV}(h:Ze g a b s=some l):∃x y,a s=some x/\b s=some y/\g x y=some l:=by
 unfold Ze at h
 cases q:a s with
 | none=>rw[q] at h;cases h
 | some x=>cases q2:b s with
  | none=>rw[q,q2] at h;cases h
  | some y=>rw[q,q2] at h;exact⟨x,y,rfl,rfl,h⟩
section
variable {X:Cx} {a b:Expr} {fa fb:XE} {pos:Pos}
theorem NS{r:R2}{g:PV->PV->Option PV}(hr:RB K r g):∀σ H Q,tF K (Ze g fa fb) σ H Q->FK r (tF K fa) (tF K fb) σ H Q:=fun σ H Q ⟨Rm,s,l,hd,env,e,k⟩=>by
 obtain⟨x',y',ex,ey,e⟩:=SD e
 refine⟨Rm,s,x',hd,env,ex,fun x H1 f1 s1 i1 n1=>⟨Rm,s,y',fun p hp=>Same.mut s1 (hd p hp),env.mono s1,ey,fun y H2 f2 s2 i2 n2=>?_⟩⟩
 refine hr H2 x y x' y' l f1 f2 (i1.mono s2) i2 e Q fun v H3 fp s3 i3 n3=>k v H3 fp (s1.trans (s2.trans s3)) i3 fun p hp z=>?_
 rcases n3 p hp with h | h | h
 ·exact n1 p h z
 ·exact n2 p h z
 ·exact Xk (Same.mut (s1.trans s2) (hd p z)) h
theorem Vh{op:Operator}{r:R2}{g:PV->PV->Option PV}(ho:UT X (binaryOp op) r)(hr:RB X.K r g)(ha:VE X a fa)(hb:VE X b fb):VE X (.BinOp a op b pos) (Ze g fa fb):=
 PE.imp (LQ ho ha hb) (NS hr)
theorem OK{op:CmpOp}{r:R2}{g:PV->PV->Option PV}(ho:UT X (compareOp op) r)(hr:RB X.K r g)(ha:VE X a fa)(hb:VE X b fb)(hm:behindInMarks op b=false):VE X (.Compare a [op] [b] pos) (Ze g fa fb):=
 PE.imp (JX ho ha hb hm) (NS hr)
theorem Ej{r:R2}{g:PV->PV->Option PV}(ho:IxR X r)(hr:RB X.K r g)(ha:VE X a fa)(hb:VE X b fb)(hs:Qw b):VE X (.Subscript a b pos) (Ze g fa fb):=
 PE.imp (Pw ho ha hb hs) (NS hr)
end
def gI(g:Int->Int->Int):PV->PV->Option PV
 | .int i,.int j=>some (.int (g i j))
 | _,_=>none
def gB(g:Int->Int->Bool):PV->PV->Option PV
 | .int i,.int j=>some (.bl (g i j))
 | _,_=>none
def JO(C:Int->Int->Prop)[∀i j,Decidable (C i j)](g:Int->Int->Int):PV->PV->Option PV
 | .int i,.int j=>if C i j then some (.int (g i j)) else none
 | _,_=>none
theorem Ij{g:Int->Int->Int}{a b l:PV}(h:gI g a b=some l):∃i j,a = .int i/\b = .int j/\l = .int (g i j):=by
 unfold gI at h;split at h
 ·cases h;exact⟨_,_,rfl,rfl,rfl⟩
 ·cases h
theorem Ik{g:Int->Int->Bool}{a b l:PV}(h:gB g a b=some l):∃i j,a = .int i/\b = .int j/\l = .bl (g i j):=by
 unfold gB at h;split at h
 ·cases h;exact⟨_,_,rfl,rfl,rfl⟩
 ·cases h
theorem Kb{C:Int->Int->Prop}[∀i j,Decidable (C i j)]{g:Int->Int->Int}{a b l:PV}(h:JO C g a b=some l):∃i j,a = .int i/\b = .int j/\C i j/\l = .int (g i j):=by
 unfold JO at h;split at h
 ·split at h
  ·cases h;exact⟨_,_,rfl,rfl,by assumption,rfl⟩
  ·cases h
 ·cases h
theorem GW(g:Int->Int->Int):RB K (JN fun i j=>.int (g i j)) (gI g):=fun H x y a b l fa fb ha hb e Q k=>by
 obtain⟨i,j,rfl,rfl,rfl⟩:=Ij e
 exact⟨i,j,ha.int_inv.1,hb.int_inv.1,k _ H [] (Same.refl H) (Is.int _) fun p hp=>by simp at hp⟩
theorem Kc(g:Int->Int->Bool):RB K (JN fun i j=>.bl (g i j)) (gB g):=fun H x y a b l fa fb ha hb e Q k=>by
 obtain⟨i,j,rfl,rfl,rfl⟩:=Ik e
 exact⟨i,j,ha.int_inv.1,hb.int_inv.1,k _ H [] (Same.refl H) (Is.bl _) fun p hp=>by simp at hp⟩
theorem PJ(C:Int->Int->Prop)[∀i j,Decidable (C i j)](g:Int->Int->Int):RB K (rI C fun i j=>.int (g i j)) (JO C g):=fun H x y a b l fa fb ha hb e Q k=>by
 obtain⟨i,j,rfl,rfl,c,rfl⟩:=Kb e
 exact⟨i,j,ha.int_inv.1,hb.int_inv.1,c,k _ H [] (Same.refl H) (Is.int _) fun p hp=>by simp at hp⟩
instance (i j:Int):Decidable (CMul i j):=by unfold CMul;infer_instance
instance (i j:Int):Decidable (Vb i j):=by unfold Vb;infer_instance
instance (i j:Int):Decidable (Hy i j):=by unfold Hy;infer_instance
instance (i j:Int):Decidable (LR i j):=by unfold LR;infer_instance
abbrev Zx:=gI (· + ·)
abbrev Yt:=gI (· - ·)
abbrev YR:=JO CMul (· * ·)
abbrev Y4:=JO Vb (· / ·)
abbrev Z3:=JO (fun _ j=>0<j) (· % ·)
abbrev Kd:=JO LR (fun i j=>i*2^j.toNat)
abbrev QA:=JO (fun _ j=>0<=j) (fun i j=>i/2^j.toNat)
abbrev OL:=gI Builtin.bitAnd
abbrev UW:=gB (fun i j=>decide (i<j))
abbrev RG:=gB (fun i j=>decide (j<i))
abbrev EM:=gB (fun i j=>decide (j<=i))
section
variable {X:Cx} {a b:Expr} {fa fb:XE} {pos:Pos}
theorem ZQ(ha:VE X a fa)(hb:VE X b fb):VE X (.BinOp a .Add b pos) (Ze Zx fa fb):=Vh Gz (GW _) ha hb
theorem XJ(ha:VE X a fa)(hb:VE X b fb):VE X (.BinOp a .Sub b pos) (Ze Yt fa fb):=Vh GA (GW _) ha hb
theorem Vi(ha:VE X a fa)(hb:VE X b fb):VE X (.BinOp a .Mult b pos) (Ze YR fa fb):=Vh GB (PJ _ _) ha hb
theorem YS(ha:VE X a fa)(hb:VE X b fb):VE X (.BinOp a .FloorDiv b pos) (Ze Y4 fa fb):=Vh JW (PJ _ _) ha hb
theorem Y0(ha:VE X a fa)(hb:VE X b fb):VE X (.BinOp a .Mod b pos) (Ze Z3 fa fb):=Vh GC (PJ _ _) ha hb
theorem GX(ha:VE X a fa)(hb:VE X b fb):VE X (.BinOp a .LShift b pos) (Ze Kd fa fb):=Vh GD (PJ _ _) ha hb
theorem Ke(ha:VE X a fa)(hb:VE X b fb):VE X (.BinOp a .RShift b pos) (Ze QA fa fb):=Vh GF (PJ _ _) ha hb
theorem NT(ha:VE X a fa)(hb:VE X b fb):VE X (.BinOp a .BitAnd b pos) (Ze OL fa fb):=Vh GG (GW _) ha hb
theorem HE(ha:VE X a fa)(hb:VE X b fb):VE X (.Compare a [.Lt] [b] pos) (Ze UW fa fb):=OK Hz (Kc _) ha hb (Vf _)
theorem Kf(ha:VE X a fa)(hb:VE X b fb):VE X (.Compare a [.Gt] [b] pos) (Ze RG fa fb):=OK HA (Kc _) ha hb (Vf _)
end
def ZE:PV->PV->Option PV
 | .lst l,.int i=>U2 l i
 | .cst l,.int i=>U2 l i
 | .tup l,.int i=>U2 l i
 | .str z,.int i=>if z.length<=sizeLine then(U2 z.cps.toList i).map fun c=>.str ⟨#[c]⟩ else none
 | _,_=>none
theorem OM{l:List PV}{xs:List V}{H:Hp}{fp:List Addr}{i:Int}{a:PV}(h:Iss K H l xs fp)(e:U2 l i=some a):∃x f1,U2 xs i=some x/\Is K H a x f1/\∀p∈f1,p∈fp:=by
 unfold U2 at e ⊢
 rw[h.len]
 cases q:Pl l.length i with
 | none=>rw[q] at e;cases e
 | some j=>rw[q] at e;exact h.get e
theorem Ek:RB K (Dt K) ZE:=fun H x y a b l fa fb ha hb e Q k=>by
 unfold ZE at e;split at e
 ·obtain⟨p,xs,fq,rfl,hp,hi,rfl⟩:=ha.lst_inv
  obtain⟨z,f1,h1,h2,h3⟩:=OM hi e
  exact .inl ⟨p,xs,_,z,rfl,hb.int_inv.1,SqL.of hp,h1,k z H f1 (Same.refl H) h2 fun q hq=>.inl (List.mem_cons_of_mem _ (h3 q hq))⟩
 ·obtain⟨p,xs,rfl,hp,hi⟩:=ha.cst_inv
  obtain⟨z,f1,h1,h2,h3⟩:=OM hi e
  exact .inl ⟨p,xs,_,z,rfl,hb.int_inv.1,hp.sq,h1,k z H f1 (Same.refl H) h2 fun q hq=>.inl (h3 q hq)⟩
 ·obtain⟨p,xs,rfl,hp,hi⟩:=ha.tup_inv
  obtain⟨z,f1,h1,h2,h3⟩:=OM hi e
  exact .inr (.inl ⟨p,xs,_,z,rfl,hb.int_inv.1,SqT.of hp,h1,k z H f1 (Same.refl H) h2 fun q hq=>.inl (h3 q hq)⟩)
 ·split at e
  ·cases q:U2 _ _ with
   | none=>rw[q] at e;cases e
   | some c=>
    rw[q] at e;cases e
    exact .inr (.inr ⟨_,_,c,ha.str_inv.1,hb.int_inv.1,by assumption,q,k _ H [] (Same.refl H) (Is.str _) fun p hp=>by simp at hp⟩)
  ·cases e
 ·cases e
section
variable {X:Cx} {a b:Expr} {fa fb:XE} {pos:Pos}
theorem Zu(ha:VE X a fa)(hb:VE X b fb)(hs:Qw b:=by exact fun _ _=>rfl):VE X (.Subscript a b pos) (Ze ZE fa fb):=Ej GP Ek ha hb hs
end
abbrev XT:=ZP->Option Bool
def MQ(K:PySem.W.Frag)(f:XT):TT:=fun σ H Q=>∃(Rm:Addr->Prop) (s:ZP) (c:Bool),(∀p,Rm p->W5 (H p))/\EnvIs K Rm H s σ/\f s=some c/\∀H',Same H H'->Q c H'
def VT(X:Cx)(e:Expr)(f:XT):Prop:=PT X e (MQ X.K f)
def VW(X:Cx)(e:Expr)(f:XT):Prop:=PW X e (MQ X.K f)
section
variable {X:Cx} {e:Expr} {f:XT}
theorem PT.imp{t t':TT}(h:PT X e t)(i:∀σ H Q,t' σ H Q->t σ H Q):PT X e t':=fun pins s σ H Q I q=>h pins s σ H Q I (i σ H Q q)
theorem PW.imp{t t':TT}(h:PW X e t)(i:∀σ H Q,t' σ H Q->t σ H Q):PW X e t':=fun whole pins s σ H Q I q=>h whole pins s σ H Q I (i σ H Q q)
theorem VW.vt(h:VW X e f):VT X e f:=PW.pt h
end
def xB(f:XE):XT:=fun s=>match f s with | some (.bl c)=>some c | _=>none
theorem Uy{f:XE}{s:ZP}{c:Bool}(h:xB f s=some c):f s=some (.bl c):=by
 unfold xB at h;split at h
 ·cases h;assumption
 ·cases h
section
variable {X:Cx} {a b c:Expr} {rest:List Expr} {fa fb:XE} {ga gb:XT} {pos:Pos}
theorem U7(h:VE X a fa)(he:∀whole,isTrue a X.env whole=(do let v <-whole;standAt a.pos;holding [v] (truthy v)):=by intro _;rfl):VT X a (xB fa):=
 PT.imp (Gj h he) fun σ H Q ⟨Rm,s,c,hd,env,e,k⟩=>⟨Rm,s,.bl c,hd,env,Uy e,fun v H' fp sm i n=>⟨c,i.bl_inv.1,k H' sm⟩⟩
theorem Kg:∀σ H Q,MQ K (xB fa) σ H Q->NK (tF K fa) σ H Q:=fun σ H Q ⟨Rm,s,c,hd,env,e,k⟩=>⟨Rm,s,.bl c,hd,env,Uy e,fun v H' fp sm i n=>⟨c,i.bl_inv.1,k H' sm⟩⟩
theorem ON{t t':TE}(i:∀σ H Q,t' σ H Q->t σ H Q):∀σ H Q,NK t' σ H Q->NK t σ H Q:=fun σ H Q h=>i σ H _ h
theorem U8{op:CmpOp}{r:R2}{g:PV->PV->Option PV}(ho:UT X (compareOp op) r)(hr:RB X.K r g)(ha:VE X a fa)(hb:VE X b fb)(hm:behindInMarks op b=false):VT X (.Compare a [op] [b] pos) (xB (Ze g fa fb)):=
 PT.imp (JY ho ha hb hm) fun σ H Q h=>ON (NS hr) σ H Q (Kg σ H Q h)
theorem PL(ha:VE X a fa)(hb:VE X b fb):VT X (.Compare a [.Lt] [b] pos) (xB (Ze UW fa fb)):=U8 Hz (Kc _) ha hb (Vf _)
theorem El(ha:VE X a fa)(hb:VE X b fb):VT X (.Compare a [.Gt] [b] pos) (xB (Ze RG fa fb)):=U8 HA (Kc _) ha hb (Vf _)
theorem Em(ha:VE X a fa)(hb:VE X b fb):VT X (.Compare a [.GtE] [b] pos) (xB (Ze EM fa fb)):=U8 F5 (Kc _) ha hb (Vf _)
def Di(a b:XT):XT:=fun s=>(a s).bind fun c=>if c=true then b s else some false
def R5(a b:XT):XT:=fun s=>(a s).bind fun c=>if c=true then some true else b s
def U9(a:XT):XT:=fun s=>(a s).map not
theorem GY:∀σ H Q,MQ K (R5 ga gb) σ H Q->Dq (MQ K ga) (MQ K gb) σ H Q:=fun σ H Q ⟨Rm,s,c,hd,env,e,k⟩=>by
 unfold R5 at e
 cases q:ga s with
 | none=>rw[q] at e;cases e
 | some d=>
  rw[q] at e
  refine⟨Rm,s,d,hd,env,q,fun H1 s1=>?_⟩
  cases d with
  | true=>
   simp only[Option.bind_some,if_true] at e;cases e;rw[if_pos rfl]
   exact k H1 s1
  | false=>
   simp only[Option.bind_some,Bool.false_eq_true,if_false] at e;rw[if_neg Bool.false_ne_true]
   exact⟨Rm,s,c,fun p hp=>Same.mut s1 (hd p hp),env.mono s1,e,fun H2 s2=>k H2 (s1.trans s2)⟩
theorem QB(ha:VT X a ga):VW X (.BoolOp .Or [a] pos) ga:=Gk ha
theorem R6(ha:VT X a ga)(hb:VW X (.BoolOp .Or (b::rest) pos) gb):VW X (.BoolOp .Or (a::b::rest) pos) (R5 ga gb):=PW.imp (FQ ha hb) GY
theorem QC(ha:VT X a ga):VT X (.UnaryOp .Not a pos) (U9 ga):=PT.imp (Gm ha) fun σ H Q ⟨Rm,s,c,hd,env,e,k⟩=>by
 unfold U9 at e
 cases q:ga s with
 | none=>rw[q] at e;cases e
 | some d=>rw[q] at e;cases e;exact⟨Rm,s,d,hd,env,q,k⟩
end
section
variable {X:Cx} {a b c:Expr} {rest:List Expr} {fa fb:XE} {gc:XT} {pos:Pos}
def Ug(a b:XE):XE:=fun s=>(xB a s).bind fun c=>if c=true then b s else some (.bl false)
def DD(a b:XE):XE:=fun s=>(xB a s).bind fun c=>if c=true then some (.bl true) else b s
def Il(a:XE):XE:=fun s=>(xB a s).map fun c=>.bl !c
def JP(c:XT)(a b:XE):XE:=fun s=>(c s).bind fun k=>if k=true then a s else b s
theorem OO{op}(h:VE X a fa):VE X (.BoolOp op [a] pos) fa:=Gn h
theorem QD(ha:VE X a fa)(hb:VE X (.BoolOp .And (b::rest) pos) fb):VE X (.BoolOp .And (a::b::rest) pos) (Ug fa fb):=PE.imp (Gp ha hb) fun σ H Q ⟨Rm,s,l,hd,env,e,k⟩=>by
 unfold Ug at e
 cases q:xB fa s with
 | none=>rw[q] at e;cases e
 | some d=>
  rw[q] at e
  refine⟨Rm,s,.bl d,hd,env,Uy q,fun v H1 fp s1 i1 _=>⟨d,i1.bl_inv.1,?_⟩⟩
  cases d with
  | true=>
   simp only[Option.bind_some,if_true] at e;rw[if_pos rfl]
   exact⟨Rm,s,l,fun p hp=>Same.mut s1 (hd p hp),env.mono s1,e,fun v2 H2 fp2 s2 i2 n2=>k v2 H2 fp2 (s1.trans s2) i2 n2⟩
  | false=>
   simp only[Option.bind_some,Bool.false_eq_true,if_false] at e;cases e;rw[if_neg Bool.false_ne_true]
   exact k _ H1 [] s1 (Is.bl false) fun p hp=>by simp at hp
theorem GZ(ha:VE X a fa):VE X (.UnaryOp .Not a pos) (Il fa):=PE.imp (Gq ha) fun σ H Q ⟨Rm,s,l,hd,env,e,k⟩=>by
 unfold Il at e
 cases q:xB fa s with
 | none=>rw[q] at e;cases e
 | some d=>
  rw[q] at e;cases e
  exact⟨Rm,s,.bl d,hd,env,Uy q,fun v H1 fp s1 i1 _=>⟨d,i1.bl_inv.1,k _ H1 [] s1 (Is.bl _) fun p hp=>by simp at hp⟩⟩
theorem Kh(hc:VT X c gc)(ha:VE X a fa)(hb:VE X b fb):VE X (.IfExp c a b pos) (JP gc fa fb):=PE.imp (LM hc ha hb) fun σ H Q ⟨Rm,s,l,hd,env,e,k⟩=>by
 unfold JP at e
 cases q:gc s with
 | none=>rw[q] at e;cases e
 | some d=>
  rw[q] at e
  refine⟨Rm,s,d,hd,env,q,fun H1 s1=>?_⟩
  cases d with
  | true=>
   simp only[Option.bind_some,if_true] at e;rw[if_pos rfl]
   exact⟨Rm,s,l,fun p hp=>Same.mut s1 (hd p hp),env.mono s1,e,fun v2 H2 fp2 s2 i2 n2=>k v2 H2 fp2 (s1.trans s2) i2 n2⟩
  | false=>
   simp only[Option.bind_some,Bool.false_eq_true,if_false] at e;rw[if_neg Bool.false_ne_true]
   exact⟨Rm,s,l,fun p hp=>Same.mut s1 (hd p hp),env.mono s1,e,fun v2 H2 fp2 s2 i2 n2=>k v2 H2 fp2 (s1.trans s2) i2 n2⟩
end
section
variable {X:Cx} {a b c:Expr} {fa fb fc:XE} {pos:Pos}
def En(neg:Bool):PV->Option PV
 | .non=>some (.bl !neg)
 | _=>some (.bl neg)
def OP:PV->Bool
 | .non=>true
 | _=>false
theorem SE{H:Hp}{l:PV}{v:V}{fp:List Addr}(i:Is K H l v fp):decide (v=V.non)=OP l:=by
 cases l with
 | non=>rw[i.non_inv.1];rfl
 | bl b=>rw[i.bl_inv.1];rfl
 | int j=>rw[i.int_inv.1];rfl
 | str y=>rw[i.str_inv.1];rfl
 | ty n=>rw[i.ty_inv.1];rfl
 | exc C=>simp only[Is] at i;obtain⟨⟨e,o,x,C,rfl,_⟩,_⟩:=i;rfl
 | exf C l=>simp only[Is] at i;obtain⟨⟨e,o,x,C,dx,od,u,z,rfl,_⟩,_⟩:=i;rfl
 | lst l=>obtain⟨p,xs,fq,rfl,_⟩:=i.lst_inv;rfl
 | cst l=>obtain⟨p,xs,rfl,_⟩:=i.cst_inv;rfl
 | tup l=>obtain⟨p,xs,rfl,_⟩:=i.tup_inv;rfl
 | dK ks l=>obtain⟨p,xs,fq,rfl,_⟩:=i.dK_inv;rfl
 | dT ks l=>obtain⟨p,xs,fq,rfl,_⟩:=i.dT_inv;rfl
def WR(neg:Bool)(a:XE):XE:=fun s=>(a s).bind (En neg)
theorem NU:∀σ H Q,tF K (WR false fa) σ H Q->FP (tF K fa) σ H Q:=fun σ H Q ⟨Rm,s,l,hd,env,e,k⟩=>by
 unfold WR at e
 cases q:fa s with
 | none=>rw[q] at e;cases e
 | some m=>
  rw[q] at e;simp only[Option.bind_some] at e
  refine⟨Rm,s,m,hd,env,q,fun v H1 fp s1 i1 _=>?_⟩
  show Q _ H1
  rw[SE i1]
  have:l = .bl (OP m):=by cases m<;>cases e<;>rfl
  subst this
  exact k _ H1 [] s1 (Is.bl _) fun p hp=>by simp at hp
theorem Ki:∀σ H Q,tF K (WR true fa) σ H Q->Ht (tF K fa) σ H Q:=fun σ H Q ⟨Rm,s,l,hd,env,e,k⟩=>by
 unfold WR at e
 cases q:fa s with
 | none=>rw[q] at e;cases e
 | some m=>
  rw[q] at e;simp only[Option.bind_some] at e
  refine⟨Rm,s,m,hd,env,q,fun v H1 fp s1 i1 _=>?_⟩
  show Q _ H1
  rw[SE i1]
  have:l = .bl (!OP m):=by cases m<;>cases e<;>rfl
  subst this
  exact k _ H1 [] s1 (Is.bl _) fun p hp=>by simp at hp
theorem G0{j pos'}(ha:VE X a fa):VE X (.Compare a [.Is] [.Constant .none j pos'] pos) (WR false fa):=PE.imp (Gi (LK ha)) NU
theorem HF:∀σ H Q,MQ K (xB fa) σ H Q->tB (tF K fa) σ H Q:=fun σ H Q ⟨Rm,s,c,hd,env,e,k⟩=>⟨Rm,s,.bl c,hd,env,Uy e,fun v H' fp sm i n=>⟨c,i.bl_inv.1,k H' sm⟩⟩
theorem NV{t t':TE}(i:∀σ H Q,t' σ H Q->t σ H Q):∀σ H Q,tB t' σ H Q->tB t σ H Q:=fun σ H Q h=>i σ H _ h
theorem G1{j pos'}(ha:VE X a fa):VT X (.Compare a [.Is] [.Constant .none j pos'] pos) (xB (WR false fa)):=PT.imp (LL (LK ha)) fun σ H Q h=>NV NU σ H Q (HF σ H Q h)
theorem Im{j pos'}(ha:VE X a fa):VT X (.Compare a [.IsNot] [.Constant .none j pos'] pos) (xB (WR true fa)):=PT.imp (LL (JT ha)) fun σ H Q h=>NV Ki σ H Q (HF σ H Q h)
def PM:PV->Option PV
 | .int i=>some (.int (-i))
 | _=>none
def RK(g:PV->Option PV)(a:XE):XE:=fun s=>(a s).bind g
theorem Kj(ha:VE X a fa):VE X (.UnaryOp .USub a pos) (RK PM fa):=PE.imp (F3 GH ha) fun σ H Q ⟨Rm,s,l,hd,env,e,k⟩=>by
 unfold RK at e
 cases q:fa s with
 | none=>rw[q] at e;cases e
 | some m=>
  rw[q] at e;simp only[Option.bind_some] at e;unfold PM at e
  split at e
  ·cases e
   exact⟨Rm,s,_,hd,env,q,fun v H1 fp s1 i1 _=>⟨_,i1.int_inv.1,k _ H1 [] s1 (Is.int _) fun p hp=>by simp at hp⟩⟩
  ·cases e
end
end VL
namespace VL
open PySem PySem.Spec PyProof.Rows L2
variable {K:PySem.W.Frag}
def Uz:List XE->ZP->Option (List PV)
 | [],_=>some []
 | f::fs,s=>(f s).bind fun x=>(Uz fs s).map (x::·)
theorem SG{f:XE}{fs:List XE}{s:ZP}{ls:List PV}(h:Uz (f::fs) s=some ls):∃x r,f s=some x/\Uz fs s=some r/\ls=x::r:=by
 unfold Uz at h
 cases q:f s with
 | none=>rw[q] at h;cases h
 | some x=>cases q2:Uz fs s with
  | none=>rw[q,q2] at h;cases h
  | some r=>rw[q,q2] at h;cases h;exact⟨x,r,rfl,rfl,rfl⟩
theorem WS:∀{fs:List XE}{s:ZP}{ls:List PV},Uz fs s=some ls->ls.length=fs.length
 | [],_,_,h=>by cases h;rfl
 | f::fs,s,ls,h=>by
  obtain⟨x,r,_,h2,rfl⟩:=SG h
  rw[List.length_cons,List.length_cons,WS h2]
def Dj(K:PySem.W.Frag)(fs:List XE):TA:=fun σ H Q=>∃(Rm:Addr->Prop) (s:ZP) (ls:List PV),(∀p,Rm p->W5 (H p))/\EnvIs K Rm H s σ/\Uz fs s=some ls/\∀vs H' fp,Same H H'->Iss K H' ls vs fp->(∀p∈fp,¬Rm p)->Q vs H'
def DE(K:PySem.W.Frag)(fs:List XE):TA:=fun σ H Q=>∃(s:ZP) (ls:List PV),EnvIs K (fun _=>False) H s σ/\Uz fs s=some ls/\∀vs H' fp,Same H H'->Iss K H' ls vs fp->fp.Nodup->(∀p∈fp,H p=none/\W5 (H' p))->Q vs H'
def VA(X:Cx)(es:List Expr)(fs:List XE):Prop:=PA X es (Dj X.K fs)
def EN(X:Cx)(es:List Expr)(fs:List XE):Prop:=PA X es (DE X.K fs)
section
variable {X:Cx} {e:Expr} {es:List Expr} {f:XE} {fs:List XE} {pos:Pos} {k:Nat}
theorem PA.imp{t t':TA}(h:PA X es t)(i:∀σ H Q,t' σ H Q->t σ H Q):PA X es t':=fun pos pins s σ H Q I q=>h pos pins s σ H Q I (i σ H Q q)
theorem Zf:VA X [] []:=PA.imp XI fun σ H Q ⟨Rm,s,ls,hd,env,e,k⟩=>by
 cases e
 exact k [] H [] (Same.refl H) Iss.nil fun p hp=>by simp at hp
theorem Zb(ha:VE X e f)(hr:VA X es fs)(hs:starEach (e::es) X.env=(false,eval e X.env)::starEach es X.env:=by rfl):VA X (e::es) (f::fs):=PA.imp (YI ha hr hs) fun σ H Q ⟨Rm,s,ls,hd,env,e,k⟩=>by
 obtain⟨x',r',h1,h2,rfl⟩:=SG e
 refine⟨Rm,s,x',hd,env,h1,fun x H1 f1 s1 i1 n1=>⟨Rm,s,r',fun p hp=>Same.mut s1 (hd p hp),env.mono s1,h2,fun xs H2 f2 s2 i2 n2=>?_⟩⟩
 refine k _ H2 (f1++f2) (s1.trans s2) (Iss.cons (i1.mono s2) i2) fun p hp=>?_
 rcases List.mem_append.mp hp with h | h
 ·exact n1 p h
 ·exact n2 p h
theorem WT:EN X [] []:=PA.imp XI fun σ H Q ⟨s,ls,env,e,k⟩=>by
 cases e
 exact k [] H [] (Same.refl H) Iss.nil List.nodup_nil fun p hp=>by simp at hp
theorem Kk(ha:VM X e f)(hr:EN X es fs)(hs:starEach (e::es) X.env=(false,eval e X.env)::starEach es X.env:=by rfl):EN X (e::es) (f::fs):=PA.imp (YI ha hr hs) fun σ H Q ⟨s,ls,env,e,k⟩=>by
 obtain⟨x',r',h1,h2,rfl⟩:=SG e
 refine⟨s,x',env,h1,fun x H1 f1 s1 i1 d1 n1=>⟨s,r',env.mono s1,h2,fun xs H2 f2 s2 i2 d2 n2=>?_⟩⟩
 refine k _ H2 (f1++f2) (s1.trans s2) (Iss.cons (i1.mono s2) i2) ?_ fun p hp=>?_
 ·refine List.nodup_append.mpr ⟨d1,d2,fun a ha b hb z=>?_⟩
  subst z
  exact Xk (n1 a ha).2 (n2 a hb).1
 ·rcases List.mem_append.mp hp with h | h
  ·exact⟨(n1 p h).1,Same.mut s2 (n1 p h).2⟩
  ·exact⟨Same.off s1 (n2 p h).1,(n2 p h).2⟩
def YT(fs:List XE):XE:=fun s=>(Uz fs s).map .tup
def Xt(fs:List XE):XE:=fun s=>(Uz fs s).map .lst
theorem map_some{α β:Type}{o:Option α}{g:α->β}{b:β}(h:o.map g=some b):∃a,o=some a/\b=g a:=by
 cases o with
 | none=>cases h
 | some a=>cases h;exact⟨a,rfl,rfl⟩
theorem WU(h:VA X es fs)(hl:fs.length<=1000:=by decide):VE X (.Tuple es k pos) (YT fs):=PE.imp (GI h) fun σ H Q ⟨Rm,s,l,hd,env,e,q⟩=>by
 obtain⟨ls,e1,rfl⟩:=map_some e
 refine⟨Rm,s,ls,hd,env,e1,fun vs H1 fp s1 i1 n1=>⟨?_,fun p hp=>?_⟩⟩
 ·rw[i1.len,WS e1];exact Nat.le_of_lt (lt_size (by omega))
 ·exact q _ _ fp (s1.trans (Same.new hp _)) (Is.tup Zq (i1.mono (Same.new hp _))) n1
theorem SH(h:VA X es fs)(hl:fs.length<=1000:=by decide):VE X (.List es pos) (Xt fs):=PE.imp (LS h) fun σ H Q ⟨Rm,s,l,hd,env,e,q⟩=>by
 obtain⟨ls,e1,rfl⟩:=map_some e
 refine⟨Rm,s,ls,hd,env,e1,fun vs H1 fp s1 i1 n1=>⟨?_,fun p hp=>?_⟩⟩
 ·rw[i1.len,WS e1];exact Nat.le_of_lt (lt_size (by omega))
 ·refine q _ _ (p::fp) (s1.trans (Same.new hp _)) (Is.lst Zq (i1.mono (Same.new hp _))) fun a ha z=>?_
  rcases List.mem_cons.mp ha with rfl | ha
  ·exact Xk (Same.mut s1 (hd a z)) hp
  ·exact n1 a ha z
theorem Uh(h:EN X es fs)(hl:fs.length<=1000:=by decide):VM X (.List es pos) (Xt fs):=PE.imp (LS h) fun σ H Q ⟨s,l,env,e,q⟩=>by
 obtain⟨ls,e1,rfl⟩:=map_some e
 refine⟨s,ls,env,e1,fun vs H1 fp s1 i1 d1 n1=>⟨?_,fun p hp=>?_⟩⟩
 ·rw[i1.len,WS e1];exact Nat.le_of_lt (lt_size (by omega))
 ·refine q _ _ (p::fp) (s1.trans (Same.new hp _)) (Is.lst Zq (i1.mono (Same.new hp _))) (List.nodup_cons.mpr ⟨fun z=>Xk (n1 p z).2 hp,d1⟩) fun a ha=>?_
  rcases List.mem_cons.mp ha with rfl | ha
  ·exact⟨Same.off s1 hp,by rw[Zq];exact True.intro⟩
  ·exact⟨(n1 a ha).1,Same.mut (Same.new hp _) (n1 a ha).2⟩
end
def YJ(K:PySem.W.Frag)(D:List PV->Option PV)(n:Nat):Sp:=fun vs H Q _=>vs.length=n/\∃ls fp l,Iss K H ls vs fp/\D ls=some l/\∀v H' fq,Same H H'->Is K H' l v fq->fq.Nodup->(∀p∈fq,H p=none/\W5 (H' p))->Q v H'
def Zc(D:List PV->Option PV)(fs:List XE):XE:=fun s=>(Uz fs s).bind D
theorem Zg{α β:Type}{o:Option α}{g:α->Option β}{b:β}(h:o.bind g=some b):∃a,o=some a/\g a=some b:=by
 cases o with
 | none=>cases h
 | some a=>exact⟨a,rfl,h⟩
section
variable {X:Cx} {x:Str} {ps:List Str} {k:Nat} {e:Expr} {es:List Expr} {fs:List XE} {p pos:Pos}
theorem Zs{D:List PV->Option PV}{n:Nat}(C:Y2 X.prog X.w X.K X.mg X.base x ps (YJ X.K D n) k)(hr:Room k X.A)(hg:Gl X x)(ha:VA X (e::es) fs)(hn:fs.length=n:=by rfl)
  (hdb:(x==("__debug__" : Str))=false:=by decide) (he:starEach (e::es) X.env=(false,eval e X.env)::starEach es X.env:=by rfl) (hpl:(backTo pos (starEach es X.env)).any (·.1)=false:=by rfl) :
  VM X (.Call (.Name x p) (e::es) [] pos) (Zc D fs):=PE.imp (GS C hr hg ha hdb he hpl) fun σ H Q ⟨s,l,env,e,q⟩=>by
 obtain⟨ls,e1,e2⟩:=Zg e
 refine⟨fun _=>False,s,ls,fun _ z=>z.elim,env,e1,fun vs H1 fp s1 i1 n1=>?_⟩
 show YJ X.K D n (vs++[]) H1 Q E0
 rw[List.append_nil]
 exact⟨by rw[i1.len,WS e1,hn],ls,fp,l,i1,e2,fun v H2 fq s2 i2 d2 n2=>q v H2 fq (s1.trans s2) i2 d2 fun a ha=>⟨Same.off s1 (n2 a ha).1,(n2 a ha).2⟩⟩
end
def RC(K:PySem.W.Frag)(r:List V->Hp->VK->Prop)(g:List PV->Option PV):Prop:=∀(H:Hp)(vs:List V)(ls:List PV)(l:PV)(fp:List Addr),Iss K H ls vs fp->g ls=some l->∀Q:VK,
 (∀v H' fq,Same H H'->Is K H' l v fq->(∀p∈fq,p∈fp\/H p=none)->Q v H')->r vs H Q
def Eo(K:PySem.W.Frag)(r:List V->Hp->VK->Prop)(g:List PV->Option PV):Prop:=∀(H:Hp)(vs:List V)(ls:List PV)(l:PV)(fp:List Addr),Iss K H ls vs fp->g ls=some l->∀Q:VK,
 (∀v H' fq,Same H H'->Is K H' l v fq->fq.Nodup->(∀p∈fq,H p=none/\W5 (H' p))->Q v H')->r vs H Q
theorem HG{r:List V->Hp->VK->Prop}{g:List PV->Option PV}{fs:List XE}(hr:RC K r g):∀σ H Q,tF K (Zc g fs) σ H Q->EK r (Dj K fs) σ H Q:=fun σ H Q ⟨Rm,s,l,hd,env,e,k⟩=>by
 obtain⟨ls,e1,e2⟩:=Zg e
 refine⟨Rm,s,ls,hd,env,e1,fun vs H1 fp s1 i1 n1=>hr H1 vs ls l fp i1 e2 Q fun v H2 fq s2 i2 n2=>k v H2 fq (s1.trans s2) i2 fun p hp z=>?_⟩
 rcases n2 p hp with h | h
 ·exact n1 p h z
 ·exact Xk (Same.mut s1 (hd p z)) h
theorem HH{r:List V->Hp->VK->Prop}{g:List PV->Option PV}{fs:List XE}(hr:Eo K r g):∀σ H Q,tM K (Zc g fs) σ H Q->EK r (Dj K fs) σ H Q:=fun σ H Q ⟨s,l,env,e,k⟩=>by
 obtain⟨ls,e1,e2⟩:=Zg e
 exact⟨fun _=>False,s,ls,fun _ z=>z.elim,env,e1,fun vs H1 fp s1 i1 n1=>hr H1 vs ls l fp i1 e2 Q fun v H2 fq s2 i2 d2 n2=>k v H2 fq (s1.trans s2) i2 d2 fun p hp=>⟨Same.off s1 (n2 p hp).1,(n2 p hp).2⟩⟩
section
variable {X:Cx} {x:Str} {k:Nat} {e:Expr} {es:List Expr} {fs:List XE} {p pos:Pos} {id T:String} {r:List V->Hp->VK->Prop} {g:List PV->Option PV}
theorem Zr(hc:Wc X (.builtin id) r)(hr:RC X.K r g)(hg:Gl X x)(hm:X.mg x=none)(hv:bootBuiltins x=some (.builtin id))(ha:VA X (e::es) fs)(hn:x≠"__name__":=by decide)(hdb:(x==("__debug__" : Str))=false:=by decide)
  (he:starEach (e::es) X.env=(false,eval e X.env)::starEach es X.env:=by rfl) (hpl:(backTo pos (starEach es X.env)).any (·.1)=false:=by rfl):VE X (.Call (.Name x p) (e::es) [] pos) (Zc g fs):=
 PE.imp (Pr hc hg hm hv ha hn hdb he hpl) (HG hr)
theorem Kl(hc:Wc X (.builtin id) r)(hr:Eo X.K r g)(hg:Gl X x)(hm:X.mg x=none)(hv:bootBuiltins x=some (.builtin id))(ha:VA X (e::es) fs)(hn:x≠"__name__":=by decide)(hdb:(x==("__debug__" : Str))=false:=by decide)
  (he:starEach (e::es) X.env=(false,eval e X.env)::starEach es X.env:=by rfl) (hpl:(backTo pos (starEach es X.env)).any (·.1)=false:=by rfl):VM X (.Call (.Name x p) (e::es) [] pos) (Zc g fs):=
 PE.imp (Pr hc hg hm hv ha hn hdb he hpl) (HH hr)
theorem Yu(hc:Wc X (.type T) r)(hr:RC X.K r g)(hg:Gl X x)(hm:X.mg x=none)(hv:bootBuiltins x=some (.type T))(ha:VA X (e::es) fs)(hn:x≠"__name__":=by decide)(hdb:(x==("__debug__" : Str))=false:=by decide)
  (he:starEach (e::es) X.env=(false,eval e X.env)::starEach es X.env:=by rfl) (hpl:(backTo pos (starEach es X.env)).any (·.1)=false:=by rfl):VE X (.Call (.Name x p) (e::es) [] pos) (Zc g fs):=
 PE.imp (RV hc hg hm hv ha hn hdb he hpl) (HG hr)
theorem R7(hc:Wc X (.type T) r)(hr:Eo X.K r g)(hg:Gl X x)(hm:X.mg x=none)(hv:bootBuiltins x=some (.type T))(ha:VA X (e::es) fs)(hn:x≠"__name__":=by decide)(hdb:(x==("__debug__" : Str))=false:=by decide)
  (he:starEach (e::es) X.env=(false,eval e X.env)::starEach es X.env:=by rfl) (hpl:(backTo pos (starEach es X.env)).any (·.1)=false:=by rfl):VM X (.Call (.Name x p) (e::es) [] pos) (Zc g fs):=
 PE.imp (RV hc hg hm hv ha hn hdb he hpl) (HH hr)
end
theorem Iss.one_inv{H:Hp}{l:PV}{vs:List V}{fp:List Addr}(h:Iss K H [l] vs fp):∃v,vs=[v]/\Is K H l v fp:=by
 obtain⟨x,r,f1,f2,rfl,a,b,rfl⟩:=h.inv
 simp only[Iss] at b
 rw[b.1,b.2,List.append_nil];exact⟨x,rfl,a⟩
theorem Iss.two_inv{H:Hp}{l m:PV}{vs:List V}{fp:List Addr}(h:Iss K H [l,m] vs fp):∃v w f1 f2,vs=[v,w]/\Is K H l v f1/\Is K H m w f2/\fp=f1++f2:=by
 obtain⟨x,r,f1,f2,rfl,a,b,rfl⟩:=h.inv
 obtain⟨y,rfl,c⟩:=b.one_inv
 exact⟨x,y,f1,f2,rfl,a,c,rfl⟩
def SI:PV->Option (List PV)
 | .lst l=>some l
 | .cst l=>some l
 | .tup l=>some l
 | _=>none
theorem Vz{H:Hp}{l:PV}{v:V}{fp:List Addr}{m:List PV}(h:Is K H l v fp)(e:SI l=some m):∃p xs fq,v = .ref p/\(SqL K H p xs\/SqT K H p xs)/\Iss K H m xs fq/\∀q∈fq,q∈fp:=by
 cases l with
 | lst l=>
  cases e
  obtain⟨p,xs,fq,rfl,hp,hi,rfl⟩:=h.lst_inv
  exact⟨p,xs,fq,rfl,.inl (SqL.of hp),hi,fun q hq=>List.mem_cons_of_mem _ hq⟩
 | cst l=>
  cases e
  obtain⟨p,xs,rfl,hp,hi⟩:=h.cst_inv
  exact⟨p,xs,fp,rfl,.inl hp.sq,hi,fun q hq=>hq⟩
 | tup l=>
  cases e
  obtain⟨p,xs,rfl,hp,hi⟩:=h.tup_inv
  exact⟨p,xs,fp,rfl,.inr (SqT.of hp),hi,fun q hq=>hq⟩
 | _=>cases e
def Zw:List PV->Option PV
 | [.str z]=>if z.length<=sizeLine then some (.int z.length) else none
 | [l]=>(SI l).map fun m=>.int m.length
 | _=>none
theorem ZT:RC K (fun xs H Q=>∃x n,xs=[x]/\F6 K x H n/\Q (.int n) H) Zw:=fun H vs ls l fp h e Q k=>by
 unfold Zw at e
 split at e
 ·split at e
  ·cases e
   obtain⟨v,rfl,i⟩:=h.one_inv
   exact⟨v,_,rfl,by rw[i.str_inv.1];exact⟨by assumption,rfl⟩,k _ H [] (Same.refl H) (Is.int _) fun p hp=>by simp at hp⟩
  ·cases e
 ·obtain⟨m,e1,rfl⟩:=map_some e
  obtain⟨v,rfl,i⟩:=h.one_inv
  obtain⟨p,xs,fq,rfl,hp,hi,_⟩:=Vz (K:=K) i e1
  refine⟨_,xs.length,rfl,?_,?_⟩
  ·rcases hp with hp | hp
   ·exact .inl ⟨xs,hp,rfl⟩
   ·exact .inr ⟨xs,hp,rfl⟩
  ·rw[hi.len]
   exact k _ H [] (Same.refl H) (Is.int _) fun p hp=>by simp at hp
 ·cases e
def Yi:List PV->Option PV
 | [l]=>(SI l).map .tup
 | _=>none
theorem Y5:RC K (GU K) Yi:=fun H vs ls l fp h e Q k=>by
 unfold Yi at e
 split at e
 ·obtain⟨m,e1,rfl⟩:=map_some e
  obtain⟨v,rfl,i⟩:=h.one_inv
  rename_i l0
  cases l0 with
  | tup l=>
   cases e1
   obtain⟨p,xs,rfl,hp,hi⟩:=id i.tup_inv
   exact⟨p,xs,rfl,.inr ⟨SqT.of hp,k _ H fp (Same.refl H) i fun a ha=>.inl ha⟩⟩
  | lst l=>
   cases e1
   obtain⟨p,xs,fq,rfl,hp,hi,rfl⟩:=i.lst_inv
   exact⟨p,xs,rfl,.inl ⟨SqL.of hp,fun q hq=>k _ _ fq (Same.new hq _) (Is.tup Zq (hi.mono (Same.new hq _))) fun a ha=>.inl (List.mem_cons_of_mem _ ha)⟩⟩
  | cst l=>
   cases e1
   obtain⟨p,xs,rfl,hp,hi⟩:=i.cst_inv
   exact⟨p,xs,rfl,.inl ⟨hp.sq,fun q hq=>k _ _ fp (Same.new hq _) (Is.tup Zq (hi.mono (Same.new hq _))) fun a ha=>.inl ha⟩⟩
  | _=>cases e1
 ·cases e
def Wf:List PV->Option PV
 | [l]=>(SI l).bind fun m=>if ZG m=true then some (.lst m) else none
 | _=>none
theorem PN:Eo K (Ig K) Wf:=fun H vs ls l fp h e Q k=>by
 unfold Wf at e
 split at e
 ·obtain⟨m,e1,e2⟩:=Zg e
  split at e2
  ·cases e2
   obtain⟨v,rfl,i⟩:=h.one_inv
   obtain⟨p,xs,fq,rfl,hp,hi,hs⟩:=Vz (K:=K) i e1
   have:=Iss.pure _ _ _ (by assumption) hi
   subst this
   refine⟨p,xs,rfl,hp,fun q hq=>k _ _ [q] (Same.new hq _) (Is.lst Zq (hi.mono (Same.new hq _))) (by simp) fun a ha=>?_⟩
   rw[List.mem_singleton.mp ha]
   exact⟨hq,by rw[Zq];exact True.intro⟩
  ·cases e2
 ·cases e
def Xx:List PV->Option (List Int)
 | []=>some []
 | .int i::r=>(Xx r).map (i::·)
 | _=>none
theorem XB:∀l:List Int,Xx (iL l)=some l
 | []=>rfl
 | i::r=>by show(Xx (iL r)).map (i::·)=_;rw[XB r];rfl
theorem Xd:∀{m:List PV}{l:List Int},Xx m=some l->m=iL l
 | [],l,h=>by cases h;rfl
 | .int i::r,l,h=>by
  obtain⟨a,e,rfl⟩:=map_some (show(Xx r).map (i::·)=some l from h)
  rw[Xd e];rfl
 | .non::_,_,h=>by cases h
 | .bl _::_,_,h=>by cases h
 | .str _::_,_,h=>by cases h
 | .ty _::_,_,h=>by cases h
 | .exc _::_,_,h=>by cases h
 | .exf _ _::_,_,h=>by cases h
 | .tup _::_,_,h=>by cases h
 | .lst _::_,_,h=>by cases h
 | .cst _::_,_,h=>by cases h
 | .dK _ _::_,_,h=>by cases h
 | .dT _ _::_,_,h=>by cases h
abbrev bL(l:List Bool):List PV:=l.map PV.bl
def VB:List PV->Option (List Bool)
 | []=>some []
 | .bl i::r=>(VB r).map (i::·)
 | _=>none
theorem V9:∀l:List Bool,VB (bL l)=some l
 | []=>rfl
 | i::r=>by show(VB (bL r)).map (i::·)=_;rw[V9 r];rfl
theorem UA:∀{m:List PV}{l:List Bool},VB m=some l->m=bL l
 | [],l,h=>by cases h;rfl
 | .bl i::r,l,h=>by
  obtain⟨a,e,rfl⟩:=map_some (show(VB r).map (i::·)=some l from h)
  rw[UA e];rfl
 | .non::_,_,h=>by cases h
 | .int _::_,_,h=>by cases h
 | .str _::_,_,h=>by cases h
 | .ty _::_,_,h=>by cases h
 | .exc _::_,_,h=>by cases h
 | .exf _ _::_,_,h=>by cases h
 | .tup _::_,_,h=>by cases h
 | .lst _::_,_,h=>by cases h
 | .cst _::_,_,h=>by cases h
 | .dK _ _::_,_,h=>by cases h
 | .dT _ _::_,_,h=>by cases h
theorem Iss.bL{H:Hp}:∀{l:List Bool}{xs:List V}{fp:List Addr},Iss K H (VL.bL l) xs fp->xs=l.map V.bl/\fp=[]
 | [],xs,fp,h=>by simpa only[VL.bL,List.map_nil,Iss] using h
 | i::l,xs,fp,h=>by
  obtain⟨x,r,f1,f2,rfl,h1,h2,rfl⟩:=Iss.inv (show Iss K H (PV.bl i::VL.bL l) xs fp from h)
  obtain⟨rfl,rfl⟩:=h1.bl_inv
  obtain⟨rfl,rfl⟩:=h2.bL
  exact⟨rfl,rfl⟩
theorem Km{H:Hp}{p:Addr}{xs:List V}(h:SqL K H p xs\/SqT K H p xs):∃b,ML b K H p xs:=by
 rcases h with h | h
 ·exact⟨true,h⟩
 ·exact⟨false,h⟩
def X1:List PV->Option PV
 | [l]=>(SI l).bind fun m=>(Xx m).map fun ns=>.int ns.sum
 | _=>none
def PQ:List PV->Option PV
 | [l]=>(SI l).bind fun m=>(VB m).map fun bs=>.bl (bs.all id)
 | _=>none
theorem Ui:RC K (fun xs H Q=>∃(b:Bool) (p:Addr) (ns:List Int),xs=[.ref p]/\ML b K H p (ns.map V.int)/\Q (.int ns.sum) H) X1:=fun H vs ls l fp h e Q k=>by
 unfold X1 at e
 split at e
 ·obtain⟨m,e1,e2⟩:=Zg e
  obtain⟨ns,e3,rfl⟩:=map_some e2
  obtain⟨v,rfl,i⟩:=h.one_inv
  obtain⟨p,xs,fq,rfl,hp,hi,hs⟩:=Vz (K:=K) i e1
  have em:=Xd e3;subst em
  obtain⟨rfl,rfl⟩:=hi.iL
  obtain⟨b,hb⟩:=Km hp
  exact⟨b,p,ns,rfl,hb,k _ H [] (Same.refl H) (Is.int _) fun p hp=>by simp at hp⟩
 ·cases e
theorem G3:RC K (fun xs H Q=>∃(b:Bool) (p:Addr) (bs:List Bool),xs=[.ref p]/\ML b K H p (bs.map V.bl)/\Q (.bl (bs.all id)) H) PQ:=fun H vs ls l fp h e Q k=>by
 unfold PQ at e
 split at e
 ·obtain⟨m,e1,e2⟩:=Zg e
  obtain⟨ns,e3,rfl⟩:=map_some e2
  obtain⟨v,rfl,i⟩:=h.one_inv
  obtain⟨p,xs,fq,rfl,hp,hi,hs⟩:=Vz (K:=K) i e1
  have em:=UA e3;subst em
  obtain⟨rfl,rfl⟩:=hi.bL
  obtain⟨b,hb⟩:=Km hp
  exact⟨b,p,ns,rfl,hb,k _ H [] (Same.refl H) (Is.bl _) fun p hp=>by simp at hp⟩
 ·cases e
def Ep:List PV->Option PV
 | [.int i,.int j]=>some (.int (if j<i then j else i))
 | _=>none
def TH:List PV->Option PV
 | [.int i,.int j]=>some (.int (if j>i then j else i))
 | _=>none
def TJ:List PV->Option PV
 | [.int i]=>some (.int i)
 | [.bl c]=>some (.int (if c then 1 else 0))
 | _=>none
theorem Io:RC K (fun xs H Q=>∃i j,xs=[.int i,.int j]/\Q (.int (if j>i then j else i)) H) TH:=fun H vs ls l fp h e Q k=>by
 unfold TH at e
 split at e
 ·cases e
  obtain⟨v,w,f1,f2,rfl,a,b,rfl⟩:=h.two_inv
  exact⟨_,_,by rw[a.int_inv.1,b.int_inv.1],k _ H [] (Same.refl H) (Is.int _) fun p hp=>by simp at hp⟩
 ·cases e
theorem Ip:RC K (fun xs H Q=>(∃i,xs=[.int i]/\Q (.int i) H)\/∃k,xs=[.bl k]/\Q (.int (if k then 1 else 0)) H) TJ:=fun H vs ls l fp h e Q k=>by
 unfold TJ at e
 split at e
 ·cases e
  obtain⟨v,rfl,a⟩:=h.one_inv
  exact .inl ⟨_,by rw[a.int_inv.1],k _ H [] (Same.refl H) (Is.int _) fun p hp=>by simp at hp⟩
 ·cases e
  obtain⟨v,rfl,a⟩:=h.one_inv
  exact .inr ⟨_,by rw[a.bl_inv.1],k _ H [] (Same.refl H) (Is.int _) fun p hp=>by simp at hp⟩
 ·cases e
section
variable {X:Cx} {e:Expr} {es:List Expr} {fs:List XE} {p pos:Pos}
def Vj:List PV->Option PV
 | [.int _,.ty "int"]=>some (.bl true)
 | [.int _,.ty "bool"]=>some (.bl false)
 | [.bl _,.ty "bool"]=>some (.bl true)
 | [.tup _,.ty "tuple"]=>some (.bl true)
 | [.lst _,.ty "list"]=>some (.bl true)
 | [.str _,.ty "str"]=>some (.bl true)
 | _=>none
theorem RL:PySem.W.kitOne K (.type "bool") (.type "bool")=some true:=rfl
theorem QE:RC K (fun xs H Q=>∃x T t b,xs=[x,.ty T]/\TyOf K H x t/\PySem.W.kitOne K t (.type T)=some b/\Q (.bl b) H) Vj:=fun H vs ls l fp h e Q k=>by
  have fin:∀b:Bool,l = .bl b->Q (.bl b) H:=fun b z=>by subst z;exact k _ H [] (Same.refl H) (Is.bl _) fun p hp=>by simp at hp
  unfold Vj at e
  split at e<;>first
    | (cases e
       obtain⟨v,w,f1,f2,rfl,a,b,rfl⟩:=h.two_inv
       first
         | (obtain⟨rfl,_⟩:=a.int_inv;first
             | exact⟨_,_,_,_,by rw[b.ty_inv.1],TyOf.int _,Pz,fin _ rfl⟩
             | exact⟨_,_,_,_,by rw[b.ty_inv.1],TyOf.int _,Qz,fin _ rfl⟩)
         | (obtain⟨rfl,_⟩:=a.bl_inv;exact⟨_,_,_,_,by rw[b.ty_inv.1],TyOf.bl _,RL,fin _ rfl⟩)
         | (obtain⟨rfl,_⟩:=a.str_inv;exact⟨_,_,_,_,by rw[b.ty_inv.1],TyOf.str _,PD,fin _ rfl⟩)
         | (obtain⟨q,xs,rfl,hp,_⟩:=a.tup_inv;exact⟨_,_,_,_,by rw[b.ty_inv.1],TyOf.tup hp,PB,fin _ rfl⟩)
         | (obtain⟨q,xs,fq,rfl,hp,_⟩:=a.lst_inv
            exact⟨_,_,_,_,by rw[b.ty_inv.1],TyOf.lst hp,RJ,fin _ rfl⟩))
    | cases e
theorem Kn{x:Str}{n:String}(hg:Gl X x)(hm:X.mg x=none)(hv:bootBuiltins x=some (.type n))(hn:x≠"__name__":=by decide)(hd:(x==("__debug__" : Str))=false:=by decide):VE X (.Name x pos) (eC (.ty n)):=
 Ii (JS hg hm hv (v:=.ty n) rfl hn hd) fun _=>Is.ty n
end
end VL
namespace VL
open PySem PySem.Spec PyProof.Rows L2
variable {K:PySem.W.Frag}
open Classical in
noncomputable instance:DecidableEq PV:=fun a b=>propDecidable (a=b)
def X2:Nat->PV->PV->Bool
 | _+1,.non,.non=>true
 | _+1,.bl _,.bl _=>true
 | _+1,.int _,.int _=>true
 | _+1,.str _,.str _=>true
 | n+1,.tup l,.tup m=>(l.zip m).all fun z=>X2 n z.1 z.2
 | n+1,.lst l,.lst m=>(l.zip m).all fun z=>X2 n z.1 z.2
 | _,_,_=>false
theorem UB{α β:Type}{p:α×β->Bool}{a:α}{b:β}{l:List α}{m:List β}(h:((a::l).zip (b::m)).all p=true):p (a,b)=true/\(l.zip m).all p=true:=by
 rw[List.zip_cons_cons,List.all_cons,Bool.and_eq_true] at h;exact h
theorem Iss.inj'{n:Nat}{H:Hp}(ih:∀a b v fa fb,X2 n a b=true->Is K H a v fa->Is K H b v fb->a=b):∀{l m:List PV}{xs:List V}{fa fb:List Addr},(l.zip m).all (fun z=>X2 n z.1 z.2)=true->Iss K H l xs fa->Iss K H m xs fb->l=m
 | [],m,xs,fa,fb,_,h,h'=>by
  simp only[Iss] at h
  rw[h.1] at h'
  have:=h'.len
  cases m with
  | nil=>rfl
  | cons _ _=>simp at this
 | a::l,m,xs,fa,fb,hc,h,h'=>by
  obtain⟨x,r,f1,f2,rfl,h1,h2,rfl⟩:=h.inv
  cases m with
  | nil=>have:=h'.len;simp at this
  | cons b m=>
   obtain⟨x',r',g1,g2,e,h3,h4,rfl⟩:=h'.inv
   cases e
   obtain⟨c1,c2⟩:=UB hc
   rw[ih a b x f1 g1 c1 h1 h3,Iss.inj' ih c2 h2 h4]
theorem Is.inj'{H:Hp}:∀(n:Nat)(a b:PV)(v:V)(fa fb:List Addr),X2 n a b=true->Is K H a v fa->Is K H b v fb->a=b
 | 0,a,b,v,fa,fb,hc,_,_=>by unfold X2 at hc;simp at hc
 | n+1,a,b,v,fa,fb,hc,ha,hb=>by
  cases a<;>cases b<;>first
   | (exfalso;revert hc;unfold X2;simp;done)
   | skip
  ·rfl
  ·rw[ha.bl_inv.1] at hb;have:=hb.bl_inv.1;cases this;rfl
  ·rw[ha.int_inv.1] at hb;have:=hb.int_inv.1;cases this;rfl
  ·rw[ha.str_inv.1] at hb;have:=hb.str_inv.1;cases this;rfl
  ·obtain⟨p,xs,rfl,hp,hi⟩:=ha.tup_inv
   obtain⟨p',ys,e,hp',hi'⟩:=hb.tup_inv
   cases e
   rw[hp] at hp';cases hp'
   unfold X2 at hc;rw[Iss.inj' (Is.inj' n) hc hi hi']
  ·obtain⟨p,xs,fq,rfl,hp,hi,_⟩:=ha.lst_inv
   obtain⟨p',ys,fq',e,hp',hi',_⟩:=hb.lst_inv
   cases e
   rw[hp] at hp';cases hp'
   unfold X2 at hc;rw[Iss.inj' (Is.inj' n) hc hi hi']
section
variable {X:Cx} {pins:List (Addr×Obj)} {σ:TF} {H:Hp} {s:Shared} {A:Around}
theorem OQ{n:Nat}(ih:∀a b x y fa fb u w,X2 n a b=true->Is K H a x fa->Is K H b y fb->RelV x u->RelV y w->∃r,SeqAt.EqAt A s u w r/\(r=true↔a=b)) :
  ∀{l m:List PV}{xs ys:List V}{fa fb:List Addr}{us ws:List Value},(l.zip m).all (fun z=>X2 n z.1 z.2)=true->Iss K H l xs fa->Iss K H m ys fb->Vals xs us->Vals ys ws->
  ∃e:Nat->Bool,(∀j (h1:j<us.length) (h2:j<ws.length),SeqAt.EqAt A s us[j] ws[j] (e j))/\((List.range (min us.length ws.length)).all e=true↔l.take (min us.length ws.length)=m.take (min us.length ws.length))
 | [],m,xs,ys,fa,fb,us,ws,_,h,_,r,_=>by
  simp only[Iss] at h
  obtain⟨rfl,_⟩:=h
  cases r
  exact⟨fun _=>true,fun j h1=>by simp at h1,by simp⟩
 | a::l,[],xs,ys,fa,fb,us,ws,_,_,h,_,r=>by
  simp only[Iss] at h
  obtain⟨rfl,_⟩:=h
  cases r
  exact⟨fun _=>true,fun j h1 h2=>by simp at h2,by simp⟩
 | a::l,b::m,xs,ys,fa,fb,us,ws,hc,h,h',r,r'=>by
  obtain⟨x,xr,f1,f2,rfl,h1,h2,rfl⟩:=h.inv
  obtain⟨y,yr,g1,g2,rfl,h3,h4,rfl⟩:=h'.inv
  obtain⟨c1,c2⟩:=UB hc
  cases r with
  | cons q v=>cases r' with
   | cons q' v'=>
    obtain⟨t,ht,ht'⟩:=ih a b x y f1 g1 _ _ c1 h1 h3 q q'
    obtain⟨e,he,he'⟩:=OQ ih c2 h2 h4 v v'
    refine⟨fun j=>match j with | 0=>t | k+1=>e k,fun j h1 h2=>?_,?_⟩
    ·cases j with
     | zero=>exact ht
     | succ k=>exact he k (by simpa using h1) (by simpa using h2)
    ·simp only[List.length_cons,Nat.succ_min_succ,List.range_succ_eq_map,List.all_cons,List.all_map,Bool.and_eq_true,List.take_succ_cons,List.cons.injEq]
     exact and_congr ht' he'
theorem Iss.same'{l m:List PV}{xs ys:List V}{fa fb:List Addr}{us ws:List Value}(h:Iss K H l xs fa)(h':Iss K H m ys fb)(r:Vals xs us)(r':Vals ys ws) :
  (l.take (min us.length ws.length)=m.take (min us.length ws.length)/\us.length=ws.length)↔l=m:=by
 have e1:=h.len;have e2:=h'.len;have e3:=r.length;have e4:=r'.length;constructor
 ·rintro⟨a,b⟩
  rw[List.take_of_length_le (by omega),List.take_of_length_le (by omega)] at a;exact a
 ·intro a
  subst a
  exact⟨rfl,by omega⟩
def HI(A:Around)(s:Shared)(u w:Value)(r:Bool):Prop:=SeqAt.RcAt A s u w r/\SeqAt.RcNeAt A s u w !r
theorem SJ(I:Inv X pins σ H s):∀(n:Nat)(A:Around)(a b:PV)(x y:V)(fa fb:List Addr)(u w:Value),A.units+2*n+2<cLine->X2 n a b=true->Is K H a x fa->Is K H b y fb->RelV x u->RelV y w->
  (∃r,SeqAt.EqAt A s u w r/\(r=true↔a=b))/\∃r,HI A s u w r/\(r=true↔a=b)
 | 0,A,a,b,x,y,fa,fb,u,w,hu,hc,_,_,_,_=>by unfold X2 at hc;simp at hc
 | n+1,A,a,b,x,y,fa,fb,u,w,hu,hc,ha,hb,ru,Rz=>by
  cases a<;>cases b<;>first
   | (exfalso;revert hc;unfold X2;simp;done)
   | skip
  ·rw[ha.non_inv.1] at ru;rw[hb.non_inv.1] at Rz
   cases ru;cases Rz
   exact⟨⟨true,SeqAt.EqAt.same _,by simp⟩,true,⟨SeqAt.RcAt.none_none,SeqAt.RcNeAt.none_none⟩,by simp⟩
  ·rw[ha.bl_inv.1] at ru;rw[hb.bl_inv.1] at Rz
   cases ru;cases Rz
   exact⟨⟨_,SeqAt.EqAt.bool_bool _ _,by simp⟩,_,⟨SeqAt.RcAt.bool_bool _ _,SeqAt.RcNeAt.bool_bool _ _⟩,by simp⟩
  ·rw[ha.int_inv.1] at ru;rw[hb.int_inv.1] at Rz
   obtain⟨t,rfl⟩:=ru
   obtain⟨t',rfl⟩:=Rz
   exact⟨⟨_,SeqAt.EqAt.int_int _ _ _ _,by simp⟩,_,⟨SeqAt.RcAt.int_int _ _ _ _,SeqAt.RcNeAt.int_int _ _ _ _⟩,by simp⟩
  ·rw[ha.str_inv.1] at ru;rw[hb.str_inv.1] at Rz
   obtain⟨t,rfl⟩:=ru
   obtain⟨t',rfl⟩:=Rz
   exact⟨⟨_,SeqAt.EqAt.str_str _ _ _ _,by simp⟩,_,⟨SeqAt.RcAt.str_str _ _ _ _,SeqAt.RcNeAt.str_str _ _ _ _⟩,by simp⟩
  ·rename_i l1 l2
   obtain⟨p,xs,rfl,hp,hi⟩:=id ha.tup_inv
   obtain⟨p',ys,rfl,hp',hi'⟩:=id hb.tup_inv
   cases ru;cases Rz;have hc':=hc
   unfold X2 at hc'
   obtain⟨us,rv,q,_⟩:=I.tuple (SqT.of hp)
   obtain⟨ws,rv',q',_⟩:=I.tuple (SqT.of hp')
   obtain⟨f,hf,hf'⟩:=OQ (A:=A.in1) (fun a b x y fa fb u w c i1 i2 r1 r2=>(SJ I n A.in1 a b x y fa fb u w (by show A.units+1+2*n+2<cLine;omega) c i1 i2 r1 r2).1) hc' hi hi' rv rv'
   have rc:=SeqAt.RcAt.tuples (A:=A) (e:=f) (show s.heap.IsTuple p us.toArray from q) (show s.heap.IsTuple p' ws.toArray from q') (by omega) (fun j h1 h2=>hf j (by simpa using h1) (by simpa using h2))
   have rn:=SeqAt.RcNeAt.tuples (A:=A) (e:=f) (show s.heap.IsTuple p us.toArray from q) (show s.heap.IsTuple p' ws.toArray from q') (by omega) (fun j h1 h2=>hf j (by simpa using h1) (by simpa using h2))
   have key:(((List.range (min us.toArray.size ws.toArray.size)).all f&&us.toArray.size==ws.toArray.size)=true)↔PV.tup l1=PV.tup l2:=by
    simp only[List.size_toArray,Bool.and_eq_true,beq_iff_eq,PV.tup.injEq];rw[hf']
    exact Iss.same' hi hi' rv rv'
   refine⟨?_,_,⟨rc,rn⟩,key⟩
   by_cases e:p=p'
   ·subst e
    exact⟨true,SeqAt.EqAt.same _,by simp[Is.inj' (n+1) _ _ _ _ _ hc ha hb]⟩
   ·exact⟨_,SeqAt.EqAt.of_refs e rc,key⟩
  ·rename_i l1 l2
   obtain⟨p,xs,fq,rfl,hp,hi,_⟩:=id ha.lst_inv
   obtain⟨p',ys,fq',rfl,hp',hi',_⟩:=id hb.lst_inv
   cases ru;cases Rz;have hc':=hc
   unfold X2 at hc'
   obtain⟨us,rv,q,_⟩:=I.list (SqL.of hp)
   obtain⟨ws,rv',q',_⟩:=I.list (SqL.of hp')
   obtain⟨f,hf,hf'⟩:=OQ (A:=A.in1) (fun a b x y fa fb u w c i1 i2 r1 r2=>(SJ I n A.in1 a b x y fa fb u w (by show A.units+1+2*n+2<cLine;omega) c i1 i2 r1 r2).1) hc' hi hi' rv rv'
   have fin:∃r,HI A s (.ref p) (.ref p') r/\(r=true↔PV.lst l1=PV.lst l2):=by
    have key:=Iss.same' hi hi' rv rv'
    by_cases hsz:us.length=ws.length
    ·refine⟨_,⟨SeqAt.RcAt.lists (e:=f) q.isList q'.isList (by simpa using hsz) (by omega) (fun j h1 h2=>hf j (by simpa using h1) (by simpa using h2)),SeqAt.RcNeAt.lists (e:=f) q.isList q'.isList (by simpa using hsz) (by omega) (fun j h1 h2=>hf j (by simpa using h1) (by simpa using h2))⟩,?_⟩
     rw[hsz,Nat.min_self] at hf' key
     simp only[List.size_toArray,PV.lst.injEq];rw[hsz,hf',<-key]
     simp
    ·refine⟨false,⟨SeqAt.RcAt.lists_lengths q.isList q'.isList (by simpa using hsz) (by omega),SeqAt.RcNeAt.lists_lengths q.isList q'.isList (by simpa using hsz) (by omega)⟩,?_⟩
     rw[PV.lst.injEq,<-key];simp[hsz]
   obtain⟨r,hr,hk⟩:=fin
   refine⟨?_,r,hr,hk⟩
   by_cases e:p=p'
   ·subst e
    exact⟨true,SeqAt.EqAt.same _,by simp[Is.inj' (n+1) _ _ _ _ _ hc ha hb]⟩
   ·exact⟨r,SeqAt.EqAt.of_refs e hr.1,hk⟩
end
def G4(K:PySem.W.Frag)(neg:Bool):R2:=fun x y H Q=>∃a b fa fb,Is K H a x fa/\Is K H b y fb/\X2 8 a b=true/\∀r:Bool,(r=true↔a=b)->Q (.bl (if neg then !r else r)) H
section
variable {X:Cx}
theorem Ko(hu:X.A.units+64<cLine):UT X (compareOp .Eq) (G4 X.K false):=by
 intro pins s σ H x y v u Q I rx ry h
 obtain⟨a,b,fa,fb,ha,hb,hc,q⟩:=h
 obtain⟨_,r,hr,hk⟩:=SJ I 8 X.A a b x y fa fb v u (by omega) hc ha hb rx ry
 exact hr.1 X.prog X.w X.xe _ ⟨.bl r,H,I,rfl,q r hk⟩
theorem G5(hu:X.A.units+64<cLine):UT X (compareOp .NotEq) (G4 X.K true):=by
 intro pins s σ H x y v u Q I rx ry h
 obtain⟨a,b,fa,fb,ha,hb,hc,q⟩:=h
 obtain⟨_,r,hr,hk⟩:=SJ I 8 X.A a b x y fa fb v u (by omega) hc ha hb rx ry
 exact hr.2 X.prog X.w X.xe _ ⟨.bl !r,H,I,rfl,q r hk⟩
end
noncomputable def Xs(neg:Bool):PV->PV->Option PV:=fun a b=>if X2 8 a b=true then some (.bl (if neg then !decide (a=b) else decide (a=b))) else none
theorem OR(neg:Bool):RB K (G4 K neg) (Xs neg):=fun H x y a b l fa fb ha hb e Q k=>by
 unfold Xs at e
 split at e
 ·cases e
  refine⟨a,b,fa,fb,ha,hb,by assumption,fun r hr=>?_⟩
  have:r=decide (a=b):=by
   cases r with
   | true=>exact(decide_eq_true (hr.mp rfl)).symm
   | false=>exact(decide_eq_false fun z=>Bool.false_ne_true (hr.mpr z)).symm
  subst this
  exact k _ H [] (Same.refl H) (Is.bl _) fun p hp=>by simp at hp
 ·cases e
def G6(K:PySem.W.Frag)(neg:Bool):R2:=fun x y H Q=>∃a b m fa fb,Is K H a x fa/\Is K H b y fb/\SI b=some m/\(m.all fun z=>X2 8 z a)=true/\∀r:Bool,(r=true↔a∈m)->Q (.bl (if neg then !r else r)) H
section
variable {X:Cx} {pins:List (Addr×Obj)} {σ:TF} {H:Hp} {s:Shared}
theorem Sg{a:PV}{x:V}{fa:List Addr}{u:Value}{A:Around}(I:Inv X pins σ H s)(hu:A.units+18<cLine)(ha:Is K H a x fa)(rx:RelV x u):∀{m:List PV}{xs:List V}{fb:List Addr}{us:List Value},(m.all fun z=>X2 8 z a)=true->Iss K H m xs fb->Vals xs us->
  ∃e:Value->Bool,(∀y∈us,SeqAt.EqAt A s y u (e y))/\(us.any e=true↔a∈m):=fun{m xs fb us} hc h r=>by
 -- each one's answer
 have each:∀y∈us,∃t:Bool,SeqAt.EqAt A s y u t/\(t=true↔∃b,b∈m/\b=a/\∃z f,Is K H b z f/\RelV z y):=fun y hy=>by
  obtain⟨j,hj,e⟩:=List.mem_iff_getElem.mp hy
  have hl:=r.length
  have hxj:xs[j]?=some xs[j]:=List.getElem?_eq_getElem (by omega)
  obtain⟨b,f,hb,ib,_⟩:=h.get' hxj
  obtain⟨w,hw,Rz⟩:=r.get hxj
  rw[List.getElem?_eq_getElem hj] at hw;cases hw;rw[e] at Rz
  have hbm:b∈m:=List.mem_of_getElem? hb
  have cb:=List.all_eq_true.mp hc b hbm
  obtain⟨⟨t,ht,hk⟩,_⟩:=SJ I 8 A b a xs[j] x f fa y u (by omega) cb ib ha Rz rx
  refine⟨t,ht,hk.trans ⟨fun z=>⟨b,hbm,z,xs[j],f,ib,Rz⟩,fun⟨b',hb',e',z,f',i',r'⟩=>?_⟩⟩
  have ez:z=xs[j]:=r'.inj Rz
  subst ez;have cb':=List.all_eq_true.mp hc b' hb'
  subst e'
  exact Is.inj' 8 b b' _ _ _ cb ib i'
 classical
 refine⟨fun y=>if hy:y∈us then(each y hy).choose else false,fun y hy=>?_,?_⟩
 ·simp only[dif_pos hy];exact(each y hy).choose_spec.1
 ·rw[List.any_eq_true]
  constructor
  ·rintro⟨y,hy,e⟩
   rw[dif_pos hy] at e
   obtain⟨b,hb,rfl,_⟩:=(each y hy).choose_spec.2.mp e
   exact hb
  ·intro hm
   obtain⟨j,hj,e⟩:=List.mem_iff_getElem.mp hm
   obtain⟨z,f,hz,iz,_⟩:=h.get (List.getElem?_eq_getElem hj)
   obtain⟨y,hy,ry⟩:=r.get hz
   have hyu:y∈us:=List.mem_of_getElem? hy
   refine⟨y,hyu,?_⟩
   rw[dif_pos hyu]
   exact(each y hyu).choose_spec.2.mpr ⟨a,hm,rfl,z,f,e▸iz,ry⟩
end
section
variable {X:Cx}
theorem op_inV(hu:X.A.units+64<cLine):UT X (compareOp .In) (G6 X.K false):=by
 intro pins s σ H x y v u Q I rx ry h
 obtain⟨a,b,m,fa,fb,ha,hb,hm,hc,q⟩:=h
 obtain⟨p,xs,fq,rfl,hp,hi,_⟩:=Vz (K:=X.K) hb hm
 cases ry
 rcases hp with hp | hp
 ·obtain⟨us,rv,t,_⟩:=I.list hp
  obtain⟨e,he,hk⟩:=Sg (A:=X.A.in1) I (by show X.A.units+1+18<cLine;omega) ha rx hc hi rv
  refine SeqAt.in_listAt e t.isList (fun w hw=>he w (by simpa using hw)) ⟨.bl _,H,I,rfl,?_⟩
  rw[show us.toArray.any e=us.any e by simp]
  exact q _ hk
 ·obtain⟨us,rv,t,_⟩:=I.tuple hp
  obtain⟨e,he,hk⟩:=Sg (A:=X.A.in1) I (by show X.A.units+1+18<cLine;omega) ha rx hc hi rv
  refine SeqAt.in_tupleAt e t (fun w hw=>he w (by simpa using hw)) ⟨.bl _,H,I,rfl,?_⟩
  rw[show us.toArray.any e=us.any e by simp]
  exact q _ hk
theorem MR(hu:X.A.units+64<cLine):UT X (compareOp .NotIn) (G6 X.K true):=by
 intro pins s σ H x y v u Q I rx ry h
 obtain⟨a,b,m,fa,fb,ha,hb,hm,hc,q⟩:=h
 obtain⟨p,xs,fq,rfl,hp,hi,_⟩:=Vz (K:=X.K) hb hm
 cases ry
 rcases hp with hp | hp
 ·obtain⟨us,rv,t,_⟩:=I.list hp
  obtain⟨e,he,hk⟩:=Sg (A:=X.A.in1) I (by show X.A.units+1+18<cLine;omega) ha rx hc hi rv
  refine SeqAt.notIn_listAt e t.isList (fun w hw=>he w (by simpa using hw)) ⟨.bl _,H,I,rfl,?_⟩
  rw[show us.toArray.any e=us.any e by simp]
  exact q _ hk
 ·obtain⟨us,rv,t,_⟩:=I.tuple hp
  obtain⟨e,he,hk⟩:=Sg (A:=X.A.in1) I (by show X.A.units+1+18<cLine;omega) ha rx hc hi rv
  refine SeqAt.notIn_tupleAt e t (fun w hw=>he w (by simpa using hw)) ⟨.bl _,H,I,rfl,?_⟩
  rw[show us.toArray.any e=us.any e by simp]
  exact q _ hk
end
noncomputable def G7(neg:Bool):PV->PV->Option PV:=fun a b=>(SI b).bind fun m=>if(m.all fun z=>X2 8 z a)=true then some (.bl (if neg then !decide (a∈m) else decide (a∈m))) else none
theorem G8(neg:Bool):RB K (G6 K neg) (G7 neg):=fun H x y a b l fa fb ha hb e Q k=>by
 obtain⟨m,hm,e⟩:=Zg e
 split at e
 ·cases e
  refine⟨a,b,m,fa,fb,ha,hb,hm,by assumption,fun r hr=>?_⟩
  have:r=decide (a∈m):=by
   cases r with
   | true=>exact(decide_eq_true (hr.mp rfl)).symm
   | false=>exact(decide_eq_false fun z=>Bool.false_ne_true (hr.mpr z)).symm
  subst this
  exact k _ H [] (Same.refl H) (Is.bl _) fun p hp=>by simp at hp
 ·cases e
end VL
namespace VL
open PySem PySem.Spec PyProof.Rows L2
variable {K:PySem.W.Frag}
mutual
theorem Is.dom{H:Hp}:∀(l:PV)(v:V)(fp:List Addr),Is K H l v fp->∀p∈fp,H p≠none
 | .non,_,_,h=>by simp only[Is] at h;rw[h.2];simp
 | .bl _,_,_,h=>by simp only[Is] at h;rw[h.2];simp
 | .int _,_,_,h=>by simp only[Is] at h;rw[h.2];simp
 | .str _,_,_,h=>by simp only[Is] at h;rw[h.2];simp
 | .ty _,_,_,h=>by simp only[Is] at h;rw[h.2];simp
 | .exc _,_,_,h=>by simp only[Is] at h;rw[h.2];simp
 | .exf _ _,_,_,h=>by simp only[Is] at h;rw[h.2];simp
 | .tup l,v,fp,h=>by
  obtain⟨p,xs,_,_,hi⟩:=h.tup_inv
  exact Iss.dom l xs fp hi
 | .lst l,v,fp,h=>by
  obtain⟨p,xs,fq,_,hp,hi,rfl⟩:=h.lst_inv
  intro q hq
  rcases List.mem_cons.mp hq with rfl | hq
  ·rw[hp];simp
  ·exact Iss.dom l xs fq hi q hq
 | .cst l,v,fp,h=>by
  obtain⟨p,xs,_,_,hi⟩:=h.cst_inv
  exact Iss.dom l xs fp hi
 | .dK ks l,v,fp,h=>by
  obtain⟨p,kvs,fq,_,hp,_,hi,rfl⟩:=h.dK_inv
  intro q hq
  rcases List.mem_cons.mp hq with rfl | hq
  ·rcases hp with e | ⟨o,e⟩<;>rw[e]<;>simp
  ·exact Iss.dom l _ fq hi q hq
 | .dT ks l,v,fp,h=>by
  obtain⟨p,kvs,fq,_,hp,_,hi,rfl⟩:=h.dT_inv
  intro q hq
  rcases List.mem_cons.mp hq with rfl | hq
  ·rcases hp with e | ⟨o,e⟩<;>rw[e]<;>simp
  ·exact Iss.dom l _ fq hi q hq
theorem Iss.dom{H:Hp}:∀(l:List PV)(xs:List V)(fp:List Addr),Iss K H l xs fp->∀p∈fp,H p≠none
 | [],_,_,h=>by simp only[Iss] at h;rw[h.2];simp
 | l::ls,xs,fp,h=>by
  obtain⟨x,r,f1,f2,_,h1,h2,rfl⟩:=h.inv
  intro q hq
  rcases List.mem_append.mp hq with hq | hq
  ·exact Is.dom l x f1 h1 q hq
  ·exact Iss.dom ls r f2 h2 q hq
end
def Ab(Rm:Addr->Prop)(H H':Hp):Prop:=∀b o,H b=some o->¬Rm b->H' b=some o
theorem Same.ab{Rm:Addr->Prop}{H H':Hp}(s:Same H H'):Ab Rm H H':=fun b o h _=>s b o h
theorem Ab.tk{Rm:Addr->Prop}{H H':Hp}(a:Ab Rm H H')(hd:∀p,Rm p->W5 (H p)):GV H H':=⟨fun b xs h=>a b _ h fun z=>by
 have:=hd b z
 rw[h] at this;exact this,fun b o xs h=>a b _ h fun z=>by
 have:=hd b z
 rw[h] at this;exact this,fun b o x h=>a b _ h fun z=>by
 have:=hd b z
 rw[h] at this;exact this⟩
theorem Is.ab{Rm:Addr->Prop}{H H':Hp}(a:Ab Rm H H')(hd:∀p,Rm p->W5 (H p)){l:PV}{v:V}{fp:List Addr}(n:∀p∈fp,¬Rm p)(h:Is K H l v fp):Is K H' l v fp:=
 Is.tr (a.tk hd) l v fp (fun p hp=>RdK.of fun o q=>a p o q (n p hp)) h
structure Dk(K:PySem.W.Frag)(Rm:Addr->Prop)(H1:Hp)(J:It)(ls:List PV):Prop where
 stop:∀H',Ab Rm H1 H'->J.stop ls.length H'
 go:∀H' (i:Nat) l,Ab Rm H1 H'->ls[i]?=some l->J.go i H'
 yld:∀H' (i:Nat) l x H'',Ab Rm H1 H'->ls[i]?=some l->J.yld i H' x H''->Same H' H''/\∃fp,Is K H'' l x fp/\∀p∈fp,H1 p≠none/\¬Rm p
abbrev XL:=ZP->Option (List PV)
def iF(K:PySem.W.Frag)(f:XL):TI:=fun σ H R=>∃(Rm:Addr->Prop) (s:ZP) (ls:List PV),(∀p,Rm p->W5 (H p))/\EnvIs K Rm H s σ/\f s=some ls/\∀J H1,Same H H1->Dk K Rm H1 J ls->R J H1
def VI(X:Cx)(tg e:Expr)(f:XL):Prop:=PI X tg e (iF X.K f)
section
variable {X:Cx} {tg e:Expr} {es:List Expr}
theorem PI.imp{t t':TI}(h:PI X tg e t)(i:∀σ H R,t' σ H R->t σ H R):PI X tg e t':=fun pins s σ H R I q=>h pins s σ H R I (i σ H R q)
def G9:PV->Option (List PV)
 | .lst m=>some m
 | .cst m=>some m
 | _=>none
def YN(f:XE):XL:=fun s=>(f s).bind G9
def Uj(f:XE):XL:=fun s=>match f s with | some (.tup m)=>some m | _=>none
theorem Kp{a:PV}{m:List PV}(h:G9 a=some m):a = .lst m\/a = .cst m:=by
 unfold G9 at h;split at h
 ·cases h;exact .inl rfl
 ·cases h;exact .inr rfl
 ·cases h
theorem MS{f:XE}{s:ZP}{m:List PV}(h:Uj f s=some m):f s=some (.tup m):=by
 unfold Uj at h;split at h
 ·cases h;assumption
 ·cases h
theorem X3{f:XE}(h:VE X e f):VI X tg e (YN f):=PI.imp (JV h) fun σ H R ⟨Rm,s,ls,hd,env,e,k⟩=>by
 obtain⟨l,e1,e2⟩:=Zg e
 refine⟨Rm,s,l,hd,env,e1,fun v H1 fp s1 i1 n1=>?_⟩
 have hd1:∀p,Rm p->W5 (H1 p):=fun p hp=>Same.mut s1 (hd p hp)
 have main:∀a xs fq,v = .ref a->SqL X.K H1 a xs->(∀H',Ab Rm H1 H'->SqL X.K H' a xs)->Iss X.K H1 ls xs fq->(∀p∈fq,p∈fp)->∃a,v = .ref a/\(∃xs,SqL X.K H1 a xs)/\R (E1 X.K a) H1:=by
  rintro a xs fq rfl ha keep hi sub
  refine⟨a,rfl,⟨xs,ha⟩,k _ H1 s1 ⟨fun H' ab=>⟨xs,keep H' ab,by rw[hi.len];exact Nat.le_refl _⟩,fun H' i l ab hl=>?_,fun H' i l x H'' ab hl y=>?_⟩⟩
  ·obtain⟨x,f1,hx,_,_⟩:=hi.get hl
   exact⟨xs,x,keep H' ab,hx⟩
  ·obtain⟨rfl,y⟩:=y
   obtain⟨x',f1,hx,ix,sub'⟩:=hi.get hl
   have:=y xs (keep _ ab)
   rw[hx] at this;cases this
   have n1':∀p∈f1,¬Rm p:=fun p hp=>n1 p (sub p (sub' p hp))
   exact⟨Same.refl _,f1,ix.ab ab hd1 n1',fun p hp=>⟨Is.dom _ _ _ ix p hp,n1' p hp⟩⟩
 rcases Kp e2 with rfl | rfl
 ·obtain⟨a,xs,fq,rfl,ha,hi,rfl⟩:=i1.lst_inv
  exact main a xs fq rfl (SqL.of ha) (fun H' ab=>SqL.of (ab a _ ha (n1 a List.mem_cons_self))) hi fun p hp=>List.mem_cons_of_mem _ hp
 ·obtain⟨a,xs,rfl,ha,hi⟩:=i1.cst_inv
  exact main a xs fp rfl ha.sq (fun H' ab=>(ha.tr (ab.tk hd1)).sq) hi fun p hp=>hp
theorem QG{f:XE}(h:VE X e f):VI X tg e (Uj f):=PI.imp (Gu h) fun σ H R ⟨Rm,s,ls,hd,env,e,k⟩=>by
 refine⟨Rm,s,.tup ls,hd,env,MS e,fun v H1 fp s1 i1 n1=>?_⟩
 obtain⟨a,xs,rfl,ha,hi⟩:=i1.tup_inv
 have hd1:∀p,Rm p->W5 (H1 p):=fun p hp=>Same.mut s1 (hd p hp)
 have keep:∀H',Ab Rm H1 H'->SqT X.K H' a xs:=fun H' ab=>SqT.of ((ab.tk hd1).tup a xs ha)
 refine⟨a,rfl,⟨xs,SqT.of ha⟩,k _ H1 s1 ⟨fun H' ab=>⟨xs,keep H' ab,by rw[hi.len];exact Nat.le_refl _⟩,fun H' i l ab hl=>?_,fun H' i l x H'' ab hl y=>?_⟩⟩
 ·obtain⟨x,f1,hx,_,_⟩:=hi.get hl
  exact⟨xs,x,keep H' ab,hx⟩
 ·obtain⟨rfl,y⟩:=y
  obtain⟨x',f1,hx,ix,sub⟩:=hi.get hl
  have:=y xs (keep _ ab)
  rw[hx] at this;cases this
  have n1':∀p∈f1,¬Rm p:=fun p hp=>n1 p (sub p hp)
  exact⟨Same.refl _,f1,ix.ab ab hd1 n1',fun p hp=>⟨Is.dom _ _ _ ix p hp,n1' p hp⟩⟩
def Vc(n:Nat):List PV:=(List.range n).map fun(i:Nat)=>PV.int (i:Int)
def XC(lo:Int)(n:Nat):List PV:=(List.range n).map fun(i:Nat)=>PV.int (lo+(i:Int))
def ZI(fs:List XE):XL:=fun s=>match Uz fs s with | some [.int j]=>if -1000000<=j/\j<=1000000 then some (Vc j.toNat) else none | _=>none
def YZ(fs:List XE):XL:=fun s=>match Uz fs s with | some [.int i,.int j]=>if -1000000<=i/\i<=1000000/\-1000000<=j/\j<=1000000 then some (XC i (j-i).toNat) else none | _=>none
theorem NW{Rm:Addr->Prop}{H1:Hp}(lo:Int)(n:Nat):Dk K Rm H1 (FZ lo n) (XC lo n):=by
 refine⟨fun H' _=>by unfold XC;rw[List.length_map,List.length_range];exact Nat.le_refl n,fun H' i l _ hl=>?_,fun H' i l x H'' _ hl y=>?_⟩
 ·have:=(List.getElem?_eq_some_iff.mp hl).1
  unfold XC at this;rw[List.length_map,List.length_range] at this;exact this
 ·obtain⟨rfl,rfl⟩:=y
  have hi:=(List.getElem?_eq_some_iff.mp hl).1
  unfold XC at hi hl;rw[List.length_map,List.length_range] at hi;rw[List.getElem?_map,List.getElem?_range hi] at hl;cases hl
  exact⟨Same.refl _,[],Is.int _,fun p hp=>by simp at hp⟩
theorem Iq(n:Nat):Vc n=XC 0 n:=by
 unfold Vc XC
 apply List.map_congr_left
 intro i _;rw[Int.zero_add]
theorem Z1{a:Expr}{fs:List XE}{p pos:Pos}(hg:Gl X "range")(hm:X.mg "range" = none)(ha:VA X [a] fs)(hs:starEach [a] X.env=[(false,eval a X.env)]:=by rfl):VI X tg (.Call (.Name "range" p) [a] [] pos) (ZI fs):=
 PI.imp (MA hg hm ha hs) fun σ H R ⟨Rm,s,ls,hd,env,e,k⟩=>by
 unfold ZI at e
 split at e
 ·split at e
  ·cases e
   rename_i j he hb
   refine⟨Rm,s,_,hd,env,he,fun vs H1 fp s1 i1 _=>?_⟩
   obtain⟨v,rfl,i⟩:=i1.one_inv
   refine⟨j,by rw[i.int_inv.1],by omega,by omega,k _ H1 s1 ?_⟩
   rw[Iq];exact NW _ _
  ·cases e
 ·cases e
theorem WE{a b:Expr}{fs:List XE}{p pos:Pos}(hg:Gl X "range")(hm:X.mg "range" = none)(ha:VA X [a,b] fs)(hs:starEach [a,b] X.env=[(false,eval a X.env),(false,eval b X.env)]:=by rfl)(hs2:starEach [b] X.env=[(false,eval b X.env)]:=by rfl):VI X tg (.Call (.Name "range" p) [a,b] [] pos) (YZ fs):=
 PI.imp (MB hg hm ha hs hs2) fun σ H R ⟨Rm,s,ls,hd,env,e,k⟩=>by
 unfold YZ at e
 split at e
 ·split at e
  ·cases e
   rename_i i j he hb
   refine⟨Rm,s,_,hd,env,he,fun vs H1 fp s1 i1 _=>?_⟩
   obtain⟨v,w,f1,f2,rfl,iv,iw,_⟩:=i1.two_inv
   exact⟨i,j,by rw[iv.int_inv.1,iw.int_inv.1],⟨by omega,by omega,by omega,by omega⟩,k _ H1 s1 (NW _ _)⟩
  ·cases e
 ·cases e
def Wg(m:List PV):List PV:=m.zipIdx.map fun z=>.tup [.int (z.2:Nat),z.1]
theorem R8{m:List PV}{i:Nat}{l:PV}(h:(Wg m)[i]?=some l):∃a,m[i]?=some a/\l = .tup [.int (i:Nat),a]:=by
 unfold Wg at h;rw[List.getElem?_map,List.getElem?_zipIdx] at h
 cases q:m[i]? with
 | none=>rw[q] at h;cases h
 | some a=>rw[q] at h;cases h;exact⟨a,rfl,by simp⟩
theorem X8(m:List PV):(Wg m).length=m.length:=by unfold Wg;rw[List.length_map,List.length_zipIdx]
def seqB:Bool->PV->Option (List PV)
 | true,.lst l=>some l
 | true,.cst l=>some l
 | false,.tup l=>some l
 | _,_=>none
theorem Ir{H:Hp}{b:Bool}{l:PV}{v:V}{fp:List Addr}{m:List PV}(h:Is K H l v fp)(e:seqB b l=some m):∃p xs fq,v = .ref p/\Iss K H m xs fq/\(∀q∈fq,q∈fp)/\∀(Rm:Addr->Prop) H',Ab Rm H H'->(∀p,Rm p->W5 (H p))->(∀p∈fp,¬Rm p)->ML b K H' p xs:=by
 cases b with
 | true=>cases l with
  | lst l=>
   cases e
   obtain⟨p,xs,fq,rfl,hp,hi,rfl⟩:=h.lst_inv
   exact⟨p,xs,fq,rfl,hi,fun q hq=>List.mem_cons_of_mem _ hq,fun Rm H' ab _ n=>SqL.of (ab p _ hp (n p List.mem_cons_self))⟩
  | cst l=>
   cases e
   obtain⟨p,xs,rfl,hp,hi⟩:=h.cst_inv
   exact⟨p,xs,fp,rfl,hi,fun q hq=>hq,fun Rm H' ab hd _=>(hp.tr (ab.tk hd)).sq⟩
  | _=>cases e
 | false=>cases l with
  | tup l=>
   cases e
   obtain⟨p,xs,rfl,hp,hi⟩:=h.tup_inv
   exact⟨p,xs,fp,rfl,hi,fun q hq=>hq,fun Rm H' ab hd _=>SqT.of ((ab.tk hd).tup p xs hp)⟩
  | _=>cases e
def UC(b:Bool)(fs:List XE):XL:=fun s=>match Uz fs s with | some [l]=>(seqB b l).map Wg | _=>none
theorem NX{elts:List Expr}{k:Nat}{tpos:Pos}(b:Bool){a:Expr}{fs:List XE}{p pos:Pos}(hg:Gl X "enumerate")(hm:X.mg "enumerate" = none)(ha:VA X [a] fs)(hs:starEach [a] X.env=[(false,eval a X.env)]:=by rfl) :
  VI X (.Tuple elts k tpos) (.Call (.Name "enumerate" p) [a] [] pos) (UC b fs):=PI.imp (Ie b hg hm ha hs) fun σ H R ⟨Rm,s,ls,hd,env,e,k⟩=>by
 unfold UC at e
 split at e
 ·rename_i l he
  obtain⟨m,e1,rfl⟩:=map_some e
  refine⟨Rm,s,_,hd,env,he,fun vs H1 fp s1 i1 n1=>?_⟩
  obtain⟨v,rfl,i⟩:=i1.one_inv
  have hd1:∀p,Rm p->W5 (H1 p):=fun p hp=>Same.mut s1 (hd p hp)
  obtain⟨a,xs,fq,rfl,hi,sub,keep⟩:=Ir (K:=X.K) i e1
  have kp:=fun H' ab=>keep Rm H' ab hd1 n1
  refine⟨a,rfl,⟨xs,kp H1 (Same.ab (Same.refl H1))⟩,k _ H1 s1 ⟨fun H' ab=>⟨xs,kp H' ab,by rw[X8,hi.len]⟩,fun H' i l ab hl=>?_,fun H' i l x H'' ab hl y=>?_⟩⟩
  ·obtain⟨c,hc,rfl⟩:=R8 hl
   obtain⟨x,f1,hx,_,_⟩:=hi.get hc
   exact⟨xs,x,kp H' ab,hx⟩
  ·obtain⟨c,hc,rfl⟩:=R8 hl
   obtain⟨x',f1,hx,ix,sb⟩:=hi.get hc
   obtain⟨q,z,hq,rfl,rfl,y⟩:=y
   have:=y xs (kp _ ab)
   rw[hx] at this;cases this
   have n1':∀p∈f1,¬Rm p:=fun p hp=>n1 p (sub p (sb p hp))
   refine⟨Same.new hq _,f1,Is.tup Zq ?_,fun p hp=>⟨Is.dom _ _ _ ix p hp,n1' p hp⟩⟩
   exact Iss.cons (f1:=[]) (Is.int _) (Iss.one ((ix.ab ab hd1 n1').mono (Same.new hq _)))
 ·cases e
end
inductive Tgt where
 | one (i:Nat) | many (is:List Nat)
def Tgt.slots:Tgt->List Nat
 | .one i=>[i]
 | .many is=>is
def setAll:List Nat->List PV->ZP->ZP
 | i::is,l::ls,s=>setAll is ls (s.set i (some l))
 | _,_,s=>s
def YU:List Nat->List V->TF->TF
 | i::is,l::ls,s=>YU is ls (s.set i (some l))
 | _,_,s=>s
def Vk:Tgt->PV->ZP->Option ZP
 | .one i,l,s=>some (s.set i (some l))
 | .many is,.tup ls,s=>if ls.length=is.length then some (setAll is ls s) else none
 | _,_,_=>none
def OS:List Nat->Hw
 | []=>FX
 | i::is=>Hx (Ut i) (OS is)
def gT(K:PySem.W.Frag):Tgt->TG
 | .one i=>Ut i
 | .many is=>FY K is.length (OS is)
theorem SK:∀{is:List Nat}{vs:List V}{σ:TF}{H:Hp}{Q:TF->Hp->Prop},vs.length=is.length->Q (YU is vs σ) H->OS is vs σ H Q
 | [],[],_,_,_,_,q=>⟨rfl,q⟩
 | [],_::_,_,_,_,h,_=>by simp at h
 | _::_,[],_,_,_,h,_=>by simp at h
 | i::is,v::vs,σ,H,Q,h,q=>⟨v,vs,rfl,SK (is:=is) (vs:=vs) (by simpa using h) q⟩
theorem QH{T:Tgt}{l:PV}{v:V}{fp:List Addr}{s s':ZP}{H:Hp}(h:Is K H l v fp)(e:Vk T l s=some s') :
  ∃ls vs fs,s'=setAll T.slots ls s/\Iss K H ls vs fs/\ls.length=T.slots.length/\(∀p∈fs,p∈fp)/\∀σ (Q:TF->Hp->Prop),Q (YU T.slots vs σ) H->gT K T v σ H Q:=by
 cases T with
 | one i=>
  cases e
  exact⟨[l],[v],fp,rfl,Iss.one h,rfl,fun p hp=>hp,fun σ Q q=>q⟩
 | many is=>
  cases l with
  | tup ls=>
   have e:(if ls.length=is.length then some (VL.setAll is ls s) else none)=some s':=e
   split at e
   ·cases e
    obtain⟨p,xs,rfl,hp,hi⟩:=h.tup_inv
    exact⟨ls,xs,fp,rfl,hi,by assumption,fun p hp=>hp,fun σ Q q=>⟨p,xs,rfl,SqT.of hp,by rw[hi.len];assumption,SK (by rw[hi.len];assumption) q⟩⟩
   ·cases e
  | _=>cases e
theorem WV:∀{is:List Nat}{vs:List V}{σ:TF}{n:Nat},(∀i∈is,i<n)->(YU is vs σ).drop n=σ.drop n
 | [],_,_,_,_=>rfl
 | _::_,[],_,_,_=>rfl
 | i::is,v::vs,σ,n,h=>by
  show(YU is vs (σ.set i (some v))).drop n=_
  rw[WV (fun j hj=>h j (List.mem_cons_of_mem _ hj))]
  have:=h i List.mem_cons_self
  rw[List.drop_set,if_pos this]
theorem EnvIs.set{Rm:Addr->Prop}{H:Hp}{s:ZP}{σ:TF}{i:Nat}{l:PV}{v:V}{fp:List Addr}(h:EnvIs K Rm H s σ)(hl:s.length=σ.length)(hi:Is K H l v fp)(n:∀p∈fp,¬Rm p):EnvIs K Rm H (s.set i (some l)) (σ.set i (some v)):=⟨fun j a e=>by
 rw[List.getElem?_set] at e
 by_cases hj:i=j
 ·subst hj
  rw[if_pos rfl] at e
  split at e
  ·cases e
   exact⟨v,fp,by rw[List.getElem?_set,if_pos rfl,if_pos (by omega)],hi,n⟩
  ·cases e
 ·rw[if_neg hj] at e
  obtain⟨w,f,h1,h2,h3⟩:=h.is j a e
  exact⟨w,f,by rw[List.getElem?_set,if_neg hj];exact h1,h2,h3⟩⟩
theorem EnvIs.setAll{Rm:Addr->Prop}{H:Hp}:∀{is:List Nat}{ls:List PV}{vs:List V}{fs:List Addr}{s:ZP}{σ:TF},EnvIs K Rm H s σ->s.length=σ.length->Iss K H ls vs fs->(∀p∈fs,¬Rm p)->EnvIs K Rm H (VL.setAll is ls s) (YU is vs σ)
 | [],_,_,_,_,_,h,_,_,_=>by unfold VL.setAll YU;exact h
 | i::is,[],vs,fs,s,σ,h,_,hi,_=>by
  simp only[Iss] at hi;rw[hi.1];exact h
 | i::is,l::ls,vs,fs,s,σ,h,hl,hi,n=>by
  obtain⟨x,r,f1,f2,rfl,h1,h2,rfl⟩:=hi.inv
  show EnvIs K Rm H (VL.setAll is ls (s.set i (some l))) (YU is r (σ.set i (some x)))
  exact EnvIs.setAll (h.set hl h1 fun p hp=>n p (List.mem_append_left _ hp)) (by rw[List.length_set,List.length_set];exact hl) h2 fun p hp=>n p (List.mem_append_right _ hp)
def Yr(n:Nat)(ix:List Nat)(s:ZP):ZP:=List.replicate n none++ix.map (fun i=>(s[i]?).join)
def Wh(T:Tgt)(ft:XT)(fe:XE)(s0:ZP):List PV->Option (List PV)
 | []=>some []
 | l::r=>(Vk T l s0).bind fun s1=>(ft s1).bind fun c=>if c=true then(fe s1).bind fun y=>(Wh T ft fe s0 r).map (y::·) else Wh T ft fe s0 r
def Zz(n:Nat)(ix:List Nat)(fi:XL)(T:Tgt)(ft:XT)(fe:XE):XE:=fun s=>(fi s).bind fun ls=>if ls.length<=10000 then(Wh T ft fe (Yr n ix s) ls).map .lst else none
def ZL:XT:=fun _=>some true
theorem join_some{α:Type}{o:Option (Option α)}{a:α}(h:o.join=some a):o=some (some a):=by
 cases o with
 | none=>cases h
 | some b=>cases b with
  | none=>cases h
  | some c=>cases h;rfl
theorem EnvIs.comp{Rm:Addr->Prop}{H:Hp}{s:ZP}{σ:TF}{n:Nat}{ix:List Nat}(h:EnvIs K Rm H s σ):EnvIs K Rm H (Yr n ix s) (Yh n ix σ):=⟨fun i l e=>by
 unfold Yr at e;unfold Yh
 by_cases hi:i<n
 ·rw[List.getElem?_append_left (by simpa using hi),List.getElem?_replicate,if_pos hi] at e
  cases e
 ·rw[List.getElem?_append_right (by simpa using hi),List.length_replicate,List.getElem?_map] at e
  rw[List.getElem?_append_right (by simpa using hi),List.length_replicate,List.getElem?_map]
  cases q:ix[i-n]? with
  | none=>rw[q] at e;cases e
  | some j=>
   rw[q] at e
   have e:=join_some (Option.some.inj e)
   obtain⟨v,fp,a,b,c⟩:=h.is j l e
   exact⟨v,fp,by show some ((σ[j]?).join)=_;rw[a];rfl,b,c⟩⟩
theorem PR(n:Nat)(ix:List Nat)(s:ZP)(σ:TF):(Yr n ix s).length=(Yh n ix σ).length:=by unfold Yr Yh;simp
theorem SM{T:Tgt}{ft:XT}{fe:XE}{s0:ZP}{l:PV}{r ys:List PV}(h:Wh T ft fe s0 (l::r)=some ys):∃s1 c,Vk T l s0=some s1/\ft s1=some c/\((c=true/\∃y zs,fe s1=some y/\Wh T ft fe s0 r=some zs/\ys=y::zs)\/(c=false/\Wh T ft fe s0 r=some ys)):=by
 unfold Wh at h
 obtain⟨s1,e1,h⟩:=Zg h
 obtain⟨c,e2,h⟩:=Zg h
 refine⟨s1,c,e1,e2,?_⟩
 cases c with
 | true=>
  rw[if_pos rfl] at h
  obtain⟨y,e3,h⟩:=Zg h
  obtain⟨zs,e4,rfl⟩:=map_some h
  exact .inl ⟨rfl,y,zs,e3,e4,rfl⟩
 | false=>
  rw[if_neg Bool.false_ne_true] at h
  exact .inr ⟨rfl,h⟩
theorem SN{α:Type}{l:List α}{i:Nat}{a:α}{r:List α}(h:l.drop i=a::r):l[i]?=some a/\l.drop (i+1)=r:=by
 constructor
 ·have:=congrArg (fun z=>z[0]?) h
  simpa [List.getElem?_drop] using this
 ·rw[<-List.drop_drop,h];rfl
section
variable {n:Nat} {ix:List Nat} {fi:XL} {T:Tgt} {ft:XT} {fe:XE}
theorem Iu(hT:∀i∈T.slots,i<n):∀σ H Q,tF K (Zz n ix fi T ft fe) σ H Q->R0 n ix (iF K fi) (gT K T) (MQ K ft) (tF K fe) σ H Q:=fun σ H Q ⟨Rm,s,L,hd,env,e,k⟩=>by
 obtain⟨ls,e1,e⟩:=Zg e
 split at e
 case isFalse=>cases e
 rename_i hlen
 obtain⟨ys,e2,rfl⟩:=map_some e
 refine⟨Rm,s,ls,hd,env,e1,fun J H1 s1 jis=>?_⟩
 have hd1:∀p,Rm p->W5 (H1 p):=fun p hp=>Same.mut s1 (hd p hp)
 refine⟨fun i m vs Hc=>m=ls.length-i/\i<=ls.length/\Same H1 Hc/\∃dn rest fp,ys=dn++rest/\dn.length<=i/\Wh T ft fe (Yr n ix s) (ls.drop i)=some rest/\Iss K Hc dn vs fp/\∀p∈fp,¬Rm p,
  ⟨ls.length,by simp,Nat.zero_le _,Same.refl H1,[],ys,[],rfl,Nat.le_refl _,e2,Iss.nil,fun p hp=>by simp at hp⟩,?_⟩
 rintro i m vs Hc ⟨rfl,hi,sc,dn,rest,fp,rfl,hdl,ec,iv,nv⟩
 refine⟨by rw[iv.len];exact Nat.le_of_lt (lt_size (by omega)),?_⟩
 cases q:ls.drop i with
 | nil=>
  have hil:i=ls.length:=by
   have:=congrArg List.length q
   rw[List.length_drop] at this
   simp at this;omega
  subst hil;rw[q] at ec;cases ec
  refine .inl ⟨jis.stop Hc (Same.ab sc),fun p hp=>k _ _ (p::fp) (s1.trans (sc.trans (Same.new hp _))) ?_ fun a ha z=>?_⟩
  ·rw[List.append_nil]
   exact Is.lst Zq (iv.mono (Same.new hp _))
  ·rcases List.mem_cons.mp ha with rfl | ha
   ·exact Xk (Same.mut (s1.trans sc) (hd a z)) hp
   ·exact nv a ha z
 | cons l r=>
  obtain⟨hl,hr⟩:=SN q
  have hilt:i<ls.length:=(List.getElem?_eq_some_iff.mp hl).1
  rw[q] at ec
  obtain⟨sb,c,eb,et,alt⟩:=SM ec
  refine .inr ⟨jis.go Hc i l (Same.ab sc) hl,fun vs' H'=>Same H1 H'/\∃dn' rest' fp',dn++rest=dn'++rest'/\dn'.length<=i+1/\Wh T ft fe (Yr n ix s) (ls.drop (i+1))=some rest'/\Iss K H' dn' vs' fp'/\∀p∈fp',¬Rm p,
   fun vs' H' h'=>⟨ls.length-(i+1),by omega,rfl,hilt,h'.1,h'.2⟩,fun x H2 y=>?_⟩
  obtain⟨s2,fx,ix',nx⟩:=jis.yld Hc i l x H2 (Same.ab sc) hl y
  have hd2:∀p,Rm p->W5 (H2 p):=fun p hp=>Same.mut (sc.trans s2) (hd1 p hp)
  obtain⟨bl,bv,bf,rfl,bi,_,bsub,buse⟩:=QH (K:=K) ix' eb
  have env2:EnvIs K Rm H2 (Yr n ix s) (Yh n ix σ):=(env.mono (s1.trans (sc.trans s2))).comp
  have env3:=env2.setAll (is:=T.slots) (PR n ix s σ) bi fun p hp=>(nx p (bsub p hp)).2
  refine buse _ _ ⟨WV hT,Rm,_,c,hd2,env3,et,fun H3 s3=>?_⟩
  have hd3:∀p,Rm p->W5 (H3 p):=fun p hp=>Same.mut s3 (hd2 p hp)
  rcases alt with⟨rfl,y',zs,ey,ez,rfl⟩ | ⟨rfl,ez⟩
  ·refine Ef ?_
   refine⟨Rm,_,y',hd3,env3.mono s3,ey,fun v H4 f4 s4 i4 n4=>?_⟩
   refine⟨sc.trans (s2.trans (s3.trans s4)),dn++[y'],zs,fp++f4,by rw[List.append_assoc];rfl,by rw[List.length_append];simp;exact hdl,by rw[hr];exact ez,(iv.mono (s2.trans (s3.trans s4))).append (Iss.one i4),fun p hp=>?_⟩
   rcases List.mem_append.mp hp with h | h
   ·exact nv p h
   ·exact n4 p h
  ·refine Ee ?_
   exact⟨sc.trans (s2.trans s3),dn,rest,fp,rfl,Nat.le_succ_of_le hdl,by rw[hr];exact ez,iv.mono (s2.trans s3),nv⟩
theorem NY(hT:∀i∈T.slots,i<n):∀σ H Q,tM K (Zz n ix fi T ft fe) σ H Q->R0 n ix (iF K fi) (gT K T) (MQ K ft) (tM K fe) σ H Q:=fun σ H Q ⟨s,L,env,e,k⟩=>by
 obtain⟨ls,e1,e⟩:=Zg e
 split at e
 case isFalse=>cases e
 rename_i hlen
 obtain⟨ys,e2,rfl⟩:=map_some e
 have hd:∀(H:Hp) p,(fun _=>False:Addr->Prop) p->W5 (H p):=fun _ _ z=>z.elim
 refine⟨fun _=>False,s,ls,hd H,env,e1,fun J H1 s1 jis=>?_⟩
 refine⟨fun i m vs Hc=>m=ls.length-i/\i<=ls.length/\Same H1 Hc/\∃dn rest fp,ys=dn++rest/\dn.length<=i/\Wh T ft fe (Yr n ix s) (ls.drop i)=some rest/\Iss K Hc dn vs fp/\fp.Nodup/\∀p∈fp,H1 p=none/\W5 (Hc p),
  ⟨ls.length,by simp,Nat.zero_le _,Same.refl H1,[],ys,[],rfl,Nat.le_refl _,e2,Iss.nil,List.nodup_nil,fun p hp=>by simp at hp⟩,?_⟩
 rintro i m vs Hc ⟨rfl,hi,sc,dn,rest,fp,rfl,hdl,ec,iv,dv,nv⟩
 refine⟨by rw[iv.len];exact Nat.le_of_lt (lt_size (by omega)),?_⟩
 cases q:ls.drop i with
 | nil=>
  have hil:i=ls.length:=by
   have:=congrArg List.length q
   rw[List.length_drop] at this
   simp at this;omega
  subst hil;rw[q] at ec;cases ec
  refine .inl ⟨jis.stop Hc (Same.ab sc),fun p hp=>k _ _ (p::fp) (s1.trans (sc.trans (Same.new hp _))) ?_ (List.nodup_cons.mpr ⟨fun z=>Xk (nv p z).2 hp,dv⟩) fun a ha=>?_⟩
  ·rw[List.append_nil]
   exact Is.lst Zq (iv.mono (Same.new hp _))
  ·rcases List.mem_cons.mp ha with rfl | ha
   ·exact⟨Same.off (s1.trans sc) hp,by rw[Zq];exact True.intro⟩
   ·exact⟨Same.off s1 (nv a ha).1,Same.mut (Same.new hp _) (nv a ha).2⟩
 | cons l r=>
  obtain⟨hl,hr⟩:=SN q
  have hilt:i<ls.length:=(List.getElem?_eq_some_iff.mp hl).1
  rw[q] at ec
  obtain⟨sb,c,eb,et,alt⟩:=SM ec
  refine .inr ⟨jis.go Hc i l (Same.ab sc) hl,fun vs' H'=>Same H1 H'/\∃dn' rest' fp',dn++rest=dn'++rest'/\dn'.length<=i+1/\Wh T ft fe (Yr n ix s) (ls.drop (i+1))=some rest'/\Iss K H' dn' vs' fp'/\fp'.Nodup/\∀p∈fp',H1 p=none/\W5 (H' p),
   fun vs' H' h'=>⟨ls.length-(i+1),by omega,rfl,hilt,h'.1,h'.2⟩,fun x H2 y=>?_⟩
  obtain⟨s2,fx,ix',nx⟩:=jis.yld Hc i l x H2 (Same.ab sc) hl y
  obtain⟨bl,bv,bf,rfl,bi,_,bsub,buse⟩:=QH (K:=K) ix' eb
  have env2:EnvIs K (fun _=>False) H2 (Yr n ix s) (Yh n ix σ):=(env.mono (s1.trans (sc.trans s2))).comp
  have env3:=env2.setAll (is:=T.slots) (PR n ix s σ) bi fun p hp=>(nx p (bsub p hp)).2
  refine buse _ _ ⟨WV hT,fun _=>False,_,c,hd H2,env3,et,fun H3 s3=>?_⟩
  rcases alt with⟨rfl,y',zs,ey,ez,rfl⟩ | ⟨rfl,ez⟩
  ·refine Ef ?_
   refine⟨_,y',env3.mono s3,ey,fun v H4 f4 s4 i4 d4 n4=>?_⟩
   refine⟨sc.trans (s2.trans (s3.trans s4)),dn++[y'],zs,fp++f4,by rw[List.append_assoc];rfl,by rw[List.length_append];simp;exact hdl,by rw[hr];exact ez,(iv.mono (s2.trans (s3.trans s4))).append (Iss.one i4),List.nodup_append.mpr ⟨dv,d4,fun a ha b hb z=>?_⟩,fun p hp=>?_⟩
   ·subst z
    exact Xk (Same.mut (s2.trans s3) (nv a ha).2) (n4 a hb).1
   ·rcases List.mem_append.mp hp with h | h
    ·exact⟨(nv p h).1,Same.mut (s2.trans (s3.trans s4)) (nv p h).2⟩
    ·exact⟨Same.off (sc.trans (s2.trans s3)) (n4 p h).1,(n4 p h).2⟩
  ·refine Ee ?_
   exact⟨sc.trans (s2.trans s3),dn,rest,fp,rfl,Nat.le_succ_of_le hdl,by rw[hr];exact ez,iv.mono (s2.trans s3),dv,fun p hp=>⟨(nv p hp).1,Same.mut (s2.trans s3) (nv p hp).2⟩⟩
end
def Er(X:Cx)(ifs:List Expr)(f:XT):Prop:=L7 X ifs (MQ X.K f)
section
variable {X:Cx} {tg elt iter c:Expr} {ifs:List Expr} {scope:Scope} {pos:Pos} {fi:XL} {T:Tgt} {ft:XT} {fe:XE}
theorem Ys:Er X [] ZL:=fun pins s σ H Q I ⟨Rm,s',c,hd,env,e,k⟩=>by
 cases e
 exact J9 pins s σ H Q I (k H (Same.refl H))
theorem QI(h:VT X c ft):Er X [c] ft:=Ia h
theorem Xl(own fr:List Str)(ix:List Nat)(hcalm:X.calm=true)(hi:VI X tg iter fi)(S:Ue X.N X.env.scope scope own fr ix=true)
  (hg:∀cl C s H ex,PG (ZO X (own++fr) scope cl C s H ex) tg (gT X.K T)) (ht:∀cl C s H ex,Er (ZO X (own++fr) scope cl C s H ex) ifs ft) (he:∀cl C s H ex,VE (ZO X (own++fr) scope cl C s H ex) elt fe)
  (hT:∀i∈T.slots,i<own.length:=by decide) (hs:∀x,foldedSetIterable iter X.env x=pure x:=by intro _;rfl):VE X (.ListComp elt [⟨tg,iter,ifs,0⟩] scope pos) (Zz own.length ix fi T ft fe):=
 PE.imp (PF own fr ix hcalm hi S hg (fun cl C s H ex=>(show L7 (ZO X (own++fr) scope cl C s H ex) ifs (MQ X.K ft) from ht cl C s H ex)) (fun cl C s H ex=>(show PE (ZO X (own++fr) scope cl C s H ex) elt (tF X.K fe) from he cl C s H ex)) hs) (Iu hT)
theorem Sh(own fr:List Str)(ix:List Nat)(hcalm:X.calm=true)(hi:VI X tg iter fi)(S:Ue X.N X.env.scope scope own fr ix=true)
  (hg:∀cl C s H ex,PG (ZO X (own++fr) scope cl C s H ex) tg (gT X.K T)) (ht:∀cl C s H ex,Er (ZO X (own++fr) scope cl C s H ex) ifs ft) (he:∀cl C s H ex,VM (ZO X (own++fr) scope cl C s H ex) elt fe)
  (hT:∀i∈T.slots,i<own.length:=by decide) (hs:∀x,foldedSetIterable iter X.env x=pure x:=by intro _;rfl):VM X (.ListComp elt [⟨tg,iter,ifs,0⟩] scope pos) (Zz own.length ix fi T ft fe):=
 PE.imp (PF own fr ix hcalm hi S hg (fun cl C s H ex=>(show L7 (ZO X (own++fr) scope cl C s H ex) ifs (MQ X.K ft) from ht cl C s H ex)) (fun cl C s H ex=>(show PE (ZO X (own++fr) scope cl C s H ex) elt (tM X.K fe) from he cl C s H ex)) hs) (NY hT)
end
def XD(xs:List PV)(lo hi:Option Int):List PV:=(xs.drop (HT.sIx xs.length 0 lo)).take (HT.sIx xs.length xs.length hi-HT.sIx xs.length 0 lo)
theorem Iss.cut{H:Hp}{l:List PV}{xs:List V}{fp:List Addr}(lo hi:Option Int)(h:Iss K H l xs fp):∃f1,Iss K H (XD l lo hi) (Pu xs lo hi) f1/\∀p∈f1,p∈fp:=by
 unfold XD Pu;rw[h.len]
 obtain⟨f1,a,b⟩:=h.drop (HT.sIx l.length 0 lo)
 obtain⟨f2,c,d⟩:=a.take (HT.sIx l.length l.length hi-HT.sIx l.length 0 lo)
 exact⟨f2,c,fun p hp=>b p (d p hp)⟩
abbrev XO:=ZP->Option (Option Int)
def DF(K:PySem.W.Frag)(f:XO):TO:=fun σ H Q=>∃(Rm:Addr->Prop) (s:ZP) (i:Option Int),(∀p,Rm p->W5 (H p))/\EnvIs K Rm H s σ/\f s=some i/\∀H',Same H H'->Q i H'
def VO(X:Cx)(e:Option Expr)(f:XO):Prop:=PO X e (DF X.K f)
def Uk:XO:=fun _=>some none
def Wz(f:XE):XO:=fun s=>match f s with | some (.int i)=>some (some i) | _=>none
def Y6(x:PV)(lo hi:Option Int):Option PV:=match x with | .lst l=>some (.lst (XD l lo hi)) | .cst l=>some (.lst (XD l lo hi)) | _=>none
def OT(x:PV)(lo hi:Option Int):Option PV:=match x with | .tup l=>if HT.sIx l.length 0 lo=0/\HT.sIx l.length l.length hi=l.length then none else some (.tup (XD l lo hi)) | _=>none
def W6(g:PV->Option Int->Option Int->Option PV)(a:XE)(lo hi:XO):XE:=fun s=>(a s).bind fun x=>(lo s).bind fun l=>(hi s).bind fun u=>g x l u
theorem MT{l:List PV}(lo hi:Option Int)(h:ZG l=true):ZG (XD l lo hi)=true:=by
 rw[Xw,List.all_eq_true] at *
 intro x hx;unfold XD at hx
 exact h x (List.mem_of_mem_drop (List.mem_of_mem_take hx))
section
variable {X:Cx} {e:Expr} {lo hi:Option Expr} {p2 pos:Pos} {fa:XE} {fl fh:XO}
theorem VC:VO X none Uk:=fun pins s σ H Q I ⟨Rm,s',i,hd,env,e,k⟩=>by
 cases e
 exact J3 pins s σ H Q I (k H (Same.refl H))
theorem Ws{e:Expr}(h:VE X e fa):VO X (some e) (Wz fa):=fun pins s σ H Q I ⟨Rm,s',i,hd,env,e,k⟩=>by
 unfold Wz at e
 split at e
 ·cases e
  rename_i j hj
  exact J4 h pins s σ H Q I ⟨Rm,s',.int j,hd,env,hj,fun v H' fp sm i n=>⟨j,i.int_inv.1,k H' sm⟩⟩
 ·cases e
theorem X9(ha:VE X e fa)(hl:VO X lo fl)(hh:VO X hi fh):VE X (.Subscript e (.Slice lo hi none p2) pos) (W6 Y6 fa fl fh):=PE.imp (Pt J6 ha hl hh) fun σ H Q ⟨Rm,s,l,hd,env,e,k⟩=>by
 obtain⟨x,e1,e⟩:=Zg e
 obtain⟨a,e2,e⟩:=Zg e
 obtain⟨b,e3,e⟩:=Zg e
 refine⟨Rm,s,x,hd,env,e1,fun v H1 fp s1 i1 n1=>⟨Rm,s,a,fun p hp=>Same.mut s1 (hd p hp),env.mono s1,e2,fun H2 s2=>⟨Rm,s,b,fun p hp=>Same.mut (s1.trans s2) (hd p hp),env.mono (s1.trans s2),e3,fun H3 s3=>?_⟩⟩⟩
 cases x with
 | lst l=>
  cases e
  obtain⟨p,xs,fq,rfl,hp,hi,rfl⟩:=(i1.mono (s2.trans s3)).lst_inv
  obtain⟨f1,c,d⟩:=hi.cut a b
  refine⟨p,xs,rfl,SqL.of hp,fun q hq=>k _ _ (q::f1) (s1.trans (s2.trans (s3.trans (Same.new hq _)))) (Is.lst Zq (c.mono (Same.new hq _))) fun r hr z=>?_⟩
  rcases List.mem_cons.mp hr with rfl | hr
  ·exact Xk (Same.mut (s1.trans (s2.trans s3)) (hd r z)) hq
  ·exact n1 r (List.mem_cons_of_mem _ (d r hr)) z
 | cst l=>
  cases e
  obtain⟨p,xs,rfl,hp,hi⟩:=(i1.mono (s2.trans s3)).cst_inv
  obtain⟨f1,c,d⟩:=hi.cut a b
  refine⟨p,xs,rfl,hp.sq,fun q hq=>k _ _ (q::f1) (s1.trans (s2.trans (s3.trans (Same.new hq _)))) (Is.lst Zq (c.mono (Same.new hq _))) fun r hr z=>?_⟩
  rcases List.mem_cons.mp hr with rfl | hr
  ·exact Xk (Same.mut (s1.trans (s2.trans s3)) (hd r z)) hq
  ·exact n1 r (d r hr) z
 | _=>cases e
theorem MU(ha:VE X e fa)(hl:VO X lo fl)(hh:VO X hi fh):VE X (.Subscript e (.Slice lo hi none p2) pos) (W6 OT fa fl fh):=PE.imp (Pt GL ha hl hh) fun σ H Q ⟨Rm,s,l,hd,env,e,k⟩=>by
 obtain⟨x,e1,e⟩:=Zg e
 obtain⟨a,e2,e⟩:=Zg e
 obtain⟨b,e3,e⟩:=Zg e
 refine⟨Rm,s,x,hd,env,e1,fun v H1 fp s1 i1 n1=>⟨Rm,s,a,fun p hp=>Same.mut s1 (hd p hp),env.mono s1,e2,fun H2 s2=>⟨Rm,s,b,fun p hp=>Same.mut (s1.trans s2) (hd p hp),env.mono (s1.trans s2),e3,fun H3 s3=>?_⟩⟩⟩
 cases x with
 | tup l=>
  unfold OT at e
  simp only at e
  split at e
  ·cases e
  ·rename_i hne
   cases e
   obtain⟨p,xs,rfl,hp,hi⟩:=(i1.mono (s2.trans s3)).tup_inv
   obtain⟨f1,c,d⟩:=hi.cut a b
   refine⟨p,xs,rfl,SqT.of hp,by rw[hi.len];exact hne,fun q hq=>k _ _ f1 (s1.trans (s2.trans (s3.trans (Same.new hq _)))) (Is.tup Zq (c.mono (Same.new hq _))) fun r hr=>n1 r (d r hr)⟩
 | _=>cases e
end
end VL
namespace VL
open PySem PySem.Spec PyProof.Rows L2
variable {K:PySem.W.Frag}
structure Rel(K:PySem.W.Frag)(O:List Nat)(H0:Hp)(fps:Nat->List Addr)(s:ZP)(σ:TF)(H:Hp):Prop where
 same:Same H0 H
 len:s.length=σ.length
 is:∀(i:Nat) l,s[i]?=some (some l)->∃v,σ[i]?=some (some v)/\Is K H l v (fps i)
 emp:∀(i:Nat),(∀l,s[i]?≠some (some l))->fps i=[]
 nd:∀i∈O,(fps i).Nodup
 own:∀i∈O,∀p∈fps i,H0 p=none/\W5 (H p)
 dis:∀i∈O,∀j,j≠i->∀p∈fps i,p∉fps j
def Ow(O:List Nat)(fps:Nat->List Addr)(p:Addr):Prop:=∃i∈O,p∈fps i
def ZM(O:List Nat)(s:ZP):ZP:=O.foldl (fun s i=>s.set i none) s
theorem SO:∀{O:List Nat}{s:ZP}{i:Nat}{l:PV},(ZM O s)[i]?=some (some l)->i∉O/\s[i]?=some (some l)
 | [],s,i,l,h=>⟨by simp,h⟩
 | o::O,s,i,l,h=>by
  obtain⟨h1,h2⟩:=SO (O:=O) (s:=s.set o none) h
  rw[List.getElem?_set] at h2
  by_cases e:o=i
  ·rw[if_pos e] at h2;split at h2<;>cases h2
  ·rw[if_neg e] at h2
   exact⟨by simp only[List.mem_cons,not_or];exact⟨fun z=>e z.symm,h1⟩,h2⟩
section
variable {O:List Nat} {H0 H H':Hp} {fps:Nat->List Addr} {s:ZP} {σ:TF}
theorem Rel.at(r:Rel K O H0 fps s σ H)(i:Nat){p:Addr}(hp:p∈fps i):∃l v,s[i]?=some (some l)/\σ[i]?=some (some v)/\Is K H l v (fps i):=by
 cases q:s[i]? with
 | none=>rw[r.emp i (fun l z=>by rw[q] at z;cases z)] at hp;simp at hp
 | some o=>cases o with
  | none=>rw[r.emp i (fun l z=>by rw[q] at z;cases z)] at hp;simp at hp
  | some l=>
   obtain⟨v,a,b⟩:=r.is i l q
   exact⟨l,v,rfl,a,b⟩
theorem Rel.dom(r:Rel K O H0 fps s σ H)(i:Nat):∀p∈fps i,H p≠none:=fun p hp=>by
 obtain⟨l,v,_,_,b⟩:=r.at i hp
 exact Is.dom _ _ _ b p hp
theorem Rel.env(r:Rel K O H0 fps s σ H):EnvIs K (fun _=>False) H s σ:=⟨fun i l e=>by
 obtain⟨v,a,b⟩:=r.is i l e
 exact⟨v,_,a,b,fun _ _ z=>z⟩⟩
theorem Rel.envO(r:Rel K O H0 fps s σ H):EnvIs K (Ow O fps) H (ZM O s) σ:=⟨fun i l e=>by
 obtain⟨n,e⟩:=SO e
 obtain⟨v,a,b⟩:=r.is i l e
 exact⟨v,_,a,b,fun p hp ⟨j,hj,hpj⟩=>r.dis j hj i (fun z=>n (z▸hj)) p hpj hp⟩⟩
theorem Rel.owMut(r:Rel K O H0 fps s σ H):∀p,Ow O fps p->W5 (H p):=fun p ⟨i,hi,hp⟩=>(r.own i hi p hp).2
theorem Rel.grow(r:Rel K O H0 fps s σ H)(e:Same H H'):Rel K O H0 fps s σ H':=
 ⟨r.same.trans e,r.len,fun i l q=>by obtain⟨v,a,b⟩:=r.is i l q;exact⟨v,a,b.mono e⟩,r.emp,r.nd,fun i hi p hp=>⟨(r.own i hi p hp).1,Same.mut e (r.own i hi p hp).2⟩,r.dis⟩
theorem Rel.less{F:Hp}(r:Rel K O F fps s σ H)(e:Same H0 F):Rel K O H0 fps s σ H:=
 ⟨e.trans r.same,r.len,r.is,r.emp,r.nd,fun i hi p hp=>⟨Same.off e (r.own i hi p hp).1,(r.own i hi p hp).2⟩,r.dis⟩
theorem Rel.weak{O':List Nat}(r:Rel K O H0 fps s σ H)(h:∀i∈O',i∈O):Rel K O' H0 fps s σ H:=
 ⟨r.same,r.len,r.is,r.emp,fun i hi=>r.nd i (h i hi),fun i hi=>r.own i (h i hi),fun i hi=>r.dis i (h i hi)⟩
open Classical in
noncomputable def T7(H:Hp)(Rm:Addr->Prop):Hp:=fun b=>if Rm b then none else H b
theorem MV{Rm:Addr->Prop}:Same (T7 H Rm) H:=fun b o h=>by
 unfold T7 at h
 split at h
 ·cases h
 ·exact h
theorem Rel.frame(r:Rel K O H0 fps s σ H):Rel K O (T7 H (Ow O fps)) fps s σ H:=
 ⟨MV,r.len,r.is,r.emp,r.nd,fun i hi p hp=>⟨by unfold T7;rw[if_pos ⟨i,hi,hp⟩],(r.own i hi p hp).2⟩,r.dis⟩
theorem Rel.under(r:Rel K O H0 fps s σ H):Same H0 (T7 H (Ow O fps)):=fun b o h=>by
 unfold T7
 rw[if_neg (fun⟨i,hi,hp⟩=>by rw[(r.own i hi b hp).1] at h;cases h)]
 exact r.same b o h
open Classical in
noncomputable def Ta(fps:Nat->List Addr)(n:Nat)(i:Nat)(fp:List Addr):Nat->List Addr:=fun j=>if j=i/\i<n then fp else fps j
theorem Z6{n i j:Nat}{fp:List Addr}(h:j≠i):Ta fps n i fp j=fps j:=by unfold Ta;rw[if_neg (fun z=>h z.1)]
theorem NZ{n i:Nat}{fp:List Addr}(h:i<n):Ta fps n i fp i=fp:=by unfold Ta;rw[if_pos ⟨rfl,h⟩]
theorem Rel.set(r:Rel K O H0 fps s σ H){i:Nat}{l:PV}{v:V}{fp:List Addr}(hi:Is K H l v fp)(ho:i∈O->fp.Nodup/\∀p∈fp,H0 p=none/\W5 (H p))
  (hd:∀j,j≠i->(j∈O\/i∈O)->∀p∈fp,p∉fps j):Rel K O H0 (Ta fps s.length i fp) (s.set i (some l)) (σ.set i (some v)) H:=by
 by_cases hlt:i<s.length
 ·have e1:Ta fps s.length i fp i=fp:=NZ hlt
  refine⟨r.same,by rw[List.length_set,List.length_set];exact r.len,fun j a e=>?_,fun j h=>?_,fun j hj=>?_,fun j hj p hp=>?_,fun j hj k hk p hp=>?_⟩
  ·rw[List.getElem?_set] at e
   by_cases hj:i=j
   ·subst hj
    rw[if_pos rfl,if_pos hlt] at e;cases e;rw[e1]
    exact⟨v,by rw[List.getElem?_set,if_pos rfl,if_pos (by rw[<-r.len];exact hlt)],hi⟩
   ·rw[if_neg hj] at e
    obtain⟨w,h1,h2⟩:=r.is j a e
    rw[Z6 (Ne.symm hj)]
    exact⟨w,by rw[List.getElem?_set,if_neg hj];exact h1,h2⟩
  ·by_cases hj:i=j
   ·subst hj
    exact absurd (by rw[List.getElem?_set,if_pos rfl,if_pos hlt]) (h l)
   ·rw[Z6 (Ne.symm hj)]
    exact r.emp j fun a z=>h a (by rw[List.getElem?_set,if_neg hj];exact z)
  ·by_cases e:j=i
   ·subst e;rw[e1];exact(ho hj).1
   ·rw[Z6 e];exact r.nd j hj
  ·by_cases e:j=i
   ·subst e;rw[e1] at hp;exact(ho hj).2 p hp
   ·rw[Z6 e] at hp;exact r.own j hj p hp
  ·by_cases e:j=i
   ·subst e
    rw[e1] at hp;rw[Z6 hk]
    exact hd k hk (.inr hj) p hp
   ·rw[Z6 e] at hp
    by_cases e2:k=i
    ·subst e2
     rw[e1]
     exact fun z=>hd j e (.inl hj) p z hp
    ·rw[Z6 e2];exact r.dis j hj k hk p hp
 ·have e1:s.set i (some l)=s:=List.set_eq_of_length_le (by omega)
  have e2:σ.set i (some v)=σ:=List.set_eq_of_length_le (by rw[<-r.len];omega)
  have e3:Ta fps s.length i fp=fps:=by funext j;unfold Ta;rw[if_neg (fun z=>hlt z.2)]
  rw[e1,e2,e3];exact r
theorem Rel.mutate(r:Rel K O H0 fps s σ H){i:Nat}(hi:i∈O){p:Addr}(hp:p∈fps i){o:HO}{l':PV}{v:V}{fp':List Addr}(hv:σ[i]?=some (some v))(hlt:i<s.length)
  (h':Is K (upd H p o) l' v fp') (nd:fp'.Nodup) (hm:∀q∈fp',H0 q=none/\W5 (upd H p o q)) (hd:∀j,j≠i->∀q∈fp',q∉fps j) (hmo:W5 (some o)):Rel K O H0 (Ta fps s.length i fp') (s.set i (some l')) σ (upd H p o):=by
 have mu:=(r.own i hi p hp).2
 have pn:H0 p=none:=(r.own i hi p hp).1
 have e1:Ta fps s.length i fp' i=fp':=NZ hlt
 have tk:GV H (upd H p o):=⟨fun b xs h=>by
  rw[upd_ne (fun z=>by rw[z] at h;rw[h] at mu;exact mu)];exact h,fun b o xs h=>by
  rw[upd_ne (fun z=>by rw[z] at h;rw[h] at mu;exact mu)];exact h,fun b o x h=>by
  rw[upd_ne (fun z=>by rw[z] at h;rw[h] at mu;exact mu)];exact h⟩
 refine⟨fun b u h=>by rw[upd_ne (ZK h pn)];exact r.same b u h,by rw[List.length_set];exact r.len,fun j a e=>?_,fun j h=>?_,fun j hj=>?_,fun j hj q hq=>?_,fun j hj k hk q hq=>?_⟩
 ·rw[List.getElem?_set] at e
  by_cases hj:i=j
  ·subst hj
   rw[if_pos rfl,if_pos hlt] at e;cases e
   rw[e1];exact⟨v,hv,h'⟩
  ·rw[if_neg hj] at e
   obtain⟨w,h1,h2⟩:=r.is j a e
   rw[Z6 (Ne.symm hj)]
   refine⟨w,h1,Is.tr tk _ _ _ (fun q hq=>RdK.of fun u hu=>?_) h2⟩
   have ne:q≠p:=fun z=>r.dis i hi j (Ne.symm hj) p hp (z▸hq)
   rw[upd_ne ne];exact hu
 ·by_cases hj:i=j
  ·subst hj
   exact absurd (by rw[List.getElem?_set,if_pos rfl,if_pos hlt]) (h l')
  ·rw[Z6 (Ne.symm hj)]
   exact r.emp j fun a z=>h a (by rw[List.getElem?_set,if_neg hj];exact z)
 ·by_cases e:j=i
  ·subst e;rw[e1];exact nd
  ·rw[Z6 e];exact r.nd j hj
 ·by_cases e:j=i
  ·subst e;rw[e1] at hq;exact hm q hq
  ·rw[Z6 e] at hq
   refine⟨(r.own j hj q hq).1,?_⟩
   have ne:q≠p:=fun z=>r.dis j hj i (Ne.symm e) q hq (z▸hp)
   rw[upd_ne ne];exact(r.own j hj q hq).2
 ·by_cases e:j=i
  ·subst e
   rw[e1] at hq;rw[Z6 hk]
   exact hd k hk q hq
  ·rw[Z6 e] at hq
   by_cases e2:k=i
   ·subst e2
    rw[e1]
    exact fun z=>hd j e q z hq
   ·rw[Z6 e2];exact r.dis j hj k hk q hq
end
def Kep(a b:List Addr):Prop:=a=b\/a=[]
theorem Kep.refl(a:List Addr):Kep a a:=.inl rfl
theorem Kep.trans{a b c:List Addr}(h:Kep a b)(k:Kep b c):Kep a c:=by
 rcases h with rfl | h
 ·exact k
 ·exact .inr h
inductive Out where
 | nx (s:ZP) | rt (l:PV) | bk (s:ZP) | ct (s:ZP)
abbrev XS:=ZP->Option Out
def OutOk(K:PySem.W.Frag)(O W:List Nat)(H0:Hp)(fps:Nat->List Addr)(σ:TF)(D:Uc):Out->Prop
 | .nx s'=>∀fps' σ' H',Rel K O H0 fps' s' σ' H'->(∀j,j∉W->σ'[j]?=σ[j]?/\Kep (fps' j) (fps j))->D.nx σ' H'
 | .bk s'=>∀fps' σ' H',Rel K O H0 fps' s' σ' H'->(∀j,j∉W->σ'[j]?=σ[j]?/\Kep (fps' j) (fps j))->D.bk σ' H'
 | .ct s'=>∀fps' σ' H',Rel K O H0 fps' s' σ' H'->(∀j,j∉W->σ'[j]?=σ[j]?/\Kep (fps' j) (fps j))->D.ct σ' H'
 | .rt l=>∀v fp H',Same H0 H'->Is K H' l v fp->fp.Nodup->(∀p∈fp,H0 p=none/\W5 (H' p))->D.rt v H'
def Fb(K:PySem.W.Frag)(O W:List Nat)(f:XS):TS:=fun D σ H=>∃H0 fps s out,Rel K O H0 fps s σ H/\f s=some out/\OutOk K O W H0 fps σ D out
def VS(X:Cx)(O W:List Nat)(st:Stmt)(f:XS):Prop:=PS X st (Fb X.K O W f)
def VSs(X:Cx)(O W:List Nat)(st:List Stmt)(f:XS):Prop:=PSs X st (Fb X.K O W f)
theorem OutOk.same{O W W':List Nat}{H0:Hp}{fps fps1:Nat->List Addr}{σ σ1:TF}{D:Uc}{out:Out}(h:OutOk K O W' H0 fps σ D out)(k:∀j,j∉W'->σ1[j]?=σ[j]?/\Kep (fps1 j) (fps j))(hs:∀j,j∉W'->j∉W):OutOk K O W H0 fps1 σ1 D out:=by
 cases out with
 | nx s'=>exact fun fps' σ' H' r q=>h fps' σ' H' r fun j hj=>⟨(q j (hs j hj)).1.trans (k j hj).1,(q j (hs j hj)).2.trans (k j hj).2⟩
 | bk s'=>exact fun fps' σ' H' r q=>h fps' σ' H' r fun j hj=>⟨(q j (hs j hj)).1.trans (k j hj).1,(q j (hs j hj)).2.trans (k j hj).2⟩
 | ct s'=>exact fun fps' σ' H' r q=>h fps' σ' H' r fun j hj=>⟨(q j (hs j hj)).1.trans (k j hj).1,(q j (hs j hj)).2.trans (k j hj).2⟩
 | rt l=>exact h
theorem OutOk.less{O W:List Nat}{H0 F:Hp}{fps:Nat->List Addr}{σ:TF}{D:Uc}{out:Out}(h:OutOk K O W H0 fps σ D out)(e:Same H0 F):OutOk K O W F fps σ D out:=by
 cases out with
 | nx s'=>exact fun fps' σ' H' r q=>h fps' σ' H' (r.less e) q
 | bk s'=>exact fun fps' σ' H' r q=>h fps' σ' H' (r.less e) q
 | ct s'=>exact fun fps' σ' H' r q=>h fps' σ' H' (r.less e) q
 | rt l=>exact fun v fp H' sm i d n=>h v fp H' (e.trans sm) i d fun p hp=>⟨Same.off e (n p hp).1,(n p hp).2⟩
def ZX:XS:=fun s=>some (.nx s)
def Zn(f g:XS):XS:=fun s=>(f s).bind fun o=>match o with | .nx s'=>g s' | r=>some r
def WG(c:XT)(f g:XS):XS:=fun s=>(c s).bind fun k=>if k=true then f s else g s
def Ya(f:XE):XS:=fun s=>(f s).map .rt
def Zo(i:Nat)(f:XE):XS:=fun s=>(f s).map fun l=>.nx (s.set i (some l))
section
variable {X:Cx} {O W W1 W2:List Nat} {st:Stmt} {rest:List Stmt} {f g:XS} {pos:Pos}
theorem PS.imp{t t':TS}(h:PS X st t)(i:∀D σ H,t' D σ H->t D σ H):PS X st t':=fun pins s σ H D I q=>h pins s σ H D I (i D σ H q)
theorem PSs.imp{t t':TS}(h:PSs X rest t)(i:∀D σ H,t' D σ H->t D σ H):PSs X rest t':=fun pins s σ H D I q=>h pins s σ H D I (i D σ H q)
theorem Kq:∀D σ H,Fb K O W ZX D σ H->Hu D σ H:=fun D σ H ⟨H0,fps,s,out,r,e,k⟩=>by
 cases e
 exact k fps σ H r fun j _=>⟨rfl,Kep.refl _⟩
theorem YB:VSs X O [] [] ZX:=PSs.imp JU Kq
theorem Zp(h:VS X O W st f):VSs X O W [st] f:=Qs h
theorem Zh(h1:VS X O W1 st f)(h2:VSs X O W2 rest g):VSs X O (W1++W2) (st::rest) (Zn f g):=PSs.imp (Us h1 h2) fun D σ H ⟨H0,fps,s,out,r,e,k⟩=>by
 obtain⟨o1,e1,e⟩:=Zg e
 have sub1:∀j,j∉W1++W2->j∉W1:=fun j hj z=>hj (List.mem_append_left _ z)
 have sub2:∀j,j∉W1++W2->j∉W2:=fun j hj z=>hj (List.mem_append_right _ z)
 refine⟨H0,fps,s,o1,r,e1,?_⟩
 cases o1 with
 | nx s1=>
  intro fps1 σ1 H1 r1 q1
  exact⟨H0,fps1,s1,out,r1,e,k.same (fun j hj=>q1 j (sub1 j hj)) sub2⟩
 | bk s1=>cases e;exact fun fps' σ' H' r' q'=>k fps' σ' H' r' fun j hj=>q' j (sub1 j hj)
 | ct s1=>cases e;exact fun fps' σ' H' r' q'=>k fps' σ' H' r' fun j hj=>q' j (sub1 j hj)
 | rt l=>cases e;exact k
theorem Wi{c:Expr}{a b:List Stmt}{fc:XT}(hc:VT X c fc)(ha:VSs X O W1 a f)(hb:VSs X O W2 b g):VS X O (W1++W2) (.If c a b pos) (WG fc f g):=PS.imp (Hv hc ha hb) fun D σ H ⟨H0,fps,s,out,r,e,k⟩=>by
 obtain⟨c,e1,e⟩:=Zg e
 have sub1:∀j,j∉W1++W2->j∉W1:=fun j hj z=>hj (List.mem_append_left _ z)
 have sub2:∀j,j∉W1++W2->j∉W2:=fun j hj z=>hj (List.mem_append_right _ z)
 refine⟨fun _=>False,s,c,fun _ z=>z.elim,r.env,e1,fun H1 s1=>?_⟩
 cases c with
 | true=>
  rw[if_pos rfl] at e ⊢
  exact⟨H0,fps,s,out,r.grow s1,e,k.same (fun j _=>⟨rfl,Kep.refl _⟩) sub1⟩
 | false=>
  rw[if_neg Bool.false_ne_true] at e ⊢
  exact⟨H0,fps,s,out,r.grow s1,e,k.same (fun j _=>⟨rfl,Kep.refl _⟩) sub2⟩
theorem ZR{e:Expr}{fe:XE}(he:VM X e fe):VS X O [] (.Return (some e) pos) (Ya fe):=PS.imp (LN he) fun D σ H ⟨H0,fps,s,out,r,e,k⟩=>by
 obtain⟨l,e1,rfl⟩:=map_some e
 exact⟨s,l,r.env,e1,fun v H' fp sm i d n=>k v fp H' (r.same.trans sm) i d fun p hp=>⟨Same.off r.same (n p hp).1,(n p hp).2⟩⟩
theorem N0{e:Expr}{i:Nat}(he:PE X e (Ur i))(hi:i∈O:=by decide):VS X O [] (.Return (some e) pos) (Ya (Za i)):=PS.imp (LN he) fun D σ H ⟨H0,fps,s,out,r,e,k⟩=>by
 obtain⟨l,e1,rfl⟩:=map_some e
 obtain⟨v,a,b⟩:=r.is i l (R4 e1)
 exact⟨v,a,k v _ H r.same b (r.nd i hi) (r.own i hi)⟩
theorem N1{t:TE}{i:Nat}{fe:XE}(ht:∀σ H Q,tM K fe σ H Q->t σ H Q):∀D σ H,Fb K O [i] (Zo i fe) D σ H->Qt t (Ut i) D σ H:=fun D σ H ⟨H0,fps,s,out,r,e,k⟩=>by
 obtain⟨l,e1,rfl⟩:=map_some e
 refine ht σ H _ ⟨s,l,r.env,e1,fun v H' fp sm is d n=>?_⟩
 refine k _ _ H' ((r.grow sm).set (i:=i) is (fun _=>⟨d,fun p hp=>⟨Same.off r.same (n p hp).1,(n p hp).2⟩⟩) fun j _ _ p hp z=>r.dom j p z (n p hp).1) fun j hj=>?_
 have:j≠i:=by simpa using hj
 exact⟨by rw[List.getElem?_set,if_neg (Ne.symm this)],.inl (Z6 this)⟩
theorem Zt{i:Nat}{x:Str}{e:Expr}{fe:XE}{pos':Pos}(hN:X.N.Nodup)(hi:X.N[i]?=some x)(hx:FL X.env.scope x)(he:VM X e fe)(hs:swapsWith e (some (.Name x pos')) pos.line X.env=pure false:=by rfl)(hf:X.fn x=true\/X.env.scope.names.lookup x=some .local:=by first | exact .inl rfl | exact .inr rfl | assumption) :
  VS X O [i] (.Assign [.Name x pos'] e pos) (Zo i fe):=PS.imp (LO hN hi hx he hs hf) (N1 fun _ _ _ h=>h)
end
def Tb(T:Tgt)(fb:XS):List PV->ZP->Option Out
 | [],s=>some (.nx s)
 | l::r,s=>(Vk T l s).bind fun s1=>(fb s1).bind fun o=>match o with | .nx s2=>Tb T fb r s2 | .ct s2=>Tb T fb r s2 | .bk s2=>some (.nx s2) | .rt v=>some (.rt v)
def Yv(O:List Nat)(fi:XL)(T:Tgt)(fb:XS):XS:=fun s=>(fi (ZM O s)).bind fun ls=>Tb T fb ls s
theorem Rel.setAll{O:List Nat}{H0 H:Hp}:∀{is:List Nat}{ls:List PV}{vs:List V}{fs:List Addr}{fps:Nat->List Addr}{s:ZP}{σ:TF},Rel K O H0 fps s σ H->Iss K H ls vs fs->ls.length=is.length->(∀i∈is,i∉O)->(∀i∈O,∀p∈fps i,p∉fs)->
  ∃fps',Rel K O H0 fps' (VL.setAll is ls s) (YU is vs σ) H/\∀j,j∉is->(YU is vs σ)[j]?=σ[j]?/\Kep (fps' j) (fps j)
 | [],ls,vs,fs,fps,s,σ,r,_,_,_,_=>⟨fps,by unfold VL.setAll YU;exact r,fun j _=>⟨by unfold YU;rfl,Kep.refl _⟩⟩
 | i::is,[],vs,fs,fps,s,σ,r,_,hl,_,_=>by simp at hl
 | i::is,l::ls,vs,fs,fps,s,σ,r,hi,hl,hO,hd=>by
  obtain⟨x,rr,f1,f2,rfl,h1,h2,rfl⟩:=hi.inv
  have hiO:=hO i List.mem_cons_self
  have r1:=r.set (i:=i) h1 (fun z=>absurd z hiO) fun j hj hjo p hp z=>by
   rcases hjo with hjo | hjo
   ·exact hd j hjo p z (List.mem_append_left _ hp)
   ·exact absurd hjo hiO
  obtain⟨fps',r2,q2⟩:=Rel.setAll (is:=is) r1 h2 (by simpa using hl) (fun j hj=>hO j (List.mem_cons_of_mem _ hj)) fun j hj p hp z=>by
   have hji:j≠i:=fun e=>hiO (by rw[<-e];exact hj)
   rw[Z6 hji] at hp
   exact hd j hj p hp (List.mem_append_right _ z)
  refine⟨fps',r2,fun j hj=>?_⟩
  have hji:j≠i:=fun e=>hj (e▸List.mem_cons_self)
  obtain⟨a,b⟩:=q2 j (fun z=>hj (List.mem_cons_of_mem _ z))
  exact⟨a.trans (by rw[List.getElem?_set,if_neg (Ne.symm hji)]),b.trans (.inl (Z6 hji))⟩
section
variable {O W:List Nat} {T:Tgt} {fb:XS}
theorem Kr{H1:Hp}{fps:Nat->List Addr}{s:ZP}{σ:TF}{D:Uc}{J:It}{ls:List PV}{out:Out}(r:Rel K O (T7 H1 (Ow O fps)) fps s σ H1)(jis:Dk K (Ow O fps) H1 J ls)(e:Tb T fb ls s=some out)(hT:∀i∈T.slots,i∉O)
  (k:OutOk K O (T.slots++W) (T7 H1 (Ow O fps)) fps σ D out):Dh (gT K T) (Fb K O W fb) D σ J H1:=by
 have subT:∀j,j∉T.slots++W->j∉T.slots:=fun j hj z=>hj (List.mem_append_left _ z)
 have subW:∀j,j∉T.slots++W->j∉W:=fun j hj z=>hj (List.mem_append_right _ z)
 refine⟨fun i m σ' H'=>m=ls.length-i/\i<=ls.length/\∃fps' s',Rel K O (T7 H1 (Ow O fps)) fps' s' σ' H'/\Tb T fb (ls.drop i) s'=some out/\∀j,j∉T.slots++W->σ'[j]?=σ[j]?/\Kep (fps' j) (fps j),
  ⟨ls.length,by simp,Nat.zero_le _,fps,s,r,e,fun j _=>⟨rfl,Kep.refl _⟩⟩,?_⟩
 rintro i m σ' H' ⟨rfl,hi,fps',s',r',e',q'⟩
 have ab:Ab (Ow O fps) H1 H':=fun b o h n=>r'.same b o (by unfold T7;rw[if_neg n];exact h)
 cases q:ls.drop i with
 | nil=>
  have hil:i=ls.length:=by
   have:=congrArg List.length q
   rw[List.length_drop] at this
   simp at this;omega
  subst hil
  rw[q] at e'
  cases e'
  exact .inl ⟨jis.stop H' ab,k fps' σ' H' r' q'⟩
 | cons l rr=>
  obtain⟨hl,hr⟩:=SN q
  have hilt:i<ls.length:=(List.getElem?_eq_some_iff.mp hl).1
  rw[q] at e'
  unfold Tb at e'
  obtain⟨sb,eb,e'⟩:=Zg e'
  obtain⟨o,eo,e'⟩:=Zg e'
  refine .inr ⟨jis.go H' i l ab hl,fun σ2 H2=>∃fps2 s2,Rel K O (T7 H1 (Ow O fps)) fps2 s2 σ2 H2/\Tb T fb (ls.drop (i+1)) s2=some out/\∀j,j∉T.slots++W->σ2[j]?=σ[j]?/\Kep (fps2 j) (fps j),
   fun σ2 H2 h2=>⟨ls.length-(i+1),by omega,rfl,hilt,h2⟩,fun x H2 y=>?_⟩
  obtain⟨s2,fx,ix,nx⟩:=jis.yld H' i l x H2 ab hl y
  obtain⟨bl,bv,bf,rfl,bi,blen,bsub,buse⟩:=QH (K:=K) ix eb
  obtain⟨fps3,r3,q3⟩:=Rel.setAll (is:=T.slots) (r'.grow s2) bi blen hT fun j hj p hp z=>by
   obtain⟨n1,n2⟩:=nx p (bsub p z)
   have:=(r'.own j hj p hp).1
   unfold T7 at this;rw[if_neg n2] at this
   exact n1 this
  refine buse _ _ ⟨_,fps3,_,o,r3,eo,?_⟩
  have keep:∀j,j∉T.slots++W->(YU T.slots bv σ')[j]?=σ[j]?/\Kep (fps3 j) (fps j):=fun j hj=>⟨(q3 j (subT j hj)).1.trans (q' j hj).1,(q3 j (subT j hj)).2.trans (q' j hj).2⟩
  cases o with
  | nx s4=>exact fun fps4 σ4 H4 r4 q4=>⟨fps4,s4,r4,by rw[hr];exact e',fun j hj=>⟨(q4 j (subW j hj)).1.trans (keep j hj).1,(q4 j (subW j hj)).2.trans (keep j hj).2⟩⟩
  | ct s4=>exact fun fps4 σ4 H4 r4 q4=>⟨fps4,s4,r4,by rw[hr];exact e',fun j hj=>⟨(q4 j (subW j hj)).1.trans (keep j hj).1,(q4 j (subW j hj)).2.trans (keep j hj).2⟩⟩
  | bk s4=>
   cases e'
   exact fun fps4 σ4 H4 r4 q4=>k fps4 σ4 H4 r4 fun j hj=>⟨(q4 j (subW j hj)).1.trans (keep j hj).1,(q4 j (subW j hj)).2.trans (keep j hj).2⟩
  | rt v=>
   cases e'
   exact k
end
section
variable {X:Cx} {O W:List Nat} {tg iter:Expr} {body:List Stmt} {fi:XL} {T:Tgt} {fb:XS} {pos:Pos}
theorem YH(hp:PassesOwn (model X.prog X.w) X.A X.env X.xe)(hc:X.calm=true)(hi:VI X tg iter fi)(hg:PG X tg (gT X.K T))(hb:VSs X O W body fb)(hT:∀i∈T.slots,i∉O:=by decide)
  (hs:∀x,foldedSetIterable iter X.env x=pure x:=by intro _;rfl):VS X O (T.slots++W) (.For tg iter body [] pos) (Yv O fi T fb):=PS.imp (Gv hp hc hi hg hb hs) fun D σ H ⟨H0,fps,s,out,r,e,k⟩=>by
 obtain⟨ls,e1,e⟩:=Zg e
 refine⟨Ow O fps,ZM O s,ls,r.owMut,r.envO,e1,fun J H1 s1 jis=>?_⟩
 exact Kr (r.grow s1).frame jis e hT (k.less (r.grow s1).under)
end
end VL
namespace VL
open PySem PySem.Spec PyProof.Rows L2
variable {K:PySem.W.Frag}
section
variable {O:List Nat} {H0 H H':Hp} {fps:Nat->List Addr} {s:ZP} {σ:TF}
theorem Rel.lst_at(r:Rel K O H0 fps s σ H){i:Nat}(hi:i∈O){m:List PV}(e:s[i]?=some (some (.lst m))):∃p xs fq,σ[i]?=some (some (.ref p))/\H p=some (.lst xs)/\Iss K H m xs fq/\fps i=p::fq:=by
 obtain⟨v,a,b⟩:=r.is i _ e
 obtain⟨p,xs,fq,rfl,hp,hm,ef⟩:=b.lst_inv
 exact⟨p,xs,fq,a,hp,hm,ef⟩
theorem R9{α:Type}{l:List α}{i:Nat}{a:α}(h:l[i]?=some a):i<l.length:=(List.getElem?_eq_some_iff.mp h).1
theorem TK.upd'{p:Addr}{o:HO}(mu:W5 (H p)):GV H (L2.upd H p o):=⟨fun b xs h=>by
 rw[upd_ne (fun z=>by rw[z] at h;rw[h] at mu;exact mu)];exact h,fun b o xs h=>by
 rw[upd_ne (fun z=>by rw[z] at h;rw[h] at mu;exact mu)];exact h,fun b o x h=>by
 rw[upd_ne (fun z=>by rw[z] at h;rw[h] at mu;exact mu)];exact h⟩
theorem RdK.upd_ne{p q:Addr}{o:HO}(ne:q≠p):RdK H (L2.upd H p o) q:=RdK.of fun u hu=>by rw[L2.upd_ne ne];exact hu
theorem Rel.relist(r:Rel K O H0 fps s σ H){i:Nat}(hi:i∈O){m m':List PV}(e:s[i]?=some (some (.lst m))){p:Addr}{fq fq':List Addr}{xs':List V}(ef:fps i=p::fq)(hv:σ[i]?=some (some (.ref p)))
  (h':Iss K H m' xs' fq') (nd:(p::fq').Nodup) (hf:∀q∈fq',q∈fq\/((H0 q=none/\W5 (H q))/\∀j,q∉fps j)):Rel K O H0 (Ta fps s.length i (p::fq')) (s.set i (some (.lst m'))) σ (L2.upd H p (.lst xs')):=by
 have hp:p∈fps i:=by rw[ef];exact List.mem_cons_self
 have mu:=(r.own i hi p hp).2
 have np:p∉fq':=(List.nodup_cons.mp nd).1
 refine r.mutate hi hp hv (R9 e) (Is.lst Zq (Iss.tr (TK.upd' mu) _ _ _ (fun q hq=>RdK.upd_ne fun z=>np (z▸hq)) h')) nd (fun q hq=>?_) (fun j hj q hq z=>?_) True.intro
 ·rcases List.mem_cons.mp hq with rfl | hq
  ·exact⟨(r.own i hi q hp).1,by rw[Zq];exact True.intro⟩
  ·have ne:q≠p:=fun z=>np (z▸hq)
   rw[L2.upd_ne ne]
   rcases hf q hq with h | h
   ·exact r.own i hi q (by rw[ef];exact List.mem_cons_of_mem _ h)
   ·exact h.1
 ·rcases List.mem_cons.mp hq with rfl | hq
  ·exact r.dis i hi j hj q hp z
  ·rcases hf q hq with h | h
   ·exact r.dis i hi j hj q (by rw[ef];exact List.mem_cons_of_mem _ h) z
   ·exact h.2 j z
end
def OU(s:ZP)(i:Nat):Option (List PV):=match s[i]? with | some (some (.lst m))=>some m | _=>none
def MW:PV->Option Int
 | .int k=>some k
 | _=>none
def Es:PV->Option (List PV)
 | .lst k=>some k
 | _=>none
theorem WH{s:ZP}{i:Nat}{m:List PV}(h:OU s i=some m):s[i]?=some (some (.lst m)):=by
 unfold OU at h;split at h
 ·cases h;assumption
 ·cases h
theorem Vl{a:PV}{k:Int}(h:MW a=some k):a = .int k:=by
 unfold MW at h;split at h
 ·cases h;rfl
 ·cases h
theorem PU{a:PV}{k:List PV}(h:Es a=some k):a = .lst k:=by
 unfold Es at h;split at h
 ·cases h;rfl
 ·cases h
def gd(c:Bool):Option Unit:=if c=true then some () else none
theorem VD{c:Bool}{u:Unit}(h:gd c=some u):c=true:=by
 unfold gd at h;split at h
 ·assumption
 ·cases h
def YL(i:Nat)(f:XE):XS:=fun s=>(f s).bind fun l=>(OU s i).bind fun m=>(gd (decide (m.length<=10000))).bind fun _=>some (.nx (s.set i (some (.lst (m++[l])))))
def Xa(i:Nat)(f:XE):XS:=fun s=>(f s).bind fun l=>(Es l).bind fun n=>(OU s i).bind fun m=>(gd (decide (m.length+n.length<=10000))).bind fun _=>some (.nx (s.set i (some (.lst (m++n)))))
def VF(i:Nat)(fk:XE)(f:XE):XS:=fun s=>(fk s).bind fun k=>(f s).bind fun l=>(MW k).bind fun k=>(OU s i).bind fun m=>(gd (ZG m&&Z4 l&&decide (0<=k/\k<=1000000/\m.length<=10000))).bind fun _=>some (.nx (s.set i (some (.lst (m.take k.toNat++l::m.drop k.toNat)))))
def Wj(i:Nat)(fk:XE)(f:XE):XS:=fun s=>(f s).bind fun l=>(fk s).bind fun k=>(MW k).bind fun k=>(OU s i).bind fun m=>(gd (ZG m&&Z4 l)).bind fun _=>(Pl m.length k).map fun j=>.nx (s.set i (some (.lst (m.set j l))))
section
variable {X:Cx} {O:List Nat} {i:Nat} {st:Stmt} {f fk:XE}
theorem EO{H:Hp}{p:Addr}{xs:List V}(h:H p=some (.lst xs)):De K "list" (.ref p) H:=.inl ⟨rfl,_,SqL.of h⟩
theorem PX{s:ZP}{σ:TF}{fps:Nat->List Addr}{fp:List Addr}:∀j,j∉[i]->σ[j]?=σ[j]?/\Kep (Ta fps s.length i fp j) (fps j):=fun j hj=>⟨rfl,.inl (Z6 (by simpa using hj))⟩
theorem VG(h:PS X st (Po (Eb X.K "list" NN (Ur i) (Uv (tM X.K f) OG))))(hi:i∈O:=by decide):VS X O [i] st (YL i f):=PS.imp h fun D σ H ⟨H0,fps,s,out,r,e,k⟩=>by
 obtain⟨l,e1,e⟩:=Zg e
 obtain⟨m,em,e⟩:=Zg e
 obtain⟨_,eg,e⟩:=Zg e
 have em:=WH em
 have hlen:=of_decide_eq_true (VD eg)
 cases e
 obtain⟨p,xs,fq,hv,hp,hm,ef⟩:=r.lst_at hi em
 refine⟨.ref p,hv,EO hp,s,l,r.env,e1,fun y H2 fe s2 i2 d2 n2=>?_⟩
 refine⟨p,xs,y,rfl,rfl,s2 _ _ hp,by rw[hm.len];exact lt_size (by omega),?_⟩
 have r2:=r.grow s2
 have fr:∀q∈fe,∀j,q∉fps j:=fun q hq j z=>r.dom j q z (n2 q hq).1
 refine k _ _ _ (r2.relist hi em ef hv ((hm.mono s2).append (Iss.one i2)) ?_ fun q hq=>?_) PX
 ·have nd:=r.nd i hi
  rw[ef] at nd;rw[<-List.cons_append]
  exact List.nodup_append.mpr ⟨nd,d2,fun a ha b hb z=>fr b hb i (by rw[ef,<-z];exact ha)⟩
 ·rcases List.mem_append.mp hq with h | h
  ·exact .inl h
  ·exact .inr ⟨⟨Same.off r.same (n2 q h).1,(n2 q h).2⟩,fr q h⟩
theorem Qa(h:PS X st (Po (Eb X.K "list" NO (Ur i) (Uv (tM X.K f) OG))))(hi:i∈O:=by decide):VS X O [i] st (Xa i f):=PS.imp h fun D σ H ⟨H0,fps,s,out,r,e,k⟩=>by
 obtain⟨l,e1,e⟩:=Zg e
 obtain⟨n,en,e⟩:=Zg e
 obtain⟨m,em,e⟩:=Zg e
 obtain⟨_,eg,e⟩:=Zg e
 rw[PU en] at e1;have em:=WH em
 have hlen:=of_decide_eq_true (VD eg)
 cases e
 obtain⟨p,xs,fq,hv,hp,hm,ef⟩:=r.lst_at hi em
 refine⟨.ref p,hv,EO hp,s,_,r.env,e1,fun y H2 fe s2 i2 d2 n2=>?_⟩
 obtain⟨b,zs,fb,rfl,hb,hz,rfl⟩:=i2.lst_inv
 have hb':H2 b=some (.lst zs):=hb
 refine⟨p,b,xs,zs,rfl,rfl,s2 _ _ hp,hb',by rw[hm.len,hz.len];exact Nat.le_of_lt (lt_size (by omega)),?_⟩
 have r2:=r.grow s2
 have fr:∀q∈fb,∀j,q∉fps j:=fun q hq j z=>r.dom j q z (n2 q (List.mem_cons_of_mem _ hq)).1
 refine k _ _ _ (r2.relist hi em ef hv ((hm.mono s2).append hz) ?_ fun q hq=>?_) PX
 ·have nd:=r.nd i hi
  rw[ef] at nd;rw[<-List.cons_append]
  exact List.nodup_append.mpr ⟨nd,(List.nodup_cons.mp d2).2,fun a ha b hb z=>fr b hb i (by rw[ef,<-z];exact ha)⟩
 ·rcases List.mem_append.mp hq with h | h
  ·exact .inl h
  ·exact .inr ⟨⟨Same.off r.same (n2 q (List.mem_cons_of_mem _ h)).1,(n2 q (List.mem_cons_of_mem _ h)).2⟩,fr q h⟩
theorem Iss.pureEq{H:Hp}{l:List PV}{xs:List V}{fp:List Addr}(h:Iss K H l xs fp)(hp:ZG l=true):Iss K H l xs []:=by
 have:=Iss.pure _ _ _ hp h
 subst this;exact h
theorem SQ{l:List PV}(n:Nat)(h:ZG l=true):ZG (l.take n)=true:=by
 rw[Xw,List.all_eq_true] at *
 exact fun x hx=>h x (List.mem_of_mem_take hx)
theorem SR{l:List PV}(n:Nat)(h:ZG l=true):ZG (l.drop n)=true:=by
 rw[Xw,List.all_eq_true] at *
 exact fun x hx=>h x (List.mem_of_mem_drop hx)
theorem MX(h:PS X st (Po (Eb X.K "list" NP (Ur i) (Uv (tF X.K fk) (Uv (tF X.K f) OG)))))(hi:i∈O:=by decide):VS X O [i] st (VF i fk f):=PS.imp h fun D σ H ⟨H0,fps,s,out,r,e,k⟩=>by
 obtain⟨kk,e0,e⟩:=Zg e
 obtain⟨l,e1,e⟩:=Zg e
 obtain⟨ki,ek,e⟩:=Zg e
 obtain⟨m,em,e⟩:=Zg e
 obtain⟨_,eg,e⟩:=Zg e
 rw[Vl ek] at e0;have em:=WH em;have hc:=VD eg;simp only[Bool.and_eq_true,decide_eq_true_eq] at hc
 obtain⟨⟨pm,pl⟩,k0,k1,hlen⟩:=hc
 cases e
 obtain⟨p,xs,fq,hv,hp,hm,ef⟩:=r.lst_at hi em
 refine⟨.ref p,hv,EO hp,fun _=>False,s,_,fun _ z=>z.elim,r.env,e0,fun z H1 fz s1 i1 _=>⟨fun _=>False,s,l,fun _ z=>z.elim,r.env.mono s1,e1,fun y H2 fe s2 i2 _=>?_⟩⟩
 have s12:=s1.trans s2
 obtain⟨rfl,_⟩:=i1.int_inv
 have:=Is.pure _ _ _ pl i2
 subst this
 refine⟨p,xs,ki,y,rfl,rfl,s12 _ _ hp,k0,by omega,by rw[hm.len];exact lt_size (by omega),?_⟩
 have hm':=(hm.mono s12).pureEq pm
 obtain⟨f1,a1,_⟩:=hm'.take ki.toNat
 obtain⟨f2,a2,_⟩:=hm'.drop ki.toNat
 have a1:=a1.pureEq (SQ _ pm)
 have a2:=a2.pureEq (SR _ pm)
 exact k _ _ _ ((r.grow s12).relist hi em ef hv (a1.append (Iss.cons i2 a2)) (by simp) fun q hq=>by simp at hq) PX
theorem SS(h:PS X st (Qt (tF X.K f) (Gs (Ur i) (tF X.K fk) LW)))(hi:i∈O:=by decide):VS X O [i] st (Wj i fk f):=PS.imp h fun D σ H ⟨H0,fps,s,out,r,e,k⟩=>by
 obtain⟨l,e0,e⟩:=Zg e
 obtain⟨kk,e1,e⟩:=Zg e
 obtain⟨ki,ek,e⟩:=Zg e
 obtain⟨m,em,e⟩:=Zg e
 obtain⟨_,eg,e⟩:=Zg e
 rw[Vl ek] at e1;have em:=WH em;have hc:=VD eg;simp only[Bool.and_eq_true] at hc
 obtain⟨pm,pl⟩:=hc
 obtain⟨j,ej,rfl⟩:=map_some e
 obtain⟨p,xs,fq,hv,hp,hm,ef⟩:=r.lst_at hi em
 refine⟨fun _=>False,s,l,fun _ z=>z.elim,r.env,e0,fun y H1 fy s1 i1 _=>?_⟩
 refine⟨.ref p,hv,fun _=>False,s,_,fun _ z=>z.elim,r.env.mono s1,e1,fun z H2 fz s2 i2 _=>?_⟩
 have s12:=s1.trans s2
 obtain⟨rfl,_⟩:=i2.int_inv
 have:=Is.pure _ _ _ pl i1
 subst this
 refine⟨p,xs,ki,j,rfl,rfl,s12 _ _ hp,by rw[hm.len];exact ej,?_⟩
 exact k _ _ _ ((r.grow s12).relist hi em ef hv (Iss.setP j pm pl ((hm.mono s12).pureEq pm) (i1.mono s2)) (by simp) fun q hq=>by simp at hq) PX
end
theorem Iss.setRow{H:Hp}{o:List V}:∀{m:List PV}{xs:List V}{fq:List Addr}{j:Nat}{n n':List PV}{q:Addr},Iss K H m xs fq->m[j]?=some (.lst n)->xs[j]?=some (.ref q)->fq.Nodup->W5 (H q)->ZG n=true->Iss K (L2.upd H q (.lst o)) n' o []->
  Iss K (L2.upd H q (.lst o)) (m.set j (.lst n')) xs fq
 | [],_,_,_,_,_,_,_,e,_,_,_,_,_=>by simp at e
 | a::m,xs,fq,0,n,n',q,h,e,ex,nd,mu,pn,h'=>by
  obtain⟨x,r,f1,f2,rfl,h1,h2,rfl⟩:=h.inv
  simp at e ex
  subst e ex
  obtain⟨p',zs,fz,e,hp,hz,rfl⟩:=h1.lst_inv
  cases e
  have:=Iss.pure _ _ _ pn hz
  subst this
  have nq:q∉f2:=(List.nodup_cons.mp nd).1
  exact Iss.cons (Is.lst Zq h') (Iss.tr (TK.upd' mu) _ _ _ (fun z hz=>RdK.upd_ne fun e=>nq (e▸hz)) h2)
 | a::m,xs,fq,j+1,n,n',q,h,e,ex,nd,mu,pn,h'=>by
  obtain⟨x,r,f1,f2,rfl,h1,h2,rfl⟩:=h.inv
  simp at e ex
  obtain⟨nd1,nd2,nd3⟩:=List.nodup_append.mp nd
  obtain⟨y,fy,hy,iy,suby⟩:=h2.get e
  rw[ex] at hy;cases hy
  obtain⟨p',zs,fz,e',_,_,rfl⟩:=iy.lst_inv
  cases e'
  have nq:q∉f1:=fun z=>nd3 q z q (suby q List.mem_cons_self) rfl
  exact Iss.cons (Is.tr (TK.upd' mu) _ _ _ (fun z hz=>RdK.upd_ne fun e=>nq (e▸hz)) h1) (Iss.setRow h2 e ex nd2 mu pn h')
def Yn(i:Nat)(fa fb:XE)(f:XE):XS:=fun s=>(f s).bind fun l=>(fa s).bind fun a=>(fb s).bind fun b=>(MW a).bind fun a=>(MW b).bind fun b=>(OU s i).bind fun m=>(Pl m.length a).bind fun j=>(m[j]?).bind fun r=>(Es r).bind fun n=>
 (gd (ZG n&&Z4 l)).bind fun _=>(Pl n.length b).map fun c=>.nx (s.set i (some (.lst (m.set j (.lst (n.set c l))))))
theorem VH{X:Cx}{O:List Nat}{i:Nat}{st:Stmt}{f fa fb:XE}(h:PS X st (Qt (tF X.K f) (Gs (FK (GN X.K) (Ur i) (tF X.K fa)) (tF X.K fb) LW)))(hi:i∈O:=by decide):VS X O [i] st (Yn i fa fb f):=PS.imp h fun D σ H ⟨H0,fps,s,out,r,e,k⟩=>by
 obtain⟨l,e0,e⟩:=Zg e
 obtain⟨a,e1,e⟩:=Zg e
 obtain⟨b,e2,e⟩:=Zg e
 obtain⟨ai,ea,e⟩:=Zg e
 obtain⟨bi,eb,e⟩:=Zg e
 obtain⟨m,em,e⟩:=Zg e
 obtain⟨j,ej,e⟩:=Zg e
 obtain⟨Rz,en,e⟩:=Zg e
 obtain⟨n,er,e⟩:=Zg e
 obtain⟨_,eg,e⟩:=Zg e
 rw[Vl ea] at e1;rw[Vl eb] at e2;rw[PU er] at en;have em:=WH em;have hc:=VD eg;simp only[Bool.and_eq_true] at hc
 obtain⟨pn,pl⟩:=hc
 obtain⟨c,ec,rfl⟩:=map_some e
 obtain⟨p,xs,fq,hv,hp,hm,ef⟩:=r.lst_at hi em
 refine⟨fun _=>False,s,l,fun _ z=>z.elim,r.env,e0,fun y H1 fy s1 i1 _=>?_⟩
 refine⟨.ref p,hv,fun _=>False,s,_,fun _ z=>z.elim,r.env.mono s1,e1,fun z H2 fz s2 i2 _=>?_⟩
 obtain⟨rfl,_⟩:=i2.int_inv
 have s12:=s1.trans s2
 obtain⟨q,f1,hq,iq,subq⟩:=(hm.mono s12).get en
 obtain⟨qa,zs,fz',rfl,hqa,hz,rfl⟩:=id iq.lst_inv
 refine⟨p,xs,ai,.ref qa,rfl,rfl,SqL.of (s12 _ _ hp),?_,fun _=>False,s,_,fun _ z=>z.elim,r.env.mono s12,e2,fun w H3 fw s3 i3 _=>?_⟩
 ·unfold U2;rw[hm.len,ej];exact hq
 obtain⟨rfl,_⟩:=i3.int_inv
 have s123:=s12.trans s3;have r3:=r.grow s123
 have hqf:qa∈fps i:=by rw[ef];exact List.mem_cons_of_mem _ (subq qa List.mem_cons_self)
 have mu:=(r3.own i hi qa hqf).2
 have hqa3:H3 qa=some (.lst zs):=s3 _ _ hqa
 have:=Is.pure _ _ _ pl i1
 subst this
 refine⟨qa,zs,bi,c,rfl,rfl,hqa3,by rw[hz.len];exact ec,?_⟩
 have nd:=r.nd i hi;rw[ef] at nd
 have hqp:qa≠p:=fun z=>(List.nodup_cons.mp nd).1 (z▸subq qa List.mem_cons_self)
 have newrow:Iss X.K (L2.upd H3 qa (.lst (zs.set c y))) (n.set c l) (zs.set c y) []:=Iss.tr (TK.upd' mu) _ _ _ (fun q hq=>by simp at hq) (Iss.setP c pn pl ((hz.mono s3).pureEq pn) (i1.mono (s2.trans s3)))
 have rows:=Iss.setRow (hm.mono s123) en hq (List.nodup_cons.mp nd).2 mu pn newrow
 refine k _ _ _ (r3.mutate (o:=.lst (zs.set c y)) (l':=.lst (m.set j (.lst (n.set c l)))) (fp':=p::fq) hi hqf hv (R9 em) (Is.lst (by rw[L2.upd_ne (Ne.symm hqp)];exact s123 _ _ hp) rows) nd (fun q hq=>?_) (fun j hj q hq z=>r.dis i hi j hj q (by rw[ef];exact hq) z) True.intro) PX
 refine⟨(r.own i hi q (by rw[ef];exact hq)).1,?_⟩
 by_cases e:q=qa
 ·subst e;rw[Zq];exact True.intro
 ·rw[L2.upd_ne e];exact(r3.own i hi q (by rw[ef];exact hq)).2
def PY(T:Tgt)(f:XE):XS:=fun s=>(f s).bind fun l=>if Z4 l=true then(Vk T l s).map .nx else none
theorem Iv{X:Cx}{O:List Nat}{st:Stmt}{f:XE}{T:Tgt}(h:PS X st (Qt (tF X.K f) (gT X.K T)))(hT:∀i∈T.slots,i∉O:=by decide):VS X O T.slots st (PY T f):=PS.imp h fun D σ H ⟨H0,fps,s,out,r,e,k⟩=>by
 obtain⟨l,e1,e⟩:=Zg e
 split at e
 case isFalse=>cases e
 rename_i pl
 obtain⟨s',e2,rfl⟩:=map_some e
 refine⟨fun _=>False,s,l,fun _ z=>z.elim,r.env,e1,fun v H1 fp s1 i1 _=>?_⟩
 have:=Is.pure _ _ _ pl i1
 subst this
 obtain⟨ls,vs,fs,rfl,hi,hl,sub,use⟩:=QH (K:=X.K) i1 e2
 obtain⟨fps',r2,q2⟩:=Rel.setAll (is:=T.slots) (r.grow s1) hi hl hT fun j hj p hp z=>by have:=sub p z;simp at this
 exact use σ D.nx (k fps' _ H1 r2 q2)
end VL
namespace VL
open PySem PySem.Spec PyProof.Rows L2
variable {K:PySem.W.Frag}
section
variable {X:Cx} {a b c d:Expr} {fa fb fc fd:XE} {pos:Pos}
theorem Et(hu:X.A.units+64<cLine)(ha:VE X a fa)(hb:VE X b fb):VE X (.Compare a [.Eq] [b] pos) (Ze (Xs false) fa fb):=OK (Ko hu) (OR false) ha hb (Vf _)
theorem TM(hu:X.A.units+64<cLine)(ha:VE X a fa)(hb:VE X b fb):VT X (.Compare a [.Eq] [b] pos) (xB (Ze (Xs false) fa fb)):=U8 (Ko hu) (OR false) ha hb (Vf _)
theorem N2(hu:X.A.units+64<cLine)(ha:VE X a fa)(hb:VE X b fb):VT X (.Compare a [.NotEq] [b] pos) (xB (Ze (Xs true) fa fb)):=U8 (G5 hu) (OR true) ha hb (Vf _)
theorem Ks(hu:X.A.units+64<cLine)(ha:VE X a fa)(hb:VE X b fb)(hm:behindInMarks .NotIn b=false:=by with_unfolding_all rfl):VT X (.Compare a [.NotIn] [b] pos) (xB (Ze (G7 true) fa fb)):=U8 (MR hu) (G8 true) ha hb hm
def MY:PV->Option Bool
 | .bl c=>some c
 | _=>none
end
section
variable {X:Cx} {a b:Expr} {fa fb:XE} {pos:Pos}
def OV:PV->PV->Option PV
 | .lst m,.lst n=>if m.length+n.length<=10000 then some (.lst (m++n)) else none
 | _,_=>none
def W7:PV->PV->Option PV
 | .lst m,.lst n=>if m.length+n.length<=10000/\ZG m=true/\ZG n=true then some (.lst (m++n)) else none
 | _,_=>none
theorem QJ(ha:VE X a fa)(hb:VE X b fb):VM X (.BinOp a .Add b pos) (Ze W7 fa fb):=PE.imp (LQ LZ ha hb) fun σ H Q ⟨s,l,env,e,k⟩=>by
 obtain⟨x',y',e1,e2,e⟩:=SD e
 refine⟨fun _=>False,s,x',fun _ z=>z.elim,env,e1,fun x H1 f1 s1 i1 _=>⟨fun _=>False,s,y',fun _ z=>z.elim,env.mono s1,e2,fun y H2 f2 s2 i2 _=>?_⟩⟩
 cases x' with
 | lst m=>cases y' with
  | lst n=>
   have e:(if m.length+n.length<=10000/\ZG m=true/\ZG n=true then some (PV.lst (m++n)) else none)=some l:=e
   split at e
   case isFalse=>cases e
   rename_i hl
   cases e
   obtain⟨p,xs,fq,rfl,hp,hi,rfl⟩:=i1.lst_inv
   obtain⟨p',ys,fq',rfl,hp',hi',rfl⟩:=i2.lst_inv
   refine⟨p,p',xs,ys,rfl,rfl,s2 _ _ hp,hp',by rw[hi.len,hi'.len];exact Nat.le_of_lt (lt_size hl.1),fun q hq=>?_⟩
   refine k _ _ [q] (s1.trans (s2.trans (Same.new hq _))) (Is.lst Zq ((((hi.mono s2).pureEq hl.2.1).append (hi'.pureEq hl.2.2)).mono (Same.new hq _))) (by simp) fun r hr=>?_
   rw[List.mem_singleton.mp hr]
   exact⟨Same.off (s1.trans s2) hq,by rw[Zq];exact True.intro⟩
  | _=>cases e
 | _=>cases e
def RM:PV->PV->Option PV
 | .lst m,.int k=>if ZG m=true/\-1000000<=k/\k<=1000000/\m.length*k.toNat<=10000 then some (.lst (List.replicate k.toNat m).flatten) else none
 | _,_=>none
theorem Iss.rep{H:Hp}{m:List PV}{xs:List V}(h:Iss K H m xs []):∀k:Nat,Iss K H (List.replicate k m).flatten (List.replicate k xs).flatten []
 | 0=>Iss.nil
 | k+1=>by
  rw[List.replicate_succ,List.replicate_succ,List.flatten_cons,List.flatten_cons]
  exact h.append (Iss.rep h k)
theorem OW(ha:VE X a fa)(hb:VE X b fb):VM X (.BinOp a .Mult b pos) (Ze RM fa fb):=PE.imp (LQ GR ha hb) fun σ H Q ⟨s,l,env,e,k⟩=>by
 obtain⟨x',y',e1,e2,e⟩:=SD e
 refine⟨fun _=>False,s,x',fun _ z=>z.elim,env,e1,fun x H1 f1 s1 i1 _=>⟨fun _=>False,s,y',fun _ z=>z.elim,env.mono s1,e2,fun y H2 f2 s2 i2 _=>?_⟩⟩
 cases x' with
 | lst m=>cases y' with
  | int n=>
   have e:(if ZG m=true/\-1000000<=n/\n<=1000000/\m.length*n.toNat<=10000 then some (PV.lst (List.replicate n.toNat m).flatten) else none)=some l:=e
   split at e
   case isFalse=>cases e
   rename_i hl
   cases e
   obtain⟨p,xs,fq,rfl,hp,hi,rfl⟩:=i1.lst_inv
   refine⟨p,n,xs,rfl,i2.int_inv.1,s2 _ _ hp,by omega,by omega,by rw[hi.len];exact Nat.le_of_lt (lt_size hl.2.2.2),fun q hq=>?_⟩
   refine k _ _ [q] (s1.trans (s2.trans (Same.new hq _))) (Is.lst Zq ((Iss.rep ((hi.mono s2).pureEq hl.1) n.toNat).mono (Same.new hq _))) (by simp) fun r hr=>?_
   rw[List.mem_singleton.mp hr]
   exact⟨Same.off (s1.trans s2) hq,by rw[Zq];exact True.intro⟩
  | _=>cases e
 | _=>cases e
end
theorem Iss.fps{H:Hp}:∀{ls:List PV}{vs:List V}{fp:List Addr},Iss K H ls vs fp->∃fps:Nat->List Addr,(∀(i:Nat) l,ls[i]?=some l->∃v,vs[i]?=some v/\Is K H l v (fps i))/\∀i,ls.length<=i->fps i=[]
 | [],vs,fp,h=>⟨fun _=>[],fun i l e=>by simp at e,fun _ _=>rfl⟩
 | a::ls,vs,fp,h=>by
  obtain⟨x,r,f1,f2,rfl,h1,h2,rfl⟩:=h.inv
  obtain⟨fps,p1,p2⟩:=h2.fps
  refine⟨fun i=>match i with | 0=>f1 | k+1=>fps k,fun i l e=>?_,fun i hi=>?_⟩
  ·cases i with
   | zero=>simp at e;subst e;exact⟨x,rfl,h1⟩
   | succ k=>
    obtain⟨v,a,b⟩:=p1 k l (by simpa using e)
    exact⟨v,by simpa using a,b⟩
  ·cases i with
   | zero=>simp at hi
   | succ k=>exact p2 k (by simpa using hi)
def Yq(m:Nat)(ls:List PV):ZP:=ls.map some++List.replicate (m-ls.length) none
def Xm:Out->Option PV
 | .rt v=>some v
 | .nx _=>some .non
 | _=>none
def Xi(m:Nat)(f:XS):List PV->Option PV:=fun ls=>(f (Yq m ls)).bind Xm
theorem QK{N:List Str}{n:Nat}{O W:List Nat}{f:XS}{vs:List V}{H:Hp}{Q:VK}{E:XK}(hO:∀i∈O,n<=i)(h:YJ K (Xi N.length f) n vs H Q E):Fb K O W f { nx:=fun _ H'=>Q .non H',rt:=Q } (L2.start N vs) H:=by
 obtain⟨hl,ls,fp,l,hi,e,q⟩:=h
 obtain⟨out,e1,e2⟩:=Zg e
 obtain⟨fps,p1,p2⟩:=hi.fps
 have hlen:=hi.len
 have hout:∀i:Nat,ls.length<=i->∀l,(Yq N.length ls)[i]?≠some (some l):=fun i hi l z=>by
  unfold Yq at z;rw[List.getElem?_append_right (by simpa using hi),List.getElem?_replicate] at z
  split at z<;>cases z
 have rel:Rel K O H fps (Yq N.length ls) (L2.start N vs) H:=by
  refine⟨Same.refl H,?_,fun i a z=>?_,fun i hne=>?_,fun i hi=>?_,fun i hi p hp=>?_,fun i hi j hj p hp=>?_⟩
  ·unfold Yq L2.start;simp[hlen]
  ·by_cases hil:i<ls.length
   ·unfold Yq at z
    rw[List.getElem?_append_left (by simpa using hil),List.getElem?_map] at z
    cases q:ls[i]? with
    | none=>rw[q] at z;cases z
    | some b=>
     rw[q] at z;cases z
     obtain⟨v,a1,b1⟩:=p1 i a q
     refine⟨v,?_,b1⟩
     unfold L2.start
     rw[List.getElem?_append_left (by simpa [hlen] using hil),List.getElem?_map,a1];rfl
   ·exact absurd z (hout i (by omega) a)
  ·by_cases hil:i<ls.length
   ·exact absurd (by unfold Yq;rw[List.getElem?_append_left (by simpa using hil),List.getElem?_map,List.getElem?_eq_getElem hil];rfl) (hne ls[i])
   ·exact p2 i (by omega)
  ·rw[p2 i (by have:=hO i hi;omega)];exact List.nodup_nil
  ·rw[p2 i (by have:=hO i hi;omega)] at hp;simp at hp
  ·rw[p2 i (by have:=hO i hi;omega)] at hp;simp at hp
 refine⟨H,fps,Yq N.length ls,out,rel,e1,?_⟩
 cases out with
 | nx s'=>
  cases e2
  exact fun fps' σ' H' r' _=>q .non H' [] r'.same Is.non List.nodup_nil fun p hp=>by simp at hp
 | rt v=>
  cases e2
  exact fun v fp H' sm i d n=>q v H' fp sm i d n
 | bk s'=>cases e2
 | ct s'=>cases e2
section
variable {P:Program} {w:World} {mg:Str->Option Value} {base:Heap}
theorem Yf{x:Str}{st:Stmt}{N ps:List Str}{k n:Nat}{O W:List Nat}(m:Nat)(f:XS)(D:Def K mg x st)(S:ZH N ps (Zl st))
  (hb:∀(kV doc pm:Value)(an:Option Addr)(cdv ct:Value)(us:List Value),us.length=ps.length->bindArgs (PySem.W.fnOf x x (Y9 st) (Yb st) (Zl st) .none kV doc pm an cdv ct) ⟨us,[]⟩=pure (ps.zip us))
  (hn:ps.length=n) (hm:N.length=m) (hO:∀i∈O,n<=i)
  (hbody:∀(fa:Addr)(cdv:Value)(A:Around)(outer:List Env)(s:Shared)(H:Hp)(E:XK),Room k (A.deeper (envOfC x (Zl st) s.heap.objs.size fa cdv))->VSs (U0 Py P w K mg base N x (Zl st) fa cdv A outer s H E).nox O W (Yb st) f) :
  Y2 P w K mg base x ps (YJ K (Xi m f) n) (k+1):=by
 subst hm
 refine D.cal S hb (fun vs H Q E h=>by rw[hn];exact h.1) fun fa cdv A outer s H vs Q E hr h=>⟨_,hbody fa cdv A outer s H E hr,QK hO h⟩
end
end VL
namespace VL
open PySem PySem.Spec PyProof.Rows L2
variable {K:PySem.W.Frag}
section
variable {X:Cx} {O:List Nat} {tg elt iter:Expr} {ifs:List Expr} {scope:Scope} {pos:Pos} {fi:XL} {T:Tgt} {ft:XT} {fe:XE}
theorem Si(own fr:List Str)(ix:List Nat){i:Nat}{y:Str}{py spos:Pos}(hN:X.N.Nodup)(hy:X.N[i]?=some y)(hloc:X.env.scope.names.lookup y=some .local)(hcalm:X.calm=true)(hi:VI X tg iter fi)(S:Ue X.N X.env.scope scope own fr ix=true)
  (hg:∀cl C s H ex,PG (ZO X (own++fr) scope cl C s H ex) tg (gT X.K T)) (ht:∀cl C s H ex,Er (ZO X (own++fr) scope cl C s H ex) ifs ft) (he:∀cl C s H ex,VM (ZO X (own++fr) scope cl C s H ex) elt fe)
  (hT:∀i∈T.slots,i<own.length:=by decide)
  (hsw:swapsWith (.ListComp elt [⟨tg,iter,ifs,0⟩] scope pos) (some (.Name y py)) spos.line X.env=pure true:=by rfl)
  (hs:∀x,foldedSetIterable iter X.env x=pure x:=by intro _;rfl):VS X O [i] (.Assign [.Name y py] (.ListComp elt [⟨tg,iter,ifs,0⟩] scope pos) spos) (Zo i (Zz own.length ix fi T ft fe)):=
 PS.imp (L9 own fr ix hN hy hloc hcalm hi S hg (fun cl C s H ex=>(show L7 (ZO X (own++fr) scope cl C s H ex) ifs (MQ X.K ft) from ht cl C s H ex)) (fun cl C s H ex=>(show PE (ZO X (own++fr) scope cl C s H ex) elt (tM X.K fe) from he cl C s H ex)) hsw hs) (N1 (NY hT))
end
section
variable {P:Program} {w:World} {mg:Str->Option Value} {base:Heap}
theorem Fc{x:Str}{st:Stmt}{N ps:List Str}{k n:Nat}{O W:List Nat}{fa:Addr}{fd:FuncData}(m:Nat)(f:XS)(F:Fun K x x st fa fd)(S:ZH N ps (Zl st))
  (hn:ps.length=n) (hm:N.length=m) (hO:∀i∈O,n<=i)
  (hbody:∀(fa:Addr)(cdv:Value)(A:Around)(outer:List Env)(s:Shared)(H:Hp)(E:XK),Room k (A.deeper (envOfC x (Zl st) s.heap.objs.size fa cdv))->VSs (U0 Py P w K mg base N x (Zl st) fa cdv A outer s H E).nox O W (Yb st) f) :
  V5 P w K mg base Py (k+1) fa fd ps (YJ K (Xi m f) n):=by
 subst hm
 refine F.ok S (fun vs H Q E h=>by rw[hn];exact h.1) fun cdv A outer s H vs Q E hr h=>⟨_,hbody fa cdv A outer s H E hr,?_⟩
 exact QK hO h
theorem Kt{st:Stmt}{x:Str}{D:List PV->Option PV}{k:Nat}{fa:Addr}(Df:Def K mg "law" st)(hfa:mg "law" = some (.ref fa))
  (hb:∀(kV doc pm:Value)(an:Option Addr)(cdv ct u:Value),bindArgs (PySem.W.fnOf "law" "law" (Y9 st) (Yb st) (Zl st) .none kV doc pm an cdv ct) ⟨[u],[]⟩=pure [(x,u)])
  (H:∀(base:Heap)(f:Addr)(fd:FuncData),K.In base->base.Ns mainGlobals mg->Fun K "law" "law" st f fd->V5 P w K mg base Py k f fd [x] (YJ K D 1)) :
  ∃fd:FuncData,(∀(s:Shared)(u:Value),BindsTo s fd ⟨[u],[]⟩ [(x,u)])/\∀base:Heap,K.In base->base.Ns mainGlobals mg->V5 P w K mg base Py k fa fd [x] (YJ K D 1):=by
 obtain⟨f,fd,hm,F⟩:=Df.ex
 have e:=hfa.symm.trans hm;cases e
 refine⟨fd,?_,fun base h1 h2=>H base fa fd h1 h2 F⟩
 obtain⟨oc,od,kV,doc,pm,an,cdv,ct,osl,rfl,lk,hcd⟩:=F.ex
 exact fun s u=>.of_eq (hb kV doc pm an cdv ct u)
end
theorem Fd{H:Hp}{a:Addr}{ns:List Int}{D:List PV->Option PV}{E:XK}(hD:D [.cst (iL ns)]=some (.bl true))(hO:J8 H)(hS:SqL K H a (ns.map V.int)):YJ K D 1 [.ref a] H (fun v _=>v = .bl true) E:=by
 have cs:CsK K H a (ns.map V.int):=by
  rcases hS with h | h
  ·rcases h with h | ⟨o,h⟩
   ·rcases hO a with z | ⟨o,xs,z⟩
    ·rw[h] at z;cases z
    ·rw[h] at z;cases z
   ·exact .inl ⟨o,h⟩
  ·exact .inr h
 exact⟨rfl,[.cst (iL ns)],[],.bl true,Iss.one (Is.cst cs (Iss.ofInts ns)),hD,fun v H' fq _ i _ _=>i.bl_inv.1⟩
theorem law_walk{l:PySem.W.OpenLaw}{q:Program}{loose:List Str}{XP:(Str->Option Value)->Heap->Prop}{YP:World->Heap->Prop}{d:DefRec}{KK:Params->PySem.W.Frag}{x:Str}{D:List PV->Option PV}(k:Nat)(hn:l.most=some 63)(hdf:d.params.defaults=[])
  (hr:Room k callerA) (hD:∀ns:List Int,ns.length<=63->D [.cst (iL ns)]=some (.bl true))
  (hY:∀(w:World)(h:Heap),YP w h->(KK w.params).In h)
  (F:∀(w:World)(mg:Str->Option Value)(fa:Addr)(h:Heap),(KK w.params).In h->h.Ns mainGlobals mg->mg d.name=some (.ref fa)->
   ∃fd:FuncData,(∀(s:Shared)(u:Value),BindsTo s fd ⟨[u],[]⟩ [(x,u)])/\∀base:Heap,(KK w.params).In base->base.Ns mainGlobals mg->V5 l.prog w (KK w.params) mg base Py k fa fd [x] (YJ (KK w.params) D 1)) :
  PySem.W.WalkO q loose XP YP l.row.toRowW d [] (fun f vs=>PySem.call f vs):=
 L2.walk_of (n:=63) (k:=k) (x:=x) (CX:=fun _=>Py) (sp:=fun w=>YJ (KK w.params) D 1) hn (by decide) hdf hr hY F (fun w H a ns hl hO hS=>Fd (hD ns hl) hO hS) fun _ _ _ _ _ z=>z
end VL
namespace VL
open PySem L2
@[simp] theorem Ku(i:Nat)(s:ZP):Za i s=(s[i]?).join:=rfl
@[simp] theorem eC_def(l:PV)(s:ZP):eC l s=some l:=rfl
@[simp] theorem ZJ(g:PV->PV->Option PV)(a b:XE)(s:ZP):Ze g a b s=(a s).bind fun x=>(b s).bind fun y=>g x y:=rfl
@[simp] theorem eUn_def(g:PV->Option PV)(a:XE)(s:ZP):RK g a s=(a s).bind g:=rfl
@[simp] theorem Y1(f:XE)(s:ZP):eP f s=(f s).bind fun l=>if Z4 l=true then some l else none:=rfl
@[simp] theorem Iw(s:ZP):Uz [] s=some []:=rfl
@[simp] theorem Zk(f:XE)(fs:List XE)(s:ZP):Uz (f::fs) s=(f s).bind fun x=>(Uz fs s).map (x::·):=rfl
@[simp] theorem ZC(D:List PV->Option PV)(fs:List XE)(s:ZP):Zc D fs s=(Uz fs s).bind D:=rfl
@[simp] theorem eTup_def(fs:List XE)(s:ZP):YT fs s=(Uz fs s).map .tup:=rfl
@[simp] theorem Kv(fs:List XE)(s:ZP):Xt fs s=(Uz fs s).map .lst:=rfl
@[simp] theorem eSl_def(g:PV->Option Int->Option Int->Option PV)(a:XE)(lo hi:XO)(s:ZP):W6 g a lo hi s=(a s).bind fun x=>(lo s).bind fun l=>(hi s).bind fun u=>g x l u:=rfl
@[simp] theorem xoN_def(s:ZP):Uk s=some none:=rfl
@[simp] theorem gI_ii(g:Int->Int->Int)(i j:Int):gI g (.int i) (.int j)=some (.int (g i j)):=rfl
@[simp] theorem gB_ii(g:Int->Int->Bool)(i j:Int):gB g (.int i) (.int j)=some (.bl (g i j)):=rfl
@[simp] theorem Fe(C:Int->Int->Prop)[∀i j,Decidable (C i j)](g:Int->Int->Int)(i j:Int):JO C g (.int i) (.int j)=if C i j then some (.int (g i j)) else none:=rfl
@[simp] theorem gIx_ti(l:List PV)(i:Int):ZE (.tup l) (.int i)=U2 l i:=rfl
@[simp] theorem gIx_li(l:List PV)(i:Int):ZE (.lst l) (.int i)=U2 l i:=rfl
@[simp] theorem gIx_ci(l:List PV)(i:Int):ZE (.cst l) (.int i)=U2 l i:=rfl
@[simp] theorem Yy(f:XE)(s:ZP):xB f s=(f s).bind MY:=by
 unfold xB
 cases f s with
 | none=>rfl
 | some a=>cases a<;>rfl
@[simp] theorem Ff(b:Bool):MY (.bl b)=some b:=rfl
@[simp] theorem xAnd_def(a b:XT)(s:ZP):Di a b s=(a s).bind fun c=>if c=true then b s else some false:=rfl
@[simp] theorem Wu(a b:XT)(s:ZP):R5 a b s=(a s).bind fun c=>if c=true then some true else b s:=rfl
@[simp] theorem UD(a:XT)(s:ZP):U9 a s=(a s).map not:=rfl
@[simp] theorem SU(a b:XE)(s:ZP):Ug a b s=(xB a s).bind fun c=>if c=true then b s else some (.bl false):=rfl
@[simp] theorem eOr_def(a b:XE)(s:ZP):DD a b s=(xB a s).bind fun c=>if c=true then some (.bl true) else b s:=rfl
@[simp] theorem eNot_def(a:XE)(s:ZP):Il a s=(xB a s).map fun c=>.bl !c:=rfl
@[simp] theorem QL(c:XT)(a b:XE)(s:ZP):JP c a b s=(c s).bind fun k=>if k=true then a s else b s:=rfl
@[simp] theorem Kw(neg:Bool)(a:XE)(s:ZP):WR neg a s=(a s).bind (En neg):=rfl
@[simp] theorem sNext_def(s:ZP):ZX s=some (.nx s):=rfl
@[simp] theorem SV(f g:XS)(s:ZP):Zn f g s=(f s).bind fun o=>match o with | .nx s'=>g s' | r=>some r:=rfl
@[simp] theorem ZS(c:XT)(f g:XS)(s:ZP):WG c f g s=(c s).bind fun k=>if k=true then f s else g s:=rfl
@[simp] theorem Kx(f:XE)(s:ZP):Ya f s=(f s).map .rt:=rfl
@[simp] theorem Zm(i:Nat)(f:XE)(s:ZP):Zo i f s=(f s).map fun l=>.nx (s.set i (some l)):=rfl
@[simp] theorem retO_rt(v:PV):Xm (.rt v)=some v:=rfl
@[simp] theorem pureV_int(i:Int):Z4 (.int i)=true:=rfl
@[simp] theorem pureV_bl(i:Bool):Z4 (.bl i)=true:=rfl
@[simp] theorem pureV_str(i:Str):Z4 (.str i)=true:=rfl
@[simp] theorem pureV_non:Z4 .non=true:=rfl
@[simp] theorem MZ(l:List PV):Z4 (.tup l)=ZG l:=by rw[Z4]
@[simp] theorem pureL_nil:ZG []=true:=rfl
@[simp] theorem pureL_cons(a:PV)(l:List PV):ZG (a::l)=(Z4 a&&ZG l):=rfl
theorem Qb{α:Type}{l:List α}{f:α->PV}(h:∀a∈l,Z4 (f a)=true):ZG (l.map f)=true:=by
 rw[Xw,List.all_map,List.all_eq_true];exact h
@[simp] theorem pureL_iL(l:List Int):ZG (l.map PV.int)=true:=Yk l
abbrev pP(l:List Int):PV:=.tup (iL l)
abbrev wP(W:List (List Int)):PV:=.tup (W.map pP)
@[simp] theorem Ky(W:List (List Int)):ZG (W.map pP)=true:=Qb fun a _=>by simp
theorem UE{l:List PV}{k:Nat}{a:PV}(h:l[k]?=some a):U2 l (k:Int)=some a:=Sf h
theorem Tc{l:List Int}{k:Nat}(h:k<l.length):(iL l)[k]?=some (.int (ZA l k)):=by
 rw[List.getElem?_map,List.getElem?_eq_getElem h];simp[ZA,List.getD_eq_getElem?_getD,List.getElem?_eq_getElem h]
theorem Wk{l:List Int}{k:Nat}(h:k<l.length):U2 (iL l) (k:Int)=some (.int (ZA l k)):=Sf (Tc h)
theorem Sj{W:List (List Int)}{k:Nat}(h:k<W.length):U2 (W.map pP) (k:Int)=some (pP (ZF W k)):=by
 refine Sf ?_
 rw[List.getElem?_map,Sy h];rfl
@[simp] theorem OX(l:List Int):X1 [.tup (l.map PV.int)]=some (.int l.sum):=by
 simp[X1,SI,XB l]
@[simp] theorem OY(l:List Int):X1 [.lst (l.map PV.int)]=some (.int l.sum):=by
 simp[X1,SI,XB l]
@[simp] theorem Fg(l:List Bool):PQ [.lst (l.map PV.bl)]=some (.bl (l.all id)):=by
 simp[PQ,SI,V9 l]
@[simp] theorem gLen_t(l:List PV):Zw [.tup l]=some (.int l.length):=rfl
@[simp] theorem gLen_l(l:List PV):Zw [.lst l]=some (.int l.length):=rfl
@[simp] theorem gLen_c(l:List PV):Zw [.cst l]=some (.int l.length):=rfl
@[simp] theorem gTuple_l(l:List PV):Yi [.lst l]=some (.tup l):=rfl
@[simp] theorem gTuple_t(l:List PV):Yi [.tup l]=some (.tup l):=rfl
@[simp] theorem gListP_t(l:List PV):Wf [.tup l]=if ZG l=true then some (.lst l) else none:=rfl
@[simp] theorem gListP_l(l:List PV):Wf [.lst l]=if ZG l=true then some (.lst l) else none:=rfl
@[simp] theorem gMin2_ii(i j:Int):Ep [.int i,.int j]=some (.int (if j<i then j else i)):=rfl
@[simp] theorem gMax2_ii(i j:Int):TH [.int i,.int j]=some (.int (if j>i then j else i)):=rfl
@[simp] theorem gInt1_b(c:Bool):TJ [.bl c]=some (.int (if c then 1 else 0)):=rfl
@[simp] theorem gInt1_i(c:Int):TJ [.int c]=some (.int c):=rfl
@[simp] theorem gInst_ii(i:Int):Vj [.int i,.ty "int"]=some (.bl true):=rfl
@[simp] theorem gInst_ib(i:Int):Vj [.int i,.ty "bool"]=some (.bl false):=rfl
@[simp] theorem gInst_tt(l:List PV):Vj [.tup l,.ty "tuple"]=some (.bl true):=rfl
@[simp] theorem gInst_ll(l:List PV):Vj [.lst l,.ty "list"]=some (.bl true):=rfl
theorem N3(n:Nat)(i j:Int):X2 (n+1) (.int i) (.int j)=true:=rfl
theorem TN{α β:Type}{f:α->PV}{g:β->PV}{p:PV->PV->Bool}(h:∀a b,p (f a) (g b)=true):∀(l:List α)(m:List β),((l.map f).zip (m.map g)).all (fun z=>p z.1 z.2)=true
 | [],_=>by simp
 | _::_,[]=>by simp
 | a::l,b::m=>by
  rw[List.map_cons,List.map_cons,List.zip_cons_cons,List.all_cons,TN h l m,h a b];rfl
theorem Iy(n:Nat)(l m:List Int):X2 (n+2) (.lst (iL l)) (.lst (iL m))=true:=TN (fun a b=>N3 n a b) l m
theorem Fh{l m:List Int}:iL l=iL m↔l=m:=by
 constructor
 ·intro h
  exact(List.map_inj_right (fun a b e=>PV.int.inj e)).mp h
 ·intro h;rw[h]
@[simp] theorem Wl(neg:Bool)(i j:Int):Xs neg (.int i) (.int j)=some (.bl (if neg then !decide (i=j) else decide (i=j))):=by
 unfold Xs;rw[if_pos (N3 7 i j)]
 congr 2
 cases neg<;>simp
@[simp] theorem Fi(neg:Bool)(l m:List Int):Xs neg (.lst (l.map PV.int)) (.lst (m.map PV.int))=some (.bl (if neg then !decide (l=m) else decide (l=m))):=by
 unfold Xs;rw[if_pos (Iy 6 l m)]
 have:decide ((PV.lst (l.map PV.int)) = .lst (m.map PV.int))=decide (l=m):=decide_eq_decide.mpr (by rw[PV.lst.injEq];exact Fh)
 rw[this]
theorem Qc{α:Type}{T:Tgt}{ft:XT}{fe:XE}{s0:ZP}{q g:α->PV}:∀{ls:List α},(∀a∈ls,∃s1,Vk T (q a) s0=some s1/\ft s1=some true/\fe s1=some (g a))->Wh T ft fe s0 (ls.map q)=some (ls.map g)
 | [],_=>rfl
 | a::r,h=>by
  obtain⟨s1,h1,h2,h3⟩:=h a List.mem_cons_self
  have ih:=Qc (ls:=r) fun b hb=>h b (List.mem_cons_of_mem _ hb)
  rw[List.map_cons,List.map_cons];unfold Wh;rw[h1];simp only[Option.bind_some,h2,if_true,h3,ih,Option.map_some]
theorem UG{α:Type}{T:Tgt}{ft:XT}{fe:XE}{s0:ZP}{q g:α->PV}{c:α->Bool}:∀{ls:List α},(∀a∈ls,∃s1,Vk T (q a) s0=some s1/\ft s1=some (c a)/\(c a=true->fe s1=some (g a)))->Wh T ft fe s0 (ls.map q)=some ((ls.filter c).map g)
 | [],_=>rfl
 | a::r,h=>by
  obtain⟨s1,h1,h2,h3⟩:=h a List.mem_cons_self
  have ih:=UG (ls:=r) fun b hb=>h b (List.mem_cons_of_mem _ hb)
  rw[List.map_cons];unfold Wh;rw[h1];simp only[Option.bind_some,h2]
  cases hc:c a with
  | true=>simp[h3 hc,ih,hc]
  | false=>simp[ih,hc]
theorem Yc{α:Type}{n:Nat}{ix:List Nat}{fi:XL}{T:Tgt}{ft:XT}{fe:XE}{s:ZP}(ls:List α)(q g:α->PV)(hfi:fi s=some (ls.map q))(hl:ls.length<=10000)
  (h:∀a∈ls,∃s1,Vk T (q a) (Yr n ix s)=some s1/\ft s1=some true/\fe s1=some (g a)):Zz n ix fi T ft fe s=some (.lst (ls.map g)):=by
 unfold Zz;rw[hfi];simp only[Option.bind_some,List.length_map,if_pos hl,Qc h,Option.map_some]
theorem WX{α:Type}{n:Nat}{ix:List Nat}{fi:XL}{T:Tgt}{ft:XT}{fe:XE}{s:ZP}(ls:List α)(q g:α->PV)(c:α->Bool)(hfi:fi s=some (ls.map q))(hl:ls.length<=10000)
  (h:∀a∈ls,∃s1,Vk T (q a) (Yr n ix s)=some s1/\ft s1=some (c a)/\(c a=true->fe s1=some (g a))):Zz n ix fi T ft fe s=some (.lst ((ls.filter c).map g)):=by
 unfold Zz;rw[hfi];simp only[Option.bind_some,List.length_map,if_pos hl,UG h,Option.map_some]
theorem ZY{T:Tgt}{fb:XS}:∀{ls:List PV}{s:ZP}(Jv:Nat->ZP->Prop),Jv 0 s->(∀(i:Nat) l st,ls[i]?=some l->Jv i st->∃s1 s2,Vk T l st=some s1/\fb s1=some (.nx s2)/\Jv (i+1) s2)->
  ∃s',Tb T fb ls s=some (.nx s')/\Jv ls.length s'
 | [],s,Jv,h0,_=>⟨s,rfl,h0⟩
 | l::r,s,Jv,h0,h=>by
  obtain⟨s1,s2,a,b,c⟩:=h 0 l s rfl h0
  obtain⟨s',d,e⟩:=ZY (ls:=r) (s:=s2) (fun i=>Jv (i+1)) c fun i l' st hl hi=>h (i+1) l' st (by simpa using hl) hi
  refine⟨s',?_,e⟩
  unfold Tb;rw[a];simp only[Option.bind_some,b];exact d
theorem Wm{n i:Nat}{l:PV}(h:(Vc n)[i]?=some l):i<n/\l = .int (i:Int):=by
 have hi:=(List.getElem?_eq_some_iff.mp h).1
 unfold Vc at hi h;rw[List.length_map,List.length_range] at hi;rw[List.getElem?_map,List.getElem?_range hi] at h
 exact⟨hi,(Option.some.inj h).symm⟩
theorem Vm{lo:Int}{n i:Nat}{l:PV}(h:(XC lo n)[i]?=some l):i<n/\l = .int (lo+(i:Int)):=by
 have hi:=(List.getElem?_eq_some_iff.mp h).1
 unfold XC at hi h;rw[List.length_map,List.length_range] at hi;rw[List.getElem?_map,List.getElem?_range hi] at h
 exact⟨hi,(Option.some.inj h).symm⟩
@[simp] theorem WI(n:Nat):(Vc n).length=n:=by unfold Vc;simp
@[simp] theorem PZ(lo:Int)(n:Nat):(XC lo n).length=n:=by unfold XC;simp
@[simp] theorem bindT_one(i:Nat)(l:PV)(s:ZP):Vk (.one i) l s=some (s.set i (some l)):=rfl
theorem TQ(m:List PV):Wg m=(List.range m.length).map fun(i:Nat)=>.tup [.int (i:Int),m.getD i .non]:=by
 apply List.ext_getElem?
 intro i;rw[List.getElem?_map]
 by_cases h:i<m.length
 ·have:(Wg m)[i]?=some (.tup [.int (i:Int),m[i]]):=by
   unfold Wg;rw[List.getElem?_map,List.getElem?_zipIdx,List.getElem?_eq_getElem h]
   simp
  rw[this,List.getElem?_range h];simp[List.getD_eq_getElem?_getD,List.getElem?_eq_getElem h]
 ·rw[List.getElem?_eq_none (by rw[X8];omega),List.getElem?_eq_none (by simpa using h)];rfl
theorem Iz(l:List Int)(i:Nat)(h:i<l.length):(iL l).getD i .non = .int (ZA l i):=by
 rw[List.getD_eq_getElem?_getD,Tc h];rfl
theorem Kz(W:List (List Int))(i:Nat)(h:i<W.length):(W.map pP).getD i .non=pP (ZF W i):=by
 rw[List.getD_eq_getElem?_getD,List.getElem?_map,Sy h];rfl
@[simp] theorem IA(f:XE)(s:ZP):ZI [f] s=(f s).bind fun a=>(MW a).bind fun j=>if -1000000<=j/\j<=1000000 then some (Vc j.toNat) else none:=by
 unfold ZI
 cases h:f s with
 | none=>simp[h]
 | some a=>cases a<;>simp[h,MW]
@[simp] theorem IB(f g:XE)(s:ZP):YZ [f,g] s=(f s).bind fun a=>(g s).bind fun b=>(MW a).bind fun i=>(MW b).bind fun j=>if -1000000<=i/\i<=1000000/\-1000000<=j/\j<=1000000 then some (XC i (j-i).toNat) else none:=by
 unfold YZ
 cases h:f s with
 | none=>simp[h]
 | some a=>cases h2:g s with
  | none=>simp[h,h2]
  | some b=>cases a<;>cases b<;>simp[h,h2,MW]
@[simp] theorem UH(i:Int):MW (.int i)=some i:=rfl
@[simp] theorem N4(i:List PV):Es (.lst i)=some i:=rfl
@[simp] theorem M0(b:Bool)(f:XE)(s:ZP):UC b [f] s=(f s).bind fun l=>(seqB b l).map Wg:=by
 unfold UC
 cases h:f s<;>simp[h]
@[simp] theorem Fj(l:List PV):seqB false (.tup l)=some l:=rfl
@[simp] theorem seqB_t(l:List PV):seqB true (.lst l)=some l:=rfl
@[simp] theorem seqB_c(l:List PV):seqB true (.cst l)=some l:=rfl
@[simp] theorem xLst_def(f:XE)(s:ZP):YN f s=(f s).bind G9:=rfl
@[simp] theorem asS_l(l:List PV):G9 (.lst l)=some l:=rfl
@[simp] theorem asS_c(l:List PV):G9 (.cst l)=some l:=rfl
theorem SW{f:XE}{s:ZP}{l:List PV}(h:f s=some (.tup l)):Uj f s=some l:=by unfold Uj;rw[h]
@[simp] theorem SX(O:List Nat)(fi:XL)(T:Tgt)(fb:XS)(s:ZP):Yv O fi T fb s=(fi (ZM O s)).bind fun ls=>Tb T fb ls s:=rfl
@[simp] theorem xTrue_def(s:ZP):ZL s=some true:=rfl
theorem Yd{f:XE}{s:ZP}{n:Nat}(h:f s=some (.int (n:Int)))(hn:n<=10000):ZI [f] s=some (Vc n):=by
 rw[IA,h];simp only[Option.bind_some,UH];rw[if_pos ⟨by omega,by omega⟩,Int.toNat_natCast]
theorem WK{f g:XE}{s:ZP}{i j:Int}(h:f s=some (.int i))(h':g s=some (.int j))(hi : -10000<=i/\i<=10000)(hj : -10000<=j/\j<=10000):YZ [f,g] s=some (XC i (j-i).toNat):=by
 rw[IB,h,h'];simp only[Option.bind_some,UH];rw[if_pos ⟨by omega,by omega,by omega,by omega⟩]
theorem KA{i j:Int}(h0 : -10000<=i)(h:i<=10000):CMul i j:=by
 refine .inl ?_
 have e:(2^64:Int)=18446744073709551616:=by decide
 rw[e];omega
theorem VJ{c:Bool}(h:c=true):gd c=some ():=by unfold gd;rw[if_pos h]
theorem SY{i:Nat}{f:XE}{s:ZP}{m n:List PV}(h:f s=some (.lst n))(hm:OU s i=some m)(hl:m.length+n.length<=10000):Xa i f s=some (.nx (s.set i (some (.lst (m++n))))):=by
 unfold Xa;rw[h];simp only[Option.bind_some,N4,hm,VJ (decide_eq_true hl)]
theorem WY{i:Nat}{f:XE}{s:ZP}{m:List PV}{l:PV}(h:f s=some l)(hm:OU s i=some m)(hl:m.length<=10000):YL i f s=some (.nx (s.set i (some (.lst (m++[l]))))):=by
 unfold YL;rw[h];simp only[Option.bind_some,hm,VJ (decide_eq_true hl)]
theorem OZ{i:Nat}{fk f:XE}{s:ZP}{m:List PV}{l:PV}{k:Int}(hk:fk s=some (.int k))(h:f s=some l)(hm:OU s i=some m)(hp:ZG m=true)(hq:Z4 l=true)(h0:0<=k)(h1:k<=1000000)(hl:m.length<=10000) :
  VF i fk f s=some (.nx (s.set i (some (.lst (m.take k.toNat++l::m.drop k.toNat))))):=by
 unfold VF;rw[hk,h]
 have c:(ZG m&&Z4 l&&decide (0<=k/\k<=1000000/\m.length<=10000))=true:=by rw[hp,hq,decide_eq_true ⟨h0,h1,hl⟩];rfl
 simp only[Option.bind_some,UH,hm,VJ c]
theorem Qd{i:Nat}{fk f:XE}{s:ZP}{m:List PV}{l:PV}{k:Int}{j:Nat}(h:f s=some l)(hk:fk s=some (.int k))(hm:OU s i=some m)(hp:ZG m=true)(hq:Z4 l=true)(hj:Pl m.length k=some j) :
  Wj i fk f s=some (.nx (s.set i (some (.lst (m.set j l))))):=by
 unfold Wj;rw[hk,h]
 have c:(ZG m&&Z4 l)=true:=by rw[hp,hq];rfl
 simp only[Option.bind_some,UH,hm,VJ c,hj,Option.map_some]
theorem S0{i:Nat}{fa fb f:XE}{s:ZP}{m n:List PV}{l:PV}{a b:Int}{j c:Nat}(h:f s=some l)(ha:fa s=some (.int a))(hb:fb s=some (.int b))(hm:OU s i=some m)(hj:Pl m.length a=some j)(hn:m[j]?=some (.lst n))(hp:ZG n=true)(hq:Z4 l=true)(hc:Pl n.length b=some c) :
  Yn i fa fb f s=some (.nx (s.set i (some (.lst (m.set j (.lst (n.set c l))))))):=by
 unfold Yn;rw[h,ha,hb]
 have cc:(ZG n&&Z4 l)=true:=by rw[hp,hq];rfl
 simp only[Option.bind_some,UH,N4,hm,hj,hn,VJ cc,hc,Option.map_some]
theorem VN{n k:Nat}(h:k<n):Pl n (k:Int)=some k:=by
 unfold Pl
 rw[if_pos (by omega),if_pos (by omega)];rfl
theorem QM{i j:Int}(h0:0<j)(h:j<=10000):Vb i j:=⟨h0,by omega⟩
end VL
namespace VL
open PySem PySem.Spec PyProof.Rows L2
variable {K:PySem.W.Frag}
def HJ(K:PySem.W.Frag):R2:=fun x y H Q=>∃a b xs ys,x = .ref a/\y = .ref b/\SqT K H a xs/\SqT K H b ys/\xs.length+ys.length<=sizeLine/\
 (xs=[]->Q (.ref b) H)/\(ys=[]->Q (.ref a) H)/\∀p,H p=none->Q (.ref p) (upd H p (.tup (xs++ys)))
theorem N5{X:Cx}:UT X (binaryOp .Add) (HJ X.K):=by
 intro pins s σ H x y v u Q I rx ry h
 obtain⟨a,b,xs,ys,rfl,rfl,ha,hb,hz,q0,q1,q2⟩:=h
 by_cases hx:xs=[]
 ·cases rx
  cases ry
  obtain⟨its,r1,p1,_⟩:=I.tuple ha
  obtain⟨its2,r2,p2,_⟩:=I.tuple hb
  obtain⟨⟨cls,dd,data,sl⟩,ho,hc,n,hd⟩:=id p1
  obtain⟨⟨cls2,dd2,data2,sl2⟩,ho2,hc2,n2,hd2⟩:=id p2
  simp only at hc hd hc2 hd2
  subst hc hd hc2 hd2
  exact concat_meets ⟨_,ho,rfl⟩ ⟨_,ho2,rfl⟩ noFill_tuple_add seq_tuple_add PySem.F.slot_tuple_add PySem.F.entry_tuple_add (PySem.F.args_tuple_add_2 _ _)
   (tuple_addW0 a b its.toArray its2.toArray n n2 dd dd2 sl sl2 (by simp[r1.nil_iff.mpr hx])) ⟨ho,ho2,.ref b,H,I,rfl,q0 hx⟩
 ·exact J5 _ _ _ _ _ _ _ _ _ I rx ry ⟨a,b,xs,ys,rfl,rfl,ha,hb,hx,hz,q1,fun _=>q2⟩
def S1:PV->PV->Option PV
 | .tup m,.tup n=>if m.length+n.length<=10000 then some (.tup (m++n)) else none
 | _,_=>none
theorem N6:RB K (HJ K) S1:=fun H x y a b l fa fb ha hb e Q k=>by
 cases a with
 | tup m=>cases b with
  | tup n=>
   have e:(if m.length+n.length<=10000 then some (PV.tup (m++n)) else none)=some l:=e
   split at e
   case isFalse=>cases e
   rename_i hl
   cases e
   obtain⟨p,xs,rfl,hp,hi⟩:=ha.tup_inv
   obtain⟨p',ys,rfl,hp',hi'⟩:=hb.tup_inv
   refine⟨p,p',xs,ys,rfl,rfl,SqT.of hp,SqT.of hp',by rw[hi.len,hi'.len];exact Nat.le_of_lt (lt_size hl),fun z=>?_,fun z=>?_,fun q hq=>?_⟩
   ·have:m=[]:=List.length_eq_zero_iff.mp (by rw[<-hi.len,z];rfl)
    subst this
    exact k _ _ fb (Same.refl _) hb fun r hr=>.inr (.inl hr)
   ·have:n=[]:=List.length_eq_zero_iff.mp (by rw[<-hi'.len,z];rfl)
    subst this;rw[List.append_nil] at k
    exact k _ _ fa (Same.refl _) ha fun r hr=>.inl hr
   ·exact k _ _ (fa++fb) (Same.new hq _) (Is.tup Zq ((hi.append hi').mono (Same.new hq _))) fun r hr=>(List.mem_append.mp hr).elim .inl fun z=>.inr (.inl z)
  | _=>cases e
 | _=>cases e
end VL
namespace PW
open PySem L2 VL
noncomputable def VP:XS:=(Zn (Zo 1 (Xt []))
  (Zn (Yv [1] (UC false [(Za 0)]) (.many [2,3]) (Yv [1] (YZ [(Ze Zx (Za 2) (eC (.int 1))),(Zc Zw [(Za 0)])]) (.one 4) (Xa 1 (Zz 1 [2,4] (ZI [(Ze ZE (Za 3) (Za 4))]) (.one 0) ZL (eP (YT [(Za 1),(Za 2),(Za 0)]))))))
  (Ya (Za 1))))
noncomputable def VQ:List PV->Option PV:=Xi 5 VP
noncomputable def QN:XS:=(Ya (eP (Ze Zx (Ze Yt (Zc Zw [(Zc VQ [(Za 0)])]) (Zc Zw [(Za 0)])) (eC (.int 1)))))
noncomputable def Xn:List PV->Option PV:=Xi 1 QN
noncomputable def QO:XS:=(Ya (eP (Zc X1 [(Za 0)])))
noncomputable def YM:List PV->Option PV:=Xi 1 QO
noncomputable def Td:XS:=(Ya (eP (Ug (Zc Vj [(Za 0),(eC (.ty "int"))]) (Il (Zc Vj [(Za 0),(eC (.ty "bool"))])))))
noncomputable def Yl:List PV->Option PV:=Xi 1 Td
end PW
namespace VL
open PySem PySem.Spec PyProof.Rows L2
def Wn(l:List Int):List Int:=l.mergeSort fun a b=>decide (a<=b)
theorem Ul(l:List Int):(Wn l).Perm l:=List.mergeSort_perm l _
theorem QP(l:List Int):(Wn l).Pairwise (·<=·):=by
 have:=List.pairwise_mergeSort (le:=fun a b:Int=>decide (a<=b)) (fun a b c h1 h2=>by simp only[decide_eq_true_eq] at *;omega) (fun a b=>by simp only[Bool.or_eq_true,decide_eq_true_eq];omega) l
 exact this.imp fun h=>of_decide_eq_true h
theorem S2{l m:List Int}(hp:m.Perm l)(hs:m.Pairwise (·<=·)):m=Wn l:=
 List.Perm.eq_of_pairwise (le:=(·<=·)) (fun a b _ _ h1 h2=>Int.le_antisymm h1 h2) hs (QP l) (hp.trans (Ul l).symm)
theorem WZ:∀{us:List Value}{ns:List Int},IntsAre us ns->Vals (ns.map V.int) us
 | _,_,.nil=>.nil
 | _,_,.cons n t h=>.cons ⟨t,rfl⟩ (WZ h)
def QQ(K:PySem.W.Frag):List V->Hp->VK->Prop:=fun xs H Q=>∃p ns,xs=[.ref p]/\SqL K H p (ns.map V.int)/\ns.length<64/\∀l,H l=none->Q (.ref l) (upd H l (.lst ((Wn ns).map V.int)))
theorem QR{X:Cx}:Wc X (.builtin "sorted") (QQ X.K):=by
 intro pins s σ H xs us Q I r h
 obtain⟨p,ns,rfl,hq,hl,q⟩:=h
 obtain⟨u,rfl,rx⟩:=Uu r
 cases rx
 obtain⟨its,r',pl,hz⟩:=I.list hq
 have hlen:=r'.length
 rw[List.length_map] at hlen hz
 refine sorted_ints pl.isList (Ss r') (by omega) fun out ns' a1 a2 a3=>?_
 obtain⟨e,he⟩:=sortedAll_at s.heap its out
 have hns:=S2 a2 a3;subst hns
 refine⟨.ref (s.heap.objs.size+1),_,I.laid (t':=s.toks) (fun b o=>sortedAll_old) (Nat.le_succ _) (show ObjOk X.prog X.w _ _ _ (.lst ((Wn ns).map V.int)) from⟨?_,out.toList,e,WZ a1,?_⟩),rfl,q _ (I.hok.fresh (Nat.le_succ _))⟩
 ·rw[List.length_map,(Ul ns).length_eq];exact hz
 ·rw[Array.toArray_toList];exact he
def UI:List PV->Option PV
 | [.lst l]=>(Xx l).bind fun ns=>if ns.length<64 then some (.lst (iL (Wn ns))) else none
 | [.cst l]=>(Xx l).bind fun ns=>if ns.length<64 then some (.lst (iL (Wn ns))) else none
 | _=>none
theorem O0{K:PySem.W.Frag}:Eo K (QQ K) UI:=fun H vs ls l fp h e Q k=>by
 have fin:∀(p:Addr)(ns:List Int),SqL K H p (ns.map V.int)->ns.length<64->l = .lst (iL (Wn ns))->QQ K [.ref p] H Q:=by
  rintro p ns hp hl rfl
  refine⟨p,ns,rfl,hp,hl,fun q hq=>k _ _ [q] (Same.new hq _) (Is.lst Zq (Iss.ofInts _)) (by simp) fun r hr=>?_⟩
  rw[List.mem_singleton.mp hr]
  exact⟨hq,by rw[Zq];exact True.intro⟩
 unfold UI at e
 split at e
 ·obtain⟨ns,e1,e2⟩:=Zg e
  split at e2
  ·cases e2
   obtain⟨v,rfl,i⟩:=h.one_inv
   have em:=Xd e1;subst em
   obtain⟨p,xs,fq,rfl,hp,hi,_⟩:=i.lst_inv
   obtain⟨rfl,rfl⟩:=hi.iL
   exact fin p ns (.inl (.inl hp)) (by assumption) rfl
  ·cases e2
 ·obtain⟨ns,e1,e2⟩:=Zg e
  split at e2
  ·cases e2
   obtain⟨v,rfl,i⟩:=h.one_inv
   have em:=Xd e1;subst em
   obtain⟨p,xs,rfl,hp,hi⟩:=i.cst_inv
   obtain⟨rfl,rfl⟩:=hi.iL
   exact fin p ns hp.sq (by assumption) rfl
  ·cases e2
 ·cases e
def Um:XS:=fun _=>none
theorem P0{X:Cx}{O W:List Nat}{st:Stmt}:VS X O W st Um:=by
 intro pins s σ H D I h;unfold Fb at h;simp only[Um] at h
 obtain⟨_,_,_,_,_,q,_⟩:=h
 cases q
theorem S3:∀(us:List Value)(k:Nat),(∀(i:Nat)(v:Value),us[i]?=some v->∃t,v=Value.int ((k+i:Nat):Int) t)->Vals ((List.range us.length).map fun i=>V.int ((k+i:Nat):Int)) us
 | [],k,_=>.nil
 | u::us,k,h=>by
  obtain⟨t,rfl⟩:=h 0 u rfl
  rw[List.length_cons,List.range_succ_eq_map,List.map_cons,List.map_map]
  refine .cons ⟨t,rfl⟩ ?_
  have:=S3 us (k+1) fun i v hv=>by
   obtain⟨t,e⟩:=h (i+1) v (by simpa using hv)
   exact⟨t,by rw[e];congr 2;omega⟩
  refine Eq.mp (congrArg (fun l=>Vals l us) (List.map_congr_left fun i _=>?_)) this
  show V.int _=V.int _
  congr 2;omega
def DG(ta:TA):TE:=fun σ H Q=>ta σ H fun vs H1=>∃j:Nat,vs=[.int (j:Int)]/\j<=10000/\∀l,H1 l=none->Q (.ref l) (upd H1 l (.lst ((List.range j).map fun(i:Nat)=>V.int (i:Int))))
section
variable {X:Cx} {a:Expr} {ta:TA} {p p2 pos pos2:Pos}
theorem QS(hc:X.calm=true)(hgl:Gl X "list")(hml:X.mg "list" = none)(hgr:Gl X "range")(hmr:X.mg "range" = none)(ha:PA X [a] ta)(hs:starEach [a] X.env=[(false,eval a X.env)]:=by rfl)
  (he:starEach [.Call (.Name "range" p2) [a] [] pos2] X.env=(false,eval (.Call (.Name "range" p2) [a] [] pos2) X.env)::starEach [] X.env:=by rfl) (hpl:(backTo pos (starEach [] X.env)).any (·.1)=false:=by rfl) :
  PE X (.Call (.Name "list" p) [.Call (.Name "range" p2) [a] [] pos2] [] pos) (DG ta):=by
 intro pins s σ H Q I h
 refine wpAny_Call_Name_kw (Wy I hgl hml (u:=.type "list") (by decide +kernel) ?_)
 refine PyProof.Rows.callWith_type1 (T:="list") ?_ he hpl
 rw[he]
 show wpAny _ _ (spliced ((false,eval (.Call (.Name "range" p2) [a] [] pos2) X.env)::[])) _ _ s
 refine Calls.spliced_cons ?_
 refine Call_ (Wy I hgr hmr boot_range (PyProof.Rows.callWith_type1 (YO (ha pos2 pins s σ H _ I h) fun us s1 ⟨vs,H1,I1,r1,q1⟩=>?_) hs rfl))
 obtain⟨j,e,hj,q⟩:=q1
 subst e
 cases r1 with
 | cons r rr=>
  cases rr
  obtain⟨t,rfl⟩:=r
  refine call_range_1 (Calls.spliced_nil ?_)
  have sz:sizeLine=2^24:=rfl
  refine call_list_range (n:=j) (I.ok.hd hc) (IsRange.new ..) (small_one (by omega) (by omega) (by omega) (by omega)) (by rw[rangeSize_one];split<;>omega) (by omega) fun h' tk acc' c' hk hS hacc=>?_
  have I2:=I1.kept (t':=s1.toks+1+1) (h':=s1.heap.push { cls:=.type "range",data:=.fields #[.int 0 s1.toks,.int (j:Int) t,.int 1 (s1.toks+1)] }) fun b o e=>Heap.get?_push_of_some _ e
  refine⟨.ref _,_,I2.laid (t':=tk) hk (Nat.le_refl _) (show ObjOk X.prog X.w _ _ _ (.lst ((List.range j).map fun(i:Nat)=>V.int (i:Int))) from⟨by simp;omega,acc'.toList,c',?_,?_⟩),rfl,q _ (I2.hok.fresh (Nat.le_refl _))⟩
  ·have:=S3 acc'.toList 0 fun i v hv=>by
    obtain⟨t',e⟩:=hacc.2 i v (by simpa using hv)
    exact⟨t',by rw[e];congr 1;omega⟩
   rw[Array.length_toList,hacc.1] at this
   refine Eq.mp (congrArg (fun l=>Vals l acc'.toList) (List.map_congr_left fun i _=>?_)) this
   show V.int _=V.int _
   congr 2;omega
  ·rw[Array.toArray_toList];exact hS
end
def Wo:PV->Option PV
 | .int k=>if 0<=k/\k<=10000 then some (.lst (iL ((List.range k.toNat).map fun(i:Nat)=>(i:Int)))) else none
 | _=>none
theorem UJ{X:Cx}{a:Expr}{fa:XE}{p p2 pos pos2:Pos}(hc:X.calm=true)(hgl:Gl X "list")(hml:X.mg "list" = none)(hgr:Gl X "range")(hmr:X.mg "range" = none)(ha:VE X a fa)(hs:starEach [a] X.env=[(false,eval a X.env)]:=by rfl)
  (he:starEach [.Call (.Name "range" p2) [a] [] pos2] X.env=(false,eval (.Call (.Name "range" p2) [a] [] pos2) X.env)::starEach [] X.env:=by rfl) (hpl:(backTo pos (starEach [] X.env)).any (·.1)=false:=by rfl) :
  VM X (.Call (.Name "list" p) [.Call (.Name "range" p2) [a] [] pos2] [] pos) (RK Wo fa):=
 PE.imp (QS hc hgl hml hgr hmr (Zb ha Zf hs) hs he hpl) fun σ H Q ⟨s,l,env,e,k⟩=>by
  obtain⟨x,e1,e2⟩:=Zg e
  refine⟨fun _=>False,s,[x],fun _ z=>z.elim,env,by show(fa s).bind _=_;rw[e1];rfl,fun vs H1 fp s1 i1 _=>?_⟩
  obtain⟨w,rfl,iw⟩:=i1.one_inv
  cases x with
  | int kk=>
   unfold Wo at e2
   simp only at e2
   split at e2
   case isFalse=>cases e2
   rename_i hk
   cases e2
   refine⟨kk.toNat,by rw[iw.int_inv.1];congr 2;omega,by omega,fun q hq=>?_⟩
   have hm:(List.range kk.toNat).map (fun(i:Nat)=>V.int (i:Int))=((List.range kk.toNat).map fun(i:Nat)=>(i:Int)).map V.int:=by rw[List.map_map];rfl
   rw[hm]
   refine k _ _ [q] (s1.trans (Same.new hq _)) (Is.lst Zq (Iss.ofInts _)) (by simp) fun r hr=>?_
   rw[List.mem_singleton.mp hr]
   exact⟨Same.off s1 hq,by rw[Zq];exact True.intro⟩
  | _=>cases e2
variable {K:PySem.W.Frag}
def HK(i j:Int):Prop:=i.natAbs.log2<67108863/\j.natAbs.log2<67108863
def HL(i j:Int):Prop:=j≠0/\j.natAbs.log2<9000
instance (i j:Int):Decidable (HK i j):=by unfold HK;infer_instance
instance (i j:Int):Decidable (HL i j):=by unfold HL;infer_instance
end VL
namespace VL
open PySem PySem.Spec PyProof.Rows L2
variable {K:PySem.W.Frag}
def Fm(K:PySem.W.Frag)(H0:Hp)(D:Uc):Out->Prop
 | .nx _=>∀σ' H',Same H0 H'->D.nx σ' H'
 | .rt l=>∀v fp H',Same H0 H'->Is K H' l v fp->fp.Nodup->(∀p∈fp,H0 p=none/\W5 (H' p))->D.rt v H'
 | _=>False
def Eu(K:PySem.W.Frag)(O:List Nat)(f:XS):TS:=fun D σ H=>∃H0 fps s out,Rel K O H0 fps s σ H/\f s=some out/\Fm K H0 D out
def M1(X:Cx)(O:List Nat)(st:List Stmt)(f:XS):Prop:=PSs X st (Eu X.K O f)
section
variable {X:Cx} {O O' W:List Nat} {st:Stmt} {rest:List Stmt} {f g:XS}
theorem VSs.r(h:VSs X O W rest f):M1 X O rest f:=PSs.imp h fun D σ H ⟨H0,fps,s,out,r,e,k⟩=>⟨H0,fps,s,out,r,e,by
 cases out with
 | nx s'=>exact fun fps' σ' H' r' _=>k σ' H' r'.same
 | rt l=>exact k
 | bk s'=>exact k.elim
 | ct s'=>exact k.elim⟩
theorem YF(h1:VS X O W st f)(h2:M1 X O rest g):M1 X O (st::rest) (Zn f g):=PSs.imp (Us h1 h2) fun D σ H ⟨H0,fps,s,out,r,e,k⟩=>by
 obtain⟨o1,e1,e⟩:=Zg e
 refine⟨H0,fps,s,o1,r,e1,?_⟩
 cases o1 with
 | nx s1=>exact fun fps1 σ1 H1 r1 _=>⟨H0,fps1,s1,out,r1,e,k⟩
 | bk s1=>cases e;exact k.elim
 | ct s1=>cases e;exact k.elim
 | rt l=>cases e;exact k
theorem M3(h:M1 X O' rest g)(hs:∀i∈O',i∈O:=by decide):M1 X O rest g:=PSs.imp h fun D σ H ⟨H0,fps,s,out,r,e,k⟩=>⟨H0,fps,s,out,r.weak hs,e,k⟩
end
theorem M4{N:List Str}{n:Nat}{O:List Nat}{vs:List V}{H:Hp}{ls:List PV}{fp:List Addr}(hO:∀i∈O,n<=i)(hl:vs.length=n)(hi:Iss K H ls vs fp):∃fps,Rel K O H fps (Yq N.length ls) (L2.start N vs) H:=by
 obtain⟨fps,p1,p2⟩:=hi.fps
 have hlen:=hi.len
 have hout:∀i:Nat,ls.length<=i->∀l,(Yq N.length ls)[i]?≠some (some l):=fun i hi l z=>by
  unfold Yq at z;rw[List.getElem?_append_right (by simpa using hi),List.getElem?_replicate] at z
  split at z<;>cases z
 refine⟨fps,Same.refl H,?_,fun i a z=>?_,fun i hne=>?_,fun i hi=>?_,fun i hi p hp=>?_,fun i hi j hj p hp=>?_⟩
 ·unfold Yq L2.start;simp[hlen]
 ·by_cases hil:i<ls.length
  ·unfold Yq at z
   rw[List.getElem?_append_left (by simpa using hil),List.getElem?_map] at z
   cases q:ls[i]? with
   | none=>rw[q] at z;cases z
   | some b=>
    rw[q] at z;cases z
    obtain⟨v,a1,b1⟩:=p1 i a q
    refine⟨v,?_,b1⟩
    unfold L2.start
    rw[List.getElem?_append_left (by simpa [hlen] using hil),List.getElem?_map,a1];rfl
  ·exact absurd z (hout i (by omega) a)
 ·by_cases hil:i<ls.length
  ·exact absurd (by unfold Yq;rw[List.getElem?_append_left (by simpa using hil),List.getElem?_map,List.getElem?_eq_getElem hil];rfl) (hne ls[i])
  ·exact p2 i (by omega)
 ·rw[p2 i (by have:=hO i hi;omega)];exact List.nodup_nil
 ·rw[p2 i (by have:=hO i hi;omega)] at hp;simp at hp
 ·rw[p2 i (by have:=hO i hi;omega)] at hp;simp at hp
theorem KC{N:List Str}{n:Nat}{O:List Nat}{f:XS}{vs:List V}{H:Hp}{Q:VK}{E:XK}(hO:∀i∈O,n<=i)(h:YJ K (Xi N.length f) n vs H Q E):Eu K O f { nx:=fun _ H'=>Q .non H',rt:=Q } (L2.start N vs) H:=by
 obtain⟨hl,ls,fp,l,hi,e,q⟩:=h
 obtain⟨out,e1,e2⟩:=Zg e
 obtain⟨fps,rel⟩:=M4 (N:=N) hO hl hi
 refine⟨H,fps,Yq N.length ls,out,rel,e1,?_⟩
 cases out with
 | nx s'=>
  cases e2
  exact fun σ' H' sm=>q .non H' [] sm Is.non List.nodup_nil fun p hp=>by simp at hp
 | rt v=>
  cases e2
  exact fun v fp H' sm i d n=>q v H' fp sm i d n
 | bk s'=>cases e2
 | ct s'=>cases e2
end VL
namespace L2
open PySem PySem.Spec PyProof.Rows
abbrev WJ:=Addr->Obj->List (List Se×V)->It
end L2
namespace VL
open PySem PySem.Spec PyProof.Rows L2
section
variable {K:PySem.W.Frag} {P:Program} {w:World} {mg:Str->Option Value} {base:Heap}
theorem IC{x:Str}{st:Stmt}{N ps:List Str}{k n:Nat}{O:List Nat}(m:Nat)(f:XS)(D:Def K mg x st)(S:ZH N ps (Zl st))
  (hb:∀(kV doc pm:Value)(an:Option Addr)(cdv ct:Value)(us:List Value),us.length=ps.length->bindArgs (PySem.W.fnOf x x (Y9 st) (Yb st) (Zl st) .none kV doc pm an cdv ct) ⟨us,[]⟩=pure (ps.zip us))
  (hn:ps.length=n) (hm:N.length=m) (hO:∀i∈O,n<=i)
  (hbody:∀(fa:Addr)(cdv:Value)(A:Around)(outer:List Env)(s:Shared)(H:Hp)(E:XK),Room k (A.deeper (envOfC x (Zl st) s.heap.objs.size fa cdv))->M1 (U0 Py P w K mg base N x (Zl st) fa cdv A outer s H E).nox O (Yb st) f) :
  Y2 P w K mg base x ps (YJ K (Xi m f) n) (k+1):=by
 subst hm
 refine D.cal S hb (fun vs H Q E h=>by rw[hn];exact h.1) fun fa cdv A outer s H vs Q E hr h=>⟨_,hbody fa cdv A outer s H E hr,KC hO h⟩
end
theorem ID{K:PySem.W.Frag}:RB K Ec OV:=fun H x y a b l fa fb ha hb e Q k=>by
 cases a with
 | lst m=>cases b with
  | lst n=>
   have e:(if m.length+n.length<=10000 then some (PV.lst (m++n)) else none)=some l:=e
   split at e
   case isFalse=>cases e
   rename_i hl
   cases e
   obtain⟨p,xs,fq,rfl,hp,hi,rfl⟩:=ha.lst_inv
   obtain⟨p',ys,fq',rfl,hp',hi',rfl⟩:=hb.lst_inv
   refine⟨p,p',xs,ys,rfl,rfl,hp,hp',by rw[hi.len,hi'.len];exact Nat.le_of_lt (lt_size hl),fun q hq=>?_⟩
   refine k _ _ (q::(fq++fq')) (Same.new hq _) (Is.lst Zq ((hi.append hi').mono (Same.new hq _))) fun r hr=>?_
   rcases List.mem_cons.mp hr with rfl | hr
   ·exact .inr (.inr hq)
   ·rcases List.mem_append.mp hr with hr | hr
    ·exact .inl (List.mem_cons_of_mem _ hr)
    ·exact .inr (.inl (List.mem_cons_of_mem _ hr))
  | _=>cases e
 | _=>cases e
theorem IE{X:Cx}{a b:Expr}{fa fb:XE}{pos:Pos}(ha:VE X a fa)(hb:VE X b fb):VE X (.BinOp a .Add b pos) (Ze OV fa fb):=Vh LZ ID ha hb
end VL
namespace PW
open PySem L2 VL
noncomputable def UK:XS:=(Zn (Zo 3 (eP (Ze Z3 (Ze YR (Ze Zx (Ze Z3 (Za 0) (eC (.int 999983))) (Za 1)) (Ze Zx (Za 1) (eC (.int 389)))) (eC (.int 999983)))))
  (Zn (Zo 3 (eP (Ze Z3 (Ze Zx (Ze Zx (Ze YR (Za 3) (Za 3)) (Ze Y4 (Za 0) (eC (.int 999983)))) (Za 1)) (eC (.int 999979)))))
  (Ya (eP (Ze Z3 (Ze Y4 (Za 3) (eC (.int 3))) (Za 2))))))
noncomputable def Zj:List PV->Option PV:=Xi 4 UK
noncomputable def X4:XS:=(Zn (Zo 3 (eP (Ze ZE (Za 1) (Ze Z3 (Za 0) (Zc Zw [(Za 1)])))))
  (Zn (Zo 0 (eP (Ze Y4 (Za 0) (Zc Zw [(Za 1)]))))
  (Zn (Zo 4 (Xt []))
  (Zn (Zo 5 (Xt []))
  (Zn (Yv [4,5,9] (ZI [(Za 3)]) (.one 6) (Zn (VF 4 (Ze Z3 (Za 0) (Ze Zx (Za 6) (eC (.int 1)))) (Za 6))
  (Zo 0 (eP (Ze Y4 (Za 0) (Ze Zx (Za 6) (eC (.int 1))))))))
  (Zn (Yv [4,5,9] (YZ [(eC (.int 1)),(Za 3)]) (.one 6) (Zn (YL 5 (eP (YT [(Za 6),(Ze Z3 (Za 0) (Za 6))])))
  (Zo 0 (eP (Ze Y4 (Za 0) (Za 6))))))
  (Zn (Zo 7 (eP (Ze YR (Zc TJ [(Ze RG (Za 3) (eC (.int 1)))]) (Ze Z3 (Za 0) (Ze Zx (Ze Yt (Za 2) (Za 3)) (eC (.int 2)))))))
  (Zn (Zo 0 (eP (Ze Y4 (Za 0) (Ze Zx (Ze Yt (Za 2) (Za 3)) (eC (.int 2))))))
  (Zn (Yv [4,5,9] (ZI [(Za 7)]) (.one 6) (Zn (Zo 8 (eP (Ze Z3 (Za 0) (Za 3))))
  (Zn (Zo 0 (eP (Ze Y4 (Za 0) (Za 3))))
  (Zn (YL 5 (eP (YT [(Za 8),(Ze Z3 (Ze Zx (Ze Zx (Za 8) (eC (.int 1))) (Ze Z3 (Za 0) (Ze Yt (Za 3) (eC (.int 1))))) (Za 3))])))
  (Zo 0 (eP (Ze Y4 (Za 0) (Ze Yt (Za 3) (eC (.int 1))))))))))
  (Zn (Zo 9 (Zz 1 [3] (ZI [(Za 3)]) (.one 0) ZL (Ze RM (Xt [(eC (.int 0))]) (Za 1))))
  (Zn (Yv [9] (YN (Za 5)) (.many [8,10]) (Zn (Zo 11 (eP (Ze Zx (Ze ZE (Ze ZE (Za 9) (Ze ZE (Za 4) (Za 8))) (Ze ZE (Za 4) (Za 10))) (eC (.int 1)))))
  (Zn (Yn 9 (Ze ZE (Za 4) (Za 8)) (Ze ZE (Za 4) (Za 10)) (Za 11))
  (Yn 9 (Ze ZE (Za 4) (Za 10)) (Ze ZE (Za 4) (Za 8)) (Za 11)))))
  (Ya (eP (Zc Yi [(Zz 1 [] (YN (Za 9)) (.one 0) ZL (Zc Yi [(Za 0)]))]))))))))))))))
noncomputable def X5:List PV->Option PV:=Xi 12 X4
noncomputable def QT:XS:=(Ya (eP (JP (xB (Ze UW (Za 1) (Zc Zw [(Za 0)]))) (Ze ZE (Za 0) (Za 1)) (eC (.int 0)))))
noncomputable def ZZ:List PV->Option PV:=Xi 2 QT
noncomputable def VR:XS:=(Zn (WG (xB (Ze (Xs false) (Ze Z3 (Zc ZZ [(Za 0),(eC (.int 0))]) (eC (.int 2))) (eC (.int 1)))) (Ya (Zc X5 [(Zc ZZ [(Za 0),(eC (.int 1))]),(Za 1),(Za 2)])) ZX)
  (Zn (Zo 3 (eP (Ze ZE (Za 1) (Zc Zj [(Zc ZZ [(Za 0),(eC (.int 0))]),(eC (.int 1)),(Zc Zw [(Za 1)])]))))
  (Zn (Zo 4 (Zz 1 [3] (ZI [(Za 3)]) (.one 0) ZL (Ze RM (Xt [(eC (.int 0))]) (Za 1))))
  (Zn (Zo 5 (eP (eC (.int 0))))
  (Zn (Yv [4] (YZ [(eC (.int 1)),(eC (.int 13))]) (.one 6) (Zn (Zo 7 (Zc ZZ [(Za 0),(Za 6)]))
  (Zn (Zo 8 (Zc Zj [(Za 7),(eC (.int 13)),(Za 3)]))
  (Zn (Zo 9 (eP (Ze Z3 (Ze Zx (Ze Zx (Za 8) (eC (.int 1))) (Zc Zj [(Za 7),(eC (.int 17)),(Zc TH [(eC (.int 1)),(Ze Yt (Za 3) (eC (.int 1)))])])) (Za 3))))
  (Zn (WG (xB (Ze UW (Za 6) (Za 3))) (Zn (Zo 8 (eP (Za 6)))
  (Zo 9 (Zc Zj [(Za 7),(eC (.int 5)),(Za 6)]))) ZX)
  (Zn (Zo 10 (eP (Ug (Ze RG (Za 3) (eC (.int 1))) (Ug (Ze UW (Za 5) (Za 2)) (Ze RG (Zc Zj [(Za 7),(eC (.int 3)),(eC (.int 3))]) (eC (.int 0)))))))
  (WG (R5 (xB (Ze UW (Za 6) (Za 3))) (xB (Za 10))) (Zn (Yn 4 (Za 8) (Za 9) (Ze Zx (Ze ZE (Ze ZE (Za 4) (Za 8)) (Za 9)) (eC (.int 1))))
  (Zn (Yn 4 (Za 9) (Za 8) (Ze ZE (Ze ZE (Za 4) (Za 8)) (Za 9)))
  (Zo 5 (eP (Ze Zx (Za 5) (eC (.int 1))))))) ZX)))))))
  (Zn (Zo 11 (Zc Zj [(Zc ZZ [(Za 0),(eC (.int 0))]),(eC (.int 7)),(Za 3)]))
  (Zn (Zo 4 (Zz 1 [11] (YN (Ze OV (W6 Y6 (Za 4) (Wz (Za 11)) Uk) (W6 Y6 (Za 4) Uk (Wz (Za 11))))) (.one 0) ZL (Ze W7 (W6 Y6 (Za 0) (Wz (Za 1)) Uk) (W6 Y6 (Za 0) Uk (Wz (Za 1))))))
  (Ya (eP (Zc Yi [(Zz 1 [] (YN (Za 4)) (.one 0) ZL (Zc Yi [(Za 0)]))]))))))))))
noncomputable def VU:List PV->Option PV:=Xi 12 VR
noncomputable def UL:XS:=(Zn (Zo 3 (Xt []))
  (Zn (Yv [3] (ZI [(Zc Zw [(Za 0)])]) (.one 4) (Zn (Zo 5 (eP (Ze ZE (Za 1) (Za 4))))
  (Zn (Yv [3] (ZI [(Zc Zw [(Za 0)])]) (.one 6) (Zn (Zo 7 (eP (Ze Yt (Ze ZE (Za 2) (Za 4)) (Ze ZE (Za 2) (Za 6)))))
  (Zo 5 (eP (Ze Yt (Za 5) (Ze YR (Ze ZE (Ze ZE (Za 0) (Za 4)) (Za 6)) (Za 7)))))))
  (YL 3 (eP (Za 5))))))
  (Ya (eP (Zc Yi [(Za 3)])))))
noncomputable def Vn:List PV->Option PV:=Xi 8 UL
end PW
namespace VL
open PySem PySem.W PyProof.Rows
section
variable {r:Nat->Int} {n:Nat}
def Dv(p:Array Nat)(i:Nat):Nat:=p.getD i 0
end
end VL
namespace VL
open PySem PySem.Spec PyProof.Rows L2
variable {K:PySem.W.Frag}
instance (x:Str) (n:Int):Decidable (MulOk x n):=by unfold MulOk;infer_instance
end VL
namespace VL
open PySem PySem.Spec PyProof.Rows L2
variable {K:PySem.W.Frag}
def KD(j i:Nat)(fk:XE):XS:=fun s=>(fk s).bind fun kk=>(MW kk).bind fun k=>(OU s i).bind fun m=>
 (gd (ZG m&&decide (0<=k/\k<10000/\m.length<=10000))).bind fun _=>(m[k.toNat]?).bind fun l=>some (.nx ((s.set i (some (.lst (m.take k.toNat++m.drop (k.toNat+1))))).set j (some l)))
theorem M5{m:List PV}(h:ZG m=true){k:Nat}{l:PV}(e:m[k]?=some l):Z4 l=true:=by
 rw[Xw,List.all_eq_true] at h
 exact h l (List.mem_of_getElem? e)
section
variable {X:Cx} {O:List Nat} {st:Stmt} {i j:Nat} {fk:XE}
theorem Fo(h:PS X st (Qt (Eb X.K "list" LX (Ur i) (Uv (tF X.K fk) OG)) (Ut j)))(hi:i∈O:=by decide)(hj:j∉O:=by decide):VS X O [j,i] st (KD j i fk):=PS.imp h fun D σ H ⟨H0,fps,s,out,r,e,k⟩=>by
 obtain⟨kk,e0,e⟩:=Zg e
 obtain⟨ki,ek,e⟩:=Zg e
 obtain⟨m,em,e⟩:=Zg e
 obtain⟨_,eg,e⟩:=Zg e
 obtain⟨l,el,e⟩:=Zg e
 rw[Vl ek] at e0;have em:=WH em;have hc:=VD eg;simp only[Bool.and_eq_true,decide_eq_true_eq] at hc
 obtain⟨pm,k0,k1,hlen⟩:=hc
 cases e
 have hij:i≠j:=fun z=>hj (z▸hi)
 obtain⟨p,xs,fq,hv,hp,hm,ef⟩:=r.lst_at hi em
 refine⟨.ref p,hv,EO hp,fun _=>False,s,_,fun _ z=>z.elim,r.env,e0,fun z H1 fz s1 i1 _=>?_⟩
 obtain⟨rfl,_⟩:=i1.int_inv
 have hm':=(hm.mono s1).pureEq pm
 obtain⟨y,f1,hy,iy,_⟩:=hm'.get el
 have hkl:ki.toNat<xs.length:=(List.getElem?_eq_some_iff.mp hy).1
 have:=Is.pure _ _ _ (M5 pm el) iy
 subst this
 refine⟨p,xs,ki,ki.toNat,y,rfl,rfl,s1 _ _ hp,by omega,by omega,?_,hy,?_⟩
 ·have q:(0:Int)<=ki/\ki<(xs.length:Int):=by omega
  simp[seqIndex?,show ¬ki<0 by omega,q.1,q.2]
 obtain⟨g1,a1,_⟩:=hm'.take ki.toNat
 obtain⟨g2,a2,_⟩:=hm'.drop (ki.toNat+1)
 have a1:=a1.pureEq (SQ _ pm)
 have a2:=a2.pureEq (SR _ pm)
 rw[List.eraseIdx_eq_take_drop_succ]
 have r2:=(r.grow s1).relist hi em ef hv (a1.append a2) (by simp) fun q hq=>by simp at hq
 have mu:=(r.grow s1).own i hi p (by rw[ef];exact List.mem_cons_self)
 have iy':Is X.K (L2.upd H1 p (.lst (xs.take ki.toNat++xs.drop (ki.toNat+1)))) l y []:=Is.tr (TK.upd' mu.2) _ _ _ (fun q hq=>by simp at hq) iy
 have r3:=r2.set (i:=j) iy' (fun z=>absurd z hj) (fun q _ _ p hp=>by simp at hp)
 refine k _ _ _ r3 fun q hq=>?_
 have hq1:q≠j:=fun z=>hq (by rw[z];simp)
 have hq2:q≠i:=fun z=>hq (by rw[z];simp)
 exact⟨by rw[List.getElem?_set,if_neg (Ne.symm hq1)],by rw[Z6 hq1];exact .inl (Z6 hq2)⟩
end
end VL
set_option maxHeartbeats 1000000
namespace VL
open PySem
def Rise(xs:Array Nat):Prop:=xs.toList.Pairwise (· < ·)
theorem Sk{xs:Array Nat}{i:Nat}(h:i<xs.size)(d:Nat):xs.getD i d=xs[i]:=by
 unfold Array.getD;rw[dif_pos h];rfl
theorem Rise.at{xs:Array Nat}(h:Rise xs){i k:Nat}(hi:i<k)(hk:k<xs.size)(d:Nat):xs.getD i d<xs.getD k d:=by
 have:=List.pairwise_iff_getElem.mp h i k (by simp;omega) (by simpa using hk) hi
 simp only[Array.getElem_toList] at this;unfold Array.getD;rw[dif_pos hk,dif_pos (show i<xs.size by omega)];exact this
theorem QU{xs:Array Nat}{j:Nat}(h:Rise xs):∀(fuel lo hi:Nat),lo<=hi->hi<=xs.size->hi-lo<=fuel->(∀i,i<lo->xs.getD i j<j)->(∀i,hi<=i->i<xs.size->j<=xs.getD i j)->
  SetTable.below.go xs j fuel lo hi<=xs.size/\(∀i,i<SetTable.below.go xs j fuel lo hi->xs.getD i j<j)/\∀i,SetTable.below.go xs j fuel lo hi<=i->i<xs.size->j<=xs.getD i j
 | 0,lo,hi,h1,h2,h3,h4,h5=>by
  unfold SetTable.below.go
  exact⟨by omega,h4,fun i hi'=>h5 i (by omega)⟩
 | fuel+1,lo,hi,h1,h2,h3,h4,h5=>by
  unfold SetTable.below.go
  by_cases q:lo<hi
  ·rw[if_pos q]
   simp only
   by_cases p:xs.getD ((lo+hi)/2) j<j
   ·rw[if_pos p]
    refine QU h fuel _ hi (by omega) h2 (by omega) (fun i hi'=>?_) h5
    by_cases e:i=(lo+hi)/2
    ·rw[e];exact p
    ·have:=h.at (show i<(lo+hi)/2 by omega) (show(lo+hi)/2<xs.size by omega) j
     omega
   ·rw[if_neg p]
    refine QU h fuel lo _ (by omega) (by omega) (by omega) h4 (fun i hi' hs=>?_)
    by_cases e:i=(lo+hi)/2
    ·rw[e];omega
    ·have:=h.at (show(lo+hi)/2<i by omega) hs j
     omega
  ·rw[if_neg q]
   exact⟨by omega,h4,fun i hi'=>h5 i (by omega)⟩
theorem Uo{xs:Array Nat}(h:Rise xs)(j:Nat):SetTable.below xs j<=xs.size/\(∀i,i<SetTable.below xs j->xs.getD i j<j)/\∀i,SetTable.below xs j<=i->i<xs.size->j<=xs.getD i j:=
 QU h xs.size 0 xs.size (Nat.zero_le _) (Nat.le_refl _) (by omega) (fun i hi=>by omega) (fun i h1 h2=>by omega)
theorem O1{xs:Array Nat}(h:Rise xs):SetTable.below xs 0=0:=by
 have hb:=Uo h 0
 by_cases q:SetTable.below xs 0=0
 ·exact q
 ·have:=hb.2.1 0 (by omega)
  omega
theorem O2{xs:Array Nat}(h:Rise xs){i:Nat}(hi:i<xs.size):SetTable.below xs (xs[i]+1)=i+1:=by
 have hb:=Uo h (xs[i]+1)
 have gi:∀d,xs.getD i d=xs[i]:=fun d=>Sk hi d
 have h1:i<SetTable.below xs (xs[i]+1):=by
  by_cases q:SetTable.below xs (xs[i]+1)<=i
  ·have:=hb.2.2 i q hi
   rw[gi] at this;omega
  ·omega
 by_cases q:SetTable.below xs (xs[i]+1)=i+1
 ·exact q
 ·have h2:=hb.2.1 (i+1) (by omega)
  have h3:=h.at (show i<i+1 by omega) (show i+1<xs.size by omega) (xs[i]+1)
  rw[gi] at h3;omega
structure KG(led:Bool)(t:SetTable):Prop where
 rise:Rise t.place
 dum:t.dummies = #[]
 led:t.led=led
theorem M6(led:Bool):KG led (SetTable.fresh 0 0 led):=⟨by unfold Rise SetTable.fresh;simp,rfl,rfl⟩
end VL
set_option maxHeartbeats 3200000
namespace VL
open PySem PySem.Spec PyProof.Rows
section
variable {prog:Program} {w:World} {A:Around} {E:Value->Shared->Prop} {s:Shared}
def Te(w:World):Bool:=!w.params.followText "set-order"
def T8(w:World):Obj:={ cls:=.type "set",dict:=none,data:=.set #[] 0 (.fresh 0 0 (Te w)) }
theorem KH(v:Value){Q:Value->Shared->Prop}(h:Q (.ref s.heap.objs.size) { s with heap:=s.heap.push (T8 w) }) :
  codeAny (model prog w) A (.call (.builtin "set.__new__") ⟨[.type "set",v],[]⟩) (wants Q E) s:=by
 refine codeAny_of_tree ?_
 refine wpAny_bind (m:=checkBuiltinCall "set.__new__" ⟨[.type "set",v],[]⟩) (wpAny_of_eq (F.newCall_set_1 v) (wpAny_pure ⟨plainId_quiet F.plain_set_new _,codeAny_builtin F.entry_set_new ?_⟩))
 rw[Around.under_plainId F.plain_set_new _]
 unfold Builtin.«set.__new__» Builtin.Frozenset.newClass
 have self:=sub_set_self;cases s
 simp only
 wp_walk
 refine wpAny_askSetting (wpAny_pure ?_)
 simp only[newObj]
 exact wpAny_bind (wpAny_alloc (wpAny_pure (wpAny_pure h)))
end
end VL
namespace VL
open PySem
theorem O3{k:Nat}(h:k<=7):SetTable.bits (k:Int)=k:=by
 unfold SetTable.bits;omega
theorem O4{led:Bool}{t:SetTable}(ht:KG led t)(hm:7<=t.mask){k:Nat}(hk:k<=7)(hn:k∉t.place.toList):t.freeSlot (k:Int)=some (k,false):=by
 have no:¬t.place[SetTable.below t.place k]?=some k:=fun z=>hn (by
  rw[<-Array.getElem?_toList] at z
  exact List.mem_of_getElem? z)
 have hh:SetTable.has t.dummies k=false:=by
  rw[ht.dum];unfold SetTable.has;simp
 have sl:t.slot k = .empty:=by
  unfold SetTable.slot
  simp only
  rw[if_neg (by simpa using no),hh];rfl
 have st:(t.probeStart (k:Int)).j=k:=by
  unfold SetTable.probeStart
  simp only
  rw[O3 hk]
  exact Nat.mod_eq_of_lt (by omega)
 have pr:t.probe (fun _=>(k:Int)+1) (k:Int) (t.probeStart (k:Int))=some (.empty k none):=by
  unfold SetTable.probe
  obtain⟨f,hf⟩:∃f,10*SetTable.turns t.mask=f+1:=⟨10*SetTable.turns t.mask-1,by unfold SetTable.turns;omega⟩
  rw[hf];unfold SetTable.probe.go;rw[st,sl];rfl
 unfold SetTable.freeSlot;rw[pr];rfl
end VL
namespace VL
open PySem PySem.Spec PyProof.Rows
structure TabR(led:Bool)(ks:List Nat)(es:Array (Int×Value))(t:SetTable):Prop where
 tab:KG led t
 place:t.place.toList=ks
 mask:t.mask=7
 plain:t.plain=true
 ents:IntsAre (es.toList.map (·.2)) (ks.map fun(k:Nat)=>(k:Int))
theorem S4:∀{us:List Value}{ns:List Int},IntsAre us ns->us.length=ns.length
 | _,_,.nil=>rfl
 | _,_,.cons n t h=>by simp[S4 h]
theorem Qe:∀{us:List Value}{ns:List Int},IntsAre us ns->∀(n:Int)(t:Tok),IntsAre (us++[.int n t]) (ns++[n])
 | _,_,.nil,n,t=>.cons n t .nil
 | _,_,.cons m u h,n,t=>.cons m u (Qe h n t)
theorem S5:∀{us:List Value}{ns:List Int},IntsAre us ns->∀v∈us,∃n t,v = .int n t/\n∈ns
 | _,_,.nil,v,h=>by simp at h
 | _,_,.cons m u h,v,hv=>by
  rcases List.mem_cons.mp hv with rfl | q
  ·exact⟨m,u,rfl,by simp⟩
  ·obtain⟨n,t,e,hn⟩:=S5 h v q
   exact⟨n,t,e,by simp[hn]⟩
section
variable {led:Bool} {ks:List Nat} {es:Array (Int×Value)} {t:SetTable}
theorem TabR.size(h:TabR led ks es t):es.size=ks.length:=by
 have:=S4 h.ents
 simpa using this
theorem TabR.psize(h:TabR led ks es t):t.place.size=ks.length:=by
 rw[<-h.place];simp
theorem TabR.fits(h:TabR led ks es t)(hl:ks.length<=4):t.fits es.size=true:=by
 unfold SetTable.fits SetTable.fill;rw[h.psize,h.size,h.mask,h.tab.dum]
 simp
 omega
theorem M7{xs:Array Nat}(hr:Rise xs){k:Nat}(h:∀a∈xs.toList,a<k):SetTable.below xs k=xs.size:=by
 have hb:=Uo hr k
 by_cases q:SetTable.below xs k=xs.size
 ·exact q
 ·have lt:SetTable.below xs k<xs.size:=by omega
  have h1:=hb.2.2 _ (Nat.le_refl _) lt
  rw[Sk lt] at h1
  have:=h xs[SetTable.below xs k] (by simp)
  omega
theorem S6{α:Type}(xs:Array α)(x:α):SetTable.insertAt xs xs.size x=xs.push x:=by
 unfold SetTable.insertAt
 simp
theorem KI(h:TabR led ks es t){k:Nat}(hk:∀a∈ks,a<k)(k7:k<=7)(hl:ks.length<=3)(x:Value):layNew t es (k:Int) x=(es.push ((k:Int),x),{ t with place:=t.place.push k },false,false):=by
 have hn:k∉t.place.toList:=fun z=>by
  rw[h.place] at z
  have:=hk k z
  omega
 have hb:SetTable.below t.place k=t.place.size:=M7 h.tab.rise (by rw[h.place];exact hk)
 have hh:SetTable.has t.dummies k=false:=by
  rw[h.tab.dum];unfold SetTable.has;simp
 have pt:t.put k=({ t with place:=t.place.push k },t.place.size):=by
  unfold SetTable.put;simp only[hb,hh,S6];rfl
 have ee:SetTable.insertAt es t.place.size ((k:Int),x)=es.push ((k:Int),x):=by
  rw[h.psize,<-h.size,S6]
 have ft:({ t with place:=t.place.push k }:SetTable).fits (es.push ((k:Int),x)).size=true:=by
  unfold SetTable.fits SetTable.fill;simp only[Array.size_push,h.psize,h.size,h.mask,h.tab.dum]
  simp
  omega
 unfold layNew
 rw[O4 h.tab (by rw[h.mask];omega) k7 hn]
 simp only[pt,ee];unfold SetTable.orStandIn;rw[ft];rfl
theorem TabR.next(h:TabR led ks es t){k:Nat}(hk:∀a∈ks,a<k)(tg:Tok):TabR led (ks++[k]) (es.push ((k:Int),.int k tg)) { t with place:=t.place.push k }:=by
 refine⟨⟨?_,h.tab.dum,h.tab.led⟩,by simp[h.place],h.mask,h.plain,?_⟩
 ·show List.Pairwise (· < ·) (t.place.push k).toList
  rw[Array.toList_push,List.pairwise_append]
  refine⟨h.tab.rise,by simp,fun a ha b hb=>?_⟩
  rw[List.mem_singleton.mp hb]
  exact hk a (by rw[<-h.place];exact ha)
 ·rw[Array.toList_push,List.map_append,List.map_append]
  exact Qe h.ents _ tg
end
theorem O5{k:Nat}(h:k<=7):hashInt (k:Int)=k:=by
 have:k=0\/k=1\/k=2\/k=3\/k=4\/k=5\/k=6\/k=7:=by omega
 rcases this with rfl | rfl | rfl | rfl | rfl | rfl | rfl | rfl<;>decide +kernel
section
variable {prog:Program} {w:World} {A:Around} {E:Value->Shared->Prop} {s:Shared}
def SetR(prog:Program)(w:World)(led:Bool)(h:Heap)(a:Addr)(ks:List Nat):Prop:=
 ∃o es ep t,h.get? a=some o/\o.ExactSet/\o.data = .set es ep t/\ElemsOf (intKind prog w) es.toList/\TabR led ks es t
theorem SetR.keep{led:Bool}{h h':Heap}{a:Addr}{ks:List Nat}(x:SetR prog w led h a ks)(k:∀o,h.get? a=some o->h'.get? a=some o):SetR prog w led h' a ks:=by
 obtain⟨o,es,ep,t,h1,r⟩:=x
 exact⟨o,es,ep,t,k o h1,r⟩
theorem KJ{a:Addr}{ks:List Nat}{k:Nat}{tg:Tok}{led:Bool}{Q:Bool->Shared->Prop}(hS:SetR prog w led s.heap a ks)(hk:∀a∈ks,a<k)(k7:k<=7)(hl:ks.length<=3)
  (h:∀h',Heap.SameBut a s.heap h'->SetR prog w led h' a (ks++[k])->Q true { s with heap:=h' }):wpAny (model prog w) A (setAddHashed a (.int k tg) ((intKind prog w).hash k)) Q E s:=by
 obtain⟨o,es,ep,t,ho,hx,hd,he,ht⟩:=hS
 have hf:=ht.fits (by omega)
 have hz:=ht.size
 have hb:es.size<scanBound:=by
  have:scanBound=4096:=rfl
  omega
 have hki:(intKind prog w).is (k:Int) (.int k tg)=true:=intKind_is _ _ _ _
 have hsc:(Value.int (k:Int) tg).scannable=true:=rfl
 unfold setAddHashed setAddHashedIn
 refine wpAny_holding (wpAny_bind (wpAny_setState_of ho hd hf ?_))
 simp only[byScan_of hsc hb he,if_true];unfold setAddByScan
 refine wpAny_bind (wpAny_bind (wpAny_rule (wpAny_bind (wpAny_setScan_of hki ho hd hf he ?_))))
 have q:List.findIdx? (fun e=>(intKind prog w).is (k:Int) e.2) es.toList=none:=by
  rw[List.findIdx?_eq_none_iff];intro e hm
  obtain⟨n,u,e1,hn⟩:=S5 ht.ents e.2 (List.mem_map_of_mem hm)
  obtain⟨j,hj,rfl⟩:=List.mem_map.mp hn
  have:=hk j hj
  cases z:(intKind prog w).is (k:Int) e.2 with
  | false=>rfl
  | true=>
   rw[e1] at z
   have:=(intKind prog w).inj _ _ _ z (intKind_is prog w (j:Int) u)
   omega
 rw[q]
 have hh:(intKind prog w).hash (k:Int)=(k:Int):=O5 k7
 rw[hh];simp only[KI ht hk k7 hl]
 refine wpAny_bind (wpAny_pure ?_)
 have ht':=ht.next hk tg
 have hf':=ht'.fits (by simp;omega)
 have he':ElemsOf (intKind prog w) (es.push ((k:Int),.int k tg)).toList:=by
  have:=he.push hki hsc
  rw[hh] at this;rw[Array.toList_push];exact this
 refine wpAny_ite_split (fun _=>?_) (fun z=>absurd ht.plain z)
 refine wpAny_bind ?_
 rw[hashByValue_scannable 8 hsc]
 refine wpAny_pure ?_
 have tf:({ t with place:=t.place.push k }:SetTable).tooFull=false:=by
  unfold SetTable.tooFull SetTable.fill;simp only[Array.size_push,ht.psize,ht.mask,ht.tab.dum]
  simp
  omega
 have hg:(s.heap.update a (Obj.putSet (es.push ((k:Int),.int k tg)) { t with place:=t.place.push k })).get? a=some { o with data:=.set (es.push ((k:Int),.int k tg)) (ep+1) { t with place:=t.place.push k } }:=by
  have:=Heap.get?_update_self (Obj.putSet (es.push ((k:Int),.int k tg)) { t with place:=t.place.push k }) ho (by rw[putSet_of _ _ hd];rfl)
  rw[putSet_of _ _ hd] at this;exact this
 have fin:=h _ (Heap.SameBut.update s.heap a (Obj.putSet (es.push ((k:Int),.int k tg)) { t with place:=t.place.push k })) ⟨_,_,_,_,hg,hx,rfl,he',ht'⟩
 have pk:plainKind (Value.int (k:Int) tg)=true:=rfl
 simp only[pk,if_true]
 refine wpAny_bind (wpAny_storeSet_of ho hd ?_ (by
  rw[Array.size_push,hz,sizeLine_eq];omega))
 refine wpAny_ite_split (fun z=>absurd (show(!false&&({ t with place:=t.place.push k }:SetTable).tooFull)=true from z) (by rw[tf];decide)) (fun _=>?_)
 exact wpAny_pure (wpAny_pure fin)
end
section
variable {prog:Program} {w:World} {A:Around} {R:Result->Shared->Prop} {I a:Addr} {fp wr:List Addr} {G:Array GenState->Array GenState->Prop} {P:Nat->Value->Prop} {St:Nat->Shared->Prop} {led:Bool} {ns:List Nat}
theorem Qf(W:WalksS prog w A.in1 I fp wr G ns.length P St)(ha:a∉fp)(hv:∀i v,P i v->∃t,v = .int ((ns.getD i 0:Nat):Int) t)(hr:ns.Pairwise (· < ·))(h7:∀k∈ns,k<=7)(h4:ns.length<=4) :
  ∀(m i:Nat)(s:Shared),i+m=ns.length->St i s->SetR prog w led s.heap a (ns.take i)->
   (∀s',Moved (a::wr) G s s'->SetR prog w led s'.heap a ns->R (.ok (.ret .none)) s')->
   codeAny (model prog w) A (.builtin "set.update.loop" ⟨[.ref a,.ref I],[]⟩) R s
 | 0,i,s,e,st,hS,k=>by
  have hi:i=ns.length:=by omega
  subst hi
  have ha':a∉wr:=fun z=>ha (W.sub _ z)
  rw[List.take_length] at hS
  refine codeAny_builtin PyProof.Rows.F.entry_set_update_loop ?_
  rw[Around.under_plainId PyProof.Rows.F.plain_set_update_loop _]
  refine wpAny_bind (m:=pyNext (.ref I)) (W.done s _ _ st fun s' mv=>?_)
  exact wpAny_pure (k s' (mv.mono fun b z=>List.mem_cons_of_mem _ z) (hS.keep fun o z=>mv.heap a o ha' z))
 | m+1,i,s,e,st,hS,k=>by
  have ha':a∉wr:=fun z=>ha (W.sub _ z)
  have hi:i<ns.length:=by omega
  refine codeAny_builtin PyProof.Rows.F.entry_set_update_loop ?_
  rw[Around.under_plainId PyProof.Rows.F.plain_set_update_loop _]
  refine wpAny_bind (m:=pyNext (.ref I)) (W.item i s _ _ (by omega) st fun v s' hp st' mv=>?_)
  obtain⟨t,rfl⟩:=hv i v hp
  have gd:ns.getD i 0=ns[i]:=by simp[hi]
  rw[gd]
  refine wpAny_bind (m:=holding [Value.int ((ns[i]:Nat):Int) t] (setAdd a (.int ((ns[i]:Nat):Int) t))) (wpAny_holding ?_)
  unfold setAdd
  refine wpAny_holding (wpAny_bind ((intKind prog w).pyHash (k:=((ns[i]:Nat):Int)) (intKind_is _ _ _ _) ?_))
  have hS':SetR prog w led ({ s' with toks:=s'.toks+1 }:Shared).heap a (ns.take i):=hS.keep fun o z=>mv.heap a o ha' z
  refine KJ (s:={ s' with toks:=s'.toks+1 }) hS' (fun b hb=>?_) (h7 _ (List.getElem_mem hi)) (by rw[List.length_take];omega) fun h' sb hS2=>?_
  ·obtain⟨j,hj,rfl⟩:=List.getElem_of_mem hb
   rw[List.length_take] at hj;rw[List.getElem_take]
   exact List.pairwise_iff_getElem.mp hr j i (by omega) hi (by omega)
  ·have hS3:SetR prog w led h' a (ns.take (i+1)):=by
    rw[List.take_succ_eq_append_getElem hi];exact hS2
   refine wpAny_pure ⟨plainId_quiet PyProof.Rows.F.plain_set_update_loop _,Qf W ha hv hr h7 h4 m (i+1) _ (by omega) (W.frame _ s' _ _ st' (Nat.le_succ _) fun b z o e=>?_) hS3 fun s'' mv2 hS4=>?_⟩
   ·rw[sb.2 b fun q:b=a=>ha (by rw[<-q];exact z)];exact e
   ·refine k s'' (Moved.trans W.gtrans ((mv.mono fun b z=>List.mem_cons_of_mem _ z).then_heap (Nat.le_succ _) fun b o z e=>?_) mv2) hS4
    rw[sb.2 b fun q:b=a=>z (by rw[q];exact List.mem_cons_self)];exact e
end
section
variable {prog:Program} {w:World} {A:Around} {E:Value->Shared->Prop} {s:Shared}
theorem M8{l:Addr}{items:Array Value}{ns:List Nat}{Q:Value->Shared->Prop}(hh:A.handled=none)(hl:s.heap.IsTuple l items)(hi:IntsAre items.toList (ns.map fun(k:Nat)=>(k:Int)))(hr:ns.Pairwise (· < ·))(h7:∀k∈ns,k<=7)(h4:ns.length<=4)
  (h:∀(h':Heap)(tk:Nat),SetR prog w (Te w) h' s.heap.objs.size ns->(∀b o,b<s.heap.objs.size->s.heap.get? b=some o->h'.get? b=some o)->Q (.ref s.heap.objs.size) { s with heap:=h',toks:=tk }) :
  wpAny (model prog w) A (call (.type "set") [.ref l]) Q E s:=by
 have hsz:items.size=ns.length:=by
  have:=S4 hi
  simpa using this
 obtain⟨c,tl,hmro⟩:=F.called_set.mro
 have x1:=F.called_set.made;have x2:=F.called_set.sub;have x3:=F.called_set.notType;have x4:=F.called_set.canCreate
 have x5:=F.typeCall_set_1 (.ref l)
 refine wpAny_call (codeAny_of_tree ?_)
 refine wpAny_pure ⟨Code.quiet_builtin _ (by decide +kernel),codeAny_builtin F.entry_type_call ?_⟩
 rw[Around.under_plain (weight_type_call_type "set" [.ref l] []) rfl]
 repeat (any_goals (first | assumption | wp_step))
 refine codeAny_mono (KH (.ref l) (E:=E) (Q:=fun v s₁=>v = .ref s.heap.objs.size/\s₁={ s with heap:=s.heap.push (T8 w) }) ⟨rfl,rfl⟩) fun r s₁ hr'=>?_
 cases r with
 | error e=>exact hr'
 | ok fl=>
  cases fl with
  | ret v=>
   obtain⟨rfl,rfl⟩:=hr'
   have g0:(s.heap.push (T8 w)).get? s.heap.objs.size=some (T8 w):=Heap.get?_push_size _ rfl
   have ty:Shared.TypeIs { s with heap:=s.heap.push (T8 w) } (.ref s.heap.objs.size) "set":=⟨_,g0,rfl⟩
   have y1:=F.called_set.init.lookup
   have y2:=F.called_set.init.bind (.ref s.heap.objs.size)
   repeat (any_goals (first | assumption | wp_step))
   refine codeAny_mono (codeAny_call_builtin (R:=wants (fun r s₂=>r = .none/\∃h' tk,s₂={ s with heap:=h',toks:=tk }/\SetR prog w (Te w) h' s.heap.objs.size ns/\∀b o,b<s.heap.objs.size->s.heap.get? b=some o->h'.get? b=some o) E) F.called_set.init.plain F.entry_set_init (check_set_init_1 ty ?_)) fun r₂ s₂ hr₂=>?_
   ·obtain⟨ol,g1,g2,nl,g3⟩:=hl
    obtain⟨oc,od,odt,os⟩:=ol
    simp only at g2 g3
    subst g2 g3
    have g4:(s.heap.push (T8 w)).get? l=some { cls:=.type "tuple",dict:=od,data:=.seq items nl,slots:=os }:=Heap.get?_push_of_some _ g1
    have g5:(s.heap.push (T8 w)).IsTuple l items:=⟨_,g4,rfl,nl,rfl⟩
    have u1:=F.sub_tuple_set;have u2:=F.sub_tuple_frozenset
    have u3:(Value.type "tuple"==Value.type "dict")=false:=by decide
    have u4:(s.heap.push (T8 w)).get? s.heap.objs.size=some { cls:=.type "set",dict:=none,data:=.set #[] 0 (.fresh 0 0 (Te w)) }:=g0
    unfold Builtin.«set.__init__» noKeywords Builtin.Frozenset.updateFrom
    generalize hPI:pyIter=PI
    wp_walk
    subst hPI
    refine wpAny_pyIter_tuple g5 (wpAny_bind (wpAny_runValue ?_))
    have ll:l<s.heap.objs.size:=Heap.lt_size g1
    have hq:A.in1.in1.in1.handled=none:=by simp[hh]
    have ne:l≠(s.heap.push (T8 w)).objs.size:=by rw[Heap.size_push];exact Nat.ne_of_lt (Nat.lt_succ_of_lt ll)
    have nf:s.heap.objs.size∉[(s.heap.push (T8 w)).objs.size,l]:=by
     rw[Heap.size_push];simp only[List.mem_cons,List.not_mem_nil,or_false,not_or]
     exact⟨Nat.ne_of_lt (Nat.lt_succ_self _),Nat.ne_of_gt ll⟩
    have ga:((s.heap.push (T8 w)).push { cls:=.type "tuple_iterator",data:=.fields #[.ref l,.int 0 0] }).get? s.heap.objs.size=some (T8 w):=Heap.get?_push_of_some _ g0
    have WW:=(Walks.tuple (prog:=prog) (w:=w) hq _ l ne items).toS
    rw[hsz] at WW
    refine Qf (led:=Te w) (ns:=ns) WW nf (fun i v hv=>?_) hr h7 h4 ns.length 0 _ (by omega) ⟨⟨_,Heap.get?_push_size _ rfl,rfl,rfl⟩,g5.push _⟩ ?_ fun s' mv z=>?_
    ·have lv:i<items.size:=(Array.getElem?_eq_some_iff.mp hv).1
     obtain⟨t,e⟩:=IntsAre.int_at hi i v (by rw[Array.getElem?_toList];exact hv)
     refine⟨t,e.trans ?_⟩
     congr 1
     rw[hsz] at lv;simp[lv]
    ·exact⟨_,#[],0,_,ga,⟨rfl,rfl,rfl⟩,rfl,fun e he=>by simp at he,M6 _,rfl,rfl,rfl,.nil⟩
    ·obtain⟨h',g',d',tk',os'⟩:=s'
     have eg:g'=s.gens:=mv.gens
     have ed:d'=s.drawn:=mv.drawn
     have eo:os'=s.os:=mv.os
     subst eg ed eo
     refine wpAny_pure (wpAny_pure ⟨rfl,h',tk',rfl,z,fun b o lb e=>?_⟩)
     refine mv.heap b o ?_ (Heap.get?_push_of_some _ (Heap.get?_push_of_some _ e))
     rw[Heap.size_push];simp only[List.mem_cons,List.not_mem_nil,or_false,not_or]
     exact⟨Nat.ne_of_lt lb,Nat.ne_of_lt (Nat.lt_succ_of_lt lb)⟩
   ·cases r₂ with
    | error e=>exact hr₂
    | ok f₂=>
     cases f₂ with
     | ret r=>
      obtain⟨rfl,h',tk,rfl,z1,z2⟩:=hr₂
      repeat (any_goals (first | assumption | wp_step))
      exact h _ _ z1 z2
     | _=>exact hr₂.elim
  | _=>exact hr'.elim
end
end VL
namespace VL
open PySem PySem.W PyProof.Rows L2
theorem TR{α:Type}:∀{l:List α}{p:Nat}(h:p<l.length),(l[p]::l.eraseIdx p).Perm l
 | a::l,0,h=>List.Perm.refl _
 | a::l,p+1,h=>by
  have:=TR (l:=l) (p:=p) (by simpa using h)
  simp only[List.getElem_cons_succ,List.eraseIdx_cons_succ]
  exact(List.Perm.swap _ _ _).trans (this.cons a)
theorem N7{α:Type}(next:Nat->Nat):∀(fuel k:Nat)(left:List α)(out:Array α),left.length=fuel->∃l,(pickOrder.go next fuel k left out).toList=out.toList++l/\l.Perm left
 | 0,k,left,out,h=>⟨[],by unfold pickOrder.go;simp,by rw[List.length_eq_zero_iff.mp h]⟩
 | fuel+1,k,left,out,h=>by
  have hx:next k%left.length<left.length:=Nat.mod_lt _ (by omega)
  obtain⟨l,e1,e2⟩:=N7 next fuel (k+1) (left.eraseIdx (next k%left.length)) (out.push left[next k%left.length]) (by rw[List.length_eraseIdx_of_lt hx];omega)
  refine⟨left[next k%left.length]::l,?_,?_⟩
  ·unfold pickOrder.go
   rw[List.getElem?_eq_getElem hx]
   simp only
   rw[e1]
   simp
  ·exact(e2.cons _).trans (TR hx)
theorem M9{α:Type}(next:Nat->Nat)(xs:Array α):(pickOrder next xs).toList.Perm xs.toList:=by
 obtain⟨l,e1,e2⟩:=N7 next xs.size 0 xs.toList #[] (by simp)
 unfold pickOrder;rw[e1]
 simpa using e2
def V6(w:World)(a:Addr)(ep:Nat)(es:Array (Int×Value)):Array (Int×Value):=if w.params.followText "set-order" = true then pickOrder (w.params.setOrder a ep) es else es
theorem P1(w:World)(a:Addr)(ep:Nat)(es:Array (Int×Value)):(V6 w a ep es).toList.Perm es.toList:=by
 unfold V6
 split
 ·exact M9 _ _
 ·exact List.Perm.refl _
theorem UM(w:World)(a:Addr)(ep:Nat)(es:Array (Int×Value)):(V6 w a ep es).size=es.size:=by
 have:=(P1 w a ep es).length_eq
 simpa using this
def Pm(w:World)(t:SetTable)(i:Nat):Nat:=if w.params.followText "set-order" = true then 0 else match i with
 | 0=>0
 | j+1=>t.place.getD j 0+1
def IsSetIter(h:Heap)(it a:Addr)(st i n ep:Nat):Prop:=∃o,h.get? it=some o/\o.cls = .type "set_iterator"/\o.data = .fields #[.int st 0,.int i 0,.ref a,.int n 0,.int ep 0]
theorem slot_setit_next:Slot "set_iterator" "__next__" "set_iterator.__next__":=
 .of (owner:="set_iterator") (n:="__next__") (by rw[typeLookup_type,builtinLookup_eq_fast];kernel_rfl) (by decide +kernel) (by decide +kernel) (by decide +kernel)
  (by first | exact .inl (by decide +kernel) | exact .inr (by decide +kernel)) (by rw[isSubtype_type];kernel_rfl)
theorem WL:entryFor table "set_iterator.__next__" = some Builtin.«set_iterator.__next__»:=entryFor_of_tree (by kernel_rfl)
theorem TU:Manifest.owners.lookup (String.ofList ['r','o','t','a','r','e','t','i','_','t','e','s'].reverse)=some Manifest.sig_set_iterator:=by kernel_rfl
theorem W8(a:Value):argsOk "set_iterator.__next__" ⟨[a],[]⟩:=by
 unfold argsOk;rw[signature?_of (id:="set_iterator.__next__") (n:=['_','_','t','x','e','n','_','_']) (o:=['r','o','t','a','r','e','t','i','_','t','e','s']) (by kernel_rfl) TU];kernel_rfl
theorem W9:Slot "set_iterator" "__iter__" "set_iterator.__iter__":=
 .of (owner:="set_iterator") (n:="__iter__") (by rw[typeLookup_type,builtinLookup_eq_fast];kernel_rfl) (by decide +kernel) (by decide +kernel) (by decide +kernel)
  (by first | exact .inl (by decide +kernel) | exact .inr (by decide +kernel)) (by rw[isSubtype_type];kernel_rfl)
theorem T9(a:Value):argsOk "set_iterator.__iter__" ⟨[a],[]⟩:=by
 unfold argsOk;rw[signature?_of (id:="set_iterator.__iter__") (n:=['_','_','r','e','t','i','_','_']) (o:=['r','o','t','a','r','e','t','i','_','t','e','s']) (by kernel_rfl) TU];kernel_rfl
theorem S7:entryFor table "set.__iter__" = some Builtin.«frozenset.__iter__»:=
 entryFor_alias (id':="frozenset.__iter__") (by kernel_rfl) rfl (by decide +kernel) (by kernel_rfl)
section
variable {prog:Program} {w:World} {A:Around} {E:Value->Shared->Prop} {s:Shared} {it a:Addr} {i ep:Nat} {o:Obj} {es:Array (Int×Value)} {t:SetTable} {ks:List Nat}
theorem IsSetIter.typeIs{st i n ep:Nat}(x:IsSetIter s.heap it a st i n ep):s.TypeIs (.ref it) "set_iterator":=let⟨o,ho,hc,_⟩:=x;⟨o,ho,hc⟩
theorem IsSetIter.at{h h':Heap}{st i n ep:Nat}(x:IsSetIter h it a st i n ep)(e:∀o,h.get? it=some o->h'.get? it=some o):IsSetIter h' it a st i n ep:=let⟨o,ho,r⟩:=x;⟨o,e _ ho,r⟩
theorem Tf{Q:Bool->Shared->Prop}(h:Q (w.params.followText "set-order") s):wpAny (model prog w) A setsByText Q E s:=wpAny_bind (wpAny_askSetting (wpAny_pure h))
theorem S8{Q:Option (Value×Nat)->Shared->Prop}(ho:s.heap.get? a=some o)(hd:o.data = .set es ep t)(ht:TabR (Te w) ks es t)(h4:ks.length<=4)(hi:i<=es.size)
  (h:Q (((V6 w a ep es)[i]?).map fun e=>(e.2,Pm w t (i+1))) s):wpAny (model prog w) A (setNext a (Pm w t i) i ep) Q E s:=by
 have hf:=ht.fits h4;unfold setNext
 refine wpAny_bind (wpAny_setState_of ho hd hf ?_)
 refine wpAny_bind (Tf ?_)
 cases q:w.params.followText "set-order" with
 | true=>
  have hO:V6 w a ep es=pickOrder (w.params.setOrder a ep) es:=by unfold V6;rw[if_pos q]
  have hs:∀j,Pm w t j=0:=fun j=>by unfold Pm;rw[if_pos q]
  rw[hO,hs] at h;rw[hs]
  refine wpAny_ite_split (fun _=>?_) (fun z=>absurd rfl z)
  refine wpAny_ite_split (fun z=>absurd z (by simp)) (fun _=>?_)
  refine wpAny_bind ?_
  unfold setWalk
  refine wpAny_bind (wpAny_setState_of ho hd hf ?_)
  refine wpAny_bind (Tf ?_)
  rw[q]
  refine wpAny_ite_split (fun _=>?_) (fun z=>absurd rfl z)
  exact wpAny_bind (wpAny_askSetting (wpAny_pure (wpAny_pure h)))
 | false=>
  have hO:V6 w a ep es=es:=by unfold V6;rw[if_neg (by rw[q];decide)]
  have hL:t.led=true:=by rw[ht.tab.led];unfold Te;rw[q];rfl
  have hb:SetTable.below t.place (Pm w t i)=i:=by
   unfold Pm
   rw[if_neg (by rw[q];decide)]
   cases i with
   | zero=>exact O1 ht.tab.rise
   | succ j=>
    have lj:j<t.place.size:=by rw[ht.psize,<-ht.size];omega
    simp only
    rw[Sk lj]
    exact O2 ht.tab.rise lj
  rw[hO] at h
  refine wpAny_ite_split (fun z=>absurd z (by decide)) (fun _=>?_)
  refine wpAny_ite_split (fun z=>absurd (show(!t.plain&&decide (es.size>1))=true from z) (by rw[ht.plain];simp)) (fun _=>?_)
  refine wpAny_bind ?_
  refine wpAny_ite_split (fun z=>absurd z (by rw[hL];simp)) (fun _=>wpAny_pure ?_)
  simp only[hb]
  by_cases z:i<es.size
  ·have lp:i<t.place.size:=by rw[ht.psize,<-ht.size];omega
   rw[Array.getElem?_eq_getElem z] at h ⊢
   rw[Array.getElem?_eq_getElem lp];simp only[Option.map_some] at h
   have:Pm w t (i+1)=t.place[i]+1:=by
    unfold Pm
    rw[if_neg (by rw[q];decide)]
    simp only
    rw[Sk lp]
   rw[this] at h
   exact wpAny_pure h
  ·rw[Array.getElem?_eq_none (by omega)] at h ⊢
   exact wpAny_pure h
theorem RN{e:Int×Value}{Q:Option Value->Shared->Prop}(hit:IsSetIter s.heap it a (Pm w t i) i es.size ep)(ho:s.heap.get? a=some o)(hd:o.data = .set es ep t)(ht:TabR (Te w) ks es t)(h4:ks.length<=4)(hx:(V6 w a ep es)[i]?=some e)
  (hQ:∀h',IsSetIter h' it a (Pm w t (i+1)) (i+1) es.size ep->Heap.SameBut it s.heap h'->Q (some e.2) { s with heap:=h' }):wpAny (model prog w) A (pyNext (.ref it)) Q E s:=by
 obtain⟨oi,hoi,hc,hdi⟩:=id hit
 have hi:i<es.size:=by
  have:=(Array.getElem?_eq_some_iff.mp hx).1
  rwa [UM] at this
 unfold pyNext
 refine wpAny_bind (wpAny_attempt (wpAny_callSpecial?_slot (name:=Str.ofString "__next__") hit.typeIs slot_setit_next
  (wpAny_call_entry slot_setit_next hit.typeIs WL ?_ (W8 _))))
 unfold Builtin.«set_iterator.__next__»
 refine wpAny_bind (wpAny_pure ?_)
 refine wpAny_bind (wpAny_fieldsOf hoi hdi ?_)
 simp only
 refine wpAny_bind (wpAny_setEntries_of ho hd (ht.fits h4) ?_)
 rw[if_neg (by simp)];simp only[Int.toNat_natCast]
 refine wpAny_bind (S8 ho hd ht h4 (Nat.le_of_lt hi) ?_)
 rw[hx];simp only[Option.map_some]
 refine wpAny_bind (wpAny_setField hoi hdi (by simp) ?_)
 have g1:(s.heap.update it (Obj.mapFields (·.setIfInBounds 0 (rawInt (Pm w t (i+1)))))).get? it=some (oi.mapFields (·.setIfInBounds 0 (rawInt (Pm w t (i+1))))):=Heap.get?_update_self _ hoi (Obj.isFreed_of_fields (Obj.data_mapFields hdi _))
 have d1:=Obj.data_mapFields hdi (·.setIfInBounds 0 (rawInt (Pm w t (i+1))))
 refine wpAny_bind (wpAny_setField g1 d1 (by simp) ?_)
 refine wpAny_pure ⟨_,rfl,wpAny_pure (hQ _ ⟨_,Heap.get?_update_self _ g1 (Obj.isFreed_of_fields (Obj.data_mapFields d1 _)),(Obj.cls_mapFields ..).trans ((Obj.cls_mapFields ..).trans hc),?_⟩ ((Heap.SameBut.update ..).trans (Heap.SameBut.update ..)))⟩
 rw[Obj.data_mapFields d1];simp[rawInt]
theorem QV{Q:Option Value->Shared->Prop}(hh:A.handled=none)(hit:IsSetIter s.heap it a (Pm w t es.size) es.size es.size ep)(ho:s.heap.get? a=some o)(hd:o.data = .set es ep t)(ht:TabR (Te w) ks es t)(h4:ks.length<=4)
  (hQ:∀h',Heap.ExtBut it s.heap h'->Q none { s with heap:=h' }):wpAny (model prog w) A (pyNext (.ref it)) Q E s:=by
 obtain⟨oi,hoi,hc,hdi⟩:=id hit
 unfold pyNext
 refine wpAny_bind (wpAny_attempt (wpAny_callSpecial?_slot (name:=Str.ofString "__next__") hit.typeIs slot_setit_next
  (wpAny_call_entry slot_setit_next hit.typeIs WL ?_ (W8 _))))
 unfold Builtin.«set_iterator.__next__»
 refine wpAny_bind (wpAny_pure ?_)
 refine wpAny_bind (wpAny_fieldsOf hoi hdi ?_)
 simp only
 refine wpAny_bind (wpAny_setEntries_of ho hd (ht.fits h4) ?_)
 rw[if_neg (by simp)];simp only[Int.toNat_natCast]
 refine wpAny_bind (S8 ho hd ht h4 (Nat.le_refl _) ?_)
 rw[Array.getElem?_eq_none (by rw[UM];exact Nat.le_refl _)]
 simp only[Option.map_none]
 refine wpAny_bind (wpAny_setField hoi hdi (by simp) ?_)
 show wpAny _ _ (newExc (.type "StopIteration") [] >>= _) _ _ _
 refine wpAny_bind ?_
 simp only[newExc,newTuple]
 refine wpAny_bind (wpAny_newObj_type ?_ (by size_fits))
 refine wpAny_bind (m:=firstArgMember _ _) (wpAny_of_eq (a:=Value.none) (by first | rfl | (simp only[firstArgMember];rfl)) ?_)
 refine wpAny_newObj_type ?_ (by size_fits)
 simp only[raiseNew]
 refine wpAny_bind (wpAny_handled ?_)
 rw[show A.in1.handled=none from hh]
 refine wpAny_bind (wpAny_pure (wpAny_throw ?_))
 refine wpAny_bind (wpAny_isInstance (T:="StopIteration") (b:=true) ⟨_,Heap.get?_push_size _ rfl,rfl⟩ isSubtype_stop ?_)
 exact wpAny_pure (hQ _ (((Heap.SameBut.update ..).extBut.push _).push _))
theorem O6{st i n ep:Nat}{Q:Value->Shared->Prop}(hit:IsSetIter s.heap it a st i n ep)(h:Q (.ref it) s):wpAny (model prog w) A (pyIter (.ref it)) Q E s:=by
 obtain⟨b,hb⟩:∃b,entryFor table "set_iterator.__iter__" = some b/\∀(A:Around)(E:Value->Shared->Prop)(s:Shared)(v:Value)(Q:PySem.Fin->Shared->Prop),Q (.done (.ret v)) s->wpAny (model prog w) A (b ⟨[v],[]⟩) Q E s:=
  ⟨Builtin.«dict_keyiterator.__iter__»,entryFor_alias (id':="dict_keyiterator.__iter__") (by kernel_rfl) rfl (by decide +kernel) (by kernel_rfl),fun A E s v Q h=>by
   show wpAny _ _ (ret v) _ _ s
   exact wpAny_pure h⟩
 refine wpAny_pyIter_slot hit.typeIs W9 (wpAny_call_entry W9 hit.typeIs hb.1 (hb.2 _ _ _ _ _ ?_) (T9 _))
 exact⟨_,rfl,"set_iterator",_,hit.typeIs,slot_setit_next.lookup,h⟩
theorem KN{Q:Value->Shared->Prop}(ho:s.heap.get? a=some o)(hx:o.ExactSet)(hd:o.data = .set es ep t)(ht:TabR (Te w) ks es t)(h4:ks.length<=4)
  (hQ:Q (.ref s.heap.objs.size) { s with heap:=s.heap.push { cls:=.type "set_iterator",data:=.fields #[.int 0 0,.int 0 0,.ref a,.int es.size 0,.int ep 0] } }):wpAny (model prog w) A (pyIter (.ref a)) Q E s:=by
 have hT:s.TypeIs (.ref a) "set":=⟨o,ho,hx.1⟩
 have hf:=ht.fits h4
 refine wpAny_pyIter_slot hT PySem.F.slot_set_iter (wpAny_call_entry PySem.F.slot_set_iter hT S7 ?_ (PySem.F.args_set_iter_1 _))
 unfold Builtin.«frozenset.__iter__» Builtin.Frozenset.slot0
 refine wpAny_bind (wpAny_bind (wpAny_pure (wpAny_pure ?_)))
 refine wpAny_bind (wpAny_bind (wpAny_setEntries_of ho hd hf (wpAny_pure ?_)))
 unfold setDrawn
 refine wpAny_bind (wpAny_bind (wpAny_setState_of ho hd hf (wpAny_bind (Tf (wpAny_pure ?_)))))
 refine wpAny_ite_split (fun z=>absurd (show(!(w.params.followText "set-order")&&(!t.plain&&decide (es.size>1)))=true from z) (by rw[ht.plain];simp)) (fun _=>?_)
 refine wpAny_bind (wpAny_pure ?_)
 unfold setEpoch
 refine wpAny_bind (wpAny_bind (wpAny_setState_of ho hd hf (wpAny_pure ?_)))
 refine wpAny_bind (wpAny_newObj_type (wpAny_pure ⟨_,rfl,"set_iterator",_,⟨_,Heap.get?_push_size _ rfl,rfl⟩,slot_setit_next.lookup,?_⟩))
 simpa [rawInt] using hQ
theorem KO{Q:Bool->Shared->Prop}(hT:s.TypeIs (.ref a) "set")(h:Q false s):wpAny (model prog w) A (Builtin.List.listLengthHint (.ref a)) Q E s:=by
 unfold Builtin.List.listLengthHint
 refine wpAny_bind (wpAny_specialOf hT PySem.F.slot_set_len.lookup ?_)
 generalize hid:("set.__len__" : String)=id0
 wp_delta
 rw[show splitId id0=some ("set","__len__") from by subst hid;decide +kernel]
 subst hid
 refine wpAny_bind (wpAny_isInstance (T:="set") (b:=true) hT (by rw[isSubtype_type];kernel_rfl) ?_)
 refine wpAny_ite_split (fun hab=>absurd hab (by decide)) (fun _=>?_)
 refine wpAny_ite_split (fun _=>?_) (fun hab=>absurd (by decide +kernel) hab)
 refine wpAny_bind (wpAny_typeOf hT ?_)
 exact wpAny_pure h
end
section
variable {prog:Program} {w:World} {a:Addr} {ep:Nat} {o:Obj} {es:Array (Int×Value)} {t:SetTable} {ks:List Nat}
theorem La{A:Around}{it:Addr}(hh:A.handled=none)(hne:a≠it)(hd:o.data = .set es ep t)(ht:TabR (Te w) ks es t)(h4:ks.length<=4) :
  Walks prog w A it [it,a] [it] es.size (fun i v=>∃e,(V6 w a ep es)[i]?=some e/\v=e.2) (fun i h=>IsSetIter h it a (Pm w t i) i es.size ep/\h.get? a=some o) where
 sub:=fun b hb=>by
  rw[List.mem_singleton.mp hb];exact List.mem_cons_self
 frame:=fun _ _ _ st hk=>⟨st.1.at fun o e=>hk _ (by simp) o e,hk a (by simp) o st.2⟩
 item:=fun i s' Q E hi st hQ=>by
  have hi':i<(V6 w a ep es).size:=by rw[UM];exact hi
  refine RN st.1 st.2 hd ht h4 (e:=(V6 w a ep es)[i]) (by simp[hi']) fun h' hit sb=>?_
  exact hQ _ h' s'.toks ⟨(V6 w a ep es)[i],by simp[hi'],rfl⟩ ⟨hit,sb.extBut a o hne st.2⟩ fun b o hb e=>sb.extBut b o (fun h=>hb (by simp[h])) e
 done:=fun s' Q E st hQ=>QV hh st.1 st.2 hd ht h4 fun h' eb=>hQ h' s'.toks fun b o hb e=>eb b o (fun h=>hb (by simp[h])) e
 self:=fun _ _ _ _ st hQ=>O6 st.1 hQ
theorem IF(hx:o.ExactSet)(hd:o.data = .set es ep t)(ht:TabR (Te w) ks es t)(h4:ks.length<=4) :
  KdlSrc prog w "set" a a es.size (fun i v=>∃e,(V6 w a ep es)[i]?=some e/\v=e.2) (fun h=>h.get? a=some o) where
 type:=fun _ hm=>⟨o,hm,hx.1⟩
 there:=fun _ hm=>⟨Heap.lt_size hm,Heap.lt_size hm⟩
 keep:=fun _ _ hm hk=>hk a (.inl rfl) o hm
 notList:=by decide
 notTuple:=by decide
 hint:=fun _ _ _ _ hm hq=>KO ⟨o,hm,hx.1⟩ hq
 iter:=fun A s hh hm=>⟨_,fun i h=>IsSetIter h s.heap.objs.size a (Pm w t i) i es.size ep/\h.get? a=some o,(fun _ _ hq=>KN hm hx hd ht h4 hq),La hh (Nat.ne_of_lt (Heap.lt_size hm)) hd ht h4,⟨⟨_,Heap.get?_push_size _ rfl,rfl,by
  have:Pm w t 0=0:=by unfold Pm;split<;>rfl
  rw[this];rfl⟩,Heap.get?_push_of_some _ hm⟩⟩
end
def KP:Value->Int
 | .int n _=>n
 | _=>0
theorem P2:∀{us:List Value}{ns:List Int},IntsAre us ns->us.map KP=ns
 | _,_,.nil=>rfl
 | _,_,.cons n t h=>by rw[List.map_cons,P2 h];rfl
theorem Qg:∀{us:List Value},(∀v∈us,∃n t,v=Value.int n t)->IntsAre us (us.map KP)
 | [],_=>.nil
 | u::us,h=>by
  obtain⟨n,t,rfl⟩:=h u (by simp)
  exact .cons n t (Qg fun v hv=>h v (by simp[hv]))
section
variable {prog:Program} {w:World} {A:Around} {E:Value->Shared->Prop} {s:Shared}
theorem O7{a:Addr}{ep:Nat}{o:Obj}{es:Array (Int×Value)}{t:SetTable}{ks:List Nat}{Q:Value->Shared->Prop}(hh:A.handled=none)(ho:s.heap.get? a=some o)(hx:o.ExactSet)(hd:o.data = .set es ep t)(ht:TabR (Te w) ks es t)(h4:ks.length<=4)
  (h:∀(D:Addr)(h1 h':Heap)(tk:Nat)(out:Array Value)(ns':List Int)(e:Nat),(∀b o,s.heap.get? b=some o->h1.get? b=some o)->h1.objs.size<=D->(∀b o,h1.get? b=some o->h'.get? b=some o)->h'.get? D=some (seqObj "list" out e)->
   IntsAre out.toList ns'->ns'.Perm (ks.map fun(k:Nat)=>(k:Int))->ns'.Pairwise (·<=·)->Q (.ref D) { s with heap:=h',toks:=tk }) :
  wpAny (model prog w) A (call (.builtin "sorted") [.ref a]) Q E s:=by
 refine Calls.call_function_entry kind_sorted plain_sorted entry_sorted (args_sorted1 _) ?_
 unfold Builtin.«sorted»
 refine wpAny_bind (m:=checkCount "sorted" 1 1 _) (wpAny_pure ?_)
 refine wpAny_bind (kdu_collect (A:=A.in1) (IF hx hd ht h4) hh ho (by rw[ht.size,sizeLine_eq];omega) fun h1 tk acc hk hacc=>?_)
 have hvs:acc.toList=(V6 w a ep es).toList.map (·.2):=by
  apply List.ext_getElem?
  intro i;rw[List.getElem?_map]
  by_cases q:i<acc.size
  ·have e1:acc.toList[i]?=some acc[i]:=by simp[q]
   obtain⟨e,e2,e3⟩:=hacc.2 i acc[i] (by simp[q])
   rw[e1,Array.getElem?_toList,e2,e3];rfl
  ·have e1:acc.toList[i]?=none:=by simp;omega
   have e2:(V6 w a ep es).toList[i]?=none:=by
    have:=hacc.1
    have:=UM w a ep es
    simp;omega
   rw[e1,e2];rfl
 have hp:acc.toList.Perm (es.toList.map (·.2)):=by
  rw[hvs]
  exact(P1 w a ep es).map _
 have hI:IntsAre acc.toList (acc.toList.map KP):=Qg fun v hv=>by
  obtain⟨n,u,e,_⟩:=S5 ht.ents v (hp.mem_iff.mp hv)
  exact⟨n,u,e⟩
 have hN:(acc.toList.map KP).Perm (ks.map fun(k:Nat)=>(k:Int)):=by
  rw[<-P2 ht.ents]
  exact hp.map KP
 have hlen:acc.toList.length<=4:=by
  have:=hN.length_eq
  simp only[List.length_map] at this;omega
 refine wpAny_bind (wpAny_newList ?_ (by rw[sizeLine_eq];omega))
 have hoL:(h1.push (seqObj "list" acc.toList.toArray 0)).get? h1.objs.size=some (seqObj "list" acc.toList.toArray 0):=Heap.get?_push_size _ rfl
 show wpAny _ _ _ _ _ { s with heap:=h1.push (seqObj "list" acc.toList.toArray 0),toks:=tk }
 refine wpAny_bind (wpAny_holding (wpAny_call_entry slot_list_sort ⟨_,hoL,rfl⟩ entry_list_sort (list_sort_tree hoL hI (by omega) fun out ns' a1 a2 a3=>⟨_,rfl,?_⟩) (args_list_sort _)))
 obtain⟨e,he⟩:=sortedHeap_at (out:=out) hoL
 refine wpAny_pure ⟨_,rfl,h h1.objs.size h1 _ tk out ns' e hk (Nat.le_refl _) (fun b o q=>?_) he a1 (a2.trans hN) a3⟩
 rw[sortedHeap_old (Nat.ne_of_lt (Heap.lt_size q)) (by rw[size_push'];exact Nat.lt_succ_of_lt (Heap.lt_size q))]
 exact Heap.get?_push_of_some _ q
end
def DH(K:PySem.W.Frag)(ta:TA):TE:=fun σ H Q=>ta σ H fun vs H1=>∃(p:Addr) (ns:List Nat),vs=[.ref p]/\SqT K H1 p (ns.map fun(k:Nat)=>V.int (k:Int))/\ns.Pairwise (· < ·)/\(∀k∈ns,k<=7)/\ns.length<=4/\∀l,H1 l=none->Q (.ref l) (upd H1 l (.lst (ns.map fun(k:Nat)=>V.int (k:Int))))
theorem S9(ns:List Nat):(ns.map fun(k:Nat)=>V.int (k:Int))=(ns.map fun(k:Nat)=>(k:Int)).map V.int:=by
 rw[List.map_map];rfl
section
variable {X:Cx} {a:Expr} {ta:TA} {p p2 pos pos2:Pos}
theorem QX(hc:X.calm=true)(hgl:Gl X "sorted")(hml:X.mg "sorted" = none)(hgr:Gl X "set")(hmr:X.mg "set" = none)(ha:PA X [a] ta)(hs:starEach [a] X.env=[(false,eval a X.env)]:=by rfl)
  (he:starEach [.Call (.Name "set" p2) [a] [] pos2] X.env=(false,eval (.Call (.Name "set" p2) [a] [] pos2) X.env)::starEach [] X.env:=by rfl) (hpl:(backTo pos (starEach [] X.env)).any (·.1)=false:=by rfl) :
  PE X (.Call (.Name "sorted" p) [.Call (.Name "set" p2) [a] [] pos2] [] pos) (DH X.K ta):=by
 intro pins s σ H Q I h
 refine wpAny_Call_Name_kw (Wy I hgl hml (u:=.builtin "sorted") (by decide +kernel) ?_)
 refine PyProof.Rows.callWith_builtin1 (id:="sorted") ?_ he hpl
 rw[he]
 show wpAny _ _ (spliced ((false,eval (.Call (.Name "set" p2) [a] [] pos2) X.env)::[])) _ _ s
 refine Calls.spliced_cons ?_
 refine Call_ (Wy I hgr hmr (u:=.type "set") (by decide +kernel) (PyProof.Rows.callWith_type1 (YO (ha pos2 pins s σ H _ I h) fun us s1 ⟨vs,H1,I1,r1,q1⟩=>?_) hs rfl))
 obtain⟨b,ns,e,hq,hr,h7,h4,q⟩:=q1
 subst e
 cases r1 with
 | cons r rr=>
  cases rr;cases r
  obtain⟨its,rv,pl,hz⟩:=I1.tuple hq
  rw[S9] at rv
  refine M8 (items:=its.toArray) (ns:=ns) (I.ok.hd hc) pl (Ss rv) hr h7 h4 fun h' tk hS hk=>Calls.spliced_nil ?_
  obtain⟨o,es,ep,t,ho,hx,hd,he',ht⟩:=hS
  refine O7 (I.ok.hd hc) ho hx hd ht h4 fun D h1 h2 tk2 out ns' e k1 k2 k3 k4 a1 a2 a3=>?_
  have I2:Inv X pins σ H1 { s1 with heap:=h1,toks:=tk2 }:=I1.kept (t':=tk2) fun b o z=>k1 b o (hk b o (Heap.lt_size z) z)
  have en:ns'=ns.map fun(k:Nat)=>(k:Int):=by
   rw[S2 a2 a3]
   refine(S2 (List.Perm.refl _) ?_).symm
   refine List.pairwise_map.mpr (hr.imp fun z=>?_)
   omega
  subst en
  refine⟨.ref D,_,I2.laid (t':=tk2) k3 k2 (show ObjOk X.prog X.w _ _ _ (.lst (ns.map fun(k:Nat)=>V.int (k:Int))) from⟨?_,out.toList,e,?_,?_⟩),rfl,q D (I2.hok.fresh k2)⟩
  ·rw[List.length_map,sizeLine_eq];omega
  ·rw[S9];exact WZ a1
  ·rw[Array.toArray_toList];exact k4
end
def IG(ns:List Int):Bool:=decide (ns.Pairwise (· < ·))&&ns.all (fun k=>decide (0<=k)&&decide (k<=7))&&decide (ns.length<=4)
def Fp:PV->Option PV
 | .tup l=>(Xx l).bind fun ns=>if IG ns=true then some (.lst (iL ns)) else none
 | _=>none
theorem QY{X:Cx}{a:Expr}{fa:XE}{p p2 pos pos2:Pos}(hc:X.calm=true)(hgl:Gl X "sorted")(hml:X.mg "sorted" = none)(hgr:Gl X "set")(hmr:X.mg "set" = none)(ha:VE X a fa)(hs:starEach [a] X.env=[(false,eval a X.env)]:=by rfl)
  (he:starEach [.Call (.Name "set" p2) [a] [] pos2] X.env=(false,eval (.Call (.Name "set" p2) [a] [] pos2) X.env)::starEach [] X.env:=by rfl) (hpl:(backTo pos (starEach [] X.env)).any (·.1)=false:=by rfl) :
  VM X (.Call (.Name "sorted" p) [.Call (.Name "set" p2) [a] [] pos2] [] pos) (RK Fp fa):=
 PE.imp (QX hc hgl hml hgr hmr (Zb ha Zf hs) hs he hpl) fun σ H Q ⟨s,l,env,e,k⟩=>by
  obtain⟨x,e1,e2⟩:=Zg e
  refine⟨fun _=>False,s,[x],fun _ z=>z.elim,env,by show(fa s).bind _=_;rw[e1];rfl,fun vs H1 fp s1 i1 _=>?_⟩
  obtain⟨v,rfl,iv⟩:=i1.one_inv
  cases x with
  | tup m=>
   unfold Fp at e2
   obtain⟨ns,e3,e4⟩:=Zg e2
   split at e4
   case isFalse=>cases e4
   rename_i hr
   cases e4;have em:=Xd e3;subst em
   obtain⟨p,xs,rfl,hp,hi⟩:=iv.tup_inv
   obtain⟨rfl,rfl⟩:=hi.iL
   unfold IG at hr;simp only[Bool.and_eq_true,decide_eq_true_eq,List.all_eq_true] at hr
   have en:ns=(ns.map Int.toNat).map fun(k:Nat)=>(k:Int):=by
    rw[List.map_map]
    conv=>lhs;rw[<-List.map_id ns]
    refine List.map_congr_left fun z hz=>?_
    have:=hr.1.2 z hz
    show z=((z.toNat:Nat):Int)
    omega
   have ev:ns.map V.int=(ns.map Int.toNat).map fun(k:Nat)=>V.int (k:Int):=by
    rw[S9,<-en]
   refine⟨p,ns.map Int.toNat,rfl,?_,?_,?_,by rw[List.length_map];exact hr.2,fun q hq=>?_⟩
   ·rw[<-ev];exact .inl (.inl hp)
   ·refine List.pairwise_map.mpr (hr.1.1.imp_of_mem fun{y z} hy hz h=>?_)
    have:=hr.1.2 y hy
    have:=hr.1.2 z hz
    omega
   ·intro j hj
    obtain⟨z,hz,rfl⟩:=List.mem_map.mp hj
    have:=hr.1.2 z hz
    omega
   ·rw[<-ev]
    refine k _ _ [q] (s1.trans (Same.new hq _)) (Is.lst Zq (Iss.ofInts _)) (by simp) fun r hr'=>?_
    rw[List.mem_singleton.mp hr']
    exact⟨Same.off s1 hq,by rw[Zq];exact True.intro⟩
  | _=>cases e2
end VL
namespace VX
open PySem PySem.Spec PyProof.Rows L2
structure Eff(fs ch:List Addr)(h h':Heap):Prop where
 keep:∀b o,h.get? b=some o->b∉ch->b∉fs->h'.get? b=some o
 slot:∀b o,h.get? b=some o->b∉ch->b∈fs->∃sl,h'.get? b=some { o with slots:=sl }
 there:∀b o,h.get? b=some o->∃o',h'.get? b=some o'
theorem Eff.trans{fs ch:List Addr}{h h1 h2:Heap}(x:Eff fs ch h h1)(y:Eff fs ch h1 h2):Eff fs ch h h2:=
 ⟨fun b o e hc hf=>y.keep b o (x.keep b o e hc hf) hc hf,fun b o e hc hf=>by
  obtain⟨sl,e1⟩:=x.slot b o e hc hf
  obtain⟨sl2,e2⟩:=y.slot b _ e1 hc hf
  exact⟨sl2,e2⟩,fun b o e=>by
  obtain⟨o1,e1⟩:=x.there b o e
  exact y.there b o1 e1⟩
theorem Eff.mono{fs ch ch':List Addr}{h h':Heap}(x:Eff fs ch h h')(hs:∀b∈ch,b∈ch'):Eff fs ch' h h':=
 ⟨fun b o e hc hf=>x.keep b o e (fun z=>hc (hs b z)) hf,fun b o e hc hf=>x.slot b o e (fun z=>hc (hs b z)) hf,x.there⟩
theorem Eff.field{fs:List Addr}{h:Heap}{a:Addr}{o:Obj}{vs:Array Value}{f:Array Value->Array Value}(ha:h.get? a=some o)(hd:o.data = .fields vs):Eff fs [a] h (h.update a (Obj.mapFields f)):=
  ⟨fun b u e hc _=>by rw[Heap.get?_update_other _ _ (fun z=>hc (by rw[z];exact .head _))];exact e,
   fun b u e hc _=>⟨u.slots,by rw[Heap.get?_update_other _ _ (fun z=>hc (by rw[z];exact .head _))];exact e⟩,
   fun b u e=>by
    by_cases q:a=b
    · subst q;exact⟨_,Heap.get?_update_self _ ha (Obj.isFreed_of_fields (Obj.data_mapFields hd f))⟩
    · exact⟨u,by rw[Heap.get?_update_other _ _ q];exact e⟩⟩
theorem Eff.funs{fs:List Addr}{ch:List Addr}{h h' base:Heap}{l:List Env}(x:Eff fs ch h h')(hl:h.FunFrames base l)(hc:∀b∈ch,∀o,h.get? b=some o->∃vs,o.data = .fields vs):h'.FunFrames base l:=
 hl.of_keeps fun b o e hn=>by
  have hb:b∉ch:=fun z=>by obtain⟨vs,q⟩:=hc b z o e;exact hn vs q
  by_cases hf:b∈fs
  ·obtain⟨sl,q⟩:=x.slot b o e hb hf;exact⟨_,q,rfl⟩
  ·exact⟨o,x.keep b o e hb hf,rfl⟩
section
variable {M:Model} {A:Around} {E:Value->Shared->Prop} {s:Shared}
theorem Ra{base:Heap}{env:Env}{outer:List Env}{L e:Addr}{oe:Obj}{vs:Array Value}{head:Value}{hadNext:Bool}{Q:Unit->Shared->Prop}
  (hfr:A.frames=some (env::outer)) (hl:s.heap.FunFrames base (env::outer)) (hf:env.frame=some L)
  (he:s.heap.get? e=some oe) (hd:oe.data = .fields vs) (hsz:1<vs.size)
  (h:∀h' T,s.heap.objs.size<=T->h'.get? e=some (oe.mapFields (·.setIfInBounds 1 (.ref T)))->(∃oT ts,h'.get? T=some oT/\oT.data = .fields ts/\ts[3]?=some (rawInt L))->Eff ((env::outer).filterMap (·.frame)) [e] s.heap h'->Q () { s with heap:=h' }) :
  wpAny M A (do let a <-frameOf env;let pl <-entryPlaceOf L hadNext;let b <-EntryCells.newEntry head a .none (rawInt L) .none pl;setField (.ref e) 1 b) Q E s:=by
 have hene:e∉(env::outer).filterMap (·.frame):=fun hm=>by
  obtain⟨_,o,ho,hnf⟩:=hl.mem hm
  rw[he] at ho;injection ho with ho;subst ho;exact hnf vs hd
 refine wpAny_bind (wpAny_frameOf_fun hfr hl hf fun h₁ hs₁=>?_)
 refine wpAny_bind (wpAny_entryPlaceOf fun pl hpl=>?_)
 unfold EntryCells.newEntry newFields
 refine wpAny_bind (wpAny_newObj_type ?_ (hpl.sizeOk5 _ _ _ _ _))
 have he₁:h₁.get? e=some oe:=(hs₁.2.1 e hene).trans he
 have he₂:=Heap.get?_push_of_some (h:=h₁) { cls:=.type "traceback",dict:=none,data:=.fields ([head,.ref L,.none,rawInt L,.none]++(if pl.isEmpty then List.replicate 6 Value.none else pl)).toArray } he₁
 have hsize:h₁.objs.size=s.heap.objs.size:=hs₁.1
 have p1:=Heap.get?_update_self (Obj.mapFields (·.setIfInBounds 1 (Value.ref h₁.objs.size))) he₂ (Obj.isFreed_of_fields (Obj.data_mapFields hd _))
 have p2:=(Heap.get?_update_other (h₁.push { cls:=.type "traceback",dict:=none,data:=.fields ([head,.ref L,.none,rawInt L,.none]++(if pl.isEmpty then List.replicate 6 Value.none else pl)).toArray })
  (Obj.mapFields (·.setIfInBounds 1 (Value.ref h₁.objs.size))) (Nat.ne_of_lt (Heap.lt_size he₁))).trans (Heap.get?_push_size h₁ rfl)
 have p3:Eff ((env::outer).filterMap (·.frame)) [e] s.heap ((h₁.push { cls:=.type "traceback",dict:=none,data:=.fields ([head,.ref L,.none,rawInt L,.none]++(if pl.isEmpty then List.replicate 6 Value.none else pl)).toArray }).update e (Obj.mapFields (·.setIfInBounds 1 (Value.ref h₁.objs.size)))):=
  Eff.trans (h1:=h₁) ⟨fun b o q _ hb=>(hs₁.2.1 b hb).trans q,fun b o q _ _=>hs₁.2.2 b o q,fun b o q=>by obtain⟨sl,z⟩:=hs₁.2.2 b o q;exact⟨_,z⟩⟩ (Eff.trans (h1:=h₁.push _) ⟨fun b o q _ _=>Heap.get?_push_of_some _ q,fun b o q _ _=>⟨o.slots,Heap.get?_push_of_some _ q⟩,fun b o q=>⟨o,Heap.get?_push_of_some _ q⟩⟩ (Eff.field he₂ hd))
 refine wpAny_setField he₂ hd hsz (h _ h₁.objs.size (by omega) p1 ⟨_,_,p2,rfl,?_⟩ p3)
 simp
def KQ(h:Heap)(e:Addr)(cls:Value)(dd:Option Addr):Prop:=∃oe vs,h.get? e=some oe/\oe.cls=cls/\oe.dict=dd/\oe.data = .fields vs/\vs[1]?=some .none
def Lb(h:Heap)(e:Addr)(cls:Value)(dd:Option Addr)(T:Addr)(fl:Value):Prop:=
 ∃oe vs oT ts,h.get? e=some oe/\oe.cls=cls/\oe.dict=dd/\oe.data = .fields vs/\vs[1]?=some (.ref T)/\T≠e/\h.get? T=some oT/\oT.data = .fields ts/\ts[3]?=some fl
theorem Vo(o:Obj)(f:Array Value->Array Value):(o.mapFields f).dict=o.dict:=by
 unfold Obj.mapFields
 split<;>rfl
variable {base:Heap} {env:Env} {outer:List Env} {L e T:Addr} {cls fl:Value} {dd:Option Addr} {Q:Unit->Shared->Prop}
theorem Ew(hfr:A.frames=some (env::outer))(hl:s.heap.FunFrames base (env::outer))(hf:env.frame=some L)(x:KQ s.heap e cls dd)
  (h:∀h' T,s.heap.objs.size<=T->Lb h' e cls dd T (rawInt L)->Eff ((env::outer).filterMap (·.frame)) [e] s.heap h'->Q () { s with heap:=h' }):wpAny M A (noteFrame (.ref e) env) Q E s:=by
 obtain⟨oe,vs,he,hc,hdd,hd,h1⟩:=x
 unfold noteFrame;simp only[hf]
 refine wpAny_bind (wpAny_field he hd h1 ?_)
 rw[if_neg (by decide)]
 have hsz:=(Array.getElem?_eq_some_iff.mp h1).1
 refine Ra hfr hl hf he hd hsz fun h' T hT p1 ⟨oT,ts,p2,p3,p4⟩ p5=>h h' T hT ⟨_,_,oT,ts,p1,(Obj.cls_mapFields _ _).trans hc,(Vo _ _).trans hdd,Obj.data_mapFields hd _,by simp[hsz],?_,p2,p3,p4⟩ p5
 exact Nat.ne_of_gt (Nat.lt_of_lt_of_le (Heap.lt_size he) hT)
theorem HM(hfr:A.frames=some (env::outer))(hl:s.heap.FunFrames base (env::outer))(hf:env.frame=some L)(x:Lb s.heap e cls dd T .none)
  (h:∀h' T',s.heap.objs.size<=T'->Lb h' e cls dd T' (rawInt L)->Eff ((env::outer).filterMap (·.frame)) [e,T] s.heap h'->Q () { s with heap:=h' }):wpAny M A (noteFrame (.ref e) env) Q E s:=by
 obtain⟨oe,vs,oT,ts,he,hc,hdd,hd,h1,hTe,hT,hdT,h3⟩:=x
 unfold noteFrame;simp only[hf]
 refine wpAny_bind (wpAny_field he hd h1 ?_)
 rw[if_pos (show(Value.ref T != Value.none)=true from by simp)]
 refine wpAny_bind (wpAny_field hT hdT h3 ?_)
 rw[if_neg (show ¬((Value.none==rawInt L)=true) from by simp[rawInt])]
 refine wpAny_bind (wpAny_setField hT hdT (Array.getElem?_eq_some_iff.mp h3).1 ?_)
 have hsz:=(Array.getElem?_eq_some_iff.mp h1).1
 have ef:Eff ((env::outer).filterMap (·.frame)) [T] s.heap (s.heap.update T (Obj.mapFields (·.setIfInBounds 3 Value.none))):=Eff.field hT hdT
 have hl':=ef.funs hl (fun b hb o q=>by rw[List.mem_singleton.mp hb,hT] at q;cases q;exact⟨_,hdT⟩)
 have he':=(Heap.get?_update_other s.heap (Obj.mapFields (·.setIfInBounds 3 Value.none)) hTe).trans he
 have hz:(s.heap.update T (Obj.mapFields (·.setIfInBounds 3 Value.none))).objs.size=s.heap.objs.size:=by simp
 refine Ra (s:={ s with heap:=s.heap.update T (Obj.mapFields (·.setIfInBounds 3 Value.none)) }) hfr hl' hf he' hd hsz fun h' T' hT' p1 ⟨oT',ts',p2,p3,p4⟩ p5=>h h' T' (by rw[<-hz];exact hT') ⟨_,_,oT',ts',p1,(Obj.cls_mapFields _ _).trans hc,(Vo _ _).trans hdd,Obj.data_mapFields hd _,by simp[hsz],?_,p2,p3,p4⟩ ?_
 ·have hT':(s.heap.update T (Obj.mapFields (·.setIfInBounds 3 Value.none))).objs.size<=T':=hT'
  rw[hz] at hT'
  exact Nat.ne_of_gt (Nat.lt_of_lt_of_le (Heap.lt_size he) hT')
 ·exact(ef.mono fun b hb=>by simp at hb;simp[hb]).trans (p5.mono fun b hb=>by simp at hb;simp[hb])
theorem Rb(x:Lb s.heap e cls dd T fl){fs:List Addr}(h:∀h',Lb h' e cls dd T .none->Eff fs [T] s.heap h'->h'.objs.size=s.heap.objs.size->Q () { s with heap:=h' }):wpAny M A (setFlight (.ref e) none) Q E s:=by
 obtain⟨oe,vs,oT,ts,he,hc,hdd,hd,h1,hTe,hT,hdT,h3⟩:=x
 have hsz:=(Array.getElem?_eq_some_iff.mp h3).1
 unfold setFlight
 refine wpAny_bind (wpAny_field he hd h1 ?_)
 rw[if_pos (show(Value.ref T != Value.none)=true from by simp)]
 refine wpAny_setField hT hdT hsz (h _ ⟨oe,vs,_,_,(Heap.get?_update_other _ _ hTe).trans he,hc,hdd,hd,h1,hTe,Heap.get?_update_self _ hT (Obj.isFreed_of_fields (Obj.data_mapFields hdT _)),Obj.data_mapFields hdT _,by simp[hsz]⟩ (Eff.field hT hdT) (by simp))
theorem KR(hfr:A.frames=some (env::outer))(hl:s.heap.FunFrames base (env::outer))(hf:env.frame=some L)(x:KQ s.heap e cls dd)
  (h:∀h' T,s.heap.objs.size<=T->Lb h' e cls dd T .none->Eff ((env::outer).filterMap (·.frame)) [e] s.heap h'->Q () { s with heap:=h' }):wpAny M A (leaving env (.ref e)) Q E s:=by
 unfold leaving
 refine wpAny_bind (Ew hfr hl hf x fun h1 T hT x1 e1=>?_)
 refine Rb x1 (fs:=(env::outer).filterMap (·.frame)) fun h2 x2 e2 _=>h h2 T hT x2 ?_
 have nT:∀b o,s.heap.get? b=some o->b≠T:=fun b o q z=>by
  subst z
  exact Nat.lt_irrefl _ (Nat.lt_of_lt_of_le (Heap.lt_size q) hT)
 exact⟨fun b o q hc hf=>e2.keep b o (e1.keep b o q hc hf) (by simpa using nT b o q) hf,fun b o q hc hf=>by
  obtain⟨sl,q1⟩:=e1.slot b o q hc hf
  obtain⟨sl2,q2⟩:=e2.slot b _ q1 (by simpa using nT b o q) hf
  exact⟨sl2,q2⟩,fun b o q=>by
  obtain⟨o1,q1⟩:=e1.there b o q
  exact e2.there b o1 q1⟩
theorem KS(hfr:A.frames=some (env::outer))(hl:s.heap.FunFrames base (env::outer))(hf:env.frame=some L)(x:Lb s.heap e cls dd T .none)
  (h:∀h' T',s.heap.objs.size<=T'->Lb h' e cls dd T' .none->Eff ((env::outer).filterMap (·.frame)) [e,T] s.heap h'->Q () { s with heap:=h' }):wpAny M A (leaving env (.ref e)) Q E s:=by
 unfold leaving
 refine wpAny_bind (HM hfr hl hf x fun h1 T' hT x1 e1=>?_)
 refine Rb x1 (fs:=(env::outer).filterMap (·.frame)) fun h2 x2 e2 _=>h h2 T' hT x2 ?_
 have nT:∀b o,s.heap.get? b=some o->b≠T':=fun b o q z=>by
  subst z
  exact Nat.lt_irrefl _ (Nat.lt_of_lt_of_le (Heap.lt_size q) hT)
 exact⟨fun b o q hc hf=>e2.keep b o (e1.keep b o q hc hf) (by simpa using nT b o q) hf,fun b o q hc hf=>by
  obtain⟨sl,q1⟩:=e1.slot b o q hc hf
  obtain⟨sl2,q2⟩:=e2.slot b _ q1 (by simpa using nT b o q) hf
  exact⟨sl2,q2⟩,fun b o q=>by
  obtain⟨o1,q1⟩:=e1.there b o q
  exact e2.there b o1 q1⟩
end
section
variable {P:Program} {w:World} {fs ch:List Addr} {H:Hp} {h h':Heap}
theorem N8(x:HOk P w H h)(e:Eff fs ch h h')(hc:∀b∈ch,H b=none)(hf:∀b∈fs,H b=none):HOk P w H h':=fun a o ha=>
 (x a o ha).stay (fun b u hb q=>by
  have hb':∃o',H b=some o':=by
   rcases hb with z | z
   ·exact⟨o,by rw[z];exact ha⟩
   ·exact⟨_,z⟩
  obtain⟨o',hb'⟩:=hb'
  exact e.keep b u q (fun z=>by rw[hc b z] at hb';cases hb') (fun z=>by rw[hf b z] at hb';cases hb')) (fun _ q=>q) fun _ _ q=>q
end
def Fl(H':Hp)(h0 h:Heap)(e:Addr)(cls:Value)(dd:Option Addr):Prop:=∃T,Lb h e cls dd T .none/\H' e=none/\H' T=none/\h0.get? e=none/\h0.get? T=none
def HN(P:Program)(w:World):LU:=fun outer H s E v s'=>
 ∃e cls dd H',v = .ref e/\s'.os=s.os/\AllBare s'.gens/\Un (Oy outer) [] H H' s.heap s'.heap/\HOk P w H' s'.heap/\Fl H' s.heap s'.heap e cls dd/\E cls dd H'
section
variable {X:Cx} {pins:List (Addr×Obj)} {σ:L2.St} {H:Hp} {s:Shared} {e:Addr} {cls:Value} {dd:Option Addr} {E:XK}
structure O8(X:Cx)(E:XK):Prop where
 stk:X.stack=X.env::X.outer
 fr:X.env.frame=some X.env.locals
 ex:X.ex=[]
 xe:X.xe=fun v s'=>wpAny (model X.prog X.w) X.A (leaving X.env v) (fun _ s''=>HN X.prog X.w X.outer X.H₀ X.s₀ E v s'') (fun v' s''=>HN X.prog X.w X.outer X.H₀ X.s₀ E v' s'') s'
theorem Tg(D:O8 X E)(I:Inv X pins σ H s){ch:List Addr}{h':Heap}{T:Addr}(hT:X.s₀.heap.get? T=none)(he:X.s₀.heap.get? e=none)(hH:H e=none)(hHT:H T=none)(hc:∀b∈ch,H b=none/\X.s₀.heap.get? b=none)(x:Lb h' e cls dd T .none)
  (ef:Eff ((X.env::X.outer).filterMap (·.frame)) ch s.heap h') (q:E cls dd H):HN X.prog X.w X.outer X.H₀ X.s₀ E (.ref e) { s with heap:=h' }:=by
 have hf:∀b∈(X.env::X.outer).filterMap (·.frame),H b=none:=fun b hb=>by
  have:=I.stkFree b
  rw[D.stk] at this
  exact this hb
 refine⟨e,cls,dd,H,rfl,I.os,I.bare,?_,N8 I.hok ef (fun b hb=>(hc b hb).1) hf,⟨T,x,hH,hHT,he,hT⟩,q⟩
 have ub:=I.base
 have lt:∀b o,X.s₀.heap.get? b=some o->b∉ch:=fun b o z hb=>by rw[(hc b hb).2] at z;cases z
 have nL:∀b o,X.s₀.heap.get? b=some o->b≠X.env.locals:=fun b o z hb=>by
  subst hb
  exact Nat.lt_irrefl _ (Nat.lt_of_lt_of_le (Heap.lt_size z) I.ok.above)
 have mem:∀b o,X.s₀.heap.get? b=some o->(b∈(X.env::X.outer).filterMap (·.frame)↔b∈Oy X.outer):=fun b o z=>by
  rw[List.filterMap_cons_some D.fr,List.mem_cons]
  exact⟨fun h=>h.elim (fun q=>absurd q (nL b o z)) fun q=>q,.inr⟩
 have nex:∀b:Addr,b∉X.ex:=fun b z=>by rw[D.ex] at z;simp at z
 refine⟨fun b o z n hb _=>?_,fun b o z n hb _=>?_,fun b o z n _=>ub.free b o z n (nex b),fun b o z _=>?_,ub.tups,ub.frzs,ub.tbls⟩
 ·exact ef.keep b o (ub.keep b o z n hb (nex b)) (lt b o z) (fun q=>hb ((mem b o z).mp q))
 ·obtain⟨sl,z1⟩:=ub.slot b o z n hb (nex b)
  obtain⟨sl2,z2⟩:=ef.slot b _ z1 (lt b o z) ((mem b o z).mpr hb)
  exact⟨sl2,z2⟩
 ·obtain⟨o1,z1⟩:=ub.there b o z (nex b)
  exact ef.there b o1 z1
theorem Fq(D:O8 X E)(I:Inv X pins σ H s)(x:KQ s.heap e cls dd)(he:X.s₀.heap.get? e=none)(hH:H e=none)(q:E cls dd H):X.xe (.ref e) s:=by
 rw[D.xe];have hst:=I.stack;rw[D.stk] at hst;have hfr:=I.ok.frames;rw[D.stk] at hfr
 refine KR hfr hst D.fr x fun h' T hT x' ef=>?_
 exact Tg D I (Heap.get?_none_of_le (Nat.le_trans I.sz hT)) he hH (I.hok.fresh hT) (fun b hb=>by rw[List.mem_singleton.mp hb];exact⟨hH,he⟩) x' ef q
theorem IH{E':XK}(D:O8 X E)(hE:∀cls dd H',E' cls dd H'->E cls dd H'):Qu (HN X.prog X.w) X E':=fun pins σ H s v s' I hx=>by
 obtain⟨e,cls,dd,H',rfl,hos,hg,u,hok,⟨T,x,hH,hHT,he,hT⟩,q⟩:=hx
 have I':Inv X pins σ H' s':=I.call' hos u hok hg fun b hb=>nomatch hb
 rw[D.xe];have hst:=I'.stack;rw[D.stk] at hst;have hfr:=I'.ok.frames;rw[D.stk] at hfr
 refine KS hfr hst D.fr x fun h' T' hT' x' ef=>?_
 have old:∀b:Addr,s.heap.get? b=none->X.s₀.heap.get? b=none:=fun b z=>by
  cases r:X.s₀.heap.get? b with
  | none=>rfl
  | some o=>
   obtain⟨o',r'⟩:=I.base.there b o r (by rw[D.ex];simp)
   rw[z] at r';cases r'
 exact Tg D I' (Heap.get?_none_of_le (Nat.le_trans I'.sz hT')) (old e he) hH (I'.hok.fresh hT') (fun b hb=>by
  rcases List.mem_cons.mp hb with z | z
  ·rw[z];exact⟨hH,old e he⟩
  ·rw[List.mem_singleton.mp z];exact⟨hHT,old T hT⟩) x' ef (hE _ _ _ q)
theorem N9{P:Program}{w:World}{K:PySem.W.Frag}{mg:Str->Option Value}{base:Heap}{N:List Str}{qual:Str}{scope:Scope}{f:Addr}{cd:Value}{A:Around}{outer:List Env}{s:Shared}{H:Hp}{E:XK} :
  O8 (U0 (HN P w) P w K mg base N qual scope f cd A outer s H E) E:=⟨rfl,rfl,rfl,rfl⟩
end
end VX
namespace PySem
open Sem (wp)
section
variable {prog:Program} {w:World} {A:Around} {E:Value->Shared->Prop} {h:Heap} {g:Array GenState} {d:Drawn} {t:Nat} {os:OsState}
variable {nm q:Str} {C N:Addr} {bs bm bmB:List Value} {hdct:Bool} {sn:List Str} {sub:List Value} {ab:Bool} {col:Option Bool} {dd:Option Addr} {k0 k1 k2 k3 k5:Option Value} {B newId initId:String}
theorem Wq(F:ExcBaseFacts B newId initId bmB)(T:OwnTail h bmB bm){mN:Str->Option Value}{rest:List Value}{fI:Addr}{oI:Obj}{Q:Fin->Shared->Prop}
  (hC:h.get? C=some (excClassObj nm q C N bs bm hdct sn sub ab col dd k0 k1 k2 k3 k5 newId)) (hn:h.Ns N mN) (hi:mN "__init__" = some (.ref fI))
  (hfI:h.get? fI=some oI) (hfc:oI.cls = .type "function")
  (hq:∀h',(∀b o,h.get? b=some o->h'.get? b=some o)->h'.get? (h.objs.size+1)=some { cls:=.ref C,data:=.fields #[.ref h.objs.size,.none,.none,.none,.bool false,.none] }->
   wpAny (model prog w) A (call (.ref fI) (.ref (h.objs.size+1)::rest)) (fun r s'=>r = .none/\Q (.done (.ret (.ref (h.objs.size+1)))) s') E ⟨h',g,d,t,os⟩) (hrest:rest.length<=sizeLine:=by size_fits) :
  wpAny (model prog w) A (Builtin.«type.__call__» ⟨.ref C::rest,[]⟩) Q E ⟨h,g,d,t,os⟩:=by
 repeat (first | with_reducible refine wpAny_loadPart_at hC ?_ | with_reducible refine wpAny_madeBy_exc hC ?_ | wp_step)
 refine codeAny_call_builtin_code (Code.quiet_builtin _ F.quiet) (wpAny_check_new_subT F T hC ?_)
 refine codeAny_exc_new_subT F T hC ?_ hrest
 show wpAny _ _ _ _ _ _
 have hC₁:=Heap.get?_push_of_some { cls:=.ref C,data:=.fields #[.ref h.objs.size,.none,.none,.none,.bool false,.none] }
  (Heap.get?_push_of_some { cls:=.type "tuple",data:=.seq rest.toArray } hC)
 have hfI₁:=Heap.get?_push_of_some { cls:=.ref C,data:=.fields #[.ref h.objs.size,.none,.none,.none,.bool false,.none] }
  (Heap.get?_push_of_some { cls:=.type "tuple",data:=.seq rest.toArray } hfI)
 have hn₁:((h.push { cls:=.type "tuple",data:=.seq rest.toArray }).push { cls:=.ref C,data:=.fields #[.ref h.objs.size,.none,.none,.none,.bool false,.none] }).Ns N mN:=
  let⟨o,es,ep,e,r⟩:=hn;⟨o,es,ep,Heap.get?_push_of_some _ (Heap.get?_push_of_some _ e),r⟩
 have hget:((h.push { cls:=.type "tuple",data:=.seq rest.toArray }).push
   { cls:=.ref C,data:=.fields #[.ref h.objs.size,.none,.none,.none,.bool false,.none] }).get? (h.objs.size+1)=some
   { cls:=.ref C,data:=.fields #[.ref h.objs.size,.none,.none,.none,.bool false,.none] }:=by heap_get
 have hcC:(Value.ref C::bm).contains (.ref C)=true:=by simp
 have T₁:=T.keeps (h':=(h.push { cls:=.type "tuple",data:=.seq rest.toArray }).push { cls:=.ref C,data:=.fields #[.ref h.objs.size,.none,.none,.none,.bool false,.none] })
  fun b o e=>Heap.get?_push_of_some _ (Heap.get?_push_of_some _ e)
 unfold isInstance
 repeat (first | with_reducible refine wpAny_loadPart_at hget ?_ | (with_reducible refine wpAny_isSubtype_exc hC₁ ?_;rw[hcC]) | wp_step)
 show wpAny _ _ (typeLookup (.ref C) _) _ _ _
 refine wpAny_typeLookup_tail hC₁ hn₁ T₁ F.mroIs F.init.lookup ?_
 rw[hi]
 refine wpAny_holding (wpAny_bind ?_)
 unfold bindSpecial
 refine wpAny_bind (wpAny_typeOf (T:="function") ⟨_,hfI₁,hfc⟩ ?_)
 rw[if_pos (by decide)]
 refine wpAny_pure (wpAny_bind (wpAny_mono (hq _ (fun b o hb=>Heap.get?_push_of_some _ (Heap.get?_push_of_some _ hb)) hget) (fun r s' hr=>?_) fun _ _ x=>x))
 obtain⟨rfl,hQ⟩:=hr
 wp_walk
 exact hQ
theorem Vp(F:ExcBaseFacts B newId initId bmB)(T:OwnTail h bmB bm){mN:Str->Option Value}{rest:List Value}{fI:Addr}{oI:Obj}{Q:Value->Shared->Prop}
  (hC:h.get? C=some (excClassObj nm q C N bs bm hdct sn sub ab col dd k0 k1 k2 k3 k5 newId)) (hn:h.Ns N mN) (hi:mN "__init__" = some (.ref fI))
  (hfI:h.get? fI=some oI) (hfc:oI.cls = .type "function")
  (hq:∀h',(∀b o,h.get? b=some o->h'.get? b=some o)->h'.get? (h.objs.size+1)=some { cls:=.ref C,data:=.fields #[.ref h.objs.size,.none,.none,.none,.bool false,.none] }->
   wpAny (model prog w) (A.under (.builtin "type.__call__" ⟨.ref C::rest,[]⟩)) (call (.ref fI) (.ref (h.objs.size+1)::rest)) (fun r s'=>r = .none/\Q (.ref (h.objs.size+1)) s') E ⟨h',g,d,t,os⟩) (hrest:rest.length<=sizeLine:=by size_fits) :
  wpAny (model prog w) A (call (.ref C) rest) Q E ⟨h,g,d,t,os⟩:=by
 have f1:=tc_lookup
 have f2:=tc_bind (.ref C)
 have hT:(⟨h,g,d,t,os⟩:Shared).TypeIs (.ref C) "type":=⟨_,hC,rfl⟩
 refine wpAny_call (codeAny_of_tree ?_)
 show wpAny _ _ (callAny (.ref C) _) _ _ _
 repeat (any_goals (first | assumption | with_reducible refine wpAny_loadPart_at hC ?_ | wp_step))
 refine⟨rfl,?_⟩
 refine codeAny_call_builtin_at (Code.quiet_builtin _ (by decide +kernel)) entry_typeCall (wpAny_check_type_call_sub hC (Wq (hrest:=hrest) F T hC hn hi hfI hfc fun h' k1' k2'=>?_))
 exact hq h' k1' k2'
end
section
variable {M:Model} {A:Around} {E:Value->Shared->Prop} {env:Env}
variable {nm q:Str} {C N:Addr} {bs bm bmB:List Value} {hdct:Bool} {sn:List Str} {sub:List Value} {ab:Bool} {col:Option Bool} {dd:Option Addr} {k0 k1 k2 k3 k5:Option Value} {B newId initId:String}
theorem Wr{s:Shared}{x:Sem Value}{Q:Flow->Shared->Prop}(hbase:bm.contains (.type "BaseException")=true)(hh:A.handled=none)
  (h:wpAny M A x (fun v s₁=>∃e t dx,v = .ref e/\s₁.heap.get? C=some (excClassObj nm q C N bs bm hdct sn sub ab col dd k0 k1 k2 k3 k5 newId)/\
   s₁.heap.get? e=some { cls:=.ref C,dict:=dx,data:=.fields #[.ref t,.none,.none,.none,.bool false,.none] }/\E (.ref e) s₁) E s) :
  wpAny M A (raiseStmt env (some x) none) Q E s:=by
 have hcB:(Value.ref C::bm).contains (.type "BaseException")=true:=by rw[List.contains_cons,hbase,Bool.or_true]
 unfold raiseStmt
 refine wpAny_bind (wpAny_mono h (fun v s₁ h₁=>?_) fun _ _ x=>x)
 obtain⟨e,t,dx,rfl,hC,he,hE⟩:=h₁
 obtain⟨hp,g,d,tk,os⟩:=s₁
 repeat (first | with_reducible refine wpAny_loadPart_at he ?_ | with_reducible refine wpAny_loadPart_at hC ?_ | (with_reducible refine wpAny_isSubtype_exc hC ?_;rw[hcB]) | wp_step)
 exact wpAny_raiseNew_none hh hE
end
section
variable {prog:Program} {w:World} {A:Around} {E:Value->Shared->Prop} {s:Shared} {env:Env}
variable {nm q:Str} {C N:Addr} {bs bm bmB:List Value} {hdct:Bool} {sn:List Str} {sub:List Value} {ab:Bool} {col:Option Bool} {dd:Option Addr} {k0 k1 k2 k3 k5:Option Value} {B newId initId:String}
theorem W0(F:ExcBaseFacts B newId initId bmB){mN:Str->Option Value}{x:Str}{np cpos pos:Pos}{args:List Expr}{Q:Flow->Shared->Prop}{fI:Addr}{oI:Obj}
  (hbase:bm.contains (.type "BaseException")=true) (hh:A.handled=none) (hplain:(backTo cpos (starEach args env)).any (·.1)=false) (hi:mN "__init__" = some (.ref fI)) (hfc:oI.cls = .type "function")
  (h:wpAny (model prog w) A (eval (.Name x np) env) (fun f s₁=>f = .ref C/\wpAny (model prog w) A (evalArgs (.ref C) true (backTo cpos (starEach args env)) [])
   (fun a s₂=>a.kw=[]/\a.pos.length<=sizeLine/\s₂.heap.get? C=some (excClassObj nm q C N bs bm hdct sn sub ab col dd k0 k1 k2 k3 k5 newId)/\s₂.heap.Ns N mN/\OwnTail s₂.heap bmB bm/\s₂.heap.get? fI=some oI/\
    ∀h',(∀b o,s₂.heap.get? b=some o->h'.get? b=some o)->h'.get? (s₂.heap.objs.size+1)=some { cls:=.ref C,data:=.fields #[.ref s₂.heap.objs.size,.none,.none,.none,.bool false,.none] }->
     wpAny (model prog w) (A.under (.builtin "type.__call__" ⟨.ref C::a.pos,[]⟩)) (call (.ref fI) (.ref (s₂.heap.objs.size+1)::a.pos)) (fun r s₃=>r = .none/\∃t dx,s₃.heap.get? C=some (excClassObj nm q C N bs bm hdct sn sub ab col dd k0 k1 k2 k3 k5 newId)/\
      s₃.heap.get? (s₂.heap.objs.size+1)=some { cls:=.ref C,dict:=dx,data:=.fields #[.ref t,.none,.none,.none,.bool false,.none] }/\E (.ref (s₂.heap.objs.size+1)) s₃) E { s₂ with heap:=h' }) E s₁) E s) :
  wpAny (model prog w) A (exec (.Raise (some (.Call (.Name x np) args [] cpos)) none pos) env) Q E s:=by
 rw[arm_exec_Raise]
 refine wpAny_bind (wpAny_standAt (Wr (C:=C) (nm:=nm) (q:=q) (N:=N) (bs:=bs) (bm:=bm) (hdct:=hdct) (sn:=sn) (sub:=sub) (ab:=ab) (col:=col) (dd:=dd) (k0:=k0) (k1:=k1) (k2:=k2) (k3:=k3) (k5:=k5) (newId:=newId) hbase hh ?_))
 refine wpAny_bind (wpAny_mono (wpAny_Call_ofName (wpAny_mono h (fun f s₁ h₁=>?_) fun _ _ x=>x)) (fun v s₃ h₃=>wpAny_bind (wpAny_standAt (wpAny_pure h₃))) fun _ _ x=>x)
 obtain⟨rfl,h₁⟩:=h₁
 unfold callWith
 refine wpAny_bind (wpAny_holding (wpAny_mono h₁ (fun a s₂ h₂=>wpAny_bind (wpAny_standAt ?_)) fun _ _ x=>x))
 obtain⟨apos,akw⟩:=a
 obtain⟨hkw,hlen,hC,hn,T,hfI,h₂⟩:=h₂
 obtain rfl:akw=[]:=hkw
 obtain⟨hp,g,d,tk,os⟩:=s₂
 simp only[hplain]
 refine wpAny_bind (wpAny_keeperOf_exc hC ?_)
 refine wpAny_bind (Vp (hrest:=hlen) F T hC hn hi hfI hfc fun h' k1' k2'=>wpAny_mono (h₂ h' k1' k2') (fun r s' hr=>⟨hr.1,wpAny_bind (wpAny_holding (wpAny_point (wpAny_pure ?_)))⟩) fun _ _ x=>x)
 obtain⟨_,t,dx,a1,a2,a3⟩:=hr
 exact⟨_,t,dx,rfl,a1,a2,a3⟩
end
end PySem
namespace VX
open PySem PySem.W PySem.Spec PyProof.Rows Builtin Builtin.ObjectAttr
def O9:List Value:=[.type "ValueError",.type "Exception",.type "BaseException",.type "object"]
def Na:List Value->Bool
 | .ref _::r=>Na r
 | l=>l==O9
def veOver(K:Frag)(C:Addr):Bool:=(clsIn K C).any fun cd=>Na cd.mro
theorem II{l:List Value}(h:Na l=true):(∀self,refuseLoop self "__setattr__" l=pure ())/\l.contains (.type "object")=true/\l.isEmpty=false:=by
 induction l with
 | nil=>exact absurd h (by decide)
 | cons x r ih=>
  by_cases q:∃c,x = .ref c
  ·obtain⟨c,rfl⟩:=q
   have:=ih h
   exact⟨fun self=>by rw[refuseLoop_ref];exact this.1 self,by rw[List.contains_cons,this.2.1,Bool.or_true],rfl⟩
  ·have e:x::r=O9:=by
    have h':(x::r==O9)=true:=by
     cases x<;>first | exact h | exact absurd ⟨_,rfl⟩ q
    exact eq_of_beq h'
   rw[e]
   exact⟨fun self=>PySem.F.store_ValueError.passes self,by decide,rfl⟩
section
variable {prog:Program} {w:World} {A:Around} {R:Result->Shared->Prop} {E:Value->Shared->Prop} {s:Shared} {K:Frag} {x C:Addr} {ox:Obj} {name:Str} {tk:Tok} {v:Value}
theorem Lc{od:Option Obj}(X:K.In s.heap)(I:InstAt s.heap x ox C od)(hp:veOver K C=true)(ht:takerIn K C name=some none)
  (h:∀b,wpAny (model prog w) A.in1 (storeInOwnDict (.ref x) (.ref C) (.str name tk) name v b)
   (fun fin s'=>match fin with | .done f=>R (.ok f) s' | .again c'=>c'.quiet=true/\codeAny (model prog w) A c' R s') (fun e s'=>R (.error e) s') s) :
  codeAny (model prog w) A (.call (.builtin "object.__setattr__") ⟨[.ref x,.str name tk,v],[]⟩) R s:=by
 have SF:=PySem.F.store_object
 obtain⟨cd,hc,ho⟩:=any_some hp
 obtain⟨o1,o2,o3⟩:=II ho
 have sub:Looks (model prog w) s.heap (isInstance (.ref x) (.type "object")) true:=I.type.andThen (looks_mroIn X (by unfold mroIn;rw[hc,Option.bind_some,if_neg (by rw[o3];decide),o2]))
 refine codeAny_call_builtin SF.slot.plain SF.entry (@check_slot (model prog w) _ _ s "object.__setattr__" "object" "__setattr__" (.ref x) [.str name tk,v] [] _ SF.kind SF.split sub (SF.args (.ref x) (.str name tk) v) ?_)
 obtain⟨attr,ha,hr⟩:=Option.bind_eq_some_iff.mp ht
 have hm:Looks (model prog w) s.heap (mroOf (.ref C)) cd.mro:=(looks_clsIn X hc).andThen .now
 have L3:Looks (model prog w) s.heap (storeTaker? attr) none:=by
  cases attr with
  | none=>exact .now
  | some a=>
   obtain⟨b,hb,hz⟩:=Option.map_eq_some_iff.mp hr
   refine(looks_takesIn X hb).andThen ?_
   cases b with
   | false=>exact .now
   | true=>cases hz
 rw[osa_eq,refuse_eq]
 refine wpAny_bind (wpAny_bind (I.type.here (wpAny_bind (hm.here ?_))))
 rw[o1]
 refine wpAny_pure (wpAny_bind (I.type.here (wpAny_bind ((looks_findIn X ha).here (wpAny_bind (L3.here ?_))))))
 exact h _
theorem Ld{Q:Unit->Shared->Prop}(X:K.In s.heap)(hx:s.heap.get? x=some ox)(hcl:ox.cls = .ref C)(hno:notCls ox=true)(hd:ox.dict=none)(hs:findIn K (.ref C) "__setattr__" = some (some (.builtin "object.__setattr__")))
  (hp:veOver K C=true) (ht:takerIn K C name=some none) (hh:(clsIn K C).any (·.hasDict)=true)
  (hq:∀h' tk' dx,(∀b o,b≠x->s.heap.get? b=some o->h'.get? b=some o)->h'.get? x=some { ox with dict:=some dx }->s.heap.objs.size<=dx->dx≠x->h'.Ns1 dx (fun y=>if y=name then some v else none)->Q () { s with heap:=h',toks:=tk' }) :
  wpAny (model prog w) A (setAttr (.ref x) name v) Q E s:=by
 have I:InstAt s.heap x ox C none:=⟨hx,hcl,hno,by rw[hd];trivial⟩
 refine set_plain X I hs ?_
 have X':K.In (({ s with toks:=s.toks+1 }:Shared)).heap:=X
 refine Lc (s:={ s with toks:=s.toks+1 }) (od:=none) X' I hp ht fun b=>?_
 obtain⟨cd,hc,hdd⟩:=any_some hh
 obtain⟨hp',g,d,t,os⟩:=s
 obtain⟨oc,odi,oda,osl⟩:=ox
 dsimp only at hcl hd hx
 subst hcl hd
 have nc:∀c,oda≠.cls c:=fun c z=>by subst z;simp[notCls] at hno
 have hxs:x≠hp'.objs.size:=Nat.ne_of_lt (Heap.lt_size hx)
 have hx₁:(hp'.push { cls:=.type "dict",data:=.dict #[] }).get? x=some ⟨.ref C,none,oda,osl⟩:=Heap.get?_push_of_some _ hx
 refine wpAny_bind (wpAny_pure (wpAny_bind (wpAny_bind (wpAny_loadPart hx (wpAny_bind ((looks_clsIn X hc) _ _ _ _ (fun _ _ e=>e) ?_))))))
 rw[hdd]
 dsimp only
 rw[if_neg (by decide),if_neg (by simp[typeHasDict])]
 split
 ·rename_i hcd
  exact absurd rfl (nc _)
 refine wpAny_bind (wpAny_alloc' ?_)
 refine wpAny_bind (wpAny_update' hx₁ ?_)
 refine wpAny_pure ?_
 have hgd:((hp'.push { cls:=.type "dict",data:=.dict #[] }).update x fun o=>{ cls:=o.cls,dict:=some hp'.objs.size,data:=o.data,slots:=o.slots }).get? hp'.objs.size
   = some { cls:=.type "dict",data:=.dict #[] }:=
  (Heap.get?_update_ne _ _ _ _ hxs.symm).trans (Heap.get?_push_at rfl rfl)
 have hnd:((hp'.push { cls:=.type "dict",data:=.dict #[] }).update x fun o=>{ cls:=o.cls,dict:=some hp'.objs.size,data:=o.data,slots:=o.slots }).Ns hp'.objs.size (fun _=>none):=
  ⟨_,#[],_,hgd,rfl,fun e he=>absurd he (by simp),fun _=>rfl⟩
 show wpAny _ _ (storeInDict hp'.objs.size (.str name t) name v) _ _ _
 unfold storeInDict newKeyGuard
 refine wpAny_bind (wpAny_pure (wpAny_bind (wpAny_nsSet1 (Heap.Ns1.of_empty hnd) fun h' hn' hs'=>?_)))
 obtain⟨oD,esD,epD,hoD,hdD,hcD⟩:=hn'.count (Within.cons name v Within.nil)
 refine wpAny_bind (wpAny_lookBehind hoD (by rw[hdD];exact pastItsLine_dict (Nat.le_trans hcD (by rw[List.length_cons,List.length_nil,sizeLine_eq];omega))) ?_)
 refine wpAny_pure ?_
 have hx':h'.get? x=some { cls:=.ref C,dict:=some hp'.objs.size,data:=oda,slots:=osl }:=?_
 ·exact hq h' _ hp'.objs.size (fun b ob hbx hb=>(hs'.2 b (Nat.ne_of_lt (Heap.lt_size hb))).trans ((Heap.get?_update_ne _ _ _ _ hbx).trans (Heap.get?_push_of_some _ hb))) hx' (Nat.le_refl _) hxs.symm hn'
 ·refine(hs'.2 x hxs).trans (Heap.get?_update_self _ hx₁ ?_)
  have hfr:=(Heap.get?_some_iff.mp hx).2
  cases oda<;>first | rfl | exact hfr
end
section
variable {prog:Program} {w:World} {A:Around} {E:Value->Shared->Prop} {h:Heap} {g:Array GenState} {d:Drawn} {t:Nat} {os:OsState}
variable {nm q:Str} {C N:Addr} {bs bm bmB:List Value} {hdct:Bool} {sn:List Str} {sub:List Value} {ab:Bool} {col:Option Bool} {dd:Option Addr} {k0 k1 k2 k3 k5:Option Value} {B newId initId:String}
abbrev Ma(C:Addr)(t:Addr):Obj:={ cls:=.ref C,data:=.fields #[.ref t,.none,.none,.none,.bool false,.none] }
theorem Lf{e t0:Addr}{v:Value}{Q:Value->Shared->Prop}(F:ExcBaseFacts B newId initId bmB)(T:OwnTail h bmB bm)(hC:h.get? C=some (excClassObj nm q C N bs bm hdct sn sub ab col dd k0 k1 k2 k3 k5 newId))
  (he:h.get? e=some (Ma C t0)) (hq:∀h',(∀b o,b≠e->h.get? b=some o->h'.get? b=some o)->h'.get? e=some (Ma C h.objs.size)->h'.get? h.objs.size=some { cls:=.type "tuple",data:=.seq #[v] }->Q .none ⟨h',g,d,t,os⟩) :
  wpAny (model prog w) A (call (.builtin initId) [.ref e,v]) Q E ⟨h,g,d,t,os⟩:=by
 refine wpAny_call (codeAny_call_builtin F.init.plain F.initEntry (wpAny_check_init_subT F T hC he rfl ?_))
 wp_walk
 have hne:e≠h.objs.size:=Nat.ne_of_lt (Heap.lt_size he)
 refine hq _ (fun b o hb q=>?_) ?_ ?_
 ·rw[Heap.get?_update_other _ _ hb.symm]
  exact Heap.get?_push_of_some _ q
 ·rw[Heap.get?_update_self _ (Heap.get?_push_of_some _ he) rfl]
  rfl
 ·rw[Heap.get?_update_other _ _ hne]
  exact Heap.get?_push_at rfl rfl
end
end VX
namespace VX
open PySem PySem.Spec PyProof.Rows L2
theorem Lg(is:List Int):PyData.shownAll (is.map PyData.int)=is.map fun i=>Str.ofString (toString i):=by
 induction is with
 | nil=>rfl
 | cons i r ih=>rw[List.map_cons,PyData.shownAll,ih];rfl
theorem QZ{is:List Int}(h:∀i∈is,i.natAbs.log2<1920):PyData.showableAll (is.map PyData.int)=true:=by
 induction is with
 | nil=>rfl
 | cons i r ih=>
  rw[List.map_cons,PyData.showableAll,ih fun j hj=>h j (by simp[hj])]
  simp[PyData.showable,h i (by simp)]
theorem Nb(is:List Int):PyData.hasDictAll (is.map PyData.int)=false:=by
 induction is with
 | nil=>rfl
 | cons i r ih=>rw[List.map_cons,PyData.hasDictAll,ih];rfl
theorem Qh{h:Heap}:∀{is:List Int}{us:List Value},Vals (is.map V.int) us->ReadsAll h us (is.map PyData.int) []
 | [],_,.nil=>.nil
 | i::r,_,.cons h1 h2=>by
  obtain⟨t,rfl⟩:=h1
  exact ReadsAll.cons (as:=[]) (bs:=[]) (.int i t) (Qh h2)
theorem Lh(is:List Int):PyData.depthAll (is.map PyData.int)<=1:=by
 induction is with
 | nil=>decide
 | cons i r ih=>
  rw[List.map_cons,PyData.depthAll];simp[PyData.depth];omega
end VX
namespace VX
open PySem PySem.Spec PyProof.Rows L2 VL
abbrev XR:=ZP->Option Str
def DI(K:PySem.W.Frag)(O:List Nat)(fx:XR)(E:XK):TS:=fun _ σ H=>∃H0 fps s n,Rel K O H0 fps s σ H/\fx s=some n/\∀C H',PySem.W.nsIn K mainGlobals n=some (some (.ref C))->Same H0 H'->E (.ref C) none H'
def VX(X:Cx)(O:List Nat)(E:XK)(st:Stmt)(fx:XR):Prop:=PS X st (DI X.K O fx E)
section
variable {X:Cx} {O W:List Nat} {E:XK} {C:Addr} {bmB:List Value} {B newId initId:String} {x y:Str} {np cpos pos p1 p2 p3:Pos} {jj k:Nat} {e:Expr} {f:XE}
variable {st:Stmt} {rest a b:List Stmt} {c:Expr} {fc:XT} {f1 g1:XR} {fs:XS}
theorem Li{t:TS}(h1:PS X st t)(hx:∀D D' σ H,t D σ H->t D' σ H):PSs X (st::rest) (fun _ σ H=>t { nx:=fun _ _=>False,rt:=fun _ _=>False } σ H):=by
 intro pins s σ H D I h
 refine wpAny_execs_cons (YO (h1 pins s σ H { nx:=fun _ _=>False,rt:=fun _ _=>False } I h) fun f s1 q=>?_)
 cases f with
 | next=>obtain⟨_,_,_,z⟩:=q;exact z.elim
 | ret u=>obtain⟨_,_,_,_,_,z⟩:=q;exact z.elim
 | brk=>obtain⟨_,_,_,z⟩:=q;exact z.elim
 | cont=>obtain⟨_,_,_,z⟩:=q;exact z.elim
end
structure CalX(P:Program)(w:World)(K:PySem.W.Frag)(mg:Str->Option Value)(base:Heap)(x:Str)(ps:List Str)(sp:Sp)(k:Nat):Prop where
 ex:∃f fd,mg x=some (.ref f)/\PySem.W.keepIn K (.ref f)=true/\Binds K fd ps []/\V5 P w K mg base (HN P w) k f fd ps sp
section
variable {X:Cx} {pins:List (Addr×Obj)} {σ:L2.St} {H:Hp} {s:Shared}
theorem Lj{A:Around}{E:Value->Shared->Prop}{i:Nat}{n:Str}{pos:Pos}{Q:Unit->Shared->Prop}(I:Inv X pins σ H s)(hN:X.N.Nodup)(hi:X.N[i]?=some n)(hk:X.env.scope.names.lookup n=some .local)
  (h:∀s',Inv X pins (σ.set i none) H s'->Q () s'):wpAny (model X.prog X.w) A (do bindName X.env n .none;unbindBehindTheSuite X.env n pos) Q E s:=by
 refine wpAny_bind (wpAny_bindName (Vd I hN hi (.inl hk) (v:=.non) (u:=Value.none) rfl (fun s1 I1=>?_) (.inr hk)))
 unfold unbindBehindTheSuite
 refine wpAny_onRaise ?_
 have hcls:(X.env.scope.kind==.class || (X.env.scope.kind==.module&&X.env.locals != X.env.globals))=false:=by rw[I.ok.kind];rfl
 have hiσ:i<σ.length:=by rw[I.len];exact(List.getElem?_eq_some_iff.mp hi).1
 obtain⟨m,hn,hl⟩:=id I1.loc
 obtain⟨u,ru,lk⟩:=hl i n .non hi (by rw[List.getElem?_set_self hiσ]) (.inl hk)
 have hkl:X.env.kindOf n=some .local:=hk
 have hv:m n=some u:=by
  rcases lk with⟨_,z⟩ | ⟨z,_⟩
  ·exact z
  ·rw[hkl] at z;rcases z with z | z<;>cases z
 have cne:=I1.cne
 refine wpAny_unbindName_local hkl hn hv hcls fun h' u' hn' hs=>h _ ?_
 obtain⟨oL,_,_,hoL,_⟩:=id hn
 refine⟨I1.ok,I1.os,I1.bare,⟨fun b o e n hb hx=>?_,fun b o e n hb hx=>?_,I1.base.free,fun b o e hx=>?_,I1.base.tups,I1.base.frzs,I1.base.tbls⟩,⟨_,hn',fun j y v' e1 e2 e3=>?_⟩,fun y c e=>?_,I1.free,I1.freeC,fun p hp=>?_,fun b ob e=>?_,by have:=I1.len;simpa using this⟩
 ·exact(hs.2 b (Nat.ne_of_lt (Nat.lt_of_lt_of_le (Heap.lt_size e) I1.ok.above))).trans (I1.base.keep b o e n hb hx)
 ·obtain⟨sl,e1⟩:=I1.base.slot b o e n hb hx
  exact⟨sl,(hs.2 b (Nat.ne_of_lt (Nat.lt_of_lt_of_le (Heap.lt_size e) I1.ok.above))).trans e1⟩
 ·obtain⟨o',e1⟩:=I1.base.there b o e hx
  exact⟨o',(hs.2 b (Nat.ne_of_lt (Nat.lt_of_lt_of_le (Heap.lt_size e) I1.ok.above))).trans e1⟩
 ·by_cases hj:j=i
  ·subst hj
   rw[List.getElem?_set_self hiσ] at e2;cases e2
  ·have e2':(σ.set i (some V.non))[j]?=some (some v'):=by rw[List.getElem?_set_ne (Ne.symm hj)] at e2 ⊢;exact e2
   obtain⟨u2,r2,q⟩:=hl j y v' e1 e2' e3
   refine⟨u2,r2,?_⟩
   rcases q with⟨k,e⟩ | ⟨k,c,e,z⟩
   ·refine .inl ⟨k,?_⟩
    have:y≠n:=fun e=>hj (So hN e1 (e▸hi))
    simp[this,e]
   ·exact .inr ⟨k,c,e,z.sameBut hs (cne y c e)⟩
 ·obtain⟨w',z⟩:=I1.cell y c e
  exact⟨w',z.sameBut hs (cne y c e)⟩
 ·obtain⟨e,n,ne,nf,d⟩:=I1.pin p hp
  exact⟨(hs.2 p.1 ne).trans e,n,ne,nf,d⟩
 ·refine(I1.hok b ob e).stay (fun c w' hc q=>(hs.2 c ?_).trans q) (fun _ q=>q) fun _ _ q=>q
  rintro rfl
  have hf:=I1.free
  rcases hc with rfl | hc
  ·rw[hf] at e;cases e
  ·rw[hf] at hc;cases hc
abbrev Cx.mark(X:Cx)(e:Addr):Cx:={ X with A:=X.A.mark (some (.ref e)),calm:=false,xe:=fun _ _=>False }
theorem P4{e:Addr}(I:Inv X pins σ H s):Inv (Cx.mark X e) pins σ H s:=
 ⟨⟨I.ok.mod,I.ok.kind,I.ok.glob,I.ok.blt,I.ok.above,I.ok.inj,I.ok.has,I.ok.cab,(fun z=>by cases z),I.ok.frames,I.ok.stk,I.ok.exf,I.ok.bs,I.ok.bsz,I.ok.noex,I.ok.exfs,I.ok.funs,I.ok.frf⟩,I.os,I.bare,I.base,I.loc,I.cell,I.free,I.freeC,I.pin,I.hok,I.len⟩
theorem Nc{e:Addr}(ok:X.Ok)(I:Inv (Cx.mark X e) pins σ H s):Inv X pins σ H s:=
 ⟨ok,I.os,I.bare,I.base,I.loc,I.cell,I.free,I.freeC,I.pin,I.hok,I.len⟩
def HP(X:Cx)(pins:List (Addr×Obj))(b:Addr):Prop:=X.s₀.heap.get? b=none/\b≠X.env.locals/\(∀x c,X.env.cells.lookup x=some c->c≠b)/\∀p∈X.pn++pins,p.1≠b
theorem Q0{b:Addr}(I:Inv X pins σ H s)(hx:X.ex=[])(h:s.heap.get? b=none):HP X pins b:=by
 refine⟨?_,fun z=>?_,fun x c hc z=>?_,fun p hp z=>?_⟩
 ·cases r:X.s₀.heap.get? b with
  | none=>rfl
  | some o=>
   obtain⟨o',r'⟩:=I.base.there b o r (by rw[hx];simp)
   rw[h] at r';cases r'
 ·obtain⟨m,⟨o,_,_,ho,_⟩,_⟩:=I.loc
  rw[z,ho] at h;cases h
 ·obtain⟨v,o,ho,_⟩:=I.cell x c hc
  rw[z] at ho;rw[ho] at h;cases h
 ·have:=(I.pin p hp).1
  rw[z] at this;rw[this] at h;cases h
theorem Q1{ch:List Addr}{h':Heap}(I:Inv X pins σ H s)(hx:X.ex=[])(hfr:X.env.frame=some X.env.locals)(ef:Eff ((X.env::X.outer).filterMap (·.frame)) ch s.heap h')(hc:∀b∈ch,H b=none/\HP X pins b)(hst:X.stack=X.env::X.outer):Inv X pins σ H { s with heap:=h' }:=by
 have hf:∀b∈(X.env::X.outer).filterMap (·.frame),H b=none:=fun b hb=>by
  have:=I.stkFree b
  rw[hst] at this
  exact this hb
 have lt:∀b o,X.s₀.heap.get? b=some o->b∉ch:=fun b o z hb=>by rw[(hc b hb).2.1] at z;cases z
 have nL:∀b o,X.s₀.heap.get? b=some o->b≠X.env.locals:=fun b o z hb=>by
  subst hb
  exact Nat.lt_irrefl _ (Nat.lt_of_lt_of_le (Heap.lt_size z) I.ok.above)
 have mem:∀b,b≠X.env.locals->(b∈(X.env::X.outer).filterMap (·.frame)↔b∈X.fs):=fun b z=>by
  rw[List.filterMap_cons_some hfr,List.mem_cons]
  exact⟨fun h=>h.elim (fun q=>absurd q z) fun q=>q,.inr⟩
 have any:∀b o,s.heap.get? b=some o->b∉ch->∃sl,h'.get? b=some { o with slots:=sl }:=fun b o q hb=>by
  by_cases z:b∈(X.env::X.outer).filterMap (·.frame)
  ·exact ef.slot b o q hb z
  ·exact⟨o.slots,ef.keep b o q hb z⟩
 obtain⟨m,⟨oL,es,ep,hoL,rL⟩,hl⟩:=id I.loc
 have nLc:X.env.locals∉ch:=fun z=>(hc _ z).2.2.1 rfl
 obtain⟨slL,hL⟩:=any _ _ hoL nLc
 have cellK:∀c v,(∀b∈ch,c≠b)->s.heap.IsCell c v->h'.IsCell c v:=fun c v hne ⟨o,ho,hd⟩=>by
  obtain⟨sl,q⟩:=any c o ho fun z=>hne c z rfl
  exact⟨_,q,hd⟩
 have cne:∀x c,X.env.cells.lookup x=some c->∀b∈ch,c≠b:=fun x c q b hb=>(hc b hb).2.2.2.1 x c q
 refine⟨I.ok,I.os,I.bare,⟨fun b o e n hb hx'=>?_,fun b o e n hb hx'=>?_,I.base.free,fun b o e hx'=>?_,I.base.tups,I.base.frzs,I.base.tbls⟩,⟨m,⟨_,es,ep,hL,rL⟩,fun j y v' e1 e2 e3=>?_⟩,fun y c e=>?_,I.free,I.freeC,fun p hp=>?_,N8 I.hok ef (fun b hb=>(hc b hb).1) hf,I.len⟩
 ·exact ef.keep b o (I.base.keep b o e n hb hx') (lt b o e) fun z=>hb ((mem b (nL b o e)).mp z)
 ·obtain⟨sl,z1⟩:=I.base.slot b o e n hb hx'
  obtain⟨sl2,z2⟩:=ef.slot b _ z1 (lt b o e) ((mem b (nL b o e)).mpr hb)
  exact⟨sl2,z2⟩
 ·obtain⟨o1,z1⟩:=I.base.there b o e hx'
  exact ef.there b o1 z1
 ·obtain⟨u',r',q⟩:=hl j y v' e1 e2 e3
  refine⟨u',r',?_⟩
  rcases q with q | ⟨k,c,e,z⟩
  ·exact .inl q
  ·exact .inr ⟨k,c,e,cellK c _ (cne y c e) z⟩
 ·obtain⟨w',z⟩:=I.cell y c e
  exact⟨w',cellK c _ (cne y c e) z⟩
 ·obtain⟨e,n,ne,nf,d⟩:=I.pin p hp
  exact⟨ef.keep p.1 p.2 e (fun z=>(hc _ z).2.2.2.2 p hp rfl) (fun z=>nf ((mem p.1 ne).mp z)),n,ne,nf,d⟩
theorem Qi{e:Addr}{oe:Obj}(I:Inv X pins σ H s)(he:s.heap.get? e=some oe)(hH:H e=none)(ho:HP X pins e):Inv X pins σ (upd H e (.frz oe (.own e))) s:=by
 have ne:∀b u,H b=some u->b≠e:=fun b u q z=>by rw[z,hH] at q;cases q
 refine⟨I.ok,I.os,I.bare,⟨I.base.keep,I.base.slot,fun b o q n hx=>?_,I.base.there,fun b xs q=>?_,fun b o u q=>?_,fun b ps q=>?_⟩,I.loc,I.cell,?_,fun x c q=>?_,fun p hp=>?_,fun b u q=>?_,I.len⟩
 ·rw[upd_ne (fun z=>by rw[z,ho.1] at q;cases q)];exact I.base.free b o q n hx
 ·have:=I.base.tups b xs q;rw[upd_ne (ne _ _ this)];exact this
 ·have:=I.base.frzs b o u q;rw[upd_ne (ne _ _ this)];exact this
 ·obtain⟨more,z⟩:=I.base.tbls b ps q
  exact⟨more,by rw[upd_ne (ne _ _ z)];exact z⟩
 ·rw[upd_ne (Ne.symm ho.2.1)];exact I.free
 ·rw[upd_ne (ho.2.2.1 x c q)];exact I.freeC x c q
 ·obtain⟨e1,n,r⟩:=I.pin p hp
  exact⟨e1,by rw[upd_ne (ho.2.2.2 p hp)];exact n,r⟩
 ·by_cases z:b=e
  ·subst z
   rw[Zq] at q;cases q
   exact⟨he,_,he⟩
  ·rw[upd_ne z] at q
   exact(I.hok b u q).stay (fun _ _ _ r=>r) (fun c r=>by rw[upd_ne (ne _ _ r)];exact r) fun c xs r=>by rw[upd_ne (ne _ _ r)];exact r
end
section
variable {M:Model} {A:Around} {E:Value->Shared->Prop}
variable {nm q nm' q':Str} {C N Cb N':Addr} {bs bm bs' bm':List Value} {hdct hdct':Bool} {sn sn':List Str} {sub sub':List Value} {ab ab':Bool} {col col':Option Bool} {dd dd':Option Addr} {k0 k1 k2 k3 k5 j0 j1 j2 j3 j5:Option Value} {newId newId':String}
theorem P5{h:Heap}{g:Array GenState}{d:Drawn}{t:Nat}{os:OsState}{e:Addr}{oe:Obj}{Q:Bool->Shared->Prop}
  (hC:h.get? C=some (excClassObj nm q C N bs bm hdct sn sub ab col dd k0 k1 k2 k3 k5 newId)) (hB:h.get? Cb=some (excClassObj nm' q' Cb N' bs' bm' hdct' sn' sub' ab' col' dd' j0 j1 j2 j3 j5 newId')) (he:h.get? e=some oe) (hcls:oe.cls = .ref C) (hbase:bm'.contains (.type "BaseException")=true)
  (hq:Q ((Value.ref C::bm).contains (.ref Cb)) ⟨h,g,d,t,os⟩):wpAny M A (excMatches (.ref e) (.ref Cb)) Q E ⟨h,g,d,t,os⟩:=by
 have hcB:(Value.ref Cb::bm').contains (.type "BaseException")=true:=by rw[List.contains_cons,hbase,Bool.or_true]
 have f:=tc_notTuple;unfold excMatches
 cases hcC:(Value.ref C::bm).contains (.ref Cb) with
 | true=>
  rw[hcC] at hq
  repeat (first | (with_reducible refine wpAny_loadPart_at he ?_;rw[hcls]) | with_reducible refine wpAny_loadPart_at hB ?_ | (with_reducible refine wpAny_isSubtype_exc hB ?_;rw[hcB]) | (with_reducible refine wpAny_isSubtype_exc hC ?_;rw[hcC]) | wp_step)
  exact hq
 | false=>
  rw[hcC] at hq
  repeat (first | (with_reducible refine wpAny_loadPart_at he ?_;rw[hcls]) | with_reducible refine wpAny_loadPart_at hB ?_ | (with_reducible refine wpAny_isSubtype_exc hB ?_;rw[hcB]) | (with_reducible refine wpAny_isSubtype_exc hC ?_;rw[hcC]) | wp_step)
  exact hq
end
def belowIn(K:PySem.W.Frag)(C Cb:Addr):Bool:=match K.lookup C with
 | some ⟨_,_,.cls cd,_⟩=>cd.mro.contains (.ref Cb)
 | _=>false
theorem KU{K:PySem.W.Frag}{h:Heap}{C Cb:Addr}{nm qn:Str}{N:Addr}{bs bm:List Value}{hdct:Bool}{sn:List Str}{sub:List Value}{ab:Bool}{col:Option Bool}{dd:Option Addr}{k0 k1 k2 k3 k5:Option Value}{newId:String}(X:K.In h)(e:belowIn K C Cb=true)
  (hC:h.get? C=some (excClassObj nm qn C N bs bm hdct sn sub ab col dd k0 k1 k2 k3 k5 newId)):(Value.ref C::bm).contains (.ref Cb)=true:=by
 unfold belowIn at e
 split at e
 ·rename_i ho
  have:=X _ _ ho
  rw[hC] at this;cases this;exact e
 ·cases e
section
variable {X:Cx} {pins:List (Addr×Obj)} {σ:L2.St} {H:Hp} {s:Shared} {e T C Cb:Addr} {dd:Option Addr} {cx n:Str} {np pos:Pos} {b₀:Stmt} {suite:List Stmt} {rest:List ExceptHandler} {ts:TS} {D:Uc} {i:Nat}
def KW(i:Nat)(D:Uc):Uc:={ nx:=fun σ H=>D.nx (σ.set i none) H,rt:=D.rt,bk:=fun σ H=>D.bk (σ.set i none) H,ct:=fun σ H=>D.ct (σ.set i none) H }
theorem Dl(I:Inv X pins σ H s)(hx:X.ex=[])(hst:X.stack=X.env::X.outer)(hfr:X.env.frame=some X.env.locals)(x:Lb s.heap e (.ref C) dd T .none)(hH:H e=none)(hHT:H T=none)(oe:HP X pins e)(oT:HP X pins T)
  (hN:X.N.Nodup) (hi:X.N[i]?=some n) (hk:X.env.scope.names.lookup n=some .local) (hg:Gl X cx) (hm:X.mg cx=some (.ref Cb)) (hC:PySem.W.ktsIn X.K C "BaseException" = true) (hB:PySem.W.ktsIn X.K Cb "BaseException" = true) (hb:belowIn X.K C Cb=true)
  (hs:PSs (Cx.mark X e) (b₀::suite) ts) (q:∀oe:Obj,oe.cls = .ref C->oe.dict=dd->(∃vs,oe.data = .fields vs)->ts (KW i D) (σ.set i (some (.ref e))) (upd H e (.frz oe (.own e))))
  (hdb:(cx==("__debug__" : Str))=false:=by decide) :
  wpAny (model X.prog X.w) X.A (noteFrame (.ref e) X.env) (fun _ s₂=>wpAny (model X.prog X.w) X.A (setFlight (.ref e) none) (fun _ s₃=>
   wpAny (model X.prog X.w) X.A (handleBy (.ref e) X.env (.ExceptHandler (some (.Name cx np)) (some n) (b₀::suite) pos::rest)) (SP X pins D) X.xe s₃) X.xe s₂) X.xe s:=by
 have hstk:=I.stack;rw[hst] at hstk;have hfrs:=I.ok.frames;rw[hst] at hfrs
 refine HM hfrs hstk hfr x fun h1 T' hT' x1 e1=>?_
 have I1:Inv X pins σ H { s with heap:=h1 }:=Q1 I hx hfr e1 (fun b hb=>by
  rcases List.mem_cons.mp hb with z | z
  ·rw[z];exact⟨hH,oe⟩
  ·rw[List.mem_singleton.mp z];exact⟨hHT,oT⟩) hst
 have oT':HP X pins T':=Q0 I hx (Heap.get?_none_of_le hT')
 have hHT':H T'=none:=I.hok.fresh hT'
 have tch:∀b∈[T'],H b=none/\HP X pins b:=fun b hb=>by rw[List.mem_singleton.mp hb];exact⟨hHT',oT'⟩
 refine Rb x1 (fs:=(X.env::X.outer).filterMap (·.frame)) fun h2 x2 e2 _=>?_
 have I2:Inv X pins σ H { s with heap:=h2 }:=Q1 (s:={ s with heap:=h1 }) I1 hx hfr e2 tch hst
 refine wpAny_handleBy_cons (codeAny_handlers_test ?_) (by intro z;cases z)
 have I2m:Inv (Cx.mark X e) pins σ H { s with heap:=h2 }:=P4 I2
 refine Vw (X:=Cx.mark X e) I2m hg hm ?_ hdb
 obtain⟨nm,qn,N,bs,bm,hdct,sn,sub,ab,col,dc,k0,k1,k2,k3,k5,nid,hCo,_,_⟩:=PySem.W.kts_cls I2.kIn hC
 obtain⟨nm',qn',N',bs',bm',hdct',sn',sub',ab',col',dc',j0,j1,j2,j3,j5,nid',hBo,hbase,_⟩:=PySem.W.kts_cls I2.kIn hB
 obtain⟨ob,vs,oT2,tsx,heo,hcls,hdd,hdat,_⟩:=id x2
 refine P5 hCo hBo heo hcls hbase ?_
 rw[KU I2.kIn hb hCo]
 refine codeAny_handlers_suite_as ?_
 refine Rb (s:={ s with heap:=h2 }) x2 (fs:=(X.env::X.outer).filterMap (·.frame)) fun h3 x3 e3 _=>?_
 have I3:Inv X pins σ H { s with heap:=h3 }:=Q1 (s:={ s with heap:=h2 }) I2 hx hfr e3 tch hst
 obtain⟨ob3,vs3,oT3,ts3,heo3,hcls3,hdd3,hdat3,_⟩:=id x3
 have I4:=Qi (s:={ s with heap:=h3 }) I3 heo3 hH oe
 refine Vd (X:=Cx.mark X e) (P4 I4) hN hi (.inl hk) (v:=.ref e) (u:=.ref e) rfl (fun s5 I5=>?_) (.inr hk)
 refine wpAny_mono (hs pins s5 _ _ (KW i D) I5 (q ob3 hcls3 hdd3 ⟨_,hdat3⟩)) (fun f s6 h6=>?_) fun _ _ z=>z.elim
 have go:∀σ' H' s6,Inv (Cx.mark X e) pins σ' H' s6->(∀s7,Inv X pins (σ'.set i none) H' s7->SP X pins D f s7)->wpAny (model X.prog X.w) X.A (do bindName X.env n .none;unbindBehindTheSuite X.env n pos) (fun _ s₃=>SP X pins D f s₃) X.xe s6:=fun σ' H' s6 I6 k=>
  Lj (Nc I.ok I6) hN hi hk k
 cases f with
 | next=>
  obtain⟨σ',H',I6,z⟩:=h6
  exact go σ' H' s6 I6 fun s7 I7=>⟨_,_,I7,z⟩
 | ret u=>
  obtain⟨v,σ',H',I6,r6,z⟩:=h6
  exact go σ' H' s6 I6 fun s7 I7=>⟨v,_,_,I7,r6,z⟩
 | brk=>
  obtain⟨σ',H',I6,z⟩:=h6
  exact go σ' H' s6 I6 fun s7 I7=>⟨_,_,I7,z⟩
 | cont=>
  obtain⟨σ',H',I6,z⟩:=h6
  exact go σ' H' s6 I6 fun s7 I7=>⟨_,_,I7,z⟩
end
def HQ(i:Nat):Out->Out
 | .nx s=>.nx (s.set i none)
 | .bk s=>.bk (s.set i none)
 | .ct s=>.ct (s.set i none)
 | .rt l=>.rt l
theorem Rc{K:PySem.W.Frag}{O:List Nat}{H0 H:Hp}{fps:Nat->List Addr}{s:ZP}{σ:TF}{i:Nat}(hiO:i∉O)(r:Rel K O H0 fps s σ H):Rel K O H0 (fun j=>if j=i then [] else fps j) (s.set i none) (σ.set i none) H:=by
 refine⟨r.same,by rw[List.length_set,List.length_set];exact r.len,fun j a e=>?_,fun j h=>?_,fun j hj=>?_,fun j hj p hp=>?_,fun j hj k hk p hp=>?_⟩
 ·by_cases hji:j=i
  ·subst hji
   rw[List.getElem?_set] at e
   simp at e
  ·rw[List.getElem?_set_ne (Ne.symm hji)] at e ⊢
   rw[if_neg hji]
   exact r.is j a e
 ·by_cases hji:j=i
  ·rw[if_pos hji]
  ·rw[if_neg hji]
   refine r.emp j fun l z=>h l ?_
   rw[List.getElem?_set_ne (Ne.symm hji)];exact z
 ·have hji:j≠i:=fun z=>hiO (z▸hj)
  simp only[if_neg hji];exact r.nd j hj
 ·have hji:j≠i:=fun z=>hiO (z▸hj)
  simp only[if_neg hji] at hp;exact r.own j hj p hp
 ·have hji:j≠i:=fun z=>hiO (z▸hj)
  simp only[if_neg hji] at hp
  by_cases hki:k=i
  ·rw[if_pos hki];simp
  ·rw[if_neg hki];exact r.dis j hj k hk p hp
end VX
namespace VX
open PySem PySem.W PySem.Spec PyProof.Rows L2
def exiIn(K:Frag)(C:Addr)(bmB:List Value)(newId:String)(fI:Addr):Bool:=
 match K.lookup C with
 | some ⟨.type "type",_,.cls cd,sl⟩=>
  match cd.mro,sl.toList with
  | .ref C'::bm,[_,_,_,_,some (.builtin n),_]=>C'==C&&n==newId&&!cd.hasDel&&tailIn K bmB bm&&nsOkIn K cd.ns&&nsIn K cd.ns "__init__"==some (some (.ref fI))
  | _,_=>false
 | _=>false
theorem Ex{K:Frag}{h:Heap}{N:Addr}{m:Str->Option Value}{n:Str}{v:Value}(X:K.In h)(G:h.Ns N m)(e:nsIn K N n=some (some v)):m n=some v:=by
 obtain⟨o,es,ep,ho,hd,_,hf⟩:=G
 unfold nsIn at e
 split at e
 ·rename_i c d es' n' sl q
  have z:=X _ _ q;rw[ho] at z;cases z;cases hd;rw[<-hf n]
  split at e
  ·rename_i en he
   cases e
   show findBy _ es n=_
   unfold findBy
   rw[<-Array.find?_toList,he];rfl
  ·split at e
   ·cases e
   ·cases e
 ·cases e
theorem Mb{K:Frag}{h:Heap}{C fI:Addr}{bmB:List Value}{newId:String}(X:K.In h)(q:exiIn K C bmB newId fI=true) :
  ∃bm N nm qn bs hdct sn sub ab col dd k0 k1 k2 k3 k5 mN,h.get? C=some (excClassObj nm qn C N bs bm hdct sn sub ab col dd k0 k1 k2 k3 k5 newId)/\h.Ns N mN/\mN "__init__" = some (.ref fI)/\OwnTail h bmB bm:=by
 unfold exiIn at q
 split at q
 ·rename_i dd cd sl ho
  split at q
  ·rename_i C' bm k0 k1 k2 k3 n k5 hm hs
   simp only[Bool.and_eq_true,beq_iff_eq,Bool.not_eq_true'] at q
   obtain⟨⟨⟨⟨⟨rfl,rfl⟩,hdel⟩,ht⟩,hok⟩,hni⟩:=q
   obtain⟨nm,bs,mro,ns,qn,hd,sn,sub,ab,col,DK⟩:=cd
   dsimp only at hm hdel hok hni
   subst hm hdel
   have hsl:sl = #[k0,k1,k2,k3,some (.builtin n),k5]:=by
    obtain⟨l⟩:=sl
    simp only at hs
    rw[hs]
   subst hsl
   refine⟨bm,ns,nm,qn,bs,hd,sn,sub,ab,col,dd,k0,k1,k2,k3,k5,_,X _ _ ho,.of_isNs (isNs_of_in X hok),?_,tail_of_in X ht⟩
   exact Ex X (.of_isNs (isNs_of_in X hok)) hni
  ·cases q
 ·cases q
def Vq(C e t:Addr):Heap->Prop:=fun h=>h.get? e=some (Ma C t)
def Wv(C e t dx:Addr):Heap->Prop:=fun h=>h.get? e=some { Ma C t with dict:=some dx }
structure BInit(K:Frag)(Cb:Addr)(initId:String):Prop where
 ga:specialIn K (.ref Cb) "__getattribute__" = some (some (.builtin "type.__getattribute__"))
 rd:readsIn K Cb (.type "type")=true
 fc:findCls K (.ref Cb) (.type "type") "__init__" = some (.val (.builtin initId))
section
variable {X:Cx} {x:Str} {np ap cpos pos:Pos} {a b o value:Expr} {t:TA} {ta tv:TE} {C Cb fI:Addr} {bmB:List Value} {B newId initId:String} {f:Str}
theorem KY{pl:Sem Bool}(F:ExcBaseFacts B newId initId bmB)(BI:BInit X.K Cb initId)(hC:exiIn X.K C bmB newId fI=true)(hg:Gl X x)(hm:X.mg x=some (.ref Cb))(hh:handedIn (.builtin initId)=true)(ha:PA X [a,b] t)
  (hdb:(x==("__debug__" : Str))=false:=by decide) (hpl:(backTo cpos (starEach [b] X.env)).any (·.1)=false:=by rfl) (hs:starEach [a,b] X.env=(false,eval a X.env)::starEach [b] X.env:=by rfl)
  (ht:eval (.Call (.Attribute (.Name x np) "__init__" ap) [a,b] [] cpos) X.env=(do
   let ov <-eval (.Name x np) X.env
   standAt ap.atName
   let(f,first) <-holding [ov] (getMethod ov "__init__" pl)
   callWith cpos f first (backTo cpos (starEach [a,b] X.env)) (backToKw cpos (keywordEach [] X.env))):=by rfl) :
  PE X (.Call (.Attribute (.Name x np) "__init__" ap) [a,b] [] cpos) (fun σ H Q=>t σ H fun vs H1=>∃e v t0,vs=[.ref e,v]/\H1 e=some (.ext (Vq C e t0))/\∀t1,Q .non (upd H1 e (.ext (Vq C e t1)))):=by
 intro pins s σ H Q I h
 refine PySem.W.methodCall_KW (pl:=pl) (Vw I hg hm ?_ hdb) ht
 refine PySem.W.method_cls I.kIn BI.ga (PySem.W.cls_value I.kIn BI.rd BI.fc hh ?_)
 have I0:Inv X pins σ H { s with toks:=s.toks+1 }:=I.kept (t':=s.toks+1) fun _ _ q=>q
 have hA:=ha cpos pins _ σ H _ I0 h
 rw[hs] at hA ⊢
 refine Calls.callWith_builtin (by show(false || (backTo cpos (starEach [b] X.env)).any (·.1))=false;rw[hpl]<;>rfl) (Calls.evalArgs_plain ?_)
 refine YO hA fun us s2 ⟨vs,H2,I2,r2,e,v,t0,ev,he,q⟩=>?_
 subst ev
 obtain⟨u1,u2,rfl,rfl,rv⟩:∃u1 u2,us=[u1,u2]/\u1=Value.ref e/\RelV v u2:=by
  cases r2 with
  | cons h1 h2=>cases h2 with
   | cons h3 h4=>cases h4;exact⟨_,_,rfl,h1,h3⟩
 obtain⟨bm,N,nm,qn,bs,hdct,sn,sub,ab,col,dd,k0,k1,k2,k3,k5,mN,hC',hN,hi,TL⟩:=Mb I2.kIn hC
 obtain⟨hx,_,_⟩:=(show ObjOk X.prog X.w H2 s2.heap e (.ext (Vq C e t0)) from I2.hok e _ he)
 obtain⟨hp,g,d,tk,os⟩:=s2
 refine Lf F TL hC' hx fun h' kp e1 e2=>?_
 refine⟨.non,_,I2.write (t':=tk) (x:=e) (e:=e) (o:=.ext (Vq C e hp.objs.size)) (by rw[he];trivial) (.inl rfl) kp ⟨_,e1⟩ ⟨e1,⟨_,e1⟩,fun h1 h2 z k=>k _ z⟩,rfl,q _⟩
theorem IJ(hC:exiIn X.K C bmB newId fI=true)(hs':findIn X.K (.ref C) "__setattr__" = some (some (.builtin "object.__setattr__")))(hp:veOver X.K C=true)(ht:takerIn X.K C f=some none)(hd:(clsIn X.K C).any (·.hasDict)=true)(hex:X.ex=[])
  (ha:PE X o ta) (hv:PE X value tv) (hs:swapsWith value (some (.Attribute o f np)) pos.line X.env=pure false:=by rfl) :
  PS X (.Assign [.Attribute o f np] value pos) (fun D σ H=>tv σ H fun y H1=>ta σ H1 fun z H2=>∃e t1,z = .ref e/\H2 e=some (.ext (Vq C e t1))/\
   ∀dx od u,RelV y u->H2 dx=none->dx≠e->VL.NsO od f u->D.nx σ (upd (upd H2 dx (.frz od (.own dx))) e (.ext (Wv C e t1 dx)))):=by
 intro pins s σ H D I h
 refine plainObj_wpAny_Assign_Attribute (YO (hv pins s σ H _ I h) fun u s1 ⟨y,H1,I1,ry,q⟩=>YO (ha pins s1 σ H1 _ I1 q) fun ov s2 ⟨z,H2,I2,rz,e,t1,ez,he,q2⟩=>?_) hs
 subst ez
 obtain rfl:ov=Value.ref e:=rz
 obtain⟨hx,_,_⟩:=(show ObjOk X.prog X.w H2 s2.heap e (.ext (Vq C e t1)) from I2.hok e _ he)
 refine Ld I2.kIn hx rfl rfl rfl hs' hp ht hd fun h' tk' dx kp ex hsz hne hn=>?_
 obtain⟨od,es,ep,ho,hdat,hsk,huk,hf⟩:=id hn
 have hdx:H2 dx=none:=I2.hok.fresh hsz
 have ns:VL.NsO od f u:=fun hp b z=>⟨od,es,ep,z,hdat,hsk,huk,hf⟩
 have I3:Inv X pins σ (upd H2 e (.ext (Wv C e t1 dx))) { s2 with heap:=h',toks:=tk' }:=I2.write (t':=tk') (x:=e) (e:=e) (o:=.ext (Wv C e t1 dx)) (by rw[he];trivial) (.inl rfl) kp ⟨_,ex⟩ ⟨ex,⟨_,ex⟩,fun h1 h2 z k=>k _ z⟩
 have hdx3:upd H2 e (.ext (Wv C e t1 dx)) dx=none:=by rw[upd_ne hne];exact hdx
 have off:HP X pins dx:=Q0 I2 hex (Heap.get?_none_of_le hsz)
 have I4:=Qi I3 (show({ s2 with heap:=h',toks:=tk' }:Shared).heap.get? dx=some od from ho) hdx3 off
 have sw:upd (upd H2 e (.ext (Wv C e t1 dx))) dx (.frz od (.own dx))=upd (upd H2 dx (.frz od (.own dx))) e (.ext (Wv C e t1 dx)):=by
  funext b
  unfold upd
  by_cases z:b=dx
  ·rw[if_pos z,if_neg (fun y=>hne (z.symm.trans y)),if_pos z]
  ·rw[if_neg z]
   by_cases y:b=e
   ·rw[if_pos y,if_pos y]
   ·rw[if_neg y,if_neg y,if_neg z]
 rw[sw] at I4
 exact⟨σ,_,I4,q2 dx od u ry hdx hne ns⟩
end
end VX
namespace VX
open PySem PySem.Spec PyProof.Rows L2
theorem P6{m:Nat}:∀{ts:List Str},(∀t∈ts,t.length<=m)->piled ts<=ts.length*(m+2)
 | [],_=>by simp[piled]
 | t::r,h=>by
  have h1:=P6 (m:=m) (ts:=r) fun u hu=>h u (by simp[hu])
  have h2:=h t (by simp)
  rw[List.length_cons,Nat.add_mul,piled_cons];omega
theorem IK{m:Nat}{ts:List Str}(h:∀t∈ts,t.length<=m):(Str.join ", " ts).length<=ts.length*(m+2):=by
 by_cases q:ts=[]
 ·subst q
  rw[show(Str.join ", " ([]:List Str)).length=0 from by decide]
  exact Nat.zero_le _
 ·have:=join_length_add ts q
  have:=P6 h
  omega
theorem Q2{m:Nat}{ts:List Str}(h:∀t∈ts,t.length<=m):(tupleText ts).length<=3+ts.length*(m+2):=by
 unfold tupleText;rw[strLen_append,strLen_append]
 have:=IK h
 have e1:(Str.ofString "(").length=1:=by decide
 have e2:(Str.ofString (if(ts.length==1)=true then ",)" else ")" : String)).length<=2:=by split<;>decide
 omega
def Rf(H:Hp)(v:V):Prop:=v = .non\/(∃i:Int,v = .int i/\i.natAbs.log2<1920)\/∃(a:Addr) (is:List Int),v = .ref a/\H a=some (.tup (is.map V.int))/\is.length<=100/\∀i∈is,i.natAbs.log2<1920
section
variable {X:Cx} {k:Nat} {e:Expr} {te:TE} {y:Str} {p1 p2 p3:Pos} {jj:Nat}
def HR(te:TE):TE:=fun σ H Q=>te σ H fun v H1=>Rf H1 v/\∀z,Q (.str z) H1
end
end VX
namespace VX
open PySem PySem.W PySem.Spec PyProof.Rows L2 VL
def ER(C:Addr)(f:Str):Sp:=fun vs H Q _=>vs.length=2/\∃e v t0,vs=[.ref e,v]/\H e=some (.ext (Vq C e t0))/\Rf H v/\
 ∀t1 dx od u,RelV v u->H dx=none->dx≠e->NsO od f u->Q .non (upd (upd H dx (.frz od (.own dx))) e (.ext (Wv C e t1 dx)))
def HS(C:Addr)(f:Str):TS:=
 FU (Po (fun σ H Q=>Uv (Ur 0) (Uv (HR (Ur 1)) OG) σ H fun vs H1=>∃e v t0,vs=[.ref e,v]/\H1 e=some (.ext (Vq C e t0))/\∀t1,Q .non (upd H1 e (.ext (Vq C e t1)))))
  (fun D σ H=>Ur 1 σ H fun y H1=>Ur 0 σ H1 fun z H2=>∃e t1,z = .ref e/\H2 e=some (.ext (Vq C e t1))/\
   ∀dx od u,RelV y u->H2 dx=none->dx≠e->NsO od f u->D.nx σ (upd (upd H2 dx (.frz od (.own dx))) e (.ext (Wv C e t1 dx))))
theorem Lk{C:Addr}{f a b:Str}{vs:List V}{H:Hp}{Q:VK}{E:XK}(h:ER C f vs H Q E):HS C f { nx:=fun _ H'=>Q .non H',rt:=Q } (start [a,b] vs) H:=by
 obtain⟨_,e,v,t0,rfl,he,sh,q⟩:=h
 show HS C f _ [some (.ref e),some v] H
 refine⟨.ref e,rfl,v,rfl,sh,fun z=>⟨e,.str z,t0,rfl,he,fun t1=>?_⟩⟩
 refine⟨v,rfl,.ref e,rfl,e,t1,rfl,Zq,fun dx od u rv hd hne ns=>?_⟩
 rw[upd_ne hne] at hd
 have:=q t1 dx od u rv hd hne ns
 have sw:upd (upd (upd H e (.ext (Vq C e t1))) dx (.frz od (.own dx))) e (.ext (Wv C e t1 dx))=upd (upd H dx (.frz od (.own dx))) e (.ext (Wv C e t1 dx)):=by
  funext c
  unfold upd
  by_cases y:c=e
  ·rw[if_pos y,if_pos y]
  ·rw[if_neg y,if_neg y,if_neg y]
 show Q .non (upd (upd (upd H e (.ext (Vq C e t1))) dx (.frz od (.own dx))) e (.ext (Wv C e t1 dx)))
 rw[sw];exact this
def P7(H:Hp)(e:Addr):Hp:=fun b=>if b=e then none else H b
theorem IL{X:Cx}{pins:List (Addr×Obj)}{σ:L2.St}{H:Hp}{s:Shared}{e:Addr}{φ:Heap->Prop}(I:Inv X pins σ H s)(he:H e=some (.ext φ)):Inv X pins σ (P7 H e) s:=by
 have ne:∀b u,H b=some u->(∀ψ,u≠.ext ψ)->P7 H e b=some u:=fun b u q n=>by
  unfold P7
  rw[if_neg (fun z=>by rw[z,he] at q;cases q;exact n _ rfl)]
  exact q
 have nn:∀b,H b=none->P7 H e b=none:=fun b q=>by
  unfold P7
  split
  ·rfl
  ·exact q
 refine⟨I.ok,I.os,I.bare,⟨fun b o q n hb hx=>?_,fun b o q n hb hx=>?_,fun b o q n hx=>nn b (I.base.free b o q n hx),I.base.there,fun b xs q=>ne b _ (I.base.tups b xs q) (fun _ z=>nomatch z),fun b o u q=>ne b _ (I.base.frzs b o u q) (fun _ z=>nomatch z),fun b ps q=>?_⟩,I.loc,I.cell,nn _ I.free,fun x c q=>nn c (I.freeC x c q),fun p hp=>?_,fun b u q=>?_,I.len⟩
 ·exact I.base.keep b o q n hb hx
 ·exact I.base.slot b o q n hb hx
 ·obtain⟨more,z⟩:=I.base.tbls b ps q
  exact⟨more,ne b _ z fun _ z=>nomatch z⟩
 ·obtain⟨e1,n,r⟩:=I.pin p hp
  exact⟨e1,nn _ n,r⟩
 ·have hb:H b=some u:=by
   unfold P7 at q
   split at q
   ·cases q
   ·exact q
  exact(I.hok b u hb).stay (fun _ _ _ r=>r) (fun c r=>ne c _ r fun _ z=>nomatch z) fun c xs r=>ne c _ r fun _ z=>nomatch z
structure IM(P:Program)(w:World)(K:Frag)(mg:Str->Option Value)(base:Heap)(C:Addr)(f:Str)(bmB:List Value)(newId:String):Prop where
 ex:∃fI fd oI,exiIn K C bmB newId fI=true/\K.lookup fI=some oI/\oI.cls = .type "function"/\Binds K fd ["self",f] []/\V5 P w K mg base Py 1 fI fd ["self",f] (ER C f)
structure Dm(X:Cx)(E:XK):Prop where
 go:∀{pins:List (Addr×Obj)}{σ:L2.St}{H:Hp}{s:Shared}{e:Addr}{cls:Value}{dd:Option Addr},Inv X pins σ H s->KQ s.heap e cls dd->X.s₀.heap.get? e=none->H e=none->E cls dd H->X.xe (.ref e) s
section
variable {X:Cx} {E:XK} {C:Addr} {bmB:List Value} {B newId initId:String} {x f:Str} {np cpos pos:Pos} {a:Expr} {ta:TE}
theorem Ll(F:ExcBaseFacts B newId initId bmB)(CF:IM X.prog X.w X.K X.mg X.base C f bmB newId)(hr:Room 2 X.A)(hg:Gl X x)(hm:X.mg x=some (.ref C))(hcalm:X.calm=true)(DX:Dm X E)(ha:PE X a ta)
  (hdb:(x==("__debug__" : Str))=false:=by decide) (he:starEach [a] X.env=(false,eval a X.env)::starEach [] X.env:=by rfl) :
  PS X (.Raise (some (.Call (.Name x np) [a] [] cpos)) none pos) (fun _ σ H=>ta σ H fun v H1=>Rf H1 v/\∀dx od u,RelV v u->H1 dx=none->NsO od f u->E (.ref C) (some dx) (upd H1 dx (.frz od (.own dx)))):=by
 intro pins s σ H D I h
 obtain⟨fI,fd,oI,hq,hlf,hfc,hb,FO⟩:=CF.ex
 have X0:X.K.In X.base:=I.ok.mod.kin
 obtain⟨bm,N,nm,qn,bs,hdct,sn,sub,ab,col,dd,k0,k1,k2,k3,k5,mN,hC,hN,hi,TL⟩:=Mb X0 hq
 refine W0 (nm:=nm) (q:=qn) (N:=N) (bs:=bs) (hdct:=hdct) (sn:=sn) (sub:=sub) (ab:=ab) (col:=col) (dd:=dd) (k0:=k0) (k1:=k1) (k2:=k2) (k3:=k3) (k5:=k5) F (mN:=mN) (fI:=fI) (oI:=oI) (TL.hasType F.hasBase) (I.ok.hd hcalm) (by rw[he];rfl) hi hfc (Vw I hg hm ⟨rfl,?_⟩ hdb)
 have pa:PA X [a] (Uv ta OG):=YI ha XI (hs:=he)
 have key:wpAny (model X.prog X.w) X.A (spliced (backTo cpos (starEach [a] X.env))) (fun us s₂=>us.length<=sizeLine/\s₂.heap.get? C=some (excClassObj nm qn C N bs bm hdct sn sub ab col dd k0 k1 k2 k3 k5 newId)/\s₂.heap.Ns N mN/\OwnTail s₂.heap bmB bm/\s₂.heap.get? fI=some oI/\
    ∀h',(∀b o,s₂.heap.get? b=some o->h'.get? b=some o)->h'.get? (s₂.heap.objs.size+1)=some { cls:=.ref C,data:=.fields #[.ref s₂.heap.objs.size,.none,.none,.none,.bool false,.none] }->
     wpAny (model X.prog X.w) (X.A.under (.builtin "type.__call__" ⟨.ref C::us,[]⟩)) (call (.ref fI) (.ref (s₂.heap.objs.size+1)::us)) (fun r s₃=>r = .none/\∃t dx,s₃.heap.get? C=some (excClassObj nm qn C N bs bm hdct sn sub ab col dd k0 k1 k2 k3 k5 newId)/\
      s₃.heap.get? (s₂.heap.objs.size+1)=some { cls:=.ref C,dict:=dx,data:=.fields #[.ref t,.none,.none,.none,.bool false,.none] }/\X.xe (.ref (s₂.heap.objs.size+1)) s₃) X.xe { s₂ with heap:=h' }) X.xe s:=by
  refine YO (pa cpos pins s σ H (fun vs H1=>match vs with | [v]=>Rf H1 v/\∀dx od u,RelV v u->H1 dx=none->NsO od f u->E (.ref C) (some dx) (upd H1 dx (.frz od (.own dx))) | _=>False) I h) fun us s₂ ⟨vs,H1,I1,r,q⟩=>?_
  obtain⟨v,rfl⟩:∃v,vs=[v]:=by
   match vs,q with
   | [v],_=>exact⟨v,rfl⟩
  obtain⟨hs,hE⟩:Rf H1 v/\∀dx od u,RelV v u->H1 dx=none->NsO od f u->E (.ref C) (some dx) (upd H1 dx (.frz od (.own dx))):=q
  obtain⟨u,rfl,ru⟩:=Uu r
  refine⟨by show 1<=_;decide,I1.bk _ _ hC,hN.keeps I1.bk,TL.keeps I1.bk,I1.bk _ _ (X0 _ _ hlf),fun h' kp ex=>?_⟩
  generalize hea:s₂.heap.objs.size+1=e at ex ⊢
  have hfr:s₂.heap.objs.size<=e:=by omega
  have hHe:H1 e=none:=I1.hok.fresh hfr
  have I2:Inv X pins σ (upd H1 e (.ext (Vq C e s₂.heap.objs.size))) { s₂ with heap:=h' }:=I1.laid (t':=s₂.toks) kp hfr ⟨ex,⟨_,ex⟩,fun h1 h2 z k=>k _ z⟩
  have hs':Rf (upd H1 e (.ext (Vq C e s₂.heap.objs.size))) v:=by
   rcases hs with z | z | ⟨c,is,z1,z2,z3⟩
   ·exact .inl z
   ·exact .inr (.inl z)
   ·exact .inr (.inr ⟨c,is,z1,by rw[upd_ne (ZK z2 hHe)];exact z2,z3⟩)
  have r2:Vals [V.ref e,v] [Value.ref e,u]:=.cons rfl (.cons ru .nil)
  let QF:VK:=fun r H'=>r = .non/\∃t1 dx od u',RelV v u'/\H1 dx=none/\dx≠e/\NsO od f u'/\H'=upd (upd (upd H1 e (.ext (Vq C e s₂.heap.objs.size))) dx (.frz od (.own dx))) e (.ext (Wv C e t1 dx))
  have hsp:ER C f [V.ref e,v] (upd H1 e (.ext (Vq C e s₂.heap.objs.size))) QF E0:=⟨rfl,e,v,_,rfl,Zq,hs',fun t1 dx od u' h1 h2 h3 h4=>⟨rfl,t1,dx,od,u',h1,by rw[upd_ne h3] at h2;exact h2,h3,h4,rfl⟩⟩
  refine wpAny_call (codeAny_mono (FO.run _ X.stack _ _ ⟨[.ref e,u],[]⟩ [.ref e,u] [V.ref e,v] QF E0 (hr.make C [u] []) (I2.env0.make C [u] []) (hb _ [.ref e,u] I2.kIn rfl) r2 hsp) fun rr s' hq'=>?_)
  cases rr with
  | error ee=>exact False.elim hq'
  | ok fl=>
   cases fl with
   | next=>exact False.elim hq'
   | brk=>exact False.elim hq'
   | cont=>exact False.elim hq'
   | ret u2=>
    obtain⟨v2,H',I3,rv,ev,t1,dx,od,u',q1,q2,q3,q4,rfl⟩:=I2.after hq'
    subst ev
    obtain⟨ho,_,_⟩:=(show ObjOk X.prog X.w _ s'.heap e (.ext (Wv C e t1 dx)) from I3.hok e _ Zq)
    have I4:=IL I3 (e:=e) Zq
    have eH:P7 (upd (upd (upd H1 e (.ext (Vq C e s₂.heap.objs.size))) dx (.frz od (.own dx))) e (.ext (Wv C e t1 dx))) e=upd H1 dx (.frz od (.own dx)):=by
     funext c
     unfold P7 upd
     by_cases y:c=e
     ·rw[if_pos y,if_neg (fun z=>q3 (z.symm.trans y)),y,hHe]
     ·rw[if_neg y,if_neg y,if_neg y]
    rw[eH] at I4
    refine⟨rv,t1,some dx,I3.bk _ _ hC,ho,?_⟩
    refine DX.go I4 ⟨_,_,ho,rfl,rfl,rfl,rfl⟩ ?_ ?_ (hE dx od u' q1 q2 q4)
    ·cases z:X.s₀.heap.get? e with
     | none=>rfl
     | some o=>
      exact absurd (Nat.lt_of_lt_of_le (Heap.lt_size z) I1.sz) (by omega)
    ·rw[upd_ne (Ne.symm q3)];exact hHe
 rw[he] at key ⊢
 exact Calls.evalArgs_plain (wpAny_mono key (fun us s₂ h2=>⟨rfl,h2⟩) fun _ _ z=>z)
end
end VX
namespace VX
open PySem PySem.Spec PyProof.Rows L2 VL
abbrev XF:=ZP->Option (Str×PV)
def Dw(K:PySem.W.Frag)(E:XK)(H0:Hp)(n:Str)(l:PV):Prop:=∀C dx od u z H',PySem.W.nsIn K mainGlobals n=some (some (.ref C))->Same H0 H'->H' dx=some (.frz od (.own dx))->NsO od (XZ n) u->RelV z u->Is K H' l z []->E (.ref C) (some dx) H'
def Dn(K:PySem.W.Frag)(O:List Nat)(fy:XF)(E:XK):TS:=fun _ σ H=>∃H0 fps s n l,Rel K O H0 fps s σ H/\fy s=some (n,l)/\Dw K E H0 n l
def VY(X:Cx)(O:List Nat)(E:XK)(st:Stmt)(fy:XF):Prop:=PS X st (Dn X.K O fy E)
def HU(X:Cx)(O:List Nat)(E:XK)(st:List Stmt)(fy:XF):Prop:=PSs X st (Dn X.K O fy E)
def P8:PV->Bool
 | .non=>true
 | .int i=>decide (i.natAbs.log2<1920)
 | .tup l=>match Xx l with
  | some is=>decide (is.length<=100)&&is.all fun i=>decide (i.natAbs.log2<1920)
  | none=>false
 | _=>false
theorem KZ{K:PySem.W.Frag}{H:Hp}{l:PV}{v:V}{fp:List Addr}(h:Is K H l v fp)(g:P8 l=true):Rf H v/\fp=[]:=by
 cases l with
 | non=>exact⟨.inl h.non_inv.1,h.non_inv.2⟩
 | int i=>exact⟨.inr (.inl ⟨i,h.int_inv.1,of_decide_eq_true g⟩),h.int_inv.2⟩
 | tup l=>
  have g':(match Xx l with | some is=>decide (is.length<=100)&&is.all fun i=>decide (i.natAbs.log2<1920) | none=>false)=true:=g
  split at g'
  ·rename_i is his
   have:=Xd his
   subst this
   obtain⟨p,xs,rfl,hp,hi⟩:=h.tup_inv
   obtain⟨rfl,rfl⟩:=hi.iL
   rw[Bool.and_eq_true] at g'
   exact⟨.inr (.inr ⟨p,is,rfl,hp,of_decide_eq_true g'.1,fun i hi=>of_decide_eq_true (List.all_eq_true.mp g'.2 i hi)⟩),rfl⟩
  ·cases g'
 | bl b=>cases g
 | str x=>cases g
 | ty n=>cases g
 | exc n=>cases g
 | exf n l=>cases g
 | lst l=>cases g
 | cst l=>cases g
 | dK ks l=>cases g
 | dT ks l=>cases g
def Th(n:Str)(f:XE):XF:=fun s=>(f s).bind fun l=>if P8 l=true then some (n,l) else none
def HV(fc:XT)(f g:XF):XF:=fun s=>(fc s).bind fun c=>if c=true then f s else g s
def RO(f1:XF)(f:XS)(g:XF):XF:=fun s=>match f1 s with
 | some c=>some c
 | none=>(match f s with
  | some (.nx s')=>g s'
  | _=>none)
def IP:XF:=fun _=>none
section
variable {X:Cx} {O W:List Nat} {E:XK} {C:Addr} {bmB:List Value} {B newId initId:String} {x:Str} {np cpos pos:Pos} {e:Expr} {f:XE}
theorem K0(F:ExcBaseFacts B newId initId bmB)(CF:IM X.prog X.w X.K X.mg X.base C (XZ x) bmB newId)(hr:Room 2 X.A)(hg:Gl X x)(hm:X.mg x=some (.ref C))(hns:PySem.W.nsIn X.K mainGlobals x=some (some (.ref C)))(hcalm:X.calm=true)(DX:Dm X E)(he:VE X e f)
  (hdb:(x==("__debug__" : Str))=false:=by decide) (hst:starEach [e] X.env=(false,eval e X.env)::starEach [] X.env:=by rfl) :
  VY X O E (.Raise (some (.Call (.Name x np) [e] [] cpos)) none pos) (Th x f):=
 PS.imp (Ll F CF hr hg hm hcalm DX he hdb hst) fun D σ H ⟨H0,fps,s,n,l,r,e,q⟩=>by
  obtain⟨l',hl,e⟩:=Zg e
  split at e
  ·rename_i hs
   cases e
   refine⟨fun _=>False,s,l,fun _ z=>z.elim,r.env,hl,fun v H' fp sm i _=>?_⟩
   obtain⟨sh,rfl⟩:=KZ i hs
   refine⟨sh,fun dx od u rv hd ns=>q C dx od u v _ hns ((r.same.trans sm).trans (Same.new hd _)) Zq ns rv (i.mono (Same.new hd _))⟩
  ·cases e
variable {st:Stmt} {rest a b:List Stmt} {c:Expr} {fc:XT} {f1 g1:XF} {fs:XS}
theorem vy_no:VY X O E st IP:=fun pins s σ H D I ⟨_,_,_,_,_,_,e,_⟩=>by cases e
theorem K1:HU X O E rest IP:=fun pins s σ H D I ⟨_,_,_,_,_,_,e,_⟩=>by cases e
theorem Ey(hc:VT X c fc)(ha:HU X O E a f1)(hb:HU X O E b g1):VY X O E (.If c a b pos) (HV fc f1 g1):=PS.imp (Hv hc ha hb) fun D σ H ⟨H0,fps,s,n,l,r,e,q⟩=>by
 obtain⟨d,e1,e⟩:=Zg e
 refine⟨fun _=>False,s,d,fun _ z=>z.elim,r.env,e1,fun H1 s1=>?_⟩
 cases d with
 | true=>rw[if_pos rfl] at e ⊢;exact⟨H0,fps,s,n,l,r.grow s1,e,q⟩
 | false=>rw[if_neg Bool.false_ne_true] at e ⊢;exact⟨H0,fps,s,n,l,r.grow s1,e,q⟩
theorem Mc(h:VY X O E st f1):HU X O E [st] f1:=Qs h
theorem K2(h1:VY X O E st f1)(hs:VS X O W st fs)(h2:HU X O E rest g1):HU X O E (st::rest) (RO f1 fs g1):=by
 intro pins s σ H D I ⟨H0,fps,sp,n,l,r,e,q⟩
 unfold RO at e
 split at e
 ·rename_i c hc
  cases e
  exact Li h1 (fun _ _ _ _ z=>z) pins s σ H D I ⟨H0,fps,sp,_,_,r,hc,q⟩
 ·split at e
  ·rename_i s' hf
   refine Us hs h2 pins s σ H D I ⟨H0,fps,sp,.nx s',r,hf,fun fps' σ' H' r' _=>?_⟩
   exact⟨H0,fps',s',n,l,r',e,q⟩
  ·cases e
end
def spY(K:PySem.W.Frag)(R:List PV->Option (Str×PV))(n:Nat):Sp:=fun vs H _ E=>vs.length=n/\∃ls fp nm l,Iss K H ls vs fp/\R ls=some (nm,l)/\Dw K E H nm l
def Fs(m:Nat)(fy:XF):List PV->Option (Str×PV):=fun ls=>fy (Yq m ls)
section
variable {K:PySem.W.Frag} {P:Program} {w:World} {mg:Str->Option Value} {base:Heap}
open Classical in
theorem Ft{N:List Str}{O:List Nat}{n:Nat}{fy:XF}{vs:List V}{H:Hp}{Q:VK}{E:XK}{D:Uc}(hO:∀i∈O,n<=i)(h:spY K (Fs N.length fy) n vs H Q E):Dn K O fy E D (L2.start N vs) H:=by
 obtain⟨hl,ls,fp,nm,lv,hi,e,q⟩:=h
 obtain⟨H0,fps,s,out,r,e1,k⟩:=QK (N:=N) (n:=n) (O:=O) (W:=[]) (f:=fun s=>if s=Yq N.length ls then some (.rt .non) else none) (vs:=vs) (H:=H) (Q:=fun _ H'=>Same H H') (E:=fun _ _ _=>True) hO ⟨hl,ls,fp,.non,hi,by unfold Xi;simp[Xm],fun _ H' _ sm _ _ _=>sm⟩
 simp only at e1
 split at e1
 ·rename_i hs
  cases e1;subst hs
  exact⟨H0,fps,_,nm,lv,r,e,fun C dx od u z H' hc sm a1 a2 a3 a4=>q C dx od u z H' hc (k .non [] H' sm Is.non List.nodup_nil fun p hp=>by simp at hp) a1 a2 a3 a4⟩
 ·cases e1
theorem def_y{x:Str}{st:Stmt}{N ps:List Str}{k n:Nat}{O:List Nat}(m:Nat)(fy:XF)(D:Def K mg x st)(S:ZH N ps (Zl st))
  (hb:∀(kV doc pm:Value)(an:Option Addr)(cdv ct:Value)(us:List Value),us.length=ps.length->bindArgs (PySem.W.fnOf x x (Y9 st) (Yb st) (Zl st) .none kV doc pm an cdv ct) ⟨us,[]⟩=pure (ps.zip us))
  (hn:ps.length=n) (hm:N.length=m) (hO:∀i∈O,n<=i)
  (hbody:∀(fa:Addr)(cdv:Value)(A:Around)(outer:List Env)(s:Shared)(H:Hp)(E:XK),Room k (A.deeper (envOfC x (Zl st) s.heap.objs.size fa cdv))->HU (U0 (HN P w) P w K mg base N x (Zl st) fa cdv A outer s H E) O E (Yb st) fy) :
  CalX P w K mg base x ps (spY K (Fs m fy) n) (k+1):=by
 subst hm
 obtain⟨f,fd,hm,F⟩:=D.ex
 refine⟨f,fd,hm,F.kp,F.binds hb,?_⟩
 obtain⟨oc,od,kV,doc,pm,an,cdv,ct,osl,rfl,lk,hcd⟩:=F.ex
 exact HD lk hcd S (fun vs H Q E h=>by rw[hn];exact h.1) fun A outer s H vs Q E hr hsp=>⟨_,hbody f cdv A outer s H E hr,Ft hO hsp⟩
end
def TV(R:List PV->Option (Str×PV))(fs:List XE)(i:Nat)(f:XS):XS:=fun s=>(Uz fs s).bind fun ls=>(R ls).bind fun nl=>(f (s.set i (some (.exf nl.1 nl.2)))).map (HQ i)
section
variable {X:Cx} {O W:List Nat} {k n i:Nat} {x cx nm:Str} {ps:List Str} {R:List PV->Option (Str×PV)} {e:Expr} {es:List Expr} {fs:List XE} {p cp ep np hp pos:Pos} {b₀:Stmt} {suite:List Stmt} {f:XS} {Cb:Addr} {rest:List ExceptHandler}
theorem IQ(CX:CalX X.prog X.w X.K X.mg X.base x ps (spY X.K R n) k)(hr:Room k X.A)(hg:Gl X x)(ha:VA X.nox (e::es) fs)(hx:X.ex=[])(hst:X.stack=X.env::X.outer)(hfr:X.env.frame=some X.env.locals)
  (hN:X.N.Nodup) (hi:X.N[i]?=some nm) (hk:X.env.scope.names.lookup nm=some .local) (hgc:Gl X cx) (hmc:X.mg cx=some (.ref Cb)) (hB:PySem.W.ktsIn X.K Cb "BaseException" = true)
  (hR:∀ls m l,R ls=some (m,l)->∃C,PySem.W.nsIn X.K mainGlobals m=some (some (.ref C))/\PySem.W.ktsIn X.K C "BaseException" = true/\belowIn X.K C Cb=true)
  (hs:∀e,VSs (Cx.mark X e) O W (b₀::suite) f) (hiO:i∉O) (hsw:swapsWith (.Call (.Name x p) (e::es) [] cp) none ep.line X.env=pure false:=by rfl) (hn:fs.length=n:=by rfl)
  (hdb:(x==("__debug__" : Str))=false:=by decide) (hdb2:(cx==("__debug__" : Str))=false:=by decide) (he:starEach (e::es) X.env=(false,eval e X.env)::starEach es X.env:=by rfl) (hpl:(backTo cp (starEach es X.env)).any (·.1)=false:=by rfl) :
  VS X O (i::W) (.Try [.Expr (.Call (.Name x p) (e::es) [] cp) ep] (.ExceptHandler (some (.Name cx np)) (some nm) (b₀::suite) hp::rest) [] [] pos) (TV R fs i f):=by
 intro pins s σ H D I ⟨H0,fps,sp,out,r,e1,ok⟩
 obtain⟨ls,e2,e1⟩:=Zg e1
 obtain⟨⟨m,lv⟩,e3,e1⟩:=Zg e1
 obtain⟨o1,e4,rfl⟩:=map_some e1
 obtain⟨C,hns,hC,hb⟩:=hR ls m lv e3
 obtain⟨fa,fd,hmx,hkp,hbd,F⟩:=CX.ex
 refine wpAny_Try_except (wpAny_execs_cons (wpAny_Expr_any ?_ I.quiet hsw))
 refine wpAny_Call_Name_kw (Vw I hg hmx ?_ hdb)
 refine PySem.W.callWith_K (h₀:=X.base) I.ok.mod.kin hkp ?_ he hpl
 refine wpAny_mono (ha cp pins s σ H (fun vs H1=>Same H H1/\∃fp,Iss X.K H1 ls vs fp) (I.wish _) ⟨fun _=>False,sp,ls,fun _ z=>z.elim,r.env,e2,fun vs H1 fp s1 i1 _=>⟨s1,fp,i1⟩⟩) (fun us s1 ⟨vs,H1,I1,rv,sm,fp,i1⟩=>?_) fun _ _ z=>z.elim
 have I1:Inv X pins σ H1 s1:=I1.unwish
 have lvn:vs.length=n:=by rw[i1.len,WS e2,hn]
 have hsp:spY X.K R n vs H1 (fun _ _=>False) (fun cls dd H'=>cls = .ref C/\∃dx od u z,dd=some dx/\H' dx=some (.frz od (.own dx))/\NsO od (XZ m) u/\RelV z u/\Is X.K H' lv z []/\Same H1 H'):=⟨lvn,ls,fp,m,lv,i1,e3,fun C' dx od u z H' hc sm a1 a2 a3 a4=>⟨by rw[hns] at hc;cases hc;rfl,dx,od,u,z,rfl,a1,a2,a3,a4,sm⟩⟩
 have hl:(us++[]).length=ps.length:=by rw[List.append_nil,<-rv.length,lvn];have:=F.len _ _ _ _ hsp;omega
 have hbb:=hbd s1 us I1.kIn hl;rw[List.append_nil] at hbb
 refine⟨I1.kIn,wpAny_call (codeAny_mono (F.run X.A X.stack s1 H1 ⟨us,[]⟩ us vs _ _ hr I1.env0 hbb rv hsp) fun res s' hq=>?_)⟩
 cases res with
 | ok fl=>
  cases fl with
  | ret u=>obtain⟨_,_,_,_,_,_,_,z⟩:=hq;exact z.elim
  | next=>exact False.elim hq
  | brk=>exact False.elim hq
  | cont=>exact False.elim hq
 | error v=>
  obtain⟨ea,cls,dd,H',rfl,hos,hgn,u,hok,⟨T,xx,hH,hHT,he0,hT0⟩,rfl,dx,od,u',z',rfl,b1,b2,b3,b4,sm1⟩:=hq
  have I2:Inv X pins σ H' s':=I1.call' hos u hok hgn fun b hb=>nomatch hb
  refine Dl I2 hx hst hfr xx hH hHT (Q0 I1 hx he0) (Q0 I1 hx hT0) hN hi hk hgc hmc hC hB hb (hs ea) (fun oe h1 h2 h3=>?_) hdb2
  have sm2:Same H (upd H' ea (.frz oe (.own ea))):=fun b o q=>by
   have q':=sm1 b o (sm b o q)
   rw[upd_ne (ZK q' hH)];exact q'
  have sm3:Same H' (upd H' ea (.frz oe (.own ea))):=Same.new hH _
  have iE:Is X.K (upd H' ea (.frz oe (.own ea))) (.exf m lv) (.ref ea) []:=by
   simp only[Is]
   exact⟨⟨ea,oe,ea,C,dx,od,u',z',rfl,Zq,h1,hns,h2,h3,sm3 _ _ b1,b2,b3,b4.mono sm3⟩,trivial⟩
  have hlt:i<sp.length:=by
   have:=(List.getElem?_eq_some_iff.mp hi).1
   rw[r.len,I.len];exact this
  have r2:=(r.grow sm2).set (i:=i) iE (fun z=>absurd z hiO) (fun k _ _ p hp=>by simp at hp)
  refine⟨H0,_,_,o1,r2,e4,?_⟩
  have fin:∀(fps':Nat->List Addr)(σ':TF)(H'':Hp)(s':ZP),(∀j,j∉W->σ'[j]?=(σ.set i (some (V.ref ea)))[j]?/\Kep (fps' j) (Ta fps sp.length i [] j))->∀j,j∉i::W->(σ'.set i none)[j]?=σ[j]?/\Kep (if j=i then [] else fps' j) (fps j):=fun fps' σ' H'' s' h j hj=>by
   have hji:j≠i:=fun z=>hj (by rw[z];exact .head _)
   obtain⟨a1,a2⟩:=h j fun z=>hj (.tail _ z)
   rw[List.getElem?_set_ne (Ne.symm hji)] at a1 ⊢
   rw[Z6 hji] at a2;rw[if_neg hji]
   exact⟨a1,a2⟩
  cases o1 with
  | nx s'=>exact fun fps' σ' H'' r' k'=>ok _ _ _ (Rc hiO r') (fin fps' σ' H'' s' k')
  | bk s'=>exact fun fps' σ' H'' r' k'=>ok _ _ _ (Rc hiO r') (fin fps' σ' H'' s' k')
  | ct s'=>exact fun fps' σ' H'' r' k'=>ok _ _ _ (Rc hiO r') (fin fps' σ' H'' s' k')
  | rt l=>exact ok
end
structure Ez(K:PySem.W.Frag)(C:Addr):Prop where
 ga:PySem.W.findIn K (.ref C) "__getattribute__" = some (some (.builtin "BaseException.__getattribute__"))
 gr:PySem.W.findIn K (.ref C) "__getattr__" = some none
 cl:PySem.W.findIn K (.ref C) "__class__" = some (some (.builtin "object.__class__"))
 mr:PySem.W.mroIn K C (.type "object")=some true
 kt:PySem.W.ktsIn K C "BaseException" = true
section
variable {prog:Program} {w:World} {A:Around} {E:Value->Shared->Prop} {K:PySem.W.Frag} {a C:Addr}
theorem exc_classD{s:Shared}{Q:Option Value->Shared->Prop}(X:K.In s.heap){o:Obj}{ood:Option Obj}(I:PySem.W.InstAt s.heap a o C ood)
  (g1:PySem.W.findIn K (.ref C) "__getattribute__" = some (some (.builtin "BaseException.__getattribute__")))
  (g2:PySem.W.findIn K (.ref C) "__getattr__" = some none) (g3:PySem.W.findIn K (.ref C) "__class__" = some (some (.builtin "object.__class__"))) (g4:PySem.W.mroIn K C (.type "object")=some true) (g5:PySem.W.ktsIn K C "BaseException" = true)
  (h:Q (some (.ref C)) { s with toks:=s.toks+1 }):wpAny (model prog w) A (getAttr? (.ref a) "__class__") Q E s:=by
 obtain⟨hh,g,d,t,os⟩:=s
 have I:PySem.W.InstAt hh a o C ood:=I
 have hx:=I.at_;have hc:=I.cls
 have L0:=I.type (M:=model prog w)
 have L1:=PySem.W.looks_findIn (M:=model prog w) X g1
 unfold getAttr? getAttrBy? getAttrBy
 refine wpAny_bind (wpAny_mkText (wpAny_bind (wpAny_attempt (wpAny_holding (wpAny_bind (L0.at (wpAny_bind (L1.at ?_))))))))
 have L2:=PySem.W.looks_findIn (M:=model prog w) X g2
 have L3:=PySem.W.looks_findIn (M:=model prog w) X g3
 show wpAny (model prog w) A (getAttrByItsOwn (.ref a) (.str "__class__" t) (.ref C) (.builtin "BaseException.__getattribute__") false false) _ _ _
 have f3:=F.attr_ValueError.ga.bind (.ref a)
 unfold getAttrByItsOwn
 repeat (any_goals (first | assumption | wp_step | (refine wpAny_bind (L2.at ?_)) | (refine L2.at ?_)))
 obtain⟨nm,qn,N,bs,bm,hdct,sn,sub,ab,col,dc,k0,k1,k2,k3,k5,nid,hC,hbase,_⟩:=PySem.W.kts_cls X g5
 have hC:hh.get? C=some (excClassObj nm qn C N bs bm hdct sn sub ab col dc k0 k1 k2 k3 k5 nid):=hC
 have hcB:(Value.ref C::bm).contains (.type "BaseException")=true:=by rw[List.contains_cons,hbase,Bool.or_true]
 have L0':=I.type (M:=model prog w)
 show codeAny (model prog w) A (.call (.builtin "BaseException.__getattribute__") ⟨[.ref a,.str "__class__" t],[]⟩) _ ⟨hh,g,d,t+1,os⟩
 refine codeAny_call_builtin F.attr_ValueError.ga.plain F.entry_bexc_ga ?_
 have hk:builtinKind "BaseException.__getattribute__" = some .slot:=by decide +kernel
 have hsplit:splitId "BaseException.__getattribute__" = some ("BaseException","__getattribute__"):=by decide +kernel
 have ha:=F.args_bexc_ga (.ref a) (.str "__class__" t)
 simp only[checkBuiltinCall,hk,hsplit]
 refine wpAny_bind ?_
 unfold isInstance
 repeat (first | (with_reducible refine wpAny_loadPart_at hx ?_;rw[hc]) | (with_reducible refine wpAny_isSubtype_exc hC ?_;rw[hcB]) | wp_step)
 refine L3.at ?_
 have f5:=PySem.W.KF.type_class;have f6:=F.slot_gs_get.lookup;have f7:=F.slot_gs_set.lookup
 repeat (any_goals (first | assumption | (with_reducible refine wpAny_loadPart_at hx ?_;rw[hc]) | wp_step))
 have X':K.In (⟨hh,g,d,t+1,os⟩:Shared).heap:=X
 have I':PySem.W.InstAt (⟨hh,g,d,t+1,os⟩:Shared).heap a o C ood:=I
 refine PySem.W.class_get X' I' g4 ?_
 repeat (any_goals (first | assumption | wp_step))
theorem Nd{s:Shared}{Q:Value->Shared->Prop}{f:Str}{cd:ClassData}{v:Value}(X:K.In s.heap){o:Obj}{ood:Option Obj}(I:PySem.W.InstAt s.heap a o C ood)
  (g1:PySem.W.findIn K (.ref C) "__getattribute__" = some (some (.builtin "BaseException.__getattribute__")))
  (g2:PySem.W.findIn K (.ref C) "__getattr__" = some none) (g3:PySem.W.findIn K (.ref C) f=some none) (g4:PySem.W.clsIn K C=some cd) (gw:PySem.W.ownOf cd ood f=some (some v)) (g5:PySem.W.ktsIn K C "BaseException" = true) (hv:PySem.W.handedIn v=true)
  (h:Q v { s with toks:=s.toks+1 }):wpAny (model prog w) A (getAttr (.ref a) f true) Q E s:=by
 obtain⟨hh,g,d,t,os⟩:=s
 have I:PySem.W.InstAt hh a o C ood:=I
 have hx:=I.at_;have hc:=I.cls
 have L0:=I.type (M:=model prog w)
 have L1:=PySem.W.looks_findIn (M:=model prog w) X g1
 unfold getAttr getAttrBy
 refine wpAny_bind (wpAny_mkText (wpAny_holding (wpAny_bind (L0.at (wpAny_bind (L1.at ?_))))))
 have L2:=PySem.W.looks_findIn (M:=model prog w) X g2
 have L3:=PySem.W.looks_findIn (M:=model prog w) X g3
 have L4:=PySem.W.looks_own (M:=model prog w) X I g4 gw
 show wpAny (model prog w) A (getAttrByItsOwn (.ref a) (.str f t) (.ref C) (.builtin "BaseException.__getattribute__") true true) _ _ _
 have f3:=F.attr_ValueError.ga.bind (.ref a)
 unfold getAttrByItsOwn
 repeat (any_goals (first | assumption | wp_step | (refine wpAny_bind (L2.at ?_)) | (refine L2.at ?_)))
 obtain⟨nm,qn,N,bs,bm,hdct,sn,sub,ab,col,dc,k0,k1,k2,k3,k5,nid,hC,hbase,_⟩:=PySem.W.kts_cls X g5
 have hC:hh.get? C=some (excClassObj nm qn C N bs bm hdct sn sub ab col dc k0 k1 k2 k3 k5 nid):=hC
 have hcB:(Value.ref C::bm).contains (.type "BaseException")=true:=by rw[List.contains_cons,hbase,Bool.or_true]
 show codeAny (model prog w) A (.call (.builtin "BaseException.__getattribute__") ⟨[.ref a,.str f t],[]⟩) _ ⟨hh,g,d,t+1,os⟩
 refine codeAny_call_builtin F.attr_ValueError.ga.plain F.entry_bexc_ga ?_
 have hk:builtinKind "BaseException.__getattribute__" = some .slot:=by decide +kernel
 have hsplit:splitId "BaseException.__getattribute__" = some ("BaseException","__getattribute__"):=by decide +kernel
 have ha:=F.args_bexc_ga (.ref a) (.str f t)
 simp only[checkBuiltinCall,hk,hsplit]
 refine wpAny_bind ?_
 unfold isInstance
 repeat (first | (with_reducible refine wpAny_loadPart_at hx ?_;rw[hc]) | (with_reducible refine wpAny_isSubtype_exc hC ?_;rw[hcB]) | wp_step)
 refine L3.at ?_
 refine wpAny_bind (wpAny_pure (wpAny_bind (wpAny_pure ?_)))
 show wpAny _ _ (Builtin.ObjectAttr.ownThenClass (.ref a) f none none) _ _ _
 unfold Builtin.ObjectAttr.ownThenClass
 refine wpAny_bind (L4.at ?_)
 refine wpAny_bind (wpAny_rule (wpAny_pure ?_))
 refine wpAny_pure ?_
 show wpAny (model prog w) A (handedOut v) Q E _
 rw[PySem.W.handedOut_of hv]
 exact wpAny_pure h
end
def eIsF(tb:Str->Option Bool)(f:XE):XE:=fun s=>match f s with
 | some (.exf n _)=>(tb n).map PV.bl
 | _=>none
theorem IS{X:Cx}{pins:List (Addr×Obj)}{σ:L2.St}{H:Hp}{s:Shared}{a dx x C:Addr}{o od:Obj}{vs:Array Value}(I:Inv X pins σ H s)(hH:H a=some (.frz o (.own x)))(hc:o.cls = .ref C)(hd:o.dict=some dx)(hv:o.data = .fields vs)(hdx:H dx=some (.frz od (.own dx))) :
  PySem.W.InstAt s.heap a o C (some od):=⟨(I.hok a _ hH).1,hc,by unfold PySem.W.notCls;rw[hv],by rw[hd];exact(I.hok dx _ hdx).1⟩
section
variable {X:Cx} {e:Expr} {f:XE} {cx:Str} {p p2 pos:Pos} {tb:Str->Option Bool} {c:Value} {cv:V}
structure Fu(K:PySem.W.Frag)(n:Str)(C:Addr):Prop where
 ns:PySem.W.nsIn K mainGlobals n=some (some (.ref C))
 ec:Ez K C
 nf:PySem.W.findIn K (.ref C) (XZ n)=some none
 hd:(PySem.W.clsIn K C).any (·.hasDict)=true
def TX(n:Str)(f:XE):XE:=fun s=>match f s with
 | some (.exf m l)=>if m=n/\P8 l=true then some l else none
 | _=>none
theorem IT{od:Obj}{f:Str}{u:Value}{hp:Heap}{dx:Addr}(h:NsO od f u)(hx:hp.get? dx=some od):PySem.W.lookIn f od=some (some u):=by
 obtain⟨o,es,ep,e1,e2,_,_,e3⟩:=h hp dx hx
 rw[hx] at e1;cases e1
 have e4:nsFind es f=some u:=(e3 f).trans (if_pos rfl)
 have e5:findBy (fun n v=>v.isStr n) es f=some u:=e4
 unfold findBy at e5;rw[<-Array.find?_toList] at e5;unfold PySem.W.lookIn;rw[e2]
 dsimp only
 cases q:es.toList.find? (fun x=>x.key.isStr f) with
 | none=>rw[q] at e5;cases e5
 | some en=>rw[q] at e5;cases e5;rfl
theorem Nf{z:V}{u:Value}(r:RelV z u):PySem.W.handedIn u=true:=by
 cases z<;>simp only[L2.RelV] at r<;>first | (obtain⟨t,rfl⟩:=r;rfl) | (subst r;rfl)
theorem IU{n:Str}{C:Addr}(F:Fu X.K n C)(he:VE X e f)(hb:attributeBase e (XZ n) X.env (eval e X.env)=eval e X.env:=by rfl):VE X (.Attribute e (XZ n) pos) (TX n f):=by
 intro pins s σ H Q I h
 obtain⟨Rm,s',l,hd,env,e1,k⟩:=h
 unfold TX at e1
 split at e1
 ·rename_i m lv hn
  split at e1
  ·rename_i hm
   cases e1
   obtain⟨rfl,hg⟩:=hm
   refine J0 hb (YO (he pins s σ H (fun v H1=>Same H H1/\Is X.K H1 (.exf m l) v []) I ⟨Rm,s',.exf m l,hd,env,hn,fun v H1 fp s1 i1 n1=>⟨s1,by
    have:fp=[]:=by simp only[Is] at i1;exact i1.2
    rw[<-this];exact i1⟩⟩) fun u s1 ⟨v,H1,I1,rv,sm,i1⟩=>?_)
   simp only[Is] at i1
   obtain⟨⟨ea,o,x,C',dx,od,u',z,rfl,hH,hcl,hn',hdd,⟨vs,hv⟩,hdx,ns,rz,iz⟩,_⟩:=i1
   rw[F.ns] at hn'
   cases hn'
   obtain rfl:u=Value.ref ea:=rv
   obtain⟨cd,hcd,hhd⟩:=PySem.W.any_some F.hd
   refine Nd I1.kIn (IS I1 hH hcl hdd hv hdx) F.ec.ga F.ec.gr F.nf hcd (by
    unfold PySem.W.ownOf;rw[if_pos hhd]
    exact IT ns (I1.hok dx _ hdx).1) F.ec.kt (Nf rz) ?_
   exact⟨z,H1,I1.kept (t':=s1.toks+1) fun _ _ q=>q,rz,k z H1 [] sm iz fun p hp=>by simp at hp⟩
  ·cases e1
 ·cases e1
end
section
variable {M:Model} {A:Around} {E:Value->Shared->Prop} {s:Shared} {env:Env} {L e T:Addr} {cls fl:Value} {dd:Option Addr} {Q:Unit->Shared->Prop}
theorem EA(hf:env.frame=some L)(x:Lb s.heap e cls dd T (rawInt L))(h:Q () s):wpAny M A (noteFrame (.ref e) env) Q E s:=by
 obtain⟨oe,vs,oT,ts,he,hc,hdd,hd,h1,hTe,hT,hdT,h3⟩:=x
 unfold noteFrame;simp only[hf]
 refine wpAny_bind (wpAny_field he hd h1 ?_)
 rw[if_pos (show(Value.ref T != Value.none)=true from by simp)]
 refine wpAny_bind (wpAny_field hT hdT h3 ?_)
 rw[if_pos (by simp)]
 exact wpAny_pure h
end
section
variable {X:Cx} {E:XK}
def HW(X:Cx)(E:XK):Value->Shared->Prop:=fun v s'=>∃(pins:List (Addr×Obj)) (σ:L2.St) (H:Hp) (s:Shared) (e:Addr) (cls:Value) (dd:Option Addr),v = .ref e/\Inv X pins σ H s/\X.s₀.heap.get? e=none/\H e=none/\E cls dd H/\
 ((s'=s/\KQ s.heap e cls dd)\/∃h' T,s'={ s with heap:=h' }/\s.heap.objs.size<=T/\Lb h' e cls dd T (rawInt X.env.locals)/\Eff ((X.env::X.outer).filterMap (·.frame)) [e,T] s.heap h')
theorem P9(D:O8 X E){v:Value}{s':Shared}(h:HW X E v s'):X.xe v s':=by
 obtain⟨pins,σ,H,s,e,cls,dd,rfl,I,he,hH,q,⟨rfl,x⟩ | ⟨h',T,rfl,hT,x,ef⟩⟩:=h
 ·exact Fq D I x he hH q
 ·rw[D.xe]
  show wpAny _ _ (leaving X.env (.ref e)) _ _ _
  unfold leaving
  refine wpAny_bind (EA D.fr x ?_)
  refine Rb x (fs:=(X.env::X.outer).filterMap (·.frame)) fun h2 x2 e2 _=>?_
  have nT:X.s₀.heap.get? T=none:=Heap.get?_none_of_le (Nat.le_trans I.sz hT)
  have hHT:H T=none:=I.hok.fresh hT
  exact Tg D I nT he hH hHT (fun b hb=>by
   rcases List.mem_cons.mp hb with z | z
   ·rw[z];exact⟨hH,he⟩
   ·rw[List.mem_singleton.mp z];exact⟨hHT,nT⟩) x2 (ef.trans (e2.mono fun b hb=>by simp at hb;simp[hb])) q
abbrev Cx.rdy(X:Cx)(E:XK):Cx:=X.wish (HW X E)
theorem IV:Dm (Cx.rdy X E) E:=⟨fun{pins σ H s e cls dd} I x a b q=>⟨pins,σ,H,s,e,cls,dd,rfl,I.unwish,a,b,q,.inl ⟨rfl,x⟩⟩⟩
theorem PSs.rdy{st:List Stmt}{t:TS}(D:O8 X E)(h:PSs (Cx.rdy X E) st t):PSs X st t:=fun pins s σ H D' I hw=>
 wpAny_mono (h pins s σ H D' (I.wish _) hw) (fun _ _ q=>q.unwish) fun v s' z=>P9 D z
end
section
variable {K:PySem.W.Frag} {P:Program} {w:World} {mg:Str->Option Value} {base:Heap}
theorem def_yr{x:Str}{st:Stmt}{N ps:List Str}{k n:Nat}{O:List Nat}(m:Nat)(fy:XF)(D:Def K mg x st)(S:ZH N ps (Zl st))
  (hb:∀(kV doc pm:Value)(an:Option Addr)(cdv ct:Value)(us:List Value),us.length=ps.length->bindArgs (PySem.W.fnOf x x (Y9 st) (Yb st) (Zl st) .none kV doc pm an cdv ct) ⟨us,[]⟩=pure (ps.zip us))
  (hn:ps.length=n) (hm:N.length=m) (hO:∀i∈O,n<=i)
  (hbody:∀(fa:Addr)(cdv:Value)(A:Around)(outer:List Env)(s:Shared)(H:Hp)(E:XK),Room k (A.deeper (envOfC x (Zl st) s.heap.objs.size fa cdv))->HU (Cx.rdy (U0 (HN P w) P w K mg base N x (Zl st) fa cdv A outer s H E) E) O E (Yb st) fy) :
  CalX P w K mg base x ps (spY K (Fs m fy) n) (k+1):=def_y m fy D S hb hn hm hO fun fa cdv A outer s H E hr=>PSs.rdy N9 (hbody fa cdv A outer s H E hr)
end
section
variable {X:Cx} {O W:List Nat} {k n i:Nat} {x y cx nm:Str} {ps:List Str} {R:List PV->Option Str} {e:Expr} {es:List Expr} {fs:List XE} {p py cp ep np hp pos:Pos} {b₀:Stmt} {suite:List Stmt} {f:XS} {Cb:Addr} {rest:List ExceptHandler}
theorem IW{body:List Stmt}{h₀:ExceptHandler}{hs:List ExceptHandler}(hb:VSs X.nox O W body f):VS X O W (.Try body (h₀::hs) [] [] pos) f:=by
 intro pins s σ H D I h
 refine wpAny_Try_except (wpAny_mono (hb pins s σ H D (I.wish _) h) (fun fl s1 q=>?_) fun _ _ z=>z.elim)
 cases fl with
 | next=>
  obtain⟨σ',H',I',z⟩:=q
  exact wpAny_execs_nil ⟨σ',H',I'.unwish,z⟩
 | ret u=>
  obtain⟨v,σ',H',I',r,z⟩:=q
  exact⟨v,σ',H',I'.unwish,r,z⟩
 | brk=>
  obtain⟨σ',H',I',z⟩:=q
  exact⟨σ',H',I'.unwish,z⟩
 | cont=>
  obtain⟨σ',H',I',z⟩:=q
  exact⟨σ',H',I'.unwish,z⟩
def HX(f g:XS):XS:=fun s=>match f s with
 | some o=>some o
 | none=>g s
theorem EB{st:Stmt}{g:XS}{W1 W2:List Nat}(h1:VS X O W1 st f)(h2:VS X O W2 st g):VS X O (W1++W2) st (HX f g):=by
 intro pins s σ H D I ⟨H0,fps,sp,out,r,e,k⟩
 have s1:∀j,j∉W1++W2->j∉W1:=fun j hj z=>hj (List.mem_append_left _ z)
 have s2:∀j,j∉W1++W2->j∉W2:=fun j hj z=>hj (List.mem_append_right _ z)
 unfold HX at e
 split at e
 ·rename_i o ho
  cases e
  exact h1 pins s σ H D I ⟨H0,fps,sp,_,r,ho,k.same (fun j _=>⟨rfl,Kep.refl _⟩) s1⟩
 ·exact h2 pins s σ H D I ⟨H0,fps,sp,_,r,e,k.same (fun j _=>⟨rfl,Kep.refl _⟩) s2⟩
end
def DJ:List Str:=["NoWeb","Apart","NoText","NoOrder","TooMany","NotSettled","NoTree","NoTotal","NoEnds","NoRow","NoName"]
abbrev veT:List Value:=[.type "ValueError",.type "Exception",.type "BaseException",.type "object"]
def EC(i:Nat):Stmt->Stmt
 | .ClassDef _ _ _ b _ _ _ _ _ _ _=>b.getD i (.Pass ⟨0,0,0,0⟩)
 | s=>s
structure QF(nm:Str)(P:Program)(w:World)(K:PySem.W.Frag)(mg:Str->Option Value)(base:Heap)(C Cb:Addr):Prop where
 no:PySem.W.nsIn K mainGlobals nm=some (some (.ref C))
 mgo:mg nm=some (.ref C)
 cf:IM P w K mg base C (XZ nm) veT "ValueError.__new__"
 fl:Fu K nm C
 bl:belowIn K C Cb=true
 cls:∀cx∈DJ,∃D,mg cx=some (.ref D)/\PySem.W.kitOne K (.ref C) (.ref D)=some (decide (cx=nm))
 ve:PySem.W.kitOne K (.ref C) (.type "ValueError")=some true
def HY(f:XE):XS:=fun s=>(f s).map fun _=>.nx s
theorem HZ{X:Cx}{O:List Nat}{e:Expr}{f:XE}{pos:Pos}(he:VE X e f)(hs:swapsWith e none pos.line X.env=pure false:=by rfl):VS X O [] (.Expr e pos) (HY f):=PS.imp (XX he hs) fun D σ H ⟨H0,fps,s,out,r,e,k⟩=>by
 obtain⟨l,e1,rfl⟩:=map_some e
 exact⟨fun _=>False,s,l,fun _ z=>z.elim,r.env,e1,fun v H' fp sm is _=>k fps σ H' (r.grow sm) fun j _=>⟨rfl,Kep.refl _⟩⟩
def Ua(n0:Str)(fy:XF):Prop:=∀s m l,fy s=some (m,l)->m=n0
section
variable {n0:Str}
theorem Oa{n:Str}{f:XE}(h:n=n0):Ua n0 (Th n f):=fun s m l e=>by
 obtain⟨l',_,e⟩:=Zg e
 split at e
 ·cases e
  exact h
 ·cases e
theorem Ob:Ua n0 IP:=fun s m l e=>nomatch e
theorem K3{fc:XT}{f g:XF}(hf:Ua n0 f)(hg:Ua n0 g):Ua n0 (HV fc f g):=fun s m l e=>by
 obtain⟨c,_,e⟩:=Zg e
 split at e
 ·exact hf s m l e
 ·exact hg s m l e
theorem Lm{f1:XF}{f:XS}{g:XF}(hf:Ua n0 f1)(hg:Ua n0 g):Ua n0 (RO f1 f g):=fun s m l e=>by
 unfold RO at e
 split at e
 ·rename_i c hc
  cases e
  exact hf s m l hc
 ·split at e
  ·exact hg _ m l e
  ·cases e
theorem Oc{m:Nat}{fy:XF}(h:Ua n0 fy):∀ls n l,Fs m fy ls=some (n,l)->n=n0:=fun ls n l e=>h _ n l e
end
def TY(R:List PV->Option (Str×PV))(fs:List XE):XF:=fun s=>(Uz fs s).bind R
section
variable {X:Cx} {O W:List Nat} {E:XK} {k n:Nat} {x:Str} {ps:List Str} {R:List PV->Option (Str×PV)} {e:Expr} {es:List Expr} {fs:List XE} {p cp ep:Pos}
theorem IX(CX:CalX X.prog X.w X.K X.mg X.base x ps (spY X.K R n) k)(hr:Room k X.A)(hg:Gl X x)(ha:VA X.nox (e::es) fs)(DX:O8 X E)
  (hsw:swapsWith (.Call (.Name x p) (e::es) [] cp) none ep.line X.env=pure false:=by rfl) (hn:fs.length=n:=by rfl)
  (hdb:(x==("__debug__" : Str))=false:=by decide) (he:starEach (e::es) X.env=(false,eval e X.env)::starEach es X.env:=by rfl) (hpl:(backTo cp (starEach es X.env)).any (·.1)=false:=by rfl) :
  VY X O E (.Expr (.Call (.Name x p) (e::es) [] cp) ep) (TY R fs):=by
 intro pins s σ H D I ⟨H0,fps,sp,m,lv,r,e1,q⟩
 obtain⟨ls,e2,e3⟩:=Zg e1
 obtain⟨fa,fd,hmx,hkp,hbd,F⟩:=CX.ex
 refine wpAny_Expr_any ?_ I.quiet hsw
 refine wpAny_Call_Name_kw (Vw I hg hmx ?_ hdb)
 refine PySem.W.callWith_K (h₀:=X.base) I.ok.mod.kin hkp ?_ he hpl
 refine wpAny_mono (ha cp pins s σ H (fun vs H1=>Same H H1/\∃fp,Iss X.K H1 ls vs fp) (I.wish _) ⟨fun _=>False,sp,ls,fun _ z=>z.elim,r.env,e2,fun vs H1 fp s1 i1 _=>⟨s1,fp,i1⟩⟩) (fun us s1 ⟨vs,H1,I1,rv,sm,fp,i1⟩=>?_) fun _ _ z=>z.elim
 have I1:Inv X pins σ H1 s1:=I1.unwish
 have lvn:vs.length=n:=by rw[i1.len,WS e2,hn]
 have hsp:spY X.K R n vs H1 (fun _ _=>False) E:=⟨lvn,ls,fp,m,lv,i1,e3,fun C dx od u z H' hc sm' a1 a2 a3 a4=>q C dx od u z H' hc (r.same.trans (sm.trans sm')) a1 a2 a3 a4⟩
 have hl:(us++[]).length=ps.length:=by rw[List.append_nil,<-rv.length,lvn];have:=F.len _ _ _ _ hsp;omega
 have hbb:=hbd s1 us I1.kIn hl;rw[List.append_nil] at hbb
 refine⟨I1.kIn,wpAny_call (codeAny_mono (F.run X.A X.stack s1 H1 ⟨us,[]⟩ us vs _ _ hr I1.env0 hbb rv hsp) fun res s' hq=>?_)⟩
 cases res with
 | ok fl=>
  cases fl with
  | ret u=>obtain⟨_,_,_,_,_,_,_,z⟩:=hq;exact z.elim
  | next=>exact False.elim hq
  | brk=>exact False.elim hq
  | cont=>exact False.elim hq
 | error v=>exact IH DX (fun _ _ _ z=>z) pins σ H1 s1 v s' I1 hq
theorem Ng{n0:Str}(h:∀ls m l,R ls=some (m,l)->m=n0):Ua n0 (TY R fs):=fun s m l e=>by
 obtain⟨ls,_,e⟩:=Zg e
 exact h ls m l e
end
end VX
namespace VL
open PySem PySem.Spec PyProof.Rows L2
def Md(f:XE):XL:=fun s=>match YN f s with
 | some m=>some m
 | none=>Uj f s
theorem K4{X:Cx}{tg e:Expr}{f:XE}(h:VE X e f):VI X tg e (Md f):=by
 intro pins s σ H R I ⟨Rm,st,ls,hd,env,e,k⟩
 unfold Md at e
 cases q:YN f st with
 | some m=>
  rw[q] at e;cases e
  exact X3 h pins s σ H R I ⟨Rm,st,_,hd,env,q,k⟩
 | none=>
  rw[q] at e
  exact QG h pins s σ H R I ⟨Rm,st,ls,hd,env,e,k⟩
end VL
namespace VX
open PySem PySem.Spec PyProof.Rows L2
section
variable {X:Cx} {k:Nat} {e:Expr} {te:TE} {y y2:Str} {p1 p2 p3 p4:Pos} {jj j2:Nat}
theorem K5(hr:Room k X.A)(he:PE X e te)(hy:y.length<=1000:=by decide)(hy2:y2.length<=1000:=by decide):PE X (.JoinedStr [.Constant (.str y) jj p1,.FormattedValue e (-1) none p2,.Constant (.str y2) j2 p4] p3) (HR te):=by
 intro pins s σ H Q I h
 refine wpAny_JoinedStr ?_
 show wpAny _ _ (eval (.Constant (.str y) jj p1) X.env) _ _ s
 refine YO (LJ (X:=X) (x:=y) (j:=jj) (pos:=p1) pins s σ H (fun v H1=>v = .str y/\H1=H) I ⟨rfl,rfl⟩) fun u s1 ⟨v,H1,I1,r,hv,hH⟩=>?_
 subst hv hH
 obtain⟨t,rfl⟩:=r
 have e0:(Str.empty++y).length=y.length:=by rw[strLen_append];show 0+_=_;omega
 have sz:(2000:Nat)+200000<=sizeLine:=by decide
 refine⟨y,t,rfl,by omega,?_⟩
 show wpAny _ _ (eval (.FormattedValue e (-1) none p2) X.env) _ _ s1
 refine wpAny_FormattedValue_plain ?_
 refine YO (he pins s1 σ H1 _ I1 h) fun u s2 ⟨v,H2,I2,r,sh,q⟩=>?_
 have fin:∀(x:Str)(s3:Shared),x.length<=200000->Inv X pins σ H2 s3->wpAny (model X.prog X.w) X.A (eval (.Constant (.str y2) j2 p4) X.env) (fun v s4=>∃(b:Str) (t2:Tok),v=Value.str b t2/\(Str.empty++y++x++b).length<=sizeLine/\(Str.empty++y++x++b).length<=sizeLine/\EP X pins σ Q (.str (Str.empty++y++x++b) s4.toks) { s4 with toks:=s4.toks+1 }) X.xe s3:=fun x s3 hx I3=>by
  refine YO (LJ (X:=X) (x:=y2) (j:=j2) (pos:=p4) pins s3 σ H2 (fun v H1=>v = .str y2/\H1=H2) I3 ⟨rfl,rfl⟩) fun u s4 ⟨v,H3,I4,r,hv,hH⟩=>?_
  subst hv hH
  obtain⟨t4,rfl⟩:=r
  refine⟨y2,t4,rfl,?_,?_,.str _,_,I4.tok _,⟨_,rfl⟩,q _⟩
  ·rw[strLen_append,strLen_append,e0];omega
  ·rw[strLen_append,strLen_append,e0];omega
 have mid:∀(x:Str),x.length<=200000->(Str.empty++y++x).length<=sizeLine:=fun x hx=>by rw[strLen_append,e0];omega
 rcases sh with rfl | ⟨i,rfl,hi⟩ | ⟨a,is,rfl,ha,hl,hs⟩
 ·obtain rfl:u=Value.none:=r
  refine wpAny_formatField_none ?_
  have I3:Inv X pins σ H2 { s2 with toks:=s2.toks+1+1 }:=I2.kept (t':=s2.toks+1+1) fun _ _ z=>z
  exact⟨"None",_,rfl,mid _ (by decide),fin "None" _ (by decide) I3⟩
 ·obtain⟨t2,rfl⟩:=r
  refine formatField_int_small hi ?_
  have:=int_text_length_le (k:=1920) (by decide) hi
  exact⟨toString i,_,rfl,mid _ (by rw[PySem.ofString_length];omega),fin (toString i) _ (by rw[PySem.ofString_length];omega) (I2.tok _)⟩
 ·obtain rfl:u=Value.ref a:=r
  obtain⟨_,its,rv,ob,ho,hc,n,hd⟩:=(show ObjOk X.prog X.w H2 s2.heap a (.tup (is.map V.int)) from I2.hok a _ ha)
  have rd:Reads s2.heap (.ref a) (.tuple (is.map PyData.int)) []:=.tuple ho hc hd (Qh (by simpa using rv))
  have sl:(PyData.tuple (is.map PyData.int)).shown.length<=3+is.length*(1930+2):=by
   show(tupleText (PyData.shownAll (is.map PyData.int))).length<=_
   rw[Lg]
   have:=Q2 (ts:=is.map fun i=>Str.ofString (toString i)) (m:=1930) fun t ht=>by
    obtain⟨i,hi,rfl⟩:=List.mem_map.mp ht
    have:=int_text_length_le (k:=1920) (by decide) (hs i hi)
    rw[PySem.ofString_length];omega
   rwa [List.length_map] at this
  have s2':is.length*(1930+2)<=193200:=by omega
  have hu:=hr.un;have dp:=Lh is
  refine formatField_of_reads rd (QZ hs) (fun z=>by rw[show(PyData.tuple (is.map PyData.int)).hasDict=PyData.hasDictAll (is.map PyData.int) from rfl,Nb] at z;cases z) hr.gd (by
   show X.A.units+(PyData.depth (.tuple (is.map PyData.int))+2)<cLine
   simp only[PyData.depth]
   omega) (fun _ _ z=>z) (fun h' u tk hk=>?_) (by omega)
  have I3:Inv X pins σ H2 { s2 with heap:=h',toks:=tk }:=I2.kept hk
  exact⟨_,u,rfl,mid _ (by omega),fin _ _ (by omega) I3⟩
end
end VX
namespace VX
open PySem PySem.Spec PyProof.Rows L2 VL
structure QFL(nm:Str)(P:Program)(w:World)(K:PySem.W.Frag)(mg:Str->Option Value)(base:Heap)(C:Addr):Prop where
 no:PySem.W.nsIn K mainGlobals nm=some (some (.ref C))
 mgo:mg nm=some (.ref C)
 cf:IM P w K mg base C (XZ nm) veT "ValueError.__new__"
 fl:Fu K nm C
structure Q7(nmC:Str)(P:Program)(wo:World)(K:PySem.W.Frag)(mg:Str->Option Value)(base:Heap)(C Cb:Addr):Prop where
 f:QFL nmC P wo K mg base C
 sb:belowIn K C C=true
section
variable {X:Cx} {O W:List Nat} {nmC:Str} {C Cb:Addr} {k n i:Nat} {x y nm:Str} {ps:List Str} {R:List PV->Option (Str×PV)} {e:Expr} {es:List Expr} {fs:List XE} {p py cp ep np hp pos:Pos} {b₀:Stmt} {suite:List Stmt} {f:XS} {rest:List ExceptHandler}
theorem K8(Q:Q7 nmC X.prog X.w X.K X.mg X.base C Cb)(CX:CalX X.prog X.w X.K X.mg X.base x ps (spY X.K R n) k)(hR:∀ls m l,R ls=some (m,l)->m=nmC)(hr:Room k X.A)(hg:Gl X x)(ha:VA X.nox (e::es) fs)(hx:X.ex=[])(hst:X.stack=X.env::X.outer)(hfr:X.env.frame=some X.env.locals)
  (hN:X.N.Nodup) (hi:X.N[i]?=some nm) (hk:X.env.scope.names.lookup nm=some .local) (hgc:Gl X nmC)
  (hs:∀e,VSs (Cx.mark X e) O W (b₀::suite) f) (hiO:i∉O) (hsw:swapsWith (.Call (.Name x p) (e::es) [] cp) none ep.line X.env=pure false:=by rfl) (hn:fs.length=n:=by rfl)
  (hdb:(x==("__debug__" : Str))=false:=by decide) (hdb2:(nmC==("__debug__" : Str))=false:=by decide) (he:starEach (e::es) X.env=(false,eval e X.env)::starEach es X.env:=by rfl) (hpl:(backTo cp (starEach es X.env)).any (·.1)=false:=by rfl) :
  VS X O (i::W) (.Try [.Expr (.Call (.Name x p) (e::es) [] cp) ep] (.ExceptHandler (some (.Name nmC np)) (some nm) (b₀::suite) hp::rest) [] [] pos) (TV R fs i f):=
 IQ CX hr hg ha hx hst hfr hN hi hk hgc Q.f.mgo Q.f.fl.ec.kt (fun ls m l h=>by
  obtain rfl:=hR ls m l h
  exact⟨C,Q.f.no,Q.f.fl.ec.kt,Q.sb⟩) hs hiO hsw hn hdb hdb2 he hpl
end
end VX
namespace PW
open PySem L2 VL VX
noncomputable def UN:XS:=(Zn (Zo 1 (Xt []))
  (Zn (Yv [1] (ZI [(Zc Zw [(Za 0)])]) (.one 2) (Yv [1] (YZ [(Ze Zx (Za 2) (eC (.int 1))),(Zc Zw [(Za 0)])]) (.one 3) (Xa 1 (Zz 1 [2,3] (ZI [(Ze ZE (Ze ZE (Za 0) (Za 2)) (Za 3))]) (.one 0) ZL (eP (YT [(Za 1),(Za 2)]))))))
  (Ya (Za 1))))
noncomputable def Y7:List PV->Option PV:=Xi 4 UN
noncomputable def UO:XS:=(Zn (Zo 2 (Zc Y7 [(Za 0)]))
  (Zn (Zo 3 (RK Wo (Zc Zw [(Za 0)])))
  (Zn (Zo 4 (Xt []))
  (Zn (Zo 5 (RK Wo (Zc Zw [(Za 2)])))
  (Zn (Zo 6 (eP (Ze Y4 (Za 1) (eC (.int 2)))))
  (Zn (Yv [4,5] (ZI [(Zc Zw [(Za 2)])]) (.one 7) (Zn (Zo 8 (Zc Zj [(Ze Zx (Za 1) (Ze YR (Ze YR (eC (.int 53)) (Za 7)) (Za 7))),(Ze Zx (eC (.int 47)) (Za 7)),(Zc Zw [(Za 5)])]))
  (Zn (WG (xB (Ze (Xs false) (Ze Z3 (Za 1) (eC (.int 2))) (eC (.int 1)))) (Zn (Zo 8 (eP (Ze Z3 (Za 6) (Zc Zw [(Za 5)]))))
  (Zo 6 (eP (Ze Y4 (Za 6) (Zc Zw [(Za 5)]))))) ZX)
  (Zn (KD 8 5 (Za 8))
  (Zn (PY (.many [9,10]) (Ze ZE (Za 2) (Za 8)))
  (WG (xB (Ze (Xs true) (Ze ZE (Za 3) (Za 9)) (Ze ZE (Za 3) (Za 10)))) (Zn (Zo 11 (eP (Ze ZE (Za 3) (Za 9))))
  (Zn (Zo 3 (Zz 1 [11,3,10] (YN (Za 3)) (.one 0) ZL (eP (JP (xB (Ze (Xs false) (Za 0) (Za 1))) (Ze ZE (Za 2) (Za 3)) (Za 0)))))
  (YL 4 (eP (Za 8))))) ZX))))))
  (Ya (eP (Zc Yi [(Zc UI [(Za 4)])])))))))))
noncomputable def XG:List PV->Option PV:=Xi 12 UO
noncomputable def VV:XS:=(Zn (Zo 2 (Ze RM (Xt [(eC (.int 0))]) (Zc Zw [(Za 0)])))
  (Zn (Yv [2] (Uj (Za 1)) (.one 3) (Wj 2 (Za 3) (Ze Zx (Ze ZE (Za 2) (Za 3)) (eC (.int 1)))))
  (Ya (eP (Zc Yi [(Za 2)])))))
noncomputable def Xe:List PV->Option PV:=Xi 4 VV
noncomputable def Ww:XS:=(Zn (Zo 2 (Zc Y7 [(Za 0)]))
  (Ya (Zz 1 [2,1] (ZI [(Zc Zw [(Za 2)])]) (.one 0) (xB (Ze (G7 true) (Za 0) (Za 2))) (eP (Ze ZE (Za 1) (Za 0))))))
noncomputable def Xf:List PV->Option PV:=Xi 3 Ww
noncomputable def WM:XS:=(Zn (Zo 3 (Zc Xf [(Za 0),(Za 1)]))
  (Zn (WG (xB (Ze (Xs false) (Ze Z3 (Za 2) (eC (.int 2))) (eC (.int 1)))) (Zn (Zo 4 (eP (Ze Y4 (Ze Y4 (Za 2) (eC (.int 2))) (eC (.int 479001600)))))
  (Ya (eP (Zc Yi [(Zz 1 [3,4] (ZI [(Zc Zw [(Za 3)])]) (.one 0) ZL (Ze ZE (Ze ZE (Za 1) (Za 0)) (Ze OL (Ze QA (Za 2) (Za 0)) (eC (.int 1)))))])))) ZX)
  (Ya (eP (Zc Yi [(Zz 1 [3,2] (ZI [(Zc Zw [(Za 3)])]) (.one 0) ZL (Ze ZE (Ze ZE (Za 1) (Za 0)) (Zc Zj [(Ze Zx (Za 2) (Ze YR (Ze YR (eC (.int 59)) (Za 0)) (Za 0))),(Ze Zx (eC (.int 61)) (Za 0)),(eC (.int 2))])))])))))
noncomputable def Xo:List PV->Option PV:=Xi 5 WM
noncomputable def ZN:List PV->Option (Str×PV):=Fs 2 (HV (xB (Ze (Xs true) (Zc YM [(Za 1)]) (Zc Xn [(Za 0)]))) (Th "NoTotal" (Zc YM [(Za 1)])) IP)
theorem UP:∀ls m l,ZN ls=some (m,l)->m = "NoTotal":=Oc (K3 (Oa rfl) Ob)
noncomputable def Xp:XS:=(WG (xB (Ze (Xs true) (Zc YM [(Za 1)]) (Zc Xn [(Za 0)]))) Um ZX)
noncomputable def Yz:List PV->Option PV:=Xi 2 Xp
noncomputable def Wx:XS:=(Ya (eP (Zc X1 [(Zz 1 [0,1] (Uj (Za 2)) (.one 0) ZL (Ze ZE (Ze ZE (Za 1) (Za 2)) (Za 0)))])))
noncomputable def YQ:List PV->Option PV:=Xi 3 Wx
noncomputable def Xb:XS:=(Zn (Zo 2 (Xt [(eP (YT [(YT []),(RK PM (eC (.int 1)))]))]))
  (Zn (Yv [] (UC false [(Za 1)]) (.many [3,4]) (Zo 2 (Ze W7 (Za 2) (Zz 2 [3,0,4] (YN (Za 2)) (.many [0,1]) ZL (YT [(Ze S1 (Za 0) (YT [(Za 2)])),(Ze Yt (Ze Zx (Ze Zx (Za 1) (Za 4)) (eC (.int 1))) (Zc YQ [(Za 3),(Za 2),(Za 0)]))])))))
  (Zn (Zo 5 (Zz 2 [] (YN (W6 Y6 (Za 2) (Wz (eC (.int 1))) Uk)) (.many [0,1]) (xB (Ze UW (Za 1) (eC (.int 0)))) (eP (Za 0))))
  (Ya (eP (JP (xB (Ze RG (Zc Zw [(Za 5)]) (eC (.int 0)))) (Ze ZE (Za 5) (eC (.int 0))) (eC .non)))))))
noncomputable def YE:List PV->Option PV:=Xi 6 Xb
noncomputable def YV:List PV->Option (Str×PV):=Fs 2 (RO (TY ZN [(Za 0),(Za 1)]) Um IP)
theorem Q3:∀ls m l,YV ls=some (m,l)->m = "NoTotal":=Oc (Lm (Ng UP) Ob)
noncomputable def VZ:XS:=(Zn (HY (Zc Yz [(Za 0),(Za 1)]))
  (Ya (Zc YE [(Za 0),(Za 1)])))
noncomputable def Z2:List PV->Option PV:=Xi 2 VZ
noncomputable def Xc:XS:=(Zn (Zo 3 (eP (eC .non)))
  (Zn (Zo 4 (eP (Ze S1 (YT [(Ze Yt (Ze Zx (Ze ZE (Za 1) (eC (.int 0))) (Zc Zj [(Za 2),(eC (.int 127)),(eC (.int 5))])) (eC (.int 2)))]) (W6 OT (Za 1) (Wz (eC (.int 1))) Uk))))
  (Zn (HX (TV YV [(Za 0),(Za 4)] 5 (Zo 3 (eP (TX "NoTotal" (Za 5))))) (HY (Zc Z2 [(Za 0),(Za 4)])))
  (Zn (WG (xB (Ze (Xs false) (Zc X1 [(Za 4)]) (Zc X1 [(Za 1)]))) (Ya (eP (WR false (Za 3)))) ZX)
  (Ya (eP (Ug (Zc Yl [(Za 3)]) (Ze (Xs false) (Za 3) (Zc X1 [(Za 4)])))))))))
noncomputable def Z9:List PV->Option PV:=Xi 6 Xc
noncomputable def UQ:XS:=(Zn (Zo 2 (eP (eC (.int 0))))
  (Zn (Yv [] (Md (Za 1)) (.one 3) (Zo 2 (eP (Ze Zx (Za 2) (Zc X1 [(Zz 1 [0,3] (Md (Za 1)) (.one 0) ZL (Ze ZE (Ze ZE (Za 1) (Za 2)) (Za 0)))])))))
  (Ya (eP (Ze Zx (Ze Yt (Ze Y4 (Za 2) (eC (.int 2))) (Zc Zw [(Za 1)])) (eC (.int 1)))))))
noncomputable def Vr:List PV->Option PV:=Xi 4 UQ
noncomputable def V0:XS:=(Ya (eP (Ze UW (Zc X1 [(Zz 1 [1] (Md (Za 2)) (.one 0) ZL (Ze ZE (Za 1) (Za 0)))]) (Zc Vr [(Za 0),(Za 2)]))))
noncomputable def YW:List PV->Option PV:=Xi 3 V0
noncomputable def Xz:XS:=(Zn (Yv [] (YZ [(eC (.int 1)),(Ze Kd (eC (.int 1)) (Zc Zw [(Za 0)]))]) (.one 2) (WG (xB (Zc YW [(Za 0),(Za 1),(Zz 1 [2] (ZI [(Zc Zw [(Za 0)])]) (.one 0) (xB (Ze (Xs false) (Ze OL (Ze QA (Za 1) (Za 0)) (eC (.int 1))) (eC (.int 1)))) (Za 0))])) (Ya (eP (eC (.bl false)))) ZX))
  (Ya (eP (eC (.bl true)))))
noncomputable def YG:List PV->Option PV:=Xi 3 Xz
noncomputable def V1:XS:=(Zn (Zo 2 (Zc Z2 [(Za 0),(Za 1)]))
  (Zn (WG (xB (WR false (Za 2))) (Ya (Zc YG [(Za 0),(Za 1)])) ZX)
  (Zn (WG (R5 (U9 (xB (Zc Vj [(Za 2),(eC (.ty "tuple"))]))) (R5 (xB (Ze (Xs false) (Zc Zw [(Za 2)]) (eC (.int 0)))) (U9 (xB (Zc PQ [(Zz 1 [] (Uj (Za 2)) (.one 0) ZL (Zc Yl [(Za 0)]))]))))) (Ya (eP (eC (.bl false)))) ZX)
  (Zn (WG (R5 (xB (Ze (Xs true) (Zc Wf [(Za 2)]) (RK Fp (Za 2)))) (R5 (xB (Ze UW (Ze ZE (Za 2) (eC (.int 0))) (eC (.int 0)))) (xB (Ze EM (Ze ZE (Za 2) (RK PM (eC (.int 1)))) (Zc Zw [(Za 0)]))))) (Ya (eP (eC (.bl false)))) ZX)
  (Ya (Zc YW [(Za 0),(Za 1),(Za 2)]))))))
noncomputable def Xy:List PV->Option PV:=Xi 3 V1
noncomputable def Wa:XS:=(Zn (Zo 3 (Zc Wf [(Za 1)]))
  (Zn (Yv [3] (ZI [(Zc Zj [(Za 2),(eC (.int 101)),(eC (.int 4))])]) (.one 4) (Zn (Zo 5 (Zc Zj [(Ze Zx (Za 2) (Za 4)),(eC (.int 103)),(Zc Zw [(Za 0)])]))
  (Zn (Zo 6 (Zc Zj [(Ze Zx (Za 2) (Za 4)),(eC (.int 107)),(Zc Zw [(Za 0)])]))
  (Zn (Wj 3 (Za 5) (Ze Yt (Ze ZE (Za 3) (Za 5)) (eC (.int 1))))
  (Wj 3 (Za 6) (Ze Zx (Ze ZE (Za 3) (Za 6)) (eC (.int 1))))))))
  (Zn (WG (xB (Ze (Xs false) (Zc Zj [(Za 2),(eC (.int 109)),(eC (.int 4))]) (eC (.int 0)))) (Ya (Zc Vn [(Za 0),(Za 3),(Zz 1 [2] (ZI [(Zc Zw [(Za 0)])]) (.one 0) ZL (Zc Zj [(Ze Zx (Za 1) (Za 0)),(eC (.int 113)),(eC (.int 3))]))])) ZX)
  (Ya (eP (Zc Yi [(Za 3)]))))))
noncomputable def Xg:List PV->Option PV:=Xi 7 Wa
noncomputable def Me:XS:=(Zn (Zo 1 (Zc VU [(Za 0),(Xt [(eC (.int 1)),(eC (.int 2)),(eC (.int 3)),(eC (.int 4)),(eC (.int 5))]),(eC (.int 8))]))
  (Zn (Yv [] (YN (Ze W7 (Xt [(Zc ZZ [(Za 0),(eC (.int 12))])]) (W6 Y6 (Za 0) (Wz (eC (.int 13))) (Wz (eC (.int 25)))))) (.one 2) (Zn (Zo 3 (Zc XG [(Za 1),(Za 2)]))
  (Zn (Zo 4 (Zc Xe [(Za 1),(Zc Xo [(Za 1),(Za 3),(Za 2)])]))
  (Zn (WG (R5 (xB (WR true (Zc Z2 [(Za 1),(Za 4)]))) (U9 (xB (Zc Xy [(Za 1),(Zc Xg [(Za 1),(Za 4),(Za 2)])])))) (Ya (eP (eC (.bl false)))) ZX)
  (WG (U9 (xB (Zc Z9 [(Za 1),(Za 4),(Za 2)]))) (Ya (eP (eC (.bl false)))) ZX)))))
  (Ya (eP (eC (.bl true))))))
noncomputable def D_law:List PV->Option PV:=Xi 5 Me
def TZ(i:Nat):Stmt:=PySem.Challenge.pw_purseweb_k72_houses_that_lack.main.body.getD i (.Pass ⟨0,0,0,0⟩)
section
variable {P:Program} {w:World} {K:PySem.W.Frag} {mg:Str->Option Value} {base:Heap}
abbrev Rg:Stmt:=TZ 16
theorem sc_l_pick:ZH (["_law_cell","_law_salt","_law_many","_law_number"]:List Str) (["_law_cell","_law_salt","_law_many"]:List Str) (Zl Rg):=⟨rfl,rfl,rfl,by decide +kernel,rfl,by decide +kernel,by decide +kernel⟩
theorem Ln(Df:Def K mg "_law_pick" Rg)(B:UU mg):Y2 P w K mg base "_law_pick" (["_law_cell","_law_salt","_law_many"]:List Str) (YJ K Zj 3) 1:=
 Yf (O:=[]) (k:=0) 4 UK Df sc_l_pick (fun _ _ _ _ _ _ us hl=>match us,hl with | [_,_,_],_=>rfl) rfl rfl (by decide) (fun fa cdv A outer s H E hr=>
  (Zh (Zt (i:=3) sc_l_pick.nd rfl (Or.inl rfl) (VE.pure (Y0 (Vi (ZQ (Y0 (Zd (pv 0)) Zi) (Zd (pv 1))) (ZQ (Zd (pv 1)) Zi)) Zi)))
  (Zh (Zt (i:=3) sc_l_pick.nd rfl (Or.inl rfl) (VE.pure (Y0 (ZQ (ZQ (Vi (Zd (pv 3)) (Zd (pv 3))) (YS (Zd (pv 0)) Zi)) (Zd (pv 1))) Zi)))
  (Zp (ZR (VE.pure (Y0 (YS (Zd (pv 3)) Zi) (Zd (pv 2)))))))))
abbrev W3:Stmt:=TZ 17
theorem sc_l_read_web:ZH (["_law_number","_law_sizes","_law_most","_law_many","_law_order","_law_pairs","_law_k","_law_more","_law_one","_law_rows","_law_other","_law_times"]:List Str) (["_law_number","_law_sizes","_law_most"]:List Str) (Zl W3):=⟨rfl,rfl,rfl,by decide +kernel,rfl,by decide +kernel,by decide +kernel⟩
theorem RP(Df:Def K mg "_law_read_web" W3)(B:UU mg):Y2 P w K mg base "_law_read_web" (["_law_number","_law_sizes","_law_most"]:List Str) (YJ K X5 3) 1:=
 IC (O:=[4,5,9]) (k:=0) 12 X4 Df sc_l_read_web (fun _ _ _ _ _ _ us hl=>match us,hl with | [_,_,_],_=>rfl) rfl rfl (by decide) (fun fa cdv A outer s H E hr=>
  (YF (Zt (i:=3) sc_l_read_web.nd rfl (Or.inr rfl) (VE.pure (Zu (Zd (pv 1)) (Y0 (Zd (pv 0)) (Zr ZD ZT rfl B.len (by decide +kernel) (Zb (Zd (pv 1)) Zf))))))
  (YF (Zt (i:=0) sc_l_read_web.nd rfl (Or.inl rfl) (VE.pure (YS (Zd (pv 0)) (Zr ZD ZT rfl B.len (by decide +kernel) (Zb (Zd (pv 1)) Zf)))))
  (YF (Zt (i:=4) sc_l_read_web.nd rfl (Or.inl rfl) (Uh WT))
  (YF (Zt (i:=5) sc_l_read_web.nd rfl (Or.inl rfl) (Uh WT))
  (YF (YH PassesOwn.never rfl (Z1 rfl B.range (Zb (Zd (pv 3)) Zf)) (Zv (i:=6) sc_l_read_web.nd rfl (Or.inl rfl)) (Zh (MX (XX (TC PySem.F.plainAttrs_list PySem.F.slot_list_insert PySem.F.type_list_insert MO (pv 4) (YI (Y0 (Zd (pv 0)) (ZQ (Zd (pv 6)) Zi)) (YI (Zd (pv 6)) XI)))))
  (Zp (Zt (i:=0) sc_l_read_web.nd rfl (Or.inl rfl) (VE.pure (YS (Zd (pv 0)) (ZQ (Zd (pv 6)) Zi)))))))
  (YF (YH PassesOwn.never rfl (WE rfl B.range (Zb Zi (Zb (Zd (pv 3)) Zf))) (Zv (i:=6) sc_l_read_web.nd rfl (Or.inl rfl)) (Zh (VG (XX (TC PySem.F.plainAttrs_list PySem.F.slot_list_append PySem.F.type_list_append Vy (pv 5) (YI (VE.pure (WU (Zb (Zd (pv 6)) (Zb (Y0 (Zd (pv 0)) (Zd (pv 6))) Zf)))) XI))))
  (Zp (Zt (i:=0) sc_l_read_web.nd rfl (Or.inl rfl) (VE.pure (YS (Zd (pv 0)) (Zd (pv 6))))))))
  (YF (Zt (i:=7) sc_l_read_web.nd rfl (Or.inl rfl) (VE.pure (Vi (Yu ME Ip rfl B.int (by decide +kernel) (Zb (Kf (Zd (pv 3)) Zi) Zf)) (Y0 (Zd (pv 0)) (ZQ (XJ (Zd (pv 2)) (Zd (pv 3))) Zi)))))
  (YF (Zt (i:=0) sc_l_read_web.nd rfl (Or.inl rfl) (VE.pure (YS (Zd (pv 0)) (ZQ (XJ (Zd (pv 2)) (Zd (pv 3))) Zi))))
  (YF (YH PassesOwn.never rfl (Z1 rfl B.range (Zb (Zd (pv 7)) Zf)) (Zv (i:=6) sc_l_read_web.nd rfl (Or.inl rfl)) (Zh (Zt (i:=8) sc_l_read_web.nd rfl (Or.inl rfl) (VE.pure (Y0 (Zd (pv 0)) (Zd (pv 3)))))
  (Zh (Zt (i:=0) sc_l_read_web.nd rfl (Or.inl rfl) (VE.pure (YS (Zd (pv 0)) (Zd (pv 3)))))
  (Zh (VG (XX (TC PySem.F.plainAttrs_list PySem.F.slot_list_append PySem.F.type_list_append Vy (pv 5) (YI (VE.pure (WU (Zb (Zd (pv 8)) (Zb (Y0 (ZQ (ZQ (Zd (pv 8)) Zi) (Y0 (Zd (pv 0)) (XJ (Zd (pv 3)) Zi))) (Zd (pv 3))) Zf)))) XI))))
  (Zp (Zt (i:=0) sc_l_read_web.nd rfl (Or.inl rfl) (VE.pure (YS (Zd (pv 0)) (XJ (Zd (pv 3)) Zi)))))))))
  (YF (Si (["_law_house"]:List Str) (["_law_many"]:List Str) [3] (i:=9) sc_l_read_web.nd rfl rfl rfl (Z1 rfl B.range (Zb (Zd (pv 3)) Zf)) (by kernel_rfl) (fun _ _ _ _ _=>(Zv (i:=0) (show((["_law_house"]:List Str)++(["_law_many"]:List Str)).Nodup by decide +kernel) rfl (Or.inl rfl) (.inr rfl))) (fun _ _ _ _ _=>Ys) (fun _ _ _ _ _=>(OW (SH (Zb Zi Zf)) (Zd (pv 1)))))
  (M3 (O':=[9]) (VSs.r (Zh (YH PassesOwn.never rfl (X3 (Zd (pv 5))) (UX (n:=2) rfl (YD (Zv (i:=8) sc_l_read_web.nd rfl (Or.inl rfl)) (YD (Zv (i:=10) sc_l_read_web.nd rfl (Or.inl rfl)) Vx))) (Zh (Zt (i:=11) sc_l_read_web.nd rfl (Or.inl rfl) (VE.pure (ZQ (Zu (Zu (Zd (pv 9)) (Zu (Zd (pv 4)) (Zd (pv 8)))) (Zu (Zd (pv 4)) (Zd (pv 10)))) Zi)))
  (Zh (VH (Ve (Zd (pv 11)) (Ud (Pw ix_list (pv 9) (Zu (Zd (pv 4)) (Zd (pv 8))) (fun _ _=>rfl)) (Zu (Zd (pv 4)) (Zd (pv 10))) Wd)))
  (Zp (VH (Ve (Zd (pv 11)) (Ud (Pw ix_list (pv 9) (Zu (Zd (pv 4)) (Zd (pv 10))) (fun _ _=>rfl)) (Zu (Zd (pv 4)) (Zd (pv 8))) Wd)))))))
  (Zp (ZR (VE.pure (Yu ZU Y5 rfl B.tuple (by decide +kernel) (Zb (Xl (["_law_row"]:List Str) ([]:List Str) [] rfl (X3 (Zd (pv 9))) (by kernel_rfl) (fun _ _ _ _ _=>(Zv (i:=0) (show((["_law_row"]:List Str)++([]:List Str)).Nodup by decide +kernel) rfl (Or.inl rfl) (.inr rfl))) (fun _ _ _ _ _=>Ys) (fun _ _ _ _ _=>(Yu ZU Y5 rfl B.tuple (by decide +kernel) (Zb (Zd (pv 0)) Zf)))) Zf)))))))))))))))))))
abbrev Nh:Stmt:=TZ 15
theorem IY:ZH (["_law_script","_law_k"]:List Str) (["_law_script","_law_k"]:List Str) (Zl Nh):=⟨rfl,rfl,rfl,by decide +kernel,rfl,by decide +kernel,by decide +kernel⟩
theorem IZ(Df:Def K mg "_law_at" Nh)(B:UU mg):Y2 P w K mg base "_law_at" (["_law_script","_law_k"]:List Str) (YJ K ZZ 2) 1:=
 Yf (O:=[]) (k:=0) 2 QT Df IY (fun _ _ _ _ _ _ us hl=>match us,hl with | [_,_],_=>rfl) rfl rfl (by decide) (fun fa cdv A outer s H E hr=>
  (Zp (ZR (VE.pure (Kh (PL (Zd (pv 1)) (Zr ZD ZT rfl B.len (by decide +kernel) (Zb (Zd (pv 0)) Zf))) (Zu (Zd (pv 0)) (Zd (pv 1))) Zi)))))
abbrev Q4:Stmt:=TZ 18
theorem sc_p_web:ZH (["_law_script","_law_sizes","_law_most","_law_many","_law_rows","_law_ties_here","_law_k","_law_cell","_law_one","_law_other","_law_more","_law_by"]:List Str) (["_law_script","_law_sizes","_law_most"]:List Str) (Zl Q4):=⟨rfl,rfl,rfl,by decide +kernel,rfl,by decide +kernel,by decide +kernel⟩
theorem K9(Df:Def K mg "_law_web" Q4)(B:UU mg)(C_l_at:Y2 P w K mg base "_law_at" (["_law_script","_law_k"]:List Str) (YJ K ZZ 2) 1)(C_l_read_web:Y2 P w K mg base "_law_read_web" (["_law_number","_law_sizes","_law_most"]:List Str) (YJ K X5 3) 1)(C_l_pick:Y2 P w K mg base "_law_pick" (["_law_cell","_law_salt","_law_many"]:List Str) (YJ K Zj 3) 1):Y2 P w K mg base "_law_web" (["_law_script","_law_sizes","_law_most"]:List Str) (YJ K VU 3) 2:=
 Yf (O:=[4]) (k:=1) 12 VR Df sc_p_web (fun _ _ _ _ _ _ us hl=>match us,hl with | [_,_,_],_=>rfl) rfl rfl (by decide) (fun fa cdv A outer s H E hr=>
  (Zh (Wi (TM hr.units (Y0 (VM.ve (Zs C_l_at (hr.mono (by decide)) rfl (Zb (Zd (pv 0)) (Zb Zi Zf)))) Zi) Zi) (Zp (ZR (Zs C_l_read_web (hr.mono (by decide)) rfl (Zb (VM.ve (Zs C_l_at (hr.mono (by decide)) rfl (Zb (Zd (pv 0)) (Zb Zi Zf)))) (Zb (Zd (pv 1)) (Zb (Zd (pv 2)) Zf)))))) YB)
  (Zh (Zt (i:=3) sc_p_web.nd rfl (Or.inr rfl) (VE.pure (Zu (Zd (pv 1)) (VM.ve (Zs C_l_pick (hr.mono (by decide)) rfl (Zb (VM.ve (Zs C_l_at (hr.mono (by decide)) rfl (Zb (Zd (pv 0)) (Zb Zi Zf)))) (Zb Zi (Zb (Zr ZD ZT rfl B.len (by decide +kernel) (Zb (Zd (pv 1)) Zf)) Zf))))))))
  (Zh (Si (["_law_house"]:List Str) (["_law_many"]:List Str) [3] (i:=4) sc_p_web.nd rfl rfl rfl (Z1 rfl B.range (Zb (Zd (pv 3)) Zf)) (by kernel_rfl) (fun _ _ _ _ _=>(Zv (i:=0) (show((["_law_house"]:List Str)++(["_law_many"]:List Str)).Nodup by decide +kernel) rfl (Or.inl rfl) (.inr rfl))) (fun _ _ _ _ _=>Ys) (fun _ _ _ _ _=>(OW (SH (Zb Zi Zf)) (Zd (pv 1)))))
  (Zh (Zt (i:=5) sc_p_web.nd rfl (Or.inl rfl) (VE.pure Zi))
  (Zh (YH PassesOwn.never rfl (WE rfl B.range (Zb Zi (Zb Zi Zf))) (Zv (i:=6) sc_p_web.nd rfl (Or.inl rfl)) (Zh (Zt (i:=7) sc_p_web.nd rfl (Or.inl rfl) (Zs C_l_at (hr.mono (by decide)) rfl (Zb (Zd (pv 0)) (Zb (Zd (pv 6)) Zf))))
  (Zh (Zt (i:=8) sc_p_web.nd rfl (Or.inl rfl) (Zs C_l_pick (hr.mono (by decide)) rfl (Zb (Zd (pv 7)) (Zb Zi (Zb (Zd (pv 3)) Zf)))))
  (Zh (Zt (i:=9) sc_p_web.nd rfl (Or.inl rfl) (VE.pure (Y0 (ZQ (ZQ (Zd (pv 8)) Zi) (VM.ve (Zs C_l_pick (hr.mono (by decide)) rfl (Zb (Zd (pv 7)) (Zb Zi (Zb (Zr (MD rfl) Io rfl B.max (by decide +kernel) (Zb Zi (Zb (XJ (Zd (pv 3)) Zi) Zf))) Zf)))))) (Zd (pv 3)))))
  (Zh (Wi (PL (Zd (pv 6)) (Zd (pv 3))) (Zh (Zt (i:=8) sc_p_web.nd rfl (Or.inl rfl) (VE.pure (Zd (pv 6))))
  (Zp (Zt (i:=9) sc_p_web.nd rfl (Or.inl rfl) (Zs C_l_pick (hr.mono (by decide)) rfl (Zb (Zd (pv 7)) (Zb Zi (Zb (Zd (pv 6)) Zf))))))) YB)
  (Zh (Zt (i:=10) sc_p_web.nd rfl (Or.inl rfl) (VE.pure (QD (Kf (Zd (pv 3)) Zi) (QD (HE (Zd (pv 5)) (Zd (pv 2))) (OO (Kf (VM.ve (Zs C_l_pick (hr.mono (by decide)) rfl (Zb (Zd (pv 7)) (Zb Zi (Zb Zi Zf))))) Zi))))))
  (Zp (Wi (VW.vt (R6 (PL (Zd (pv 6)) (Zd (pv 3))) (QB (U7 (Zd (pv 10)))))) (Zh (VH (Ve (ZQ (Zu (Zu (Zd (pv 4)) (Zd (pv 8))) (Zd (pv 9))) Zi) (Ud (Pw ix_list (pv 4) (Zd (pv 8)) (fun _ _=>rfl)) (Zd (pv 9)) Wd)))
  (Zh (VH (Ve (Zu (Zu (Zd (pv 4)) (Zd (pv 8))) (Zd (pv 9))) (Ud (Pw ix_list (pv 4) (Zd (pv 9)) (fun _ _=>rfl)) (Zd (pv 8)) Wd)))
  (Zp (Zt (i:=5) sc_p_web.nd rfl (Or.inl rfl) (VE.pure (ZQ (Zd (pv 5)) Zi)))))) YB))))))))
  (Zh (Zt (i:=11) sc_p_web.nd rfl (Or.inr rfl) (Zs C_l_pick (hr.mono (by decide)) rfl (Zb (VM.ve (Zs C_l_at (hr.mono (by decide)) rfl (Zb (Zd (pv 0)) (Zb Zi Zf)))) (Zb Zi (Zb (Zd (pv 3)) Zf)))))
  (Zh (Si (["_law_row"]:List Str) (["_law_by"]:List Str) [11] (i:=4) sc_p_web.nd rfl rfl rfl (X3 (IE (X9 (Zd (pv 4)) (Ws (Zd (pv 11))) VC) (X9 (Zd (pv 4)) VC (Ws (Zd (pv 11)))))) (by kernel_rfl) (fun _ _ _ _ _=>(Zv (i:=0) (show((["_law_row"]:List Str)++(["_law_by"]:List Str)).Nodup by decide +kernel) rfl (Or.inl rfl) (.inr rfl))) (fun _ _ _ _ _=>Ys) (fun _ _ _ _ _=>(QJ (X9 (Zd (pv 0)) (Ws (Zd (pv 1))) VC) (X9 (Zd (pv 0)) VC (Ws (Zd (pv 1)))))))
  (Zp (ZR (VE.pure (Yu ZU Y5 rfl B.tuple (by decide +kernel) (Zb (Xl (["_law_row"]:List Str) ([]:List Str) [] rfl (X3 (Zd (pv 4))) (by kernel_rfl) (fun _ _ _ _ _=>(Zv (i:=0) (show((["_law_row"]:List Str)++([]:List Str)).Nodup by decide +kernel) rfl (Or.inl rfl) (.inr rfl))) (fun _ _ _ _ _=>Ys) (fun _ _ _ _ _=>(Yu ZU Y5 rfl B.tuple (by decide +kernel) (Zb (Zd (pv 0)) Zf)))) Zf)))))))))))))
abbrev Rh:Stmt:=TZ 23
theorem sc_l_ties:ZH (["_law_web_here","_law_found","_law_one","_law_other"]:List Str) (["_law_web_here"]:List Str) (Zl Rh):=⟨rfl,rfl,rfl,by decide +kernel,rfl,by decide +kernel,by decide +kernel⟩
theorem Lo(Df:Def K mg "_law_ties" Rh)(B:UU mg):Y2 P w K mg base "_law_ties" (["_law_web_here"]:List Str) (YJ K Y7 1) 1:=
 Yf (O:=[1]) (k:=0) 4 UN Df sc_l_ties (fun _ _ _ _ _ _ us hl=>match us,hl with | [_],_=>rfl) rfl rfl (by decide) (fun fa cdv A outer s H E hr=>
  (Zh (Zt (i:=1) sc_l_ties.nd rfl (Or.inl rfl) (Uh WT))
  (Zh (YH PassesOwn.never rfl (Z1 rfl B.range (Zb (Zr ZD ZT rfl B.len (by decide +kernel) (Zb (Zd (pv 0)) Zf)) Zf)) (Zv (i:=2) sc_l_ties.nd rfl (Or.inr rfl)) (Zp (YH PassesOwn.never rfl (WE rfl B.range (Zb (ZQ (Zd (pv 2)) Zi) (Zb (Zr ZD ZT rfl B.len (by decide +kernel) (Zb (Zd (pv 0)) Zf)) Zf))) (Zv (i:=3) sc_l_ties.nd rfl (Or.inr rfl)) (Zp (Qa (XX (TC PySem.F.plainAttrs_list PySem.F.slot_list_extend PySem.F.type_list_extend RY (pv 1) (YI (Sh (["_law_nth"]:List Str) (["_law_one","_law_other"]:List Str) [2,3] rfl (Z1 rfl B.range (Zb (Zu (Zu (Zd (pv 0)) (Zd (pv 2))) (Zd (pv 3))) Zf)) (by kernel_rfl) (fun _ _ _ _ _=>(Zv (i:=0) (show((["_law_nth"]:List Str)++(["_law_one","_law_other"]:List Str)).Nodup by decide +kernel) rfl (Or.inl rfl) (.inr rfl))) (fun _ _ _ _ _=>Ys) (fun _ _ _ _ _=>(VE.pure (WU (Zb (Zd (pv 1)) (Zb (Zd (pv 2)) Zf)))))) XI))))))))
  (Zp (N0 (pv 1))))))
abbrev Ri:Stmt:=TZ 24
theorem sc_l_tree:ZH (["_law_web_here","_law_cell","_law_ties_here","_law_marks","_law_found","_law_left","_law_number","_law_k","_law_at_here","_law_one","_law_other","_law_gone"]:List Str) (["_law_web_here","_law_cell"]:List Str) (Zl Ri):=⟨rfl,rfl,rfl,by decide +kernel,rfl,by decide +kernel,by decide +kernel⟩
theorem Lp(Df:Def K mg "_law_tree" Ri)(B:UU mg)(C_l_ties:Y2 P w K mg base "_law_ties" (["_law_web_here"]:List Str) (YJ K Y7 1) 1)(C_l_pick:Y2 P w K mg base "_law_pick" (["_law_cell","_law_salt","_law_many"]:List Str) (YJ K Zj 3) 1):Y2 P w K mg base "_law_tree" (["_law_web_here","_law_cell"]:List Str) (YJ K XG 2) 2:=
 Yf (O:=[4,5]) (k:=1) 12 UO Df sc_l_tree (fun _ _ _ _ _ _ us hl=>match us,hl with | [_,_],_=>rfl) rfl rfl (by decide) (fun fa cdv A outer s H E hr=>
  (Zh (Zt (i:=2) sc_l_tree.nd rfl (Or.inl rfl) (Zs C_l_ties (hr.mono (by decide)) rfl (Zb (Zd (pv 0)) Zf)))
  (Zh (Zt (i:=3) sc_l_tree.nd rfl (Or.inr rfl) (UJ rfl rfl B.list rfl B.range (Zr ZD ZT rfl B.len (by decide +kernel) (Zb (Zd (pv 0)) Zf))))
  (Zh (Zt (i:=4) sc_l_tree.nd rfl (Or.inl rfl) (Uh WT))
  (Zh (Zt (i:=5) sc_l_tree.nd rfl (Or.inl rfl) (UJ rfl rfl B.list rfl B.range (Zr ZD ZT rfl B.len (by decide +kernel) (Zb (Zd (pv 2)) Zf))))
  (Zh (Zt (i:=6) sc_l_tree.nd rfl (Or.inl rfl) (VE.pure (YS (Zd (pv 1)) Zi)))
  (Zh (YH PassesOwn.never rfl (Z1 rfl B.range (Zb (Zr ZD ZT rfl B.len (by decide +kernel) (Zb (Zd (pv 2)) Zf)) Zf)) (Zv (i:=7) sc_l_tree.nd rfl (Or.inl rfl)) (Zh (Zt (i:=8) sc_l_tree.nd rfl (Or.inl rfl) (Zs C_l_pick (hr.mono (by decide)) rfl (Zb (ZQ (Zd (pv 1)) (Vi (Vi Zi (Zd (pv 7))) (Zd (pv 7)))) (Zb (ZQ Zi (Zd (pv 7))) (Zb (Zr ZD ZT rfl B.len (by decide +kernel) (Zb (Zd (pv 5)) Zf)) Zf)))))
  (Zh (Wi (TM hr.units (Y0 (Zd (pv 1)) Zi) Zi) (Zh (Zt (i:=8) sc_l_tree.nd rfl (Or.inl rfl) (VE.pure (Y0 (Zd (pv 6)) (Zr ZD ZT rfl B.len (by decide +kernel) (Zb (Zd (pv 5)) Zf)))))
  (Zp (Zt (i:=6) sc_l_tree.nd rfl (Or.inl rfl) (VE.pure (YS (Zd (pv 6)) (Zr ZD ZT rfl B.len (by decide +kernel) (Zb (Zd (pv 5)) Zf))))))) YB)
  (Zh (Fo (LO (i:=8) sc_l_tree.nd rfl (Or.inl rfl) (TC PySem.F.plainAttrs_list PySem.F.slot_list_pop PySem.F.type_list_pop LY (pv 5) (YI (Zd (pv 8)) XI))))
  (Zh (Iv (T:=(.many [9,10])) (Ve (Zu (Zd (pv 2)) (Zd (pv 8))) (UX (n:=2) rfl (YD (Zv (i:=9) sc_l_tree.nd rfl (Or.inl rfl)) (YD (Zv (i:=10) sc_l_tree.nd rfl (Or.inr rfl)) Vx)))))
  (Zp (Wi (N2 hr.units (Zu (Zd (pv 3)) (Zd (pv 9))) (Zu (Zd (pv 3)) (Zd (pv 10)))) (Zh (Zt (i:=11) sc_l_tree.nd rfl (Or.inr rfl) (VE.pure (Zu (Zd (pv 3)) (Zd (pv 9)))))
  (Zh (Zt (i:=3) sc_l_tree.nd rfl (Or.inr rfl) (Sh (["_law_mark"]:List Str) (["_law_gone","_law_marks","_law_other"]:List Str) [11,3,10] rfl (X3 (Zd (pv 3))) (by kernel_rfl) (fun _ _ _ _ _=>(Zv (i:=0) (show((["_law_mark"]:List Str)++(["_law_gone","_law_marks","_law_other"]:List Str)).Nodup by decide +kernel) rfl (Or.inl rfl) (.inr rfl))) (fun _ _ _ _ _=>Ys) (fun _ _ _ _ _=>(VE.pure (Kh (TM hr.units (Zd (pv 0)) (Zd (pv 1))) (Zu (Zd (pv 2)) (Zd (pv 3))) (Zd (pv 0)))))))
  (Zp (VG (XX (TC PySem.F.plainAttrs_list PySem.F.slot_list_append PySem.F.type_list_append Vy (pv 4) (YI (VE.pure (Zd (pv 8))) XI))))))) YB)))))))
  (Zp (ZR (VE.pure (Yu ZU Y5 rfl B.tuple (by decide +kernel) (Zb (VM.ve (Kl QR O0 rfl B.sorted (by decide +kernel) (Zb (Zd (pv 4)) Zf))) Zf))))))))))))
abbrev Ti:Stmt:=TZ 27
theorem sc_b_coins:ZH (["_law_web_here","_law_ends_here","_law_coins_here","_law_end"]:List Str) (["_law_web_here","_law_ends_here"]:List Str) (Zl Ti):=⟨rfl,rfl,rfl,by decide +kernel,rfl,by decide +kernel,by decide +kernel⟩
theorem Ni(Df:Def K mg "_law_coins" Ti)(B:UU mg):Y2 P w K mg base "_law_coins" (["_law_web_here","_law_ends_here"]:List Str) (YJ K Xe 2) 1:=
 Yf (O:=[2]) (k:=0) 4 VV Df sc_b_coins (fun _ _ _ _ _ _ us hl=>match us,hl with | [_,_],_=>rfl) rfl rfl (by decide) (fun fa cdv A outer s H E hr=>
  (Zh (Zt (i:=2) sc_b_coins.nd rfl (Or.inl rfl) (OW (SH (Zb Zi Zf)) (Zr ZD ZT rfl B.len (by decide +kernel) (Zb (Zd (pv 0)) Zf))))
  (Zh (YH PassesOwn.never rfl (QG (Zd (pv 1))) (Zv (i:=3) sc_b_coins.nd rfl (Or.inl rfl)) (Zp (SS (Ve (ZQ (Zu (Zd (pv 2)) (Zd (pv 3))) Zi) (Ud (pv 2) (Zd (pv 3)) Wd)))))
  (Zp (ZR (VE.pure (Yu ZU Y5 rfl B.tuple (by decide +kernel) (Zb (Zd (pv 2)) Zf))))))))
abbrev Vs:Stmt:=TZ 25
theorem sc_l_outside:ZH (["_law_web_here","_law_tree_here","_law_ties_here"]:List Str) (["_law_web_here","_law_tree_here"]:List Str) (Zl Vs):=⟨rfl,rfl,rfl,by decide +kernel,rfl,by decide +kernel,by decide +kernel⟩
theorem Q5(Df:Def K mg "_law_outside" Vs)(B:UU mg)(C_l_ties:Y2 P w K mg base "_law_ties" (["_law_web_here"]:List Str) (YJ K Y7 1) 1):Y2 P w K mg base "_law_outside" (["_law_web_here","_law_tree_here"]:List Str) (YJ K Xf 2) 2:=
 Yf (O:=[]) (k:=1) 3 Ww Df sc_l_outside (fun _ _ _ _ _ _ us hl=>match us,hl with | [_,_],_=>rfl) rfl rfl (by decide) (fun fa cdv A outer s H E hr=>
  (Zh (Zt (i:=2) sc_l_outside.nd rfl (Or.inr rfl) (Zs C_l_ties (hr.mono (by decide)) rfl (Zb (Zd (pv 0)) Zf)))
  (Zp (ZR (Sh (["_law_k"]:List Str) (["_law_ties_here","_law_tree_here"]:List Str) [2,1] rfl (Z1 rfl B.range (Zb (Zr ZD ZT rfl B.len (by decide +kernel) (Zb (Zd (pv 2)) Zf)) Zf)) (by kernel_rfl) (fun _ _ _ _ _=>(Zv (i:=0) (show((["_law_k"]:List Str)++(["_law_ties_here","_law_tree_here"]:List Str)).Nodup by decide +kernel) rfl (Or.inl rfl) (.inr rfl))) (fun _ _ _ _ _=>(QI (Ks hr.units (Zd (pv 0)) (Zd (pv 2))))) (fun _ _ _ _ _=>(VE.pure (Zu (Zd (pv 1)) (Zd (pv 0))))))))))
abbrev Rj:Stmt:=TZ 26
theorem sc_l_ends:ZH (["_law_web_here","_law_tree_here","_law_cell","_law_some","_law_number"]:List Str) (["_law_web_here","_law_tree_here","_law_cell"]:List Str) (Zl Rj):=⟨rfl,rfl,rfl,by decide +kernel,rfl,by decide +kernel,by decide +kernel⟩
theorem Lq(Df:Def K mg "_law_ends" Rj)(B:UU mg)(C_l_outside:Y2 P w K mg base "_law_outside" (["_law_web_here","_law_tree_here"]:List Str) (YJ K Xf 2) 2)(C_l_pick:Y2 P w K mg base "_law_pick" (["_law_cell","_law_salt","_law_many"]:List Str) (YJ K Zj 3) 1):Y2 P w K mg base "_law_ends" (["_law_web_here","_law_tree_here","_law_cell"]:List Str) (YJ K Xo 3) 3:=
 Yf (O:=[]) (k:=2) 5 WM Df sc_l_ends (fun _ _ _ _ _ _ us hl=>match us,hl with | [_,_,_],_=>rfl) rfl rfl (by decide) (fun fa cdv A outer s H E hr=>
  (Zh (Zt (i:=3) sc_l_ends.nd rfl (Or.inr rfl) (Zs C_l_outside (hr.mono (by decide)) rfl (Zb (Zd (pv 0)) (Zb (Zd (pv 1)) Zf))))
  (Zh (Wi (TM hr.units (Y0 (Zd (pv 2)) Zi) Zi) (Zh (Zt (i:=4) sc_l_ends.nd rfl (Or.inr rfl) (VE.pure (YS (YS (Zd (pv 2)) Zi) Zi)))
  (Zp (ZR (VE.pure (Yu ZU Y5 rfl B.tuple (by decide +kernel) (Zb (Xl (["_law_k"]:List Str) (["_law_some","_law_number"]:List Str) [3,4] rfl (Z1 rfl B.range (Zb (Zr ZD ZT rfl B.len (by decide +kernel) (Zb (Zd (pv 3)) Zf)) Zf)) (by kernel_rfl) (fun _ _ _ _ _=>(Zv (i:=0) (show((["_law_k"]:List Str)++(["_law_some","_law_number"]:List Str)).Nodup by decide +kernel) rfl (Or.inl rfl) (.inr rfl))) (fun _ _ _ _ _=>Ys) (fun _ _ _ _ _=>(Zu (Zu (Zd (pv 1)) (Zd (pv 0))) (NT (Ke (Zd (pv 2)) (Zd (pv 0))) Zi)))) Zf)))))) YB)
  (Zp (ZR (VE.pure (Yu ZU Y5 rfl B.tuple (by decide +kernel) (Zb (Xl (["_law_k"]:List Str) (["_law_some","_law_cell"]:List Str) [3,2] rfl (Z1 rfl B.range (Zb (Zr ZD ZT rfl B.len (by decide +kernel) (Zb (Zd (pv 3)) Zf)) Zf)) (by kernel_rfl) (fun _ _ _ _ _=>(Zv (i:=0) (show((["_law_k"]:List Str)++(["_law_some","_law_cell"]:List Str)).Nodup by decide +kernel) rfl (Or.inl rfl) (.inr rfl))) (fun _ _ _ _ _=>Ys) (fun _ _ _ _ _=>(Zu (Zu (Zd (pv 1)) (Zd (pv 0))) (VM.ve (Zs C_l_pick (hr.mono (by decide)) rfl (Zb (ZQ (Zd (pv 2)) (Vi (Vi Zi (Zd (pv 0))) (Zd (pv 0)))) (Zb (ZQ Zi (Zd (pv 0))) (Zb Zi Zf)))))))) Zf))))))))
abbrev Q6:Stmt:=TZ 9
theorem Ja:ZH (["purse"]:List Str) (["purse"]:List Str) (Zl Q6):=⟨rfl,rfl,rfl,by decide +kernel,rfl,by decide +kernel,by decide +kernel⟩
theorem Jb(Df:Def K mg "total" Q6)(B:UU mg):Y2 P w K mg base "total" (["purse"]:List Str) (YJ K YM 1) 1:=
 Yf (O:=[]) (k:=0) 1 QO Df Ja (fun _ _ _ _ _ _ us hl=>match us,hl with | [_],_=>rfl) rfl rfl (by decide) (fun fa cdv A outer s H E hr=>
  (Zp (ZR (VE.pure (Zr (Xv rfl) Ui rfl B.sum (by decide +kernel) (Zb (Zd (pv 0)) Zf))))))
abbrev Tj:Stmt:=TZ 6
theorem sc_ties_of:ZH (["web","ties","a","row","b"]:List Str) (["web"]:List Str) (Zl Tj):=⟨rfl,rfl,rfl,by decide +kernel,rfl,by decide +kernel,by decide +kernel⟩
theorem Nj(Df:Def K mg "ties_of" Tj)(B:UU mg):Y2 P w K mg base "ties_of" (["web"]:List Str) (YJ K VQ 1) 1:=
 Yf (O:=[1]) (k:=0) 5 VP Df sc_ties_of (fun _ _ _ _ _ _ us hl=>match us,hl with | [_],_=>rfl) rfl rfl (by decide) (fun fa cdv A outer s H E hr=>
  (Zh (Zt (i:=1) sc_ties_of.nd rfl (Or.inl rfl) (Uh WT))
  (Zh (YH PassesOwn.never rfl (NX false rfl B.enumerate (Zb (Zd (pv 0)) Zf)) (UX (n:=2) rfl (YD (Zv (i:=2) sc_ties_of.nd rfl (Or.inr rfl)) (YD (Zv (i:=3) sc_ties_of.nd rfl (Or.inl rfl)) Vx))) (Zp (YH PassesOwn.never rfl (WE rfl B.range (Zb (ZQ (Zd (pv 2)) Zi) (Zb (Zr ZD ZT rfl B.len (by decide +kernel) (Zb (Zd (pv 0)) Zf)) Zf))) (Zv (i:=4) sc_ties_of.nd rfl (Or.inr rfl)) (Zp (Qa (XX (TC PySem.F.plainAttrs_list PySem.F.slot_list_extend PySem.F.type_list_extend RY (pv 1) (YI (Sh (["nth"]:List Str) (["a","b"]:List Str) [2,4] rfl (Z1 rfl B.range (Zb (Zu (Zd (pv 3)) (Zd (pv 4))) Zf)) (by kernel_rfl) (fun _ _ _ _ _=>(Zv (i:=0) (show((["nth"]:List Str)++(["a","b"]:List Str)).Nodup by decide +kernel) rfl (Or.inl rfl) (.inr rfl))) (fun _ _ _ _ _=>Ys) (fun _ _ _ _ _=>(VE.pure (WU (Zb (Zd (pv 1)) (Zb (Zd (pv 2)) (Zb (Zd (pv 0)) Zf))))))) XI))))))))
  (Zp (N0 (pv 1))))))
abbrev Q8:Stmt:=TZ 7
theorem Jc:ZH (["web"]:List Str) (["web"]:List Str) (Zl Q8):=⟨rfl,rfl,rfl,by decide +kernel,rfl,by decide +kernel,by decide +kernel⟩
theorem Jd(Df:Def K mg "loops" Q8)(B:UU mg)(C_ties_of:Y2 P w K mg base "ties_of" (["web"]:List Str) (YJ K VQ 1) 1):Y2 P w K mg base "loops" (["web"]:List Str) (YJ K Xn 1) 2:=
 Yf (O:=[]) (k:=1) 1 QN Df Jc (fun _ _ _ _ _ _ us hl=>match us,hl with | [_],_=>rfl) rfl rfl (by decide) (fun fa cdv A outer s H E hr=>
  (Zp (ZR (VE.pure (ZQ (XJ (Zr ZD ZT rfl B.len (by decide +kernel) (Zb (VM.ve (Zs C_ties_of (hr.mono (by decide)) rfl (Zb (Zd (pv 0)) Zf))) Zf)) (Zr ZD ZT rfl B.len (by decide +kernel) (Zb (Zd (pv 0)) Zf))) Zi)))))
abbrev Xq:Stmt:=TZ 12
theorem Va:ZH (["web","purse"]:List Str) (["web","purse"]:List Str) (Zl Xq):=⟨rfl,rfl,rfl,by decide +kernel,rfl,by decide +kernel,by decide +kernel⟩
theorem Sa(Df:Def K mg "refuse_total" Xq)(B:UU mg)(C_total:Y2 P w K mg base "total" (["purse"]:List Str) (YJ K YM 1) 1)(C_loops:Y2 P w K mg base "loops" (["web"]:List Str) (YJ K Xn 1) 2):Y2 P w K mg base "refuse_total" (["web","purse"]:List Str) (YJ K Yz 2) 3:=
 Yf (O:=[]) (k:=2) 2 Xp Df Va (fun _ _ _ _ _ _ us hl=>match us,hl with | [_,_],_=>rfl) rfl rfl (by decide) (fun fa cdv A outer s H E hr=>
  (Zp (Wi (N2 hr.units (VM.ve (Zs C_total (hr.mono (by decide)) rfl (Zb (Zd (pv 1)) Zf))) (VM.ve (Zs C_loops (hr.mono (by decide)) rfl (Zb (Zd (pv 0)) Zf)))) (Zp (P0 (W:=[]))) YB)))
theorem Tn{Ca Cb:Addr}(Df:Def K mg "refuse_total" Xq)(B:UU mg)(Q:VX.Q7 "NoTotal" P w K mg base Ca Cb)(C_total:Y2 P w K mg base "total" (["purse"]:List Str) (YJ K YM 1) 1)(C_loops:Y2 P w K mg base "loops" (["web"]:List Str) (YJ K Xn 1) 2):VX.CalX P w K mg base "refuse_total" (["web","purse"]:List Str) (VX.spY K ZN 2) 3:=
 VX.def_yr (O:=[]) (k:=2) 2 (HV (xB (Ze (Xs true) (Zc YM [(Za 1)]) (Zc Xn [(Za 0)]))) (Th "NoTotal" (Zc YM [(Za 1)])) IP) Df Va (fun _ _ _ _ _ _ us hl=>match us,hl with | [_,_],_=>rfl) rfl rfl (by decide) (fun fa cdv A outer s H E hr=>
  (Mc (Ey (N2 hr.units (VM.ve (Zs C_total (hr.mono (by decide)) rfl (Zb (Zd (pv 1)) Zf))) (VM.ve (Zs C_loops (hr.mono (by decide)) rfl (Zb (Zd (pv 0)) Zf)))) (Mc (K0 F.excBase_ValueError Q.f.cf (hr.mono (by decide)) rfl Q.f.mgo Q.f.no rfl IV (VM.ve (Zs C_total (hr.mono (by decide)) rfl (Zb (Zd (pv 1)) Zf))))) K1)))
abbrev Vt:Stmt:=TZ 4
theorem Q9:ZH (["web","house","others"]:List Str) (["web","house","others"]:List Str) (Zl Vt):=⟨rfl,rfl,rfl,by decide +kernel,rfl,by decide +kernel,by decide +kernel⟩
theorem Pa(Df:Def K mg "ties_to" Vt)(B:UU mg):Y2 P w K mg base "ties_to" (["web","house","others"]:List Str) (YJ K YQ 3) 1:=
 Yf (O:=[]) (k:=0) 3 Wx Df Q9 (fun _ _ _ _ _ _ us hl=>match us,hl with | [_,_,_],_=>rfl) rfl rfl (by decide) (fun fa cdv A outer s H E hr=>
  (Zp (ZR (VE.pure (Zr (Xv rfl) Ui rfl B.sum (by decide +kernel) (Zb (Xl (["other"]:List Str) (["web","house"]:List Str) [0,1] rfl (QG (Zd (pv 2))) (by kernel_rfl) (fun _ _ _ _ _=>(Zv (i:=0) (show((["other"]:List Str)++(["web","house"]:List Str)).Nodup by decide +kernel) rfl (Or.inl rfl) (.inr rfl))) (fun _ _ _ _ _=>Ys) (fun _ _ _ _ _=>(Zu (Zu (Zd (pv 1)) (Zd (pv 2))) (Zd (pv 0))))) Zf))))))
abbrev XM:Stmt:=TZ 13
theorem sc_lacking_among:ZH (["web","purse","groups","house","coins","lacks"]:List Str) (["web","purse"]:List Str) (Zl XM):=⟨rfl,rfl,rfl,by decide +kernel,rfl,by decide +kernel,by decide +kernel⟩
theorem To(Df:Def K mg "lacking_among" XM)(B:UU mg)(C_b_ties_to:Y2 P w K mg base "ties_to" (["web","house","others"]:List Str) (YJ K YQ 3) 1):Y2 P w K mg base "lacking_among" (["web","purse"]:List Str) (YJ K YE 2) 2:=
 Yf (O:=[]) (k:=1) 6 Xb Df sc_lacking_among (fun _ _ _ _ _ _ us hl=>match us,hl with | [_,_],_=>rfl) rfl rfl (by decide) (fun fa cdv A outer s H E hr=>
  (Zh (Zt (i:=2) sc_lacking_among.nd rfl (Or.inl rfl) (Uh (Kk (VE.pure (WU (Zb (WU Zf) (Zb (Kj Zi) Zf)))) WT)))
  (Zh (YH PassesOwn.never rfl (NX false rfl B.enumerate (Zb (Zd (pv 1)) Zf)) (UX (n:=2) rfl (YD (Zv (i:=3) sc_lacking_among.nd rfl (Or.inr rfl)) (YD (Zv (i:=4) sc_lacking_among.nd rfl (Or.inr rfl)) Vx))) (Zp (Zt (i:=2) sc_lacking_among.nd rfl (Or.inl rfl) (QJ (Zd (pv 2)) (Xl (["group","over"]:List Str) (["house","web","coins"]:List Str) [3,0,4] rfl (X3 (Zd (pv 2))) (by kernel_rfl) (fun _ _ _ _ _=>(UX (n:=2) rfl (YD (Zv (i:=0) (show((["group","over"]:List Str)++(["house","web","coins"]:List Str)).Nodup by decide +kernel) rfl (Or.inl rfl) (.inr rfl)) (YD (Zv (i:=1) (show((["group","over"]:List Str)++(["house","web","coins"]:List Str)).Nodup by decide +kernel) rfl (Or.inl rfl) (.inr rfl)) Vx)))) (fun _ _ _ _ _=>Ys) (fun _ _ _ _ _=>(WU (Zb (Vh N5 N6 (Zd (pv 0)) (WU (Zb (Zd (pv 2)) Zf))) (Zb (XJ (ZQ (ZQ (Zd (pv 1)) (Zd (pv 4))) Zi) (VM.ve (Zs C_b_ties_to (hr.mono (by decide)) rfl (Zb (Zd (pv 3)) (Zb (Zd (pv 2)) (Zb (Zd (pv 0)) Zf)))))) Zf)))))))))
  (Zh (Si (["group","over"]:List Str) ([]:List Str) [] (i:=5) sc_lacking_among.nd rfl rfl rfl (X3 (X9 (Zd (pv 2)) (Ws Zi) VC)) (by kernel_rfl) (fun _ _ _ _ _=>(UX (n:=2) rfl (YD (Zv (i:=0) (show((["group","over"]:List Str)++([]:List Str)).Nodup by decide +kernel) rfl (Or.inl rfl) (.inr rfl)) (YD (Zv (i:=1) (show((["group","over"]:List Str)++([]:List Str)).Nodup by decide +kernel) rfl (Or.inl rfl) (.inr rfl)) Vx)))) (fun _ _ _ _ _=>(QI (PL (Zd (pv 1)) Zi))) (fun _ _ _ _ _=>(VE.pure (Zd (pv 0)))))
  (Zp (ZR (VE.pure (Kh (El (Zr ZD ZT rfl B.len (by decide +kernel) (Zb (Zd (pv 5)) Zf)) Zi) (Zu (Zd (pv 5)) Zi) Ka))))))))
abbrev V2:Stmt:=TZ 11
theorem Rk:ZH (["web","purse"]:List Str) (["web","purse"]:List Str) (Zl V2):=⟨rfl,rfl,rfl,by decide +kernel,rfl,by decide +kernel,by decide +kernel⟩
theorem Nk(Df:Def K mg "lacking" V2)(B:UU mg)(C_refuse_total:Y2 P w K mg base "refuse_total" (["web","purse"]:List Str) (YJ K Yz 2) 3)(C_lacking_among:Y2 P w K mg base "lacking_among" (["web","purse"]:List Str) (YJ K YE 2) 2):Y2 P w K mg base "lacking" (["web","purse"]:List Str) (YJ K Z2 2) 4:=
 Yf (O:=[]) (k:=3) 2 VZ Df Rk (fun _ _ _ _ _ _ us hl=>match us,hl with | [_,_],_=>rfl) rfl rfl (by decide) (fun fa cdv A outer s H E hr=>
  (Zh (HZ (VM.ve (Zs C_refuse_total (hr.mono (by decide)) rfl (Zb (Zd (pv 0)) (Zb (Zd (pv 1)) Zf)))))
  (Zp (ZR (Zs C_lacking_among (hr.mono (by decide)) rfl (Zb (Zd (pv 0)) (Zb (Zd (pv 1)) Zf)))))))
theorem Od{Ca Cb:Addr}(Df:Def K mg "lacking" V2)(B:UU mg)(Q:VX.Q7 "NoTotal" P w K mg base Ca Cb)(X_refuse_total:VX.CalX P w K mg base "refuse_total" (["web","purse"]:List Str) (VX.spY K ZN 2) 3):VX.CalX P w K mg base "lacking" (["web","purse"]:List Str) (VX.spY K YV 2) 4:=
 VX.def_y (O:=[]) (k:=3) 2 (RO (TY ZN [(Za 0),(Za 1)]) Um IP) Df Rk (fun _ _ _ _ _ _ us hl=>match us,hl with | [_,_],_=>rfl) rfl rfl (by decide) (fun fa cdv A outer s H E hr=>
  (K2 (IX X_refuse_total (hr.mono (by decide)) rfl (Zb (Zd (pv 0)) (Zb (Zd (pv 1)) Zf)) N9) (P0 (W:=[])) K1))
abbrev Tp:Stmt:=TZ 19
theorem Nl:ZH (["_law_found"]:List Str) (["_law_found"]:List Str) (Zl Tp):=⟨rfl,rfl,rfl,by decide +kernel,rfl,by decide +kernel,by decide +kernel⟩
theorem Nm(Df:Def K mg "_law_whole" Tp)(B:UU mg):Y2 P w K mg base "_law_whole" (["_law_found"]:List Str) (YJ K Yl 1) 1:=
 Yf (O:=[]) (k:=0) 1 Td Df Nl (fun _ _ _ _ _ _ us hl=>match us,hl with | [_],_=>rfl) rfl rfl (by decide) (fun fa cdv A outer s H E hr=>
  (Zp (ZR (VE.pure (QD (Zr Vg QE rfl B.isinstance (by decide +kernel) (Zb (Zd (pv 0)) (Zb (Kn rfl B.int (by decide +kernel)) Zf))) (OO (GZ (Zr Vg QE rfl B.isinstance (by decide +kernel) (Zb (Zd (pv 0)) (Zb (Kn rfl B.bool (by decide +kernel)) Zf))))))))))
abbrev XN:Stmt:=TZ 33
theorem sc_l_other_total:ZH (["_law_web_here","_law_purse","_law_cell","_law_told","_law_spoilt","e"]:List Str) (["_law_web_here","_law_purse","_law_cell"]:List Str) (Zl XN):=⟨rfl,rfl,rfl,by decide +kernel,rfl,by decide +kernel,by decide +kernel⟩
theorem Tq(Df:Def K mg "_law_other_total" XN)(B:UU mg)(C_l_pick:Y2 P w K mg base "_law_pick" (["_law_cell","_law_salt","_law_many"]:List Str) (YJ K Zj 3) 1)(C_lacking:Y2 P w K mg base "lacking" (["web","purse"]:List Str) (YJ K Z2 2) 4)(C_l_whole:Y2 P w K mg base "_law_whole" (["_law_found"]:List Str) (YJ K Yl 1) 1){Ca Cb:Addr}(Q:VX.Q7 "NoTotal" P w K mg base Ca Cb)(X_lacking:VX.CalX P w K mg base "lacking" (["web","purse"]:List Str) (VX.spY K YV 2) 4):Y2 P w K mg base "_law_other_total" (["_law_web_here","_law_purse","_law_cell"]:List Str) (YJ K Z9 3) 5:=
 Yf (O:=[]) (k:=4) 6 Xc Df sc_l_other_total (fun _ _ _ _ _ _ us hl=>match us,hl with | [_,_,_],_=>rfl) rfl rfl (by decide) (fun fa cdv A outer s H E hr=>
  (Zh (Zt (i:=3) sc_l_other_total.nd rfl (Or.inl rfl) (VE.pure Ka))
  (Zh (Zt (i:=4) sc_l_other_total.nd rfl (Or.inl rfl) (VE.pure (Vh N5 N6 (WU (Zb (XJ (ZQ (Zu (Zd (pv 1)) Zi) (VM.ve (Zs C_l_pick (hr.mono (by decide)) rfl (Zb (Zd (pv 2)) (Zb Zi (Zb Zi Zf)))))) Zi) Zf)) (MU (Zd (pv 1)) (Ws Zi) VC))))
  (Zh (EB (K8 Q X_lacking Q3 (hr.mono (by decide)) rfl (Zb (Zd (pv 0)) (Zb (Zd (pv 4)) Zf)) rfl rfl rfl sc_l_other_total.nd rfl rfl rfl (fun _=>(Zp (Zt (i:=3) sc_l_other_total.nd rfl (Or.inl rfl) (VE.pure (IU Q.f.fl (Zd (pv 5))))))) (by decide)) (IW (Zp (HZ (VM.ve (Zs C_lacking (hr.mono (by decide)) rfl (Zb (Zd (pv 0)) (Zb (Zd (pv 4)) Zf))))))))
  (Zh (Wi (TM hr.units (Zr (Xv rfl) Ui rfl B.sum (by decide +kernel) (Zb (Zd (pv 4)) Zf)) (Zr (Xv rfl) Ui rfl B.sum (by decide +kernel) (Zb (Zd (pv 1)) Zf))) (Zp (ZR (VE.pure (G0 (Zd (pv 3)))))) YB)
  (Zp (ZR (VE.pure (QD (VM.ve (Zs C_l_whole (hr.mono (by decide)) rfl (Zb (Zd (pv 3)) Zf))) (OO (Et hr.units (Zd (pv 3)) (Zr (Xv rfl) Ui rfl B.sum (by decide +kernel) (Zb (Zd (pv 4)) Zf)))))))))))))
abbrev Rl:Stmt:=TZ 28
theorem sc_l_need:ZH (["_law_web_here","_law_some","_law_twice","_law_one"]:List Str) (["_law_web_here","_law_some"]:List Str) (Zl Rl):=⟨rfl,rfl,rfl,by decide +kernel,rfl,by decide +kernel,by decide +kernel⟩
theorem Lr(Df:Def K mg "_law_need" Rl)(B:UU mg):Y2 P w K mg base "_law_need" (["_law_web_here","_law_some"]:List Str) (YJ K Vr 2) 1:=
 Yf (O:=[]) (k:=0) 4 UQ Df sc_l_need (fun _ _ _ _ _ _ us hl=>match us,hl with | [_,_],_=>rfl) rfl rfl (by decide) (fun fa cdv A outer s H E hr=>
  (Zh (Zt (i:=2) sc_l_need.nd rfl (Or.inl rfl) (VE.pure Zi))
  (Zh (YH PassesOwn.never rfl (K4 (Zd (pv 1))) (Zv (i:=3) sc_l_need.nd rfl (Or.inr rfl)) (Zp (Zt (i:=2) sc_l_need.nd rfl (Or.inl rfl) (VE.pure (ZQ (Zd (pv 2)) (Zr (Xv rfl) Ui rfl B.sum (by decide +kernel) (Zb (Xl (["_law_other"]:List Str) (["_law_web_here","_law_one"]:List Str) [0,3] rfl (K4 (Zd (pv 1))) (by kernel_rfl) (fun _ _ _ _ _=>(Zv (i:=0) (show((["_law_other"]:List Str)++(["_law_web_here","_law_one"]:List Str)).Nodup by decide +kernel) rfl (Or.inl rfl) (.inr rfl))) (fun _ _ _ _ _=>Ys) (fun _ _ _ _ _=>(Zu (Zu (Zd (pv 1)) (Zd (pv 2))) (Zd (pv 0))))) Zf)))))))
  (Zp (ZR (VE.pure (ZQ (XJ (YS (Zd (pv 2)) Zi) (Zr ZD ZT rfl B.len (by decide +kernel) (Zb (Zd (pv 1)) Zf))) Zi)))))))
abbrev Tr:Stmt:=TZ 29
theorem Nn:ZH (["_law_web_here","_law_purse","_law_some"]:List Str) (["_law_web_here","_law_purse","_law_some"]:List Str) (Zl Tr):=⟨rfl,rfl,rfl,by decide +kernel,rfl,by decide +kernel,by decide +kernel⟩
theorem Np(Df:Def K mg "_law_lacks" Tr)(B:UU mg)(C_l_need:Y2 P w K mg base "_law_need" (["_law_web_here","_law_some"]:List Str) (YJ K Vr 2) 1):Y2 P w K mg base "_law_lacks" (["_law_web_here","_law_purse","_law_some"]:List Str) (YJ K YW 3) 2:=
 Yf (O:=[]) (k:=1) 3 V0 Df Nn (fun _ _ _ _ _ _ us hl=>match us,hl with | [_,_,_],_=>rfl) rfl rfl (by decide) (fun fa cdv A outer s H E hr=>
  (Zp (ZR (VE.pure (HE (Zr (Xv rfl) Ui rfl B.sum (by decide +kernel) (Zb (Xl (["_law_house"]:List Str) (["_law_purse"]:List Str) [1] rfl (K4 (Zd (pv 2))) (by kernel_rfl) (fun _ _ _ _ _=>(Zv (i:=0) (show((["_law_house"]:List Str)++(["_law_purse"]:List Str)).Nodup by decide +kernel) rfl (Or.inl rfl) (.inr rfl))) (fun _ _ _ _ _=>Ys) (fun _ _ _ _ _=>(Zu (Zd (pv 1)) (Zd (pv 0))))) Zf)) (VM.ve (Zs C_l_need (hr.mono (by decide)) rfl (Zb (Zd (pv 0)) (Zb (Zd (pv 2)) Zf)))))))))
abbrev WA:Stmt:=TZ 30
theorem sc_l_none_lack:ZH (["_law_web_here","_law_purse","_law_mask"]:List Str) (["_law_web_here","_law_purse"]:List Str) (Zl WA):=⟨rfl,rfl,rfl,by decide +kernel,rfl,by decide +kernel,by decide +kernel⟩
theorem Rn(Df:Def K mg "_law_none_lack" WA)(B:UU mg)(C_l_lacks:Y2 P w K mg base "_law_lacks" (["_law_web_here","_law_purse","_law_some"]:List Str) (YJ K YW 3) 2):Y2 P w K mg base "_law_none_lack" (["_law_web_here","_law_purse"]:List Str) (YJ K YG 2) 3:=
 Yf (O:=[]) (k:=2) 3 Xz Df sc_l_none_lack (fun _ _ _ _ _ _ us hl=>match us,hl with | [_,_],_=>rfl) rfl rfl (by decide) (fun fa cdv A outer s H E hr=>
  (Zh (YH PassesOwn.never rfl (WE rfl B.range (Zb Zi (Zb (GX Zi (Zr ZD ZT rfl B.len (by decide +kernel) (Zb (Zd (pv 0)) Zf))) Zf))) (Zv (i:=2) sc_l_none_lack.nd rfl (Or.inr rfl)) (Zp (Wi (U7 (VM.ve (Zs C_l_lacks (hr.mono (by decide)) rfl (Zb (Zd (pv 0)) (Zb (Zd (pv 1)) (Zb (Xl (["_law_k"]:List Str) (["_law_mask"]:List Str) [2] rfl (Z1 rfl B.range (Zb (Zr ZD ZT rfl B.len (by decide +kernel) (Zb (Zd (pv 0)) Zf)) Zf)) (by kernel_rfl) (fun _ _ _ _ _=>(Zv (i:=0) (show((["_law_k"]:List Str)++(["_law_mask"]:List Str)).Nodup by decide +kernel) rfl (Or.inl rfl) (.inr rfl))) (fun _ _ _ _ _=>(QI (TM hr.units (NT (Ke (Zd (pv 1)) (Zd (pv 0))) Zi) Zi))) (fun _ _ _ _ _=>(Zd (pv 0)))) Zf)))))) (Zp (ZR (VE.pure SA))) YB)))
  (Zp (ZR (VE.pure SA)))))
abbrev Ts:Stmt:=TZ 32
theorem sc_l_right:ZH (["_law_web_here","_law_purse","_law_found"]:List Str) (["_law_web_here","_law_purse"]:List Str) (Zl Ts):=⟨rfl,rfl,rfl,by decide +kernel,rfl,by decide +kernel,by decide +kernel⟩
theorem Nq(Df:Def K mg "_law_right" Ts)(B:UU mg)(C_lacking:Y2 P w K mg base "lacking" (["web","purse"]:List Str) (YJ K Z2 2) 4)(C_l_none_lack:Y2 P w K mg base "_law_none_lack" (["_law_web_here","_law_purse"]:List Str) (YJ K YG 2) 3)(C_l_whole:Y2 P w K mg base "_law_whole" (["_law_found"]:List Str) (YJ K Yl 1) 1)(C_l_lacks:Y2 P w K mg base "_law_lacks" (["_law_web_here","_law_purse","_law_some"]:List Str) (YJ K YW 3) 2):Y2 P w K mg base "_law_right" (["_law_web_here","_law_purse"]:List Str) (YJ K Xy 2) 5:=
 Yf (O:=[]) (k:=4) 3 V1 Df sc_l_right (fun _ _ _ _ _ _ us hl=>match us,hl with | [_,_],_=>rfl) rfl rfl (by decide) (fun fa cdv A outer s H E hr=>
  (Zh (Zt (i:=2) sc_l_right.nd rfl (Or.inl rfl) (Zs C_lacking (hr.mono (by decide)) rfl (Zb (Zd (pv 0)) (Zb (Zd (pv 1)) Zf))))
  (Zh (Wi (G1 (Zd (pv 2))) (Zp (ZR (Zs C_l_none_lack (hr.mono (by decide)) rfl (Zb (Zd (pv 0)) (Zb (Zd (pv 1)) Zf))))) YB)
  (Zh (Wi (VW.vt (R6 (QC (U7 (Zr Vg QE rfl B.isinstance (by decide +kernel) (Zb (Zd (pv 2)) (Zb (Kn rfl B.tuple (by decide +kernel)) Zf))))) (R6 (TM hr.units (Zr ZD ZT rfl B.len (by decide +kernel) (Zb (Zd (pv 2)) Zf)) Zi) (QB (QC (U7 (Zr (MN rfl) G3 rfl B.all (by decide +kernel) (Zb (Xl (["_law_one"]:List Str) ([]:List Str) [] rfl (QG (Zd (pv 2))) (by kernel_rfl) (fun _ _ _ _ _=>(Zv (i:=0) (show((["_law_one"]:List Str)++([]:List Str)).Nodup by decide +kernel) rfl (Or.inl rfl) (.inr rfl))) (fun _ _ _ _ _=>Ys) (fun _ _ _ _ _=>(VM.ve (Zs C_l_whole (hr.mono (by decide)) rfl (Zb (Zd (pv 0)) Zf))))) Zf)))))))) (Zp (ZR (VE.pure SA))) YB)
  (Zh (Wi (VW.vt (R6 (N2 hr.units (VM.ve (R7 Uw PN rfl B.list (by decide +kernel) (Zb (Zd (pv 2)) Zf))) (VM.ve (QY rfl rfl B.sorted rfl B.set (Zd (pv 2))))) (R6 (PL (Zu (Zd (pv 2)) Zi) Zi) (QB (Em (Zu (Zd (pv 2)) (Kj Zi)) (Zr ZD ZT rfl B.len (by decide +kernel) (Zb (Zd (pv 0)) Zf))))))) (Zp (ZR (VE.pure SA))) YB)
  (Zp (ZR (Zs C_l_lacks (hr.mono (by decide)) rfl (Zb (Zd (pv 0)) (Zb (Zd (pv 1)) (Zb (Zd (pv 2)) Zf)))))))))))
abbrev Ro:Stmt:=TZ 21
theorem sc_l_lend:ZH (["_law_web_here","_law_purse","_law_script","_law_found","_law_house","_law_coins_here","_law_other","_law_step"]:List Str) (["_law_web_here","_law_purse","_law_script"]:List Str) (Zl Ro):=⟨rfl,rfl,rfl,by decide +kernel,rfl,by decide +kernel,by decide +kernel⟩
theorem Ls(Df:Def K mg "_law_lend" Ro)(B:UU mg):Y2 P w K mg base "_law_lend" (["_law_web_here","_law_purse","_law_script"]:List Str) (YJ K Vn 3) 1:=
 Yf (O:=[3]) (k:=0) 8 UL Df sc_l_lend (fun _ _ _ _ _ _ us hl=>match us,hl with | [_,_,_],_=>rfl) rfl rfl (by decide) (fun fa cdv A outer s H E hr=>
  (Zh (Zt (i:=3) sc_l_lend.nd rfl (Or.inl rfl) (Uh WT))
  (Zh (YH PassesOwn.never rfl (Z1 rfl B.range (Zb (Zr ZD ZT rfl B.len (by decide +kernel) (Zb (Zd (pv 0)) Zf)) Zf)) (Zv (i:=4) sc_l_lend.nd rfl (Or.inl rfl)) (Zh (Zt (i:=5) sc_l_lend.nd rfl (Or.inl rfl) (VE.pure (Zu (Zd (pv 1)) (Zd (pv 4)))))
  (Zh (YH PassesOwn.never rfl (Z1 rfl B.range (Zb (Zr ZD ZT rfl B.len (by decide +kernel) (Zb (Zd (pv 0)) Zf)) Zf)) (Zv (i:=6) sc_l_lend.nd rfl (Or.inl rfl)) (Zh (Zt (i:=7) sc_l_lend.nd rfl (Or.inl rfl) (VE.pure (XJ (Zu (Zd (pv 2)) (Zd (pv 4))) (Zu (Zd (pv 2)) (Zd (pv 6))))))
  (Zp (Zt (i:=5) sc_l_lend.nd rfl (Or.inl rfl) (VE.pure (XJ (Zd (pv 5)) (Vi (Zu (Zu (Zd (pv 0)) (Zd (pv 4))) (Zd (pv 6))) (Zd (pv 7)))))))))
  (Zp (VG (XX (TC PySem.F.plainAttrs_list PySem.F.slot_list_append PySem.F.type_list_append Vy (pv 3) (YI (VE.pure (Zd (pv 5))) XI))))))))
  (Zp (ZR (VE.pure (Yu ZU Y5 rfl B.tuple (by decide +kernel) (Zb (Zd (pv 3)) Zf))))))))
abbrev Tt:Stmt:=TZ 31
theorem sc_l_moved:ZH (["_law_web_here","_law_purse","_law_cell","_law_coins_here","_law_k","_law_one","_law_other"]:List Str) (["_law_web_here","_law_purse","_law_cell"]:List Str) (Zl Tt):=⟨rfl,rfl,rfl,by decide +kernel,rfl,by decide +kernel,by decide +kernel⟩
theorem Nr(Df:Def K mg "_law_moved" Tt)(B:UU mg)(C_l_pick:Y2 P w K mg base "_law_pick" (["_law_cell","_law_salt","_law_many"]:List Str) (YJ K Zj 3) 1)(C_l_lend:Y2 P w K mg base "_law_lend" (["_law_web_here","_law_purse","_law_script"]:List Str) (YJ K Vn 3) 1):Y2 P w K mg base "_law_moved" (["_law_web_here","_law_purse","_law_cell"]:List Str) (YJ K Xg 3) 2:=
 Yf (O:=[3]) (k:=1) 7 Wa Df sc_l_moved (fun _ _ _ _ _ _ us hl=>match us,hl with | [_,_,_],_=>rfl) rfl rfl (by decide) (fun fa cdv A outer s H E hr=>
  (Zh (Zt (i:=3) sc_l_moved.nd rfl (Or.inl rfl) (R7 Uw PN rfl B.list (by decide +kernel) (Zb (Zd (pv 1)) Zf)))
  (Zh (YH PassesOwn.never rfl (Z1 rfl B.range (Zb (VM.ve (Zs C_l_pick (hr.mono (by decide)) rfl (Zb (Zd (pv 2)) (Zb Zi (Zb Zi Zf))))) Zf)) (Zv (i:=4) sc_l_moved.nd rfl (Or.inl rfl)) (Zh (Zt (i:=5) sc_l_moved.nd rfl (Or.inl rfl) (Zs C_l_pick (hr.mono (by decide)) rfl (Zb (ZQ (Zd (pv 2)) (Zd (pv 4))) (Zb Zi (Zb (Zr ZD ZT rfl B.len (by decide +kernel) (Zb (Zd (pv 0)) Zf)) Zf)))))
  (Zh (Zt (i:=6) sc_l_moved.nd rfl (Or.inl rfl) (Zs C_l_pick (hr.mono (by decide)) rfl (Zb (ZQ (Zd (pv 2)) (Zd (pv 4))) (Zb Zi (Zb (Zr ZD ZT rfl B.len (by decide +kernel) (Zb (Zd (pv 0)) Zf)) Zf)))))
  (Zh (SS (Ve (XJ (Zu (Zd (pv 3)) (Zd (pv 5))) Zi) (Ud (pv 3) (Zd (pv 5)) Wd)))
  (Zp (SS (Ve (ZQ (Zu (Zd (pv 3)) (Zd (pv 6))) Zi) (Ud (pv 3) (Zd (pv 6)) Wd))))))))
  (Zh (Wi (TM hr.units (VM.ve (Zs C_l_pick (hr.mono (by decide)) rfl (Zb (Zd (pv 2)) (Zb Zi (Zb Zi Zf))))) Zi) (Zp (ZR (Zs C_l_lend (hr.mono (by decide)) rfl (Zb (Zd (pv 0)) (Zb (Zd (pv 3)) (Zb (Xl (["_law_k"]:List Str) (["_law_cell"]:List Str) [2] rfl (Z1 rfl B.range (Zb (Zr ZD ZT rfl B.len (by decide +kernel) (Zb (Zd (pv 0)) Zf)) Zf)) (by kernel_rfl) (fun _ _ _ _ _=>(Zv (i:=0) (show((["_law_k"]:List Str)++(["_law_cell"]:List Str)).Nodup by decide +kernel) rfl (Or.inl rfl) (.inr rfl))) (fun _ _ _ _ _=>Ys) (fun _ _ _ _ _=>(VM.ve (Zs C_l_pick (hr.mono (by decide)) rfl (Zb (ZQ (Zd (pv 1)) (Zd (pv 0))) (Zb Zi (Zb Zi Zf))))))) Zf)))))) YB)
  (Zp (ZR (VE.pure (Yu ZU Y5 rfl B.tuple (by decide +kernel) (Zb (Zd (pv 3)) Zf)))))))))
abbrev Je:Stmt:=TZ 34
theorem sc_law:ZH (["_law_script","_law_web_here","_law_cell","_law_tree_here","_law_purse"]:List Str) (["_law_script"]:List Str) (Zl Je):=⟨rfl,rfl,rfl,by decide +kernel,rfl,by decide +kernel,by decide +kernel⟩
theorem Fv{ff:Addr}{fd:FuncData}(Fn:Fun K "law" "law" Je ff fd)(B:UU mg)(C_p_web:Y2 P w K mg base "_law_web" (["_law_script","_law_sizes","_law_most"]:List Str) (YJ K VU 3) 2)(C_l_at:Y2 P w K mg base "_law_at" (["_law_script","_law_k"]:List Str) (YJ K ZZ 2) 1)(C_l_tree:Y2 P w K mg base "_law_tree" (["_law_web_here","_law_cell"]:List Str) (YJ K XG 2) 2)(C_b_coins:Y2 P w K mg base "_law_coins" (["_law_web_here","_law_ends_here"]:List Str) (YJ K Xe 2) 1)(C_l_ends:Y2 P w K mg base "_law_ends" (["_law_web_here","_law_tree_here","_law_cell"]:List Str) (YJ K Xo 3) 3)(C_l_right:Y2 P w K mg base "_law_right" (["_law_web_here","_law_purse"]:List Str) (YJ K Xy 2) 5)(C_l_moved:Y2 P w K mg base "_law_moved" (["_law_web_here","_law_purse","_law_cell"]:List Str) (YJ K Xg 3) 2)(C_lacking:Y2 P w K mg base "lacking" (["web","purse"]:List Str) (YJ K Z2 2) 4)(C_l_other_total:Y2 P w K mg base "_law_other_total" (["_law_web_here","_law_purse","_law_cell"]:List Str) (YJ K Z9 3) 5):V5 P w K mg base Py 6 ff fd (["_law_script"]:List Str) (YJ K D_law 1):=
 Fc (O:=[]) (k:=5) 5 Me Fn sc_law rfl rfl (by decide) (fun fa cdv A outer s H E hr=>
  (Zh (Zt (i:=1) sc_law.nd rfl (Or.inl rfl) (Zs C_p_web (hr.mono (by decide)) rfl (Zb (Zd (pv 0)) (Zb (SH (Zb Zi (Zb Zi (Zb Zi (Zb Zi (Zb Zi Zf)))))) (Zb Zi Zf)))))
  (Zh (YH PassesOwn.never rfl (X3 (VM.ve (QJ (SH (Zb (VM.ve (Zs C_l_at (hr.mono (by decide)) rfl (Zb (Zd (pv 0)) (Zb Zi Zf)))) Zf)) (X9 (Zd (pv 0)) (Ws Zi) (Ws Zi))))) (Zv (i:=2) sc_law.nd rfl (Or.inl rfl)) (Zh (Zt (i:=3) sc_law.nd rfl (Or.inl rfl) (Zs C_l_tree (hr.mono (by decide)) rfl (Zb (Zd (pv 1)) (Zb (Zd (pv 2)) Zf))))
  (Zh (Zt (i:=4) sc_law.nd rfl (Or.inl rfl) (Zs C_b_coins (hr.mono (by decide)) rfl (Zb (Zd (pv 1)) (Zb (VM.ve (Zs C_l_ends (hr.mono (by decide)) rfl (Zb (Zd (pv 1)) (Zb (Zd (pv 3)) (Zb (Zd (pv 2)) Zf))))) Zf))))
  (Zh (Wi (VW.vt (R6 (Im (VM.ve (Zs C_lacking (hr.mono (by decide)) rfl (Zb (Zd (pv 1)) (Zb (Zd (pv 4)) Zf))))) (QB (QC (U7 (VM.ve (Zs C_l_right (hr.mono (by decide)) rfl (Zb (Zd (pv 1)) (Zb (VM.ve (Zs C_l_moved (hr.mono (by decide)) rfl (Zb (Zd (pv 1)) (Zb (Zd (pv 4)) (Zb (Zd (pv 2)) Zf))))) Zf))))))))) (Zp (ZR (VE.pure SA))) YB)
  (Zp (Wi (QC (U7 (VM.ve (Zs C_l_other_total (hr.mono (by decide)) rfl (Zb (Zd (pv 1)) (Zb (Zd (pv 4)) (Zb (Zd (pv 2)) Zf))))))) (Zp (ZR (VE.pure SA))) YB))))))
  (Zp (ZR (VE.pure SA))))))
end
end PW
namespace PW
open L2 VL
theorem Oe(l:List Int):YM [pP l]=some (.int l.sum):=by
 simp[YM,QO,Xi,Yq]
theorem Of(i:Int):Yl [.int i]=some (.bl true):=by
 simp[Yl,Td,Xi,Yq]
def Rp(W:List (List Int))(S:List Int)(h:Nat):Int:=((List.range W.length).map fun i=>ZV W h i*(ZA S i-ZA S h)).sum
def XQ(W:List (List Int))(D S:List Int):List Int:=(List.range D.length).map fun h=>ZA D h+Rp W S h
def XU(W:List (List Int))(a b:Nat):List (List Int):=(List.range (ZV W a b).toNat).map fun(t:Nat)=>[(a:Int),(b:Int),(t:Int)]
def Ub(W:List (List Int))(a:Nat):List (List Int):=(List.range (W.length-(a+1))).flatMap fun j=>XU W a (a+1+j)
def Rq(W:List (List Int)):List (List Int):=(List.range W.length).flatMap (Ub W)
theorem Xh{α:Type}(f:Nat->List α)(i:Nat):(List.range (i+1)).flatMap f=(List.range i).flatMap f++f i:=by rw[List.range_succ,List.flatMap_append];simp
theorem Nt{W:List (List Int)}(ok:ZW W){a b:Nat}(ha:a<W.length)(hb:b<W.length):(XU W a b).length<=9:=by
 have:=ok.hi a b ha hb
 unfold XU;simp;omega
theorem Lu{W:List (List Int)}(ok:ZW W){a b:Nat}(ha:a<W.length)(hb:b<W.length)(t:Option PV):Zz 1 [2,4] (ZI [Ze ZE (Za 3) (Za 4)]) (.one 0) ZL (eP (YT [Za 1,Za 2,Za 0])) [some (wP W),t,some (.int (a:Int)),some (pP (ZF W a)),some (.int (b:Int))]=some (.lst ((XU W a b).map pP)):=by
 have hr:=ok.sq a ha;have b1:=ok.lo a b ha hb;have b2:=ok.hi a b ha hb
 rw[Yc (List.range (ZV W a b).toNat) (fun(i:Nat)=>.int (i:Int)) (fun(t:Nat)=>pP [(a:Int),(b:Int),(t:Int)]) ?_ (by simp;omega) (fun i hi=>⟨_,rfl,rfl,by simp[Yr]⟩)]
 ·simp[XU]
 ·exact Yd (by simp[Wk (show b<(ZF W a).length by omega)];show ZV W a b=max (ZV W a b) 0;omega) (by omega)
theorem Nu{W:List (List Int)}(ok:ZW W){a:Nat}(ha:a<W.length)(acc:List (List Int))(hacc:acc.length<=1000)(b0:Option PV) :
  ∃b',Tb (.one 4) (Xa 1 (Zz 1 [2,4] (ZI [Ze ZE (Za 3) (Za 4)]) (.one 0) ZL (eP (YT [Za 1,Za 2,Za 0])))) (XC ((a:Int)+1) (W.length-(a+1))) [some (wP W),some (.lst (acc.map pP)),some (.int (a:Int)),some (pP (ZF W a)),b0]
   = some (.nx [some (wP W),some (.lst ((acc++Ub W a).map pP)),some (.int (a:Int)),some (pP (ZF W a)),b'])/\(Ub W a).length<=63:=by
 have hf:=ok.few
 obtain⟨s',h1,b',h2,h3⟩:=ZY (T:=.one 4) (fb:=Xa 1 (Zz 1 [2,4] (ZI [Ze ZE (Za 3) (Za 4)]) (.one 0) ZL (eP (YT [Za 1,Za 2,Za 0])))) (ls:=XC ((a:Int)+1) (W.length-(a+1))) (s:=[some (wP W),some (.lst (acc.map pP)),some (.int (a:Int)),some (pP (ZF W a)),b0])
  (fun j st=>∃b',st=[some (wP W),some (.lst ((acc++(List.range j).flatMap fun j=>XU W a (a+1+j)).map pP)),some (.int (a:Int)),some (pP (ZF W a)),b']/\((List.range j).flatMap fun j=>XU W a (a+1+j)).length<=9*j)
  ⟨b0,by simp,by simp⟩ (fun j l st hl hJ=>by
   obtain⟨hj,rfl⟩:=Vm hl
   obtain⟨b',rfl,hlen⟩:=hJ
   have hb:a+1+j<W.length:=by omega
   have e1:(a:Int)+1+(j:Int)=((a+1+j:Nat):Int):=by omega
   rw[e1]
   have hc:=Lu ok ha hb (some (.lst ((acc++(List.range j).flatMap fun j=>XU W a (a+1+j)).map pP)))
   have hl2:=Nt ok ha hb
   have hg:(acc.length+((List.range j).flatMap fun j=>XU W a (a+1+j)).length)+(XU W a (a+1+j)).length<=10000:=by omega
   refine⟨_,_,rfl,?_,some (.int ((a+1+j:Nat):Int)),rfl,?_⟩
   ·refine(SY hc rfl (by rw[List.length_map,List.length_map,List.length_append];exact hg)).trans ?_
    simp[Xh]
   ·rw[Xh,List.length_append];omega)
 rw[PZ] at h2 h3
 refine⟨b',?_,?_⟩
 ·rw[h1,h2];rfl
 ·have:Ub W a=(List.range (W.length-(a+1))).flatMap fun j=>XU W a (a+1+j):=rfl
  rw[this];omega
theorem Rr{W:List (List Int)}(ok:ZW W):VQ [wP W]=some (.lst ((Rq W).map pP))/\(Rq W).length<=441:=by
 have hf:=ok.few
 have enumW:Wg (W.map pP)=(List.range W.length).map fun(i:Nat)=>.tup [.int (i:Int),pP (ZF W i)]:=by
  rw[TQ,List.length_map]
  apply List.map_congr_left
  intro i hi;rw[Kz W i (List.mem_range.mp hi)]
 obtain⟨s',h1,x,y,z,h2,h3⟩:=ZY (T:=.many [2,3]) (fb:=Yv [1] (YZ [Ze Zx (Za 2) (eC (.int 1)),Zc Zw [Za 0]]) (.one 4) (Xa 1 (Zz 1 [2,4] (ZI [Ze ZE (Za 3) (Za 4)]) (.one 0) ZL (eP (YT [Za 1,Za 2,Za 0]))))) (ls:=Wg (W.map pP)) (s:=[some (wP W),some (.lst []),none,none,none])
  (fun i st=>∃x y z,st=[some (wP W),some (.lst (((List.range i).flatMap (Ub W)).map pP)),x,y,z]/\((List.range i).flatMap (Ub W)).length<=63*i)
  ⟨none,none,none,by simp,by simp⟩ (fun i l st hl hJ=>by
   obtain⟨x,y,z,rfl,hlen⟩:=hJ
   have hi:i<W.length:=by
    have:=(List.getElem?_eq_some_iff.mp hl).1
    rw[X8,List.length_map] at this;exact this
   rw[enumW,List.getElem?_map,List.getElem?_range hi] at hl;cases hl
   obtain⟨b',e1,e2⟩:=Nu ok hi ((List.range i).flatMap (Ub W)) (by omega) z
   refine⟨_,_,rfl,?_,some (.int (i:Int)),some (pP (ZF W i)),b',rfl,?_⟩
   ·have hr:YZ [Ze Zx (Za 2) (eC (.int 1)),Zc Zw [Za 0]] (ZM [1] [some (wP W),some (.lst (((List.range i).flatMap (Ub W)).map pP)),some (.int (i:Int)),some (pP (ZF W i)),z])=some (XC ((i:Int)+1) (W.length-(i+1))):=by
     rw[WK (i:=(i:Int)+1) (j:=(W.length:Int)) (by simp[ZM]) (by simp[ZM]) ⟨by omega,by omega⟩ ⟨by omega,by omega⟩]
     congr 2;omega
    show Yv _ _ _ _ [some (wP W),_,some (.int (i:Int)),some (pP (ZF W i)),z]=_
    rw[SX,hr];simp only[Option.bind_some];rw[e1,Xh]
   ·rw[Xh,List.length_append];omega)
 rw[X8,List.length_map] at h2 h3
 refine⟨?_,by have:Rq W=(List.range W.length).flatMap (Ub W):=rfl;rw[this];omega⟩
 have hs:Xi 5 VP [wP W]=some (.lst ((Rq W).map pP)):=by
  unfold VP;simp only[Xi,Yq,List.map_cons,List.map_nil,List.length_cons,List.length_nil,SV,Zm,Kv,Iw,Option.map_some,Option.bind_some];rw[SX];simp only[M0]
  have:(ZM [1] (([some (wP W)]++List.replicate (5-(0+1)) none:ZP).set 1 (some (.lst []))))=[some (wP W),none,none,none,none]:=rfl
  rw[this];simp only[Ku,List.getElem?_cons_zero,Option.join_some,Option.bind_some,Fj,Option.map_some]
  show((Tb _ _ (Wg (W.map pP)) [some (wP W),some (.lst []),none,none,none]).bind _).bind Xm=_
  rw[h1,h2];rfl
 exact hs
theorem Jf{W:List (List Int)}(ok:ZW W):Xn [wP W]=some (.int (((Rq W).length:Int)-(W.length:Int)+1)):=by
 simp[Xn,QN,Xi,Yq,(Rr ok).1]
def tk(e:DC):List Se:=[.inl (e.1:Int),.inl (e.2.1:Int)]
def Lv(W:List (List Int)):Prop:=∀P:Nat->Prop,(∀a b,a<W.length->b<W.length->0<ZV W a b->(P a↔P b))->∀i j,i<W.length->j<W.length->(P i↔P j)
theorem Og:∀{l m:List Int},l.Nodup->(∀x∈l,x∈m)->l.length<=m.length
 | [],m,_,_=>Nat.zero_le _
 | x::r,m,nd,h=>by
  have hx:x∈m:=h x (by simp)
  have nd':=List.nodup_cons.mp nd
  have:=Og (l:=r) (m:=m.erase x) nd'.2 fun y hy=>(List.mem_erase_of_ne (show y≠x from fun z=>nd'.1 (by rw[<-z];exact hy))).mpr (h y (by simp[hy]))
  rw[List.length_erase_of_mem hx] at this;have hp:=List.length_pos_of_mem hx
  rw[List.length_cons];omega
theorem Jg{n:Nat}{l:List Int}(nd:l.Nodup)(h:∀x∈l,∃k:Nat,k<n/\x=(k:Int))(hl:l.length=n){j:Nat}(hj:j<n):(j:Int)∈l:=by
 by_cases q:(j:Int)∈l
 ·exact q
 ·have:=Og (l:=(j:Int)::l) (m:=(List.range n).map fun(k:Nat)=>(k:Int)) (List.nodup_cons.mpr ⟨q,nd⟩) (fun x hx=>by
   rcases List.mem_cons.mp hx with rfl | hx
   ·exact List.mem_map.mpr ⟨j,List.mem_range.mpr hj,rfl⟩
   ·obtain⟨k,hk,rfl⟩:=h x hx
    exact List.mem_map.mpr ⟨k,List.mem_range.mpr hk,rfl⟩)
  rw[List.length_cons,List.length_map,List.length_range] at this;omega
def rL(M:List (List Int)):List PV:=M.map fun r=>.lst (iL r)
theorem Nv{M:List (List Int)}{a:Nat}(h:a<M.length):(rL M)[a]?=some (.lst (iL (ZF M a))):=by
 unfold rL
 rw[List.getElem?_map,Sy h];rfl
theorem Jh{M:List (List Int)}{a b:Nat}{t:Int}:(rL M).set a (.lst ((iL (ZF M a)).set b (.int t)))=rL (WC M a b t):=by
 unfold rL WC;rw[List.map_set]
 show _=(List.map (fun r=>PV.lst (iL r)) M).set a (PV.lst (((ZF M a).set b t).map PV.int))
 rw[List.map_set]
theorem Fw(l:List Int)(k:Nat)(x:Int):(iL l).take k++PV.int x::(iL l).drop k=iL (l.take k++x::l.drop k):=by
 show(l.map PV.int).take k++PV.int x::(l.map PV.int).drop k=(l.take k++x::l.drop k).map PV.int
 rw[List.map_append,List.map_cons,List.map_take,List.map_drop]
theorem Zy{f g:XS}{s s1:ZP}(e1:f s=some (.nx s1)):Zn f g s=g s1:=by
 simp only[SV,e1,Option.bind_some]
theorem Rt(W:List (List Int))(D S:List Int):(XQ W D S).length=D.length:=by simp[XQ]
theorem Ji{W:List (List Int)}{a b:List Int}{i:Nat}(h:i<a.length):ZA (XQ W a b) i=ZA a i+Rp W b i:=Y3 h
theorem Ha{a b:List Int}(hl:a.length=b.length)(h:∀i,i<a.length->ZA a i=ZA b i):a=b:=by
 rw[<-U6 a,<-U6 b,hl]
 apply List.map_congr_left
 intro i hi
 exact h i (by rw[hl];exact List.mem_range.mp hi)
theorem Oh(f g:Nat->Int)(n:Nat):((List.range n).map fun i=>f i+g i).sum=((List.range n).map f).sum+((List.range n).map g).sum:=by
 induction n with
 | zero=>rfl
 | succ n ih=>rw[Xj,Xj,Xj,ih];omega
theorem Jj(f:Nat->Nat->Int)(n m:Nat):((List.range n).map fun i=>((List.range m).map fun j=>f i j).sum).sum=((List.range m).map fun j=>((List.range n).map fun i=>f i j).sum).sum:=by
 induction n with
 | zero=>
  have:((List.range m).map fun j=>((List.range 0).map fun i=>f i j).sum).sum=0:=by
   have:=MP 0 m
   simpa using this
  rw[this];rfl
 | succ n ih=>
  rw[Xj,ih,<-Oh]
  apply WD
  intro j _;rw[Xj]
theorem Jk{W:List (List Int)}(ok:ZW W)(S:List Int):((List.range W.length).map fun h=>Rp W S h).sum=0:=by
 have e1:((List.range W.length).map fun h=>Rp W S h).sum=((List.range W.length).map fun i=>((List.range W.length).map fun j=>ZV W i j*ZA S j).sum).sum-((List.range W.length).map fun i=>((List.range W.length).map fun j=>ZV W i j*ZA S i).sum).sum:=by
  rw[<-NQ]
  apply WD
  intro i _;unfold Rp;rw[<-NQ]
  apply WD
  intro j _;rw[Int.mul_sub]
 have e2:((List.range W.length).map fun i=>((List.range W.length).map fun j=>ZV W i j*ZA S i).sum).sum=((List.range W.length).map fun i=>((List.range W.length).map fun j=>ZV W i j*ZA S j).sum).sum:=by
  rw[Jj]
  apply WD
  intro i hi
  apply WD
  intro j hj;rw[ok.sym j i hj hi]
 rw[e1,e2];omega
theorem Hb{W:List (List Int)}{D S:List Int}(ok:ZW W)(hd:D.length=W.length):(XQ W D S).sum=D.sum:=by
 unfold XQ;rw[Oh,NR,hd,Jk ok,Int.add_zero]
theorem nth_set{l:List Int}{h i:Nat}{v:Int}(hi:i<l.length):ZA (l.set h v) i=if i=h then v else ZA l i:=by
 unfold ZA;rw[List.getD_eq_getElem?_getD,List.getD_eq_getElem?_getD,List.getElem?_set]
 by_cases e:h=i
 ·subst e
  rw[if_pos rfl,if_pos rfl,if_pos hi];rfl
 ·rw[if_neg e,if_neg (Ne.symm e)]
theorem Fx(l:List Int)(k:Nat):XD (iL l) none (some (k:Int))=iL (l.take k):=by
 unfold XD;rw[HT.sIx_none,HT.sIx_nat,List.length_map,List.drop_zero,Nat.sub_zero,<-List.map_take]
 congr 1
 by_cases h:k<=l.length
 ·rw[Nat.min_eq_left h]
 ·rw[Nat.min_eq_right (by omega),List.take_of_length_le (Nat.le_refl _),List.take_of_length_le (by omega)]
theorem Fy(l:List Int)(k:Nat):XD (iL l) (some (k:Int)) none=iL (l.drop k):=by
 unfold XD;rw[HT.sIx_none,HT.sIx_nat,List.length_map,<-List.map_drop,<-List.map_take]
 congr 1
 by_cases h:k<=l.length
 ·rw[Nat.min_eq_left h,List.take_of_length_le (by rw[List.length_drop];omega)]
 ·rw[Nat.min_eq_right (by omega),List.drop_eq_nil_of_le (Nat.le_refl _),List.drop_eq_nil_of_le (by omega)];simp
theorem Hd{l:List Int}{x:Int}(h:x∈l):∃i,i<l.length/\ZA l i=x:=by
 obtain⟨i,hi,e⟩:=List.getElem_of_mem h
 refine⟨i,hi,?_⟩
 unfold ZA
 rw[List.getD_eq_getElem?_getD,List.getElem?_eq_getElem hi,e];rfl
end PW
namespace PW
def sN:Nat->(Nat->Int)->Int
 | 0,_=>0
 | n+1,f=>sN n f+f n
theorem Z0{f g:Nat->Int}:∀{n:Nat},(∀i,i<n->f i=g i)->sN n f=sN n g
 | 0,_=>rfl
 | n+1,h=>by
  show sN n f+f n=sN n g+g n
  rw[Z0 fun i hi=>h i (by omega),h n (by omega)]
theorem W4{f:Nat->Int}{n:Nat}(h:∀i,i<n->f i=0):sN n f=0:=by
 rw[Z0 (g:=fun _=>0) h]
 clear h
 induction n with
 | zero=>rfl
 | succ n ih=>show sN n _+0=0;rw[ih];rfl
theorem XW(f g:Nat->Int):∀n,sN n (fun i=>f i+g i)=sN n f+sN n g
 | 0=>rfl
 | n+1=>by
  show sN n _+(f n+g n)=(sN n f+f n)+(sN n g+g n)
  rw[XW f g n];omega
theorem Pb(c:Int)(f:Nat->Int):∀n,sN n (fun i=>c*f i)=c*sN n f
 | 0=>by show(0:Int)=c*0;simp
 | n+1=>by
  show sN n _+c*f n=c*(sN n f+f n)
  rw[Pb c f n,Int.mul_add]
theorem Mf(f:Nat->Nat->Int)(m:Nat):∀n,sN n (fun i=>sN m (f i))=sN m (fun j=>sN n fun i=>f i j)
 | 0=>by
  show(0:Int)=sN m fun _=>0
  rw[W4 (fun _ _=>rfl)]
 | n+1=>by
  show sN n (fun i=>sN m (f i))+sN m (f n)=sN m (fun j=>(sN n fun i=>f i j)+f n j)
  rw[XW,Mf f m n]
theorem X6{f:Nat->Int}{k:Nat}:∀{n:Nat},k<n->(∀i,i<n->i≠k->f i=0)->sN n f=f k
 | 0,h,_=>by omega
 | n+1,h,z=>by
  show sN n f+f n=f k
  by_cases q:k=n
  ·subst q
   rw[W4 fun i hi=>z i (by omega) (by omega)];omega
  ·rw[X6 (n:=n) (by omega) fun i hi=>z i (by omega),z n (by omega) (by omega)];omega
theorem UR(f:Nat->Int)(n:Nat):((List.range n).map f).sum=sN n f:=by
 induction n with
 | zero=>rfl
 | succ n ih=>rw[List.range_succ,List.map_append,List.sum_append,ih];simp[sN]
abbrev Mt:=Nat->Nat->Int
def DK(i:Nat)(A:Mt):Mt:=fun r c=>A (if r<i then r else r+1) (c+1)
def put(k:Nat)(v:Nat->Int)(A:Mt):Mt:=fun r=>if r=k then v else A r
abbrev Yo:=Nat×Nat
def DL(a b:Nat):Int:=if a=b then 1 else 0
def Fz(n:Nat):List Yo:=(List.range n).flatMap fun a=>(List.range (n-(a+1))).map fun j=>(a,a+1+j)
theorem mem_prs{n a b:Nat}:(a,b)∈Fz n↔a<b/\b<n:=by
 unfold Fz;simp only[List.mem_flatMap,List.mem_range,List.mem_map,Prod.mk.injEq];constructor
 ·rintro⟨x,hx,j,hj,rfl,rfl⟩;omega
 ·rintro⟨h1,h2⟩
  exact⟨a,by omega,b-(a+1),by omega,rfl,by omega⟩
structure Wt(n:Nat)(w:Nat->Nat->Int):Prop where
 nn:∀a b,a<n->b<n->0<=w a b
 sy:∀a b,a<n->b<n->w a b=w b a
 dg:∀a,a<n->w a a=0
def Qj(n:Nat)(w:Nat->Nat->Int):List Yo:=(Fz n).flatMap fun p=>List.replicate (w p.1 p.2).toNat p
theorem He(f:Yo->Int):∀n,((Fz n).map f).sum=sN n fun a=>sN n fun b=>if a<b then f (a,b) else 0:=by
 intro n;unfold Fz
 have flat:∀(l:List Nat)(g:Nat->List Yo),((l.flatMap g).map f).sum=(l.map fun a=>((g a).map f).sum).sum:=by
  intro l g
  induction l with
  | nil=>rfl
  | cons a l ih=>rw[List.flatMap_cons,List.map_append,List.sum_append,ih,List.map_cons,List.sum_cons]
 rw[flat,UR]
 refine Z0 fun a ha=>?_
 rw[List.map_map,UR]
 -- the tail of the row
 have tail:∀k,sN (a+1+k) (fun b=>if a<b then f (a,b) else 0)=sN k fun j=>f (a,a+1+j):=by
  intro k
  induction k with
  | zero=>exact W4 fun i hi=>if_neg (by omega)
  | succ k ih=>
   show sN (a+1+k) _+(if a<a+1+k then f (a,a+1+k) else 0)=sN k _+f (a,a+1+k)
   rw[ih,if_pos (by omega)]
 have:=tail (n-(a+1))
 rw[show a+1+(n-(a+1))=n by omega] at this
 rw[this];rfl
theorem Mg(f:Yo->Int)(p:Yo):∀k:Nat,((List.replicate k p).map f).sum=(k:Int)*f p
 | 0=>by simp
 | k+1=>by rw[List.replicate_succ,List.map_cons,List.sum_cons,Mg f p k,Int.natCast_succ,Int.add_mul];omega
theorem Lw{n:Nat}{w:Nat->Nat->Int}(ok:Wt n w)(f:Yo->Int):((Qj n w).map f).sum=sN n fun a=>sN n fun b=>if a<b then w a b*f (a,b) else 0:=by
 unfold Qj
 have flat:∀(l:List Yo)(g:Yo->List Yo),((l.flatMap g).map f).sum=(l.map fun a=>((g a).map f).sum).sum:=by
  intro l g
  induction l with
  | nil=>rfl
  | cons a l ih=>rw[List.flatMap_cons,List.map_append,List.sum_append,ih,List.map_cons,List.sum_cons]
 rw[flat,He (fun p=>((List.replicate (w p.1 p.2).toNat p).map f).sum)]
 refine Z0 fun a ha=>Z0 fun b hb=>?_
 split
 ·rw[Mg]
  show((w a b).toNat:Int)*_=_
  rw[Int.toNat_of_nonneg (ok.nn a b ha hb)]
 ·rfl
end PW
namespace PK
open PW
theorem Jl{f:Nat->Int}{n p q:Nat}(hp:p<n)(hq:q<n)(ne:p≠q)(h:∀i,i<n->i≠p->i≠q->f i=0):sN n f=f p+f q:=by
 have e:sN n f=sN n (fun i=>(if i=p then f p else 0)+(if i=q then f q else 0)):=Z0 fun i hi=>by
  by_cases a:i=p
  ·subst a;simp[ne]
  ·by_cases b:i=q
   ·subst b;simp[a]
   ·simp[a,b,h i hi a b]
 rw[e,XW,X6 (k:=p) hp (fun i _ hi=>if_neg hi),X6 (k:=q) hq (fun i _ hi=>if_neg hi),if_pos rfl,if_pos rfl]
theorem Jm(f g:Nat->Int)(n:Nat):sN n (fun i=>f i-g i)=sN n f-sN n g:=by
 have:sN n (fun i=>f i-g i)=sN n (fun i=>f i+(-1)*g i):=Z0 fun i _=>by omega
 rw[this,XW,Pb];omega
def Y8(m:Nat->Nat)(G:List Nat)(v:Nat):Bool:=G.any fun g=>m g==v
theorem hasM_iff{m:Nat->Nat}{G:List Nat}{v:Nat}:Y8 m G v=true↔∃g,g∈G/\m g=v:=by
 unfold Y8;simp[List.any_eq_true]
def b1(b:Bool):Int:=if b=true then 1 else 0
def Lx(n:Nat)(m:Nat->Nat)(G:List Nat):Int:=sN n fun v=>b1 (Y8 m G v)
def Z5(m:Nat->Nat)(a b:Nat):Nat->Nat:=fun x=>if m x=m a then m b else m x
theorem ED{m:Nat->Nat}{a b:Nat}{G:List Nat}(ne:m a≠m b):Y8 (Z5 m a b) G (m a)=false:=by
 cases q:Y8 (Z5 m a b) G (m a) with
 | false=>rfl
 | true=>
  obtain⟨g,_,e⟩:=hasM_iff.mp q
  unfold Z5 at e
  split at e
  ·exact absurd e.symm ne
  ·rename_i z;exact absurd e z
theorem EE{m:Nat->Nat}{a b:Nat}{G:List Nat}:Y8 (Z5 m a b) G (m b)=(Y8 m G (m a) || Y8 m G (m b)):=by
 rw[Bool.eq_iff_iff,Bool.or_eq_true,hasM_iff,hasM_iff,hasM_iff];constructor
 ·rintro⟨g,hg,e⟩
  unfold Z5 at e
  split at e
  ·rename_i z;exact .inl ⟨g,hg,z⟩
  ·exact .inr ⟨g,hg,e⟩
 ·rintro(⟨g,hg,e⟩ | ⟨g,hg,e⟩)
  ·exact⟨g,hg,by unfold Z5;rw[if_pos e]⟩
  ·exact⟨g,hg,by unfold Z5;split<;>first | rfl | exact e⟩
theorem EF{m:Nat->Nat}{a b v:Nat}{G:List Nat}(h1:v≠m a)(h2:v≠m b):Y8 (Z5 m a b) G v=Y8 m G v:=by
 rw[Bool.eq_iff_iff,hasM_iff,hasM_iff];constructor
 ·rintro⟨g,hg,e⟩
  unfold Z5 at e
  split at e
  ·exact absurd e.symm h2
  ·exact⟨g,hg,e⟩
 ·rintro⟨g,hg,e⟩
  exact⟨g,hg,by unfold Z5;rw[if_neg (by rw[e];exact h1)];exact e⟩
theorem Oi{n:Nat}{m:Nat->Nat}{a b:Nat}{G:List Nat}(ha:m a<n)(hb:m b<n)(ne:m a≠m b):Lx n (Z5 m a b) G=Lx n m G-b1 (Y8 m G (m a)&&Y8 m G (m b)):=by
 have e:Lx n (Z5 m a b) G-Lx n m G=sN n (fun v=>b1 (Y8 (Z5 m a b) G v)-b1 (Y8 m G v)):=(Jm _ _ n).symm
 rw[Jl ha hb ne (fun i _ h1 h2=>by rw[EF h1 h2];omega),ED ne,EE] at e
 have:b1 false-b1 (Y8 m G (m a))+(b1 (Y8 m G (m a) || Y8 m G (m b))-b1 (Y8 m G (m b))) = - b1 (Y8 m G (m a)&&Y8 m G (m b)):=by
  cases Y8 m G (m a)<;>cases Y8 m G (m b)<;>decide
 omega
theorem Mh(b:Bool):0<=b1 b:=by cases b<;>decide
def Oz(G:List Nat)(e:Yo):Bool:=decide (e.1∈G)&&decide (e.2∈G)
def X7(G:List Nat)(E:List Yo):Int:=(E.map fun e=>b1 (Oz G e)).sum
theorem Qk(G:List Nat)(E:List Yo)(e:Yo):X7 G (E++[e])=X7 G E+b1 (Oz G e):=by unfold X7;simp
structure MkOk(n:Nat)(m:Nat->Nat)(T:List Yo):Prop where
 lt:∀x,x<n->m x<n
 le:∀G:List Nat,G.Nodup->(∀g∈G,g<n)->X7 G T+Lx n m G<=G.length
 eq:X7 (List.range n) T+Lx n m (List.range n)=n
 inn:∀e∈T,e.1<n/\e.2<n
theorem Mi:∀{l m:List Nat},l.Nodup->(∀x∈l,x∈m)->l.length<=m.length
 | [],m,_,_=>Nat.zero_le _
 | x::l,m,nd,sub=>by
  have nd':=List.nodup_cons.mp nd
  have hx:=sub x (by simp)
  have:=Mi (l:=l) (m:=m.erase x) nd'.2 fun y hy=>(List.mem_erase_of_ne (fun z:y=x=>nd'.1 (by rw[<-z];exact hy))).mpr (sub y (by simp[hy]))
  rw[List.length_erase_of_mem hx] at this
  have:0<m.length:=List.length_pos_of_mem hx
  simp only[List.length_cons];omega
theorem Tu(p:Nat->Bool):∀n,sN n (fun v=>b1 (p v))=(((List.range n).filter p).length:Int)
 | 0=>rfl
 | n+1=>by
  show sN n _+b1 (p n)=_
  rw[Tu p n,List.range_succ,List.filter_append,List.length_append]
  cases h:p n<;>simp[List.filter,h,b1]
theorem MkOk.start(n:Nat):MkOk n (fun x=>x) []:=by
 have hid:∀(G:List Nat)(v:Nat),Y8 (fun x=>x) G v=decide (v∈G):=fun G v=>by
  rw[Bool.eq_iff_iff,hasM_iff,decide_eq_true_eq]
  exact⟨fun⟨g,h,e⟩=>e▸h,fun h=>⟨v,h,rfl⟩⟩
 refine⟨fun x h=>h,fun G nd hG=>?_,?_,by simp⟩
 ·unfold Lx
  rw[Z0 (g:=fun v=>b1 (decide (v∈G))) fun i _=>by rw[hid],Tu]
  have:=Mi (l:=(List.range n).filter fun v=>decide (v∈G)) (m:=G) (List.nodup_range.filter _) (fun x hx=>by
   have:=(List.mem_filter.mp hx).2
   simpa using this)
  show(0:Int)+_<=_
  omega
 ·unfold Lx
  rw[Z0 (g:=fun v=>b1 (decide (v∈List.range n))) fun i _=>by rw[hid],Tu]
  rw[List.filter_eq_self.mpr fun a ha=>by simpa using ha]
  show(0:Int)+_=_
  simp
theorem MkOk.step{n:Nat}{m:Nat->Nat}{T:List Yo}{a b:Nat}(h:MkOk n m T)(ha:a<n)(hb:b<n)(ne:m a≠m b):MkOk n (Z5 m a b) (T++[(a,b)]):=by
 have la:=h.lt a ha;have lb:=h.lt b hb
 have has:∀{G:List Nat}{x:Nat},x∈G->Y8 m G (m x)=true:=fun{G x} hx=>hasM_iff.mpr ⟨x,hx,rfl⟩
 refine⟨fun x hx=>?_,fun G nd hG=>?_,?_,fun e he=>?_⟩
 ·unfold Z5;split
  ·exact lb
  ·exact h.lt x hx
 ·have:=h.le G nd hG
  rw[Qk,Oi la lb ne]
  cases q:Oz G (a,b) with
  | true=>
   unfold Oz at q;simp only[Bool.and_eq_true,decide_eq_true_eq] at q;rw[has q.1,has q.2]
   show _+b1 true+(_-b1 true)<=_
   omega
  | false=>
   have:=Mh (Y8 m G (m a)&&Y8 m G (m b))
   show _+(0:Int)+_<=_
   omega
 ·have:=h.eq
  rw[Qk,Oi la lb ne]
  have q:Oz (List.range n) (a,b)=true:=by unfold Oz;simp[ha,hb]
  rw[q,has (List.mem_range.mpr ha),has (List.mem_range.mpr hb)]
  show _+b1 true+(_-b1 true)=_
  omega
 ·rcases List.mem_append.mp he with z | z
  ·exact h.inn e z
  ·rw[List.mem_singleton.mp z];exact⟨ha,hb⟩
theorem MkOk.few{n:Nat}{m:Nat->Nat}{T:List Yo}(h:MkOk n m T){G:List Nat}(nd:G.Nodup)(hG:∀g∈G,g<n)(ne:G≠[]):X7 G T<=(G.length:Int)-1:=by
 have h1:=h.le G nd hG
 obtain⟨g,hg⟩:=List.exists_mem_of_ne_nil G ne
 have h2:(1:Int)<=Lx n m G:=by
  have lg:=h.lt g (hG g hg)
  unfold Lx
  have le:sN n (fun v=>if v=m g then(1:Int) else 0)<=sN n fun v=>b1 (Y8 m G v):=by
   have:0<=sN n (fun v=>b1 (Y8 m G v)-(if v=m g then(1:Int) else 0)):=by
    have nn:∀k,0<=sN k (fun v=>b1 (Y8 m G v)-(if v=m g then(1:Int) else 0)):=by
     intro k
     induction k with
     | zero=>exact Int.le_refl _
     | succ k ih=>
      show 0<=sN k _+(b1 (Y8 m G k)-(if k=m g then(1:Int) else 0))
      by_cases z:k=m g
      ·rw[z,hasM_iff.mpr ⟨g,hg,rfl⟩,if_pos rfl]
       show 0<=sN (m g) _+((1:Int)-1)
       rw[z] at ih;omega
      ·rw[if_neg z]
       have:=Mh (Y8 m G k)
       omega
    exact nn n
   rw[Jm] at this;omega
  rw[X6 lg fun i _ hi=>if_neg hi,if_pos rfl] at le;exact le
 omega
theorem MkOk.all{n:Nat}{m:Nat->Nat}{T:List Yo}(h:MkOk n m T)(hn:0<n)(one:∀x,x<n->m x=m 0):(T.length:Int)=n-1:=by
 have e:=h.eq
 have e1:X7 (List.range n) T=T.length:=by
  have:∀T:List Yo,(∀e∈T,e.1<n/\e.2<n)->X7 (List.range n) T=T.length:=by
   intro T
   induction T with
   | nil=>intro _;rfl
   | cons e T ih=>
    intro hh
    have q:Oz (List.range n) e=true:=by
     have:=hh e (by simp)
     unfold Oz;simp[this.1,this.2]
    have:=ih fun x hx=>hh x (by simp[hx])
    unfold X7 at this ⊢
    rw[List.map_cons,List.sum_cons,this,q,List.length_cons]
    show(1:Int)+_=_
    omega
  exact this T h.inn
 have e2:Lx n m (List.range n)=1:=by
  unfold Lx;rw[X6 (k:=m 0) (h.lt 0 hn) fun i hi ni=>?_]
  ·rw[hasM_iff.mpr ⟨0,List.mem_range.mpr hn,rfl⟩];rfl
  ·cases q:Y8 m (List.range n) i with
   | false=>rfl
   | true=>
    obtain⟨g,hg,eg⟩:=hasM_iff.mp q
    rw[one g (List.mem_range.mp hg)] at eg
    exact absurd eg.symm ni
 omega
theorem Ru{α:Type}:∀{l:List α}{p:Nat}(h:p<l.length),(l[p]::l.eraseIdx p).Perm l
 | a::l,0,h=>List.Perm.refl _
 | a::l,p+1,h=>by
  have:=Ru (l:=l) (p:=p) (by simpa using h)
  simp only[List.getElem_cons_succ,List.eraseIdx_cons_succ]
  exact(List.Perm.swap _ _ _).trans (this.cons a)
def YX(E:List Yo)(i:Nat):Yo:=E.getD i (0,0)
structure TrOk(n:Nat)(E:List Yo)(m:Nat->Nat)(F L:List Nat):Prop where
 mark:MkOk n m (F.map (YX E))
 nd:(F++L).Nodup
 inn:∀i∈F++L,i<E.length
 done:∀i,i<E.length->i∉L->m (YX E i).1=m (YX E i).2
theorem TrOk.start(n:Nat)(E:List Yo):TrOk n E (fun x=>x) [] (List.range E.length):=
 ⟨MkOk.start n,by simpa using List.nodup_range,fun i hi=>by simpa using hi,fun i hi hn=>absurd (List.mem_range.mpr hi) hn⟩
theorem Nw{m:Nat->Nat}{a b x y:Nat}(h:m x=m y):Z5 m a b x=Z5 m a b y:=by unfold Z5;rw[h]
theorem TrOk.step{n:Nat}{E:List Yo}{m:Nat->Nat}{F L:List Nat}{p:Nat}(h:TrOk n E m F L)(hE:∀e∈E,e.1<n/\e.2<n)(hp:p<L.length) :
  (m (YX E L[p]).1≠m (YX E L[p]).2->TrOk n E (Z5 m (YX E L[p]).1 (YX E L[p]).2) (F++[L[p]]) (L.eraseIdx p))/\
  (m (YX E L[p]).1=m (YX E L[p]).2->TrOk n E m F (L.eraseIdx p)):=by
 have pm:(L[p]::L.eraseIdx p).Perm L:=Ru hp
 have li:L[p]<E.length:=h.inn _ (List.mem_append_right _ (List.getElem_mem hp))
 have eE:YX E L[p]∈E:=by
  unfold YX;rw[List.getD_eq_getElem?_getD,List.getElem?_eq_getElem li]
  exact List.getElem_mem li
 have sub:∀i∈L.eraseIdx p,i∈L:=fun i hi=>List.mem_of_mem_eraseIdx hi
 constructor
 ·intro ne
  refine⟨?_,?_,fun i hi=>?_,fun i hi hn=>?_⟩
  ·rw[List.map_append]
   exact h.mark.step (hE _ eE).1 (hE _ eE).2 ne
  ·have:(F++[L[p]]++L.eraseIdx p).Perm (F++L):=by
    rw[List.append_assoc]
    exact List.Perm.append_left F pm
   exact(this.nodup_iff).mpr h.nd
  ·rw[List.append_assoc] at hi
   rcases List.mem_append.mp hi with z | z
   ·exact h.inn i (List.mem_append_left _ z)
   ·rcases List.mem_append.mp z with z | z
    ·rw[List.mem_singleton.mp z];exact li
    ·exact h.inn i (List.mem_append_right _ (sub i z))
  ·by_cases e:i=L[p]
   ·subst e
    unfold Z5;rw[if_pos rfl]
    split
    ·rfl
    ·rfl
   ·refine Nw (h.done i hi fun z=>?_)
    rcases List.mem_cons.mp (pm.mem_iff.mpr z) with y | y
    ·exact e y
    ·exact hn y
 ·intro eq
  refine⟨h.mark,?_,fun i hi=>?_,fun i hi hn=>?_⟩
  ·have:=h.nd
   rw[List.nodup_append] at this ⊢
   exact⟨this.1,this.2.1.sublist (List.eraseIdx_sublist _ _),fun a ha b hb=>this.2.2 a ha b (sub b hb)⟩
  ·rcases List.mem_append.mp hi with z | z
   ·exact h.inn i (List.mem_append_left _ z)
   ·exact h.inn i (List.mem_append_right _ (sub i z))
  ·by_cases e:i=L[p]
   ·subst e;exact eq
   ·refine h.done i hi fun z=>?_
    rcases List.mem_cons.mp (pm.mem_iff.mpr z) with y | y
    ·exact e y
    ·exact hn y
theorem Jn{l m:List Int}(h:l.Perm m):l.sum=m.sum:=by
 induction h with
 | nil=>rfl
 | cons x _ ih=>simp[ih]
 | swap x y l=>simp;omega
 | trans _ _ a b=>exact a.trans b
theorem Hf{l m:List Nat}(h1:l.Nodup)(h2:m.Nodup)(h:∀x,x∈l↔x∈m):l.Perm m:=(List.perm_ext_iff_of_nodup h1 h2).mpr h
def Rv(E:List Yo)(F:List Nat):List Nat:=(List.range E.length).filter fun k=>decide (k∉F)
theorem Ql(p:Nat->Bool)(f:Nat->Int):∀l:List Nat,(l.map f).sum=((l.filter p).map f).sum+((l.filter fun k=>!p k).map f).sum
 | []=>rfl
 | a::l=>by
  have:=Ql p f l
  cases h:p a<;>simp[List.filter,h]<;>omega
theorem Jo{α:Type}(l:List α)(d:α):(List.range l.length).map (fun i=>l.getD i d)=l:=by
 apply List.ext_getElem
 ·simp
 ·intro i h1 h2
  simp at h1
  simp[h1]
theorem Mj{E:List Yo}{F:List Nat}(nd:F.Nodup)(inn:∀i∈F,i<E.length)(f:Yo->Int):(E.map f).sum=((F.map (YX E)).map f).sum+(((Rv E F).map (YX E)).map f).sum:=by
 have e:E.map f=(List.range E.length).map fun i=>f (YX E i):=by
  conv=>lhs;rw[<-Jo E (0,0)]
  rw[List.map_map];rfl
 have pm:((List.range E.length).filter fun k=>decide (k∈F)).Perm F:=Hf (List.nodup_range.filter _) nd fun x=>by
  rw[List.mem_filter,List.mem_range,decide_eq_true_eq]
  exact⟨fun h=>h.2,fun h=>⟨inn x h,h⟩⟩
 rw[e,Ql (fun k=>decide (k∈F)) _ (List.range E.length),List.map_map,List.map_map]
 congr 1
 ·exact Jn (pm.map _)
 ·unfold Rv
  congr 2
  refine List.filter_congr fun k _=>?_
  by_cases q:k∈F<;>simp[q]
def T1(β:Nat->Bool)(k:Nat)(e:Yo):Nat:=if β k=true then e.2 else e.1
def Xu(β:Nat->Bool):Nat->List Yo->List Nat
 | _,[]=>[]
 | k,e::S=>T1 β k e::Xu β (k+1) S
theorem Qm(β:Nat->Bool):∀(S:List Yo)(k:Nat),(Xu β k S).length=S.length
 | [],k=>rfl
 | e::S,k=>by rw[Xu,List.length_cons,List.length_cons,Qm β S]
theorem Oj{β:Nat->Bool}{n:Nat}:∀{S:List Yo}{k:Nat},(∀e∈S,e.1<n/\e.2<n)->∀x∈Xu β k S,x<n
 | [],k,_,x,h=>by simp[Xu] at h
 | e::S,k,hS,x,h=>by
  rw[Xu] at h
  rcases List.mem_cons.mp h with rfl | h
  ·have:=hS e (by simp)
   unfold T1
   split
   ·exact this.2
   ·exact this.1
  ·exact Oj (fun e he=>hS e (by simp[he])) x h
theorem Jp{x:Nat}:∀{G:List Nat},G.Nodup->(G.map fun g=>b1 (x==g)).sum=b1 (decide (x∈G))
 | [],_=>rfl
 | g::G,nd=>by
  have nd':=List.nodup_cons.mp nd;rw[List.map_cons,List.sum_cons,Jp nd'.2]
  by_cases e:x=g
  ·subst e
   have:decide (x∈G)=false:=by simp[nd'.1]
   rw[this];simp[b1]
  ·have h1:(x==g)=false:=by simp[e]
   rw[h1]
   by_cases z:x∈G<;>simp[e,z,b1]
theorem Rw(f g:Nat->Int):∀l:List Nat,(l.map fun i=>f i+g i).sum=(l.map f).sum+(l.map g).sum
 | []=>rfl
 | a::l=>by simp only[List.map_cons,List.sum_cons,Rw f g l];omega
theorem Rx{G:List Nat}(nd:G.Nodup):∀X:List Nat,(G.map fun g=>((X.count g:Nat):Int)).sum=(X.map fun x=>b1 (decide (x∈G))).sum
 | []=>by
  have:∀G:List Nat,(G.map fun g=>(((([]:List Nat)).count g:Nat):Int)).sum=0:=by
   intro G
   induction G with
   | nil=>rfl
   | cons a G ih=>simpa using ih
  rw[this];rfl
 | x::X=>by
  rw[List.map_cons,List.sum_cons,<-Rx nd X,<-Jp nd,<-Rw]
  congr 1
  refine List.map_congr_left fun g _=>?_
  rw[List.count_cons]
  by_cases e:x=g
  ·subst e;simp[b1];omega
  ·have:(x==g)=false:=by simp[e]
   simp[this,b1]
theorem Mk{G:List Nat}(β:Nat->Bool):∀(S:List Yo)(k:Nat),X7 G S<=((Xu β k S).map fun x=>b1 (decide (x∈G))).sum
 | [],k=>Int.le_refl _
 | e::S,k=>by
  have:=Mk (G:=G) β S (k+1)
  rw[Xu,List.map_cons,List.sum_cons]
  unfold X7 at this ⊢
  rw[List.map_cons,List.sum_cons]
  have h:b1 (Oz G e)<=b1 (decide (T1 β k e∈G)):=by
   cases q:Oz G e with
   | false=>exact Mh _
   | true=>
    unfold Oz at q;simp only[Bool.and_eq_true,decide_eq_true_eq] at q
    have:T1 β k e∈G:=by
     unfold T1
     split
     ·exact q.2
     ·exact q.1
    simp[this]
  omega
theorem Jq{n:Nat}{E:List Yo}{m:Nat->Nat}{F:List Nat}(h:TrOk n E m F []){G:List Nat}(nd:G.Nodup)(hG:∀g∈G,g<n)(ne:G≠[])(β:Nat->Bool) :
  X7 G E-(G.length:Int)+1<=(G.map fun g=>(((Xu β 0 ((Rv E F).map (YX E))).count g:Nat):Int)).sum:=by
 have ndF:F.Nodup:=by have:=h.nd;simpa using this
 have inF:∀i∈F,i<E.length:=fun i hi=>h.inn i (by simp[hi])
 rw[Rx nd]
 have h1:=Mk (G:=G) β ((Rv E F).map (YX E)) 0
 have h2:=h.mark.few nd hG ne
 have h3:=Mj ndF inF (fun e=>b1 (Oz G e))
 have h4:X7 G E=X7 G (F.map (YX E))+X7 G ((Rv E F).map (YX E)):=h3
 omega
theorem Ol{n:Nat}{E:List Yo}{m:Nat->Nat}{F:List Nat}(h:TrOk n E m F [])(hn:0<n)(one:∀x,x<n->m x=m 0):((Rv E F).length:Int)=(E.length:Int)-n+1:=by
 have ndF:F.Nodup:=by have:=h.nd;simpa using this
 have inF:∀i∈F,i<E.length:=fun i hi=>h.inn i (by simp[hi])
 have h1:=h.mark.all hn one;rw[List.length_map] at h1
 have h3:=Mj ndF inF (fun _=>(1:Int))
 have ones:∀{α:Type}(l:List α),(l.map fun _=>(1:Int)).sum=l.length:=fun l=>by
  induction l with
  | nil=>rfl
  | cons a l ih=>simp[ih];omega
 rw[ones,ones,ones,List.length_map,List.length_map] at h3;omega
def Z7:Nat->List (List Nat)
 | 0=>[[]]
 | n+1=>Z7 n++(Z7 n).map (·++[n])
theorem US:∀{n:Nat}{G:List Nat},G∈Z7 n->G.Pairwise (· < ·)/\(∀g∈G,g<n)/\G.length<=n/\(G.length=n->G=List.range n)
 | 0,G,h=>by
  rw[Z7,List.mem_singleton] at h;subst h
  simp
 | n+1,G,h=>by
  rw[Z7] at h
  rcases List.mem_append.mp h with h | h
  ·obtain⟨a,b,c,d⟩:=US h
   exact⟨a,fun g hg=>Nat.lt_succ_of_lt (b g hg),by omega,fun e=>by omega⟩
  ·obtain⟨G',h',rfl⟩:=List.mem_map.mp h
   obtain⟨a,b,c,d⟩:=US h'
   refine⟨?_,fun g hg=>?_,by simp;omega,fun e=>?_⟩
   ·rw[List.pairwise_append]
    exact⟨a,by simp,fun x hx y hy=>by rw[List.mem_singleton.mp hy];exact b x hx⟩
   ·rcases List.mem_append.mp hg with z | z
    ·exact Nat.lt_succ_of_lt (b g z)
    ·rw[List.mem_singleton.mp z];exact Nat.lt_succ_self _
   ·rw[List.length_append] at e
    simp only[List.length_singleton] at e;rw[d (by omega),List.range_succ]
theorem Tv:∀n,∃r,Z7 n=[]::r/\∀G∈r,G≠[]
 | 0=>⟨[],rfl,by simp⟩
 | n+1=>by
  obtain⟨r,e,h⟩:=Tv n
  refine⟨r++(Z7 n).map (·++[n]),by rw[Z7,e];rfl,fun G hG=>?_⟩
  rcases List.mem_append.mp hG with z | z
  ·exact h G z
  ·obtain⟨G',_,rfl⟩:=List.mem_map.mp z
   simp
theorem T2(p:Nat->Bool):∀n,(List.range n).filter p∈Z7 n
 | 0=>by simp[Z7]
 | n+1=>by
  rw[List.range_succ,List.filter_append,Z7]
  have:=T2 p n
  cases h:p n
  ·simp only[List.filter,h]
   rw[List.append_nil]
   exact List.mem_append_left _ this
  ·simp only[List.filter,h]
   exact List.mem_append_right _ (List.mem_map_of_mem this)
theorem Ry:∀n,(Z7 n).length=2^n
 | 0=>rfl
 | n+1=>by rw[Z7,List.length_append,List.length_map,Ry n,Nat.pow_succ];omega
theorem Jr{k n:Nat}(h1:1<=k)(h2:k<2^n):∃i,i<n/\k.testBit i=true:=by
 refine Classical.byContradiction fun q=>?_
 have:k=0:=Nat.eq_of_testBit_eq fun i=>by
  rw[Nat.zero_testBit]
  by_cases hi:i<n
  ·cases z:k.testBit i with
   | false=>rfl
   | true=>exact absurd ⟨i,hi,z⟩ q
  ·exact Nat.testBit_lt_two_pow (Nat.lt_of_lt_of_le h2 (Nat.pow_le_pow_right (by decide) (by omega)))
 omega
section
variable (w:Nat->Nat->Int)
def Sb(h:Nat)(G:List Nat):Int:=(G.map (w h)).sum
def tw(G:List Nat):Int:=(G.map fun i=>Sb w i G).sum
theorem Hg{n:Nat}(sy:∀a b,a<n->b<n->w a b=w b a)(dg:∀a,a<n->w a a=0){G:List Nat}(hG:∀g∈G,g<n){h:Nat}(hh:h<n):tw w (G++[h])=tw w G+2*Sb w h G:=by
 unfold tw Sb;rw[List.map_append,List.sum_append];simp only[List.map_cons,List.map_nil,List.sum_cons,List.sum_nil,List.map_append,List.sum_append];rw[Rw (fun i=>(G.map (w i)).sum) (fun i=>w i h+0) G,dg h hh]
 have:(G.map fun i=>w i h+0).sum=(G.map (w h)).sum:=by
  congr 1
  refine List.map_congr_left fun g hg=>?_
  rw[sy g h (hG g hg) hh];omega
 rw[this];omega
def Sl(D:Nat->Int)(G:List Nat):Int:=(G.map D).sum+G.length-1-tw w G/2
theorem Js{n:Nat}(sy:∀a b,a<n->b<n->w a b=w b a)(dg:∀a,a<n->w a a=0)(D:Nat->Int){G:List Nat}(hG:∀g∈G,g<n){h:Nat}(hh:h<n):Sl w D (G++[h])=Sl w D G+D h+1-Sb w h G:=by
 unfold Sl;rw[Hg w sy dg hG hh,List.map_append,List.sum_append,List.length_append];simp only[List.map_cons,List.map_nil,List.sum_cons,List.sum_nil,List.length_singleton];omega
end
theorem Pc{n:Nat}(f:Nat->Int):∀{G:List Nat},G.Nodup->(∀g∈G,g<n)->(G.map f).sum=sN n fun i=>b1 (decide (i∈G))*f i
 | [],_,_=>by
  rw[W4 fun i _=>by simp[b1]];rfl
 | g::G,nd,hG=>by
  have nd':=List.nodup_cons.mp nd
  rw[List.map_cons,List.sum_cons,Pc f nd'.2 fun x hx=>hG x (by simp[hx])]
  have:sN n (fun i=>b1 (decide (i∈g::G))*f i)=sN n (fun i=>(if i=g then f g else 0)+b1 (decide (i∈G))*f i):=Z0 fun i hi=>by
   by_cases e:i=g
   ·subst e
    simp[nd'.1,b1]
   ·simp[e]
  rw[this,XW,X6 (k:=g) (hG g (by simp)) fun i _ hi=>if_neg hi,if_pos rfl]
theorem Hh{n:Nat}{u:Nat->Nat->Int}(sy:∀a b,a<n->b<n->u a b=u b a)(dg:∀a,a<n->u a a=0):sN n (fun a=>sN n (u a))=2*sN n (fun a=>sN n fun b=>if a<b then u a b else 0):=by
 have e:sN n (fun a=>sN n (u a))=sN n (fun a=>sN n (fun b=>if a<b then u a b else 0)+sN n (fun b=>if b<a then u b a else 0)):=Z0 fun a ha=>by
  rw[<-XW]
  refine Z0 fun b hb=>?_
  by_cases h1:a<b
  ·rw[if_pos h1,if_neg (by omega)];omega
  ·by_cases h2:b<a
   ·rw[if_neg h1,if_pos h2,sy a b ha hb];omega
   ·have:a=b:=by omega
    subst this
    rw[if_neg h1,dg a ha];simp
 rw[e,XW,Mf (fun a b=>if b<a then u b a else 0) n n];omega
end PK
namespace PW
open L2 VL
theorem Jt{f g:XS}{s:ZP}{v:PV}(e1:f s=some (.rt v)):Zn f g s=some (.rt v):=by rw[SV,e1];rfl
section
variable {s:ZP} {f g:XE} {a b:Int} {C:Int->Int->Prop} [∀i j,Decidable (C i j)] {op:Int->Int->Int}
theorem vC(h1:f s=some (.int a))(h2:g s=some (.int b))(c:C a b):Ze (JO C op) f g s=some (.int (op a b)):=by
 rw[ZJ,h1,h2];simp only[Option.bind_some,Fe,if_pos c]
theorem vI(h1:f s=some (.int a))(h2:g s=some (.int b)):Ze (gI op) f g s=some (.int (op a b)):=by
 rw[ZJ,h1,h2];rfl
theorem vP(h1:f s=some (.int a)):eP f s=some (.int a):=by
 rw[Y1,h1];rfl
theorem WB{v:PV}(h1:f s=some v):Ya f s=some (.rt v):=by
 rw[Kx,h1];rfl
end
def Ly(M:List (List Int))(a b:Nat)(t:Int):List (List Int):=WC (WC M a b t) b a t
theorem Sm{n:Nat}{M:List (List Int)}{a b:Nat}{t:Int}(ok:MatOk n M)(ha:a<n)(hb:b<n)(i j:Nat):ZV (Ly M a b t) i j=if b=i/\a=j then t else if a=i/\b=j then t else ZV M i j:=by
 obtain⟨l1,r1⟩:=We (t:=t) (b:=b) ok.len ok.row ha
 unfold Ly;rw[Sz l1 r1 hb ha,Sz ok.len ok.row ha hb]
theorem FA{n:Nat}{M:List (List Int)}{a b:Nat}{t:Int}(ok:MatOk n M)(ha:a<n)(hb:b<n)(hab:a≠b)(h1:0<=t)(h9:t<=9):MatOk n (Ly M a b t):=by
 obtain⟨l1,r1⟩:=We (t:=t) (b:=b) ok.len ok.row ha
 obtain⟨l2,r2⟩:=We (t:=t) (b:=a) l1 r1 hb
 have E:=Sm (t:=t) ok ha hb
 refine⟨l2,r2,fun i j hi hj=>?_,fun i j hi hj=>?_,fun i j hi hj=>?_,fun i hi=>?_⟩
 ·have:=ok.lo i j hi hj
  rw[E];split<;>(try split)<;>omega
 ·have:=ok.hi i j hi hj
  rw[E];split<;>(try split)<;>omega
 ·have:=ok.sym i j hi hj
  rw[E,E]
  by_cases p:b=i/\a=j
  ·rw[if_pos p]
   by_cases p2:b=j/\a=i
   ·rw[if_pos p2]
   ·rw[if_neg p2,if_pos ⟨p.2,p.1⟩]
  ·rw[if_neg p]
   by_cases p2:a=i/\b=j
   ·rw[if_pos p2,if_pos ⟨p2.2,p2.1⟩]
   ·rw[if_neg p2,if_neg (fun z=>p2 ⟨z.2,z.1⟩),if_neg (fun z=>p ⟨z.2,z.1⟩)];exact this
 ·rw[E,if_neg (fun z=>hab (by omega)),if_neg (fun z=>hab (by omega))];exact ok.dia i hi
theorem Qn{s:ZP}{n:Nat}(h:s[3]?=some (some (.int (n:Int))))(hn:n<=7):Zz 1 [3] (ZI [Za 3]) (.one 0) ZL (Ze RM (Xt [eC (.int 0)]) (Za 1)) s=some (.lst (rL (List.replicate n (List.replicate n 0)))):=by
 rw[Yc (List.range n) (fun(i:Nat)=>.int (i:Int)) (fun _=>.lst (iL (List.replicate n 0))) (Yd (by simp[h]) (by omega)) (by simp;omega) (fun i _=>⟨_,rfl,rfl,?_⟩)]
 ·unfold rL
  rw[List.map_const',List.length_range,List.map_replicate]
 ·have e:RM (.lst [.int 0]) (.int (n:Int))=some (.lst (iL (List.replicate n 0))):=by
   show(if ZG [PV.int 0]=true/\(-1000000:Int)<=(n:Int)/\(n:Int)<=1000000/\[PV.int 0].length*((n:Int)).toNat<=10000 then some (PV.lst (List.replicate ((n:Int)).toNat [PV.int 0]).flatten) else none)=_
   rw[if_pos ⟨rfl,by omega,by omega,by simp;omega⟩,Int.toNat_natCast,PH]
   simp
  simp[Yr,h,e]
def Grown(M:List (List Int))(l:List Int)(k:Nat):Prop:=∀j,1<=j->j<k->∃j',j'<j/\0<ZV M (ZA l j).toNat (ZA l j').toNat
theorem Grown.mono{M M':List (List Int)}{l:List Int}{k:Nat}(h:Grown M l k)(g:∀i j,0<ZV M i j->0<ZV M' i j):Grown M' l k:=fun j h1 h2=>by
 obtain⟨j',a,b⟩:=h j h1 h2
 exact⟨j',a,g _ _ b⟩
theorem Grown.conn{M:List (List Int)}{l:List Int}{n:Nat}(h:Grown M l n)(hl:M.length=n)(nk:NamesOk n l):Lv M:=by
 intro P hP i j hi hj
 rw[hl] at hi hj
 have h0:0<n:=by omega
 have lt:∀x,x<n->(ZA l x).toNat<M.length:=fun x hx=>by have:=nk.at hx;omega
 have all:∀k,k<n->(P (ZA l k).toNat↔P (ZA l 0).toNat):=by
  intro k
  induction k using Nat.strongRecOn with
  | ind k ih=>
   intro hk
   by_cases q:k=0
   ·subst q;exact Iff.rfl
   ·obtain⟨j',a,b⟩:=h k (by omega) hk
    exact(hP _ _ (lt k hk) (lt j' (by omega)) b).trans (ih j' a (by omega))
 have at':∀i,i<n->∃x,x<n/\(ZA l x).toNat=i:=fun i hi=>by
  have:=Jg (n:=n) nk.nd (fun x hx=>⟨x.toNat,by have:=nk.hi x hx;have:=nk.lo x hx;omega,by have:=nk.lo x hx;omega⟩) nk.len hi
  obtain⟨x,hx,e⟩:=Hd this
  exact⟨x,by rw[<-nk.len];exact hx,by rw[e];rfl⟩
 obtain⟨x,hx,rfl⟩:=at' i hi
 obtain⟨y,hy,rfl⟩:=at' j hj
 exact(all x hx).trans (all y hy).symm
theorem Hi{n:Nat}{M:List (List Int)}{a b:Nat}{t:Int}(ok:MatOk n M)(ha:a<n)(hb:b<n)(ht:0<t):(∀i j,0<ZV M i j->0<ZV (Ly M a b t) i j)/\0<ZV (Ly M a b t) a b:=by
 refine⟨fun i j h=>?_,?_⟩
 ·rw[Sm ok ha hb];split
  ·exact ht
  ·split
   ·exact ht
   ·exact h
 ·rw[Sm ok ha hb];split
  ·exact ht
  ·rw[if_pos ⟨rfl,rfl⟩];exact ht
def sW(ns:List Int)(mo:Nat)(c n:Nat->Int)(x:Nat):Unit:=()
def nL(l:List Nat):List Int:=l.map fun(i:Nat)=>(i:Int)
theorem FC{y:Nat}{l:List Nat}:(y:Int)∈nL l↔y∈l:=by
 unfold nL;rw[List.mem_map]
 exact⟨fun⟨a,h,e⟩=>by rw[show y=a by omega];exact h,fun h=>⟨y,h,rfl⟩⟩
def Rz(w:Nat)(f:Nat->Int):List Int:=(List.range w).map f
theorem Ju{l:List Int}:(Option.bind ((Option.bind (some (PV.lst (iL l))) fun x=>(Uz [] s).map (x::·)).bind Yi) fun l=>if Z4 l=true then some l else none)=some (pP l):=by
 show(if Z4 (pP l)=true then some (pP l) else none)=_
 rw[if_pos (by simp)]
def tL(M:List (List Int)):List PV:=M.map pP
theorem Qo{f:Nat->Int}:∀{n:Nat},(∀i,i<n->0<=f i)->0<=sN n f
 | 0,_=>Int.le_refl 0
 | n+1,h=>by
  have:=Qo (n:=n) fun i hi=>h i (by omega)
  have:=h n (by omega)
  show 0<=sN n f+f n
  omega
def gN(W:List (List Int))(Y:Nat->Int)(h:Nat):Int:=sN W.length (fun g=>ZV W h g*(Y g-Y h))
theorem Hj(W:List (List Int))(S:List Int)(h:Nat):Rp W S h=gN W (ZA S) h:=by
 unfold Rp gN;rw[UR]
theorem FD{W:List (List Int)}{D S:List Int}{h:Nat}(hh:h<D.length):ZA (XQ W D S) h=ZA D h+gN W (ZA S) h:=by rw[Ji hh,Hj]
theorem Jw{n:Nat}{l:List Int}(h:l.length=n):∀k:Nat,k<n->ZE (pP l) (.int (k:Int))=some (.int (ZA l k)):=fun k hk=>Wk (by omega)
theorem RA{n:Nat}{l:List Int}(h:l.length=n):∀k:Nat,k<n->ZE (.lst (iL l)) (.int (k:Int))=some (.int (ZA l k)):=fun k hk=>Wk (by omega)
theorem Nx(l:List Int):l.sum=sN l.length (ZA l):=by rw[<-UR,NR]
theorem Sn{ns:List Int}(h:ns.length<=63)(k:Nat):ZZ [.cst (iL ns),.int (k:Int)]=some (.int (ZA ns k)):=by
 have c:xB (Ze UW (Za 1) (Zc Zw [(Za 0)])) [some (.cst (iL ns)),some (.int (k:Int))]=some (decide (k<ns.length)):=by
  show some (decide ((k:Int)<((iL ns).length:Int)))=_
  congr 1
  rw[List.length_map]
  by_cases q:k<ns.length
  ·rw[decide_eq_true q,decide_eq_true (by omega)]
  ·rw[decide_eq_false q,decide_eq_false (by omega)]
 have v:JP (xB (Ze UW (Za 1) (Zc Zw [(Za 0)]))) (Ze ZE (Za 0) (Za 1)) (eC (.int 0)) [some (.cst (iL ns)),some (.int (k:Int))]=some (.int (ZA ns k)):=by
  rw[QL,c]
  by_cases q:k<ns.length
  ·rw[decide_eq_true q]
   exact Wk q
  ·rw[decide_eq_false q]
   have:ZA ns k=0:=by
    unfold ZA
    rw[List.getD_eq_getElem?_getD,List.getElem?_eq_none (by omega)];rfl
   rw[this];rfl
 show Xi 2 QT _=_
 unfold QT
 show(Ya _ [some (.cst (iL ns)),some (.int (k:Int))]).bind Xm=_
 rw[WB (vP v)];rfl
theorem Z8(c:Int){t m:Nat}(ht:t<=1000)(hm:0<m):∃v:Nat,v<m/\Zj [.int c,.int (t:Int),.int (m:Int)]=some (.int (v:Int)):=by
 have hm':(0:Int)<(m:Int):=by omega
 have fin:∀x:Int,∃v:Nat,v<m/\x%(m:Int)=(v:Int):=fun x=>by
  have h0:=Int.emod_nonneg x (show(m:Int)≠0 by omega)
  have h1:=Int.emod_lt_of_pos x hm'
  exact⟨(x%(m:Int)).toNat,by omega,by omega⟩
 generalize hx1:(c%999983+(t:Int))*((t:Int)+389)%999983=x1
 have b1:0<=x1/\x1<2000000:=by
  have h0:=Int.emod_nonneg ((c%999983+(t:Int))*((t:Int)+389)) (show(999983:Int)≠0 by decide)
  have h1:=Int.emod_lt_of_pos ((c%999983+(t:Int))*((t:Int)+389)) (show(0:Int)<999983 by decide)
  omega
 have b0:0<=c%999983/\c%999983<999983:=⟨Int.emod_nonneg _ (by decide),Int.emod_lt_of_pos _ (by decide)⟩
 generalize hx2:(x1*x1+c/999983+(t:Int))%999979=x2
 obtain⟨v,hv,ev⟩:=fin (x2/3)
 refine⟨v,hv,?_⟩
 have cm1:CMul (c%999983+(t:Int)) ((t:Int)+389):=.inl (by omega)
 have cm2:CMul x1 x1:=.inl (by omega)
 have e1:Zo 3 (eP (Ze Z3 (Ze YR (Ze Zx (Ze Z3 (Za 0) (eC (.int 999983))) (Za 1)) (Ze Zx (Za 1) (eC (.int 389)))) (eC (.int 999983)))) [some (.int c),some (.int (t:Int)),some (.int (m:Int)),none]=some (.nx [some (.int c),some (.int (t:Int)),some (.int (m:Int)),some (.int x1)]):=by
  rw[Zm,vP (a:=x1) (by
   rw[<-hx1]
   exact vC (C:=fun _ j=>0<j) (op:=(· % ·)) (vC (C:=CMul) (op:=(· * ·)) (vI (op:=(· + ·)) (vC (C:=fun _ j=>0<j) (op:=(· % ·)) (a:=c) rfl rfl (by decide)) rfl) (vI (op:=(· + ·)) (a:=(t:Int)) rfl rfl) cm1) rfl (by decide))]
  rfl
 have e2:Zo 3 (eP (Ze Z3 (Ze Zx (Ze Zx (Ze YR (Za 3) (Za 3)) (Ze Y4 (Za 0) (eC (.int 999983)))) (Za 1)) (eC (.int 999979)))) [some (.int c),some (.int (t:Int)),some (.int (m:Int)),some (.int x1)]=some (.nx [some (.int c),some (.int (t:Int)),some (.int (m:Int)),some (.int x2)]):=by
  rw[Zm,vP (a:=x2) (by
   rw[<-hx2]
   exact vC (C:=fun _ j=>0<j) (op:=(· % ·)) (vI (op:=(· + ·)) (vI (op:=(· + ·)) (vC (C:=CMul) (op:=(· * ·)) (a:=x1) (b:=x1) rfl rfl cm2) (vC (C:=Vb) (op:=(· / ·)) (a:=c) rfl rfl ⟨by decide,by decide⟩)) rfl) rfl (by decide))]
  rfl
 show Xi 4 UK _=_
 unfold UK
 show(Zn _ _ [some (.int c),some (.int (t:Int)),some (.int (m:Int)),none]).bind Xm=_
 rw[Zy e1,Zy e2,WB (v:=.int (v:Int)) (vP (by
  rw[<-ev]
  exact vC (C:=fun _ j=>0<j) (op:=(· % ·)) (vC (C:=Vb) (op:=(· / ·)) (a:=x2) rfl rfl ⟨by decide,by decide⟩) rfl hm'))]
 rfl
theorem Vu{α:Type}(l:List α)(f:α->Int):iL (l.map f)=l.map fun g=>.int (f g):=List.map_map
theorem FE(a:List Int)(x:Int):iL (a++[x])=iL a++[.int x]:=List.map_append ..
def Jx(n:Nat)(M:List (List Int)):Int:=sN n (fun i=>sN n (fun j=>ZV M i j))
structure Tied(n:Nat)(M:List (List Int))(t:Nat):Prop where
 mat:MatOk n M
 few:∀i j,i<n->j<n->ZV M i j<=(t:Int)
 sum:Jx n M=2*(t:Int)
def Lz(M:List (List Int))(a b:Nat):List (List Int):=Ly M a b (ZV M a b+1)
theorem Jy{n:Nat}{M:List (List Int)}{a b:Nat}(ok:MatOk n M)(ha:a<n)(hb:b<n)(ne:a≠b)(i j:Nat):ZV (Lz M a b) i j=ZV M i j+((if i=a then(if j=b then 1 else 0) else 0)+(if i=b then(if j=a then 1 else 0) else 0)):=by
 unfold Lz;rw[Sm ok ha hb]
 by_cases q1:b=i/\a=j
 ·obtain⟨rfl,rfl⟩:=q1
  rw[if_pos ⟨rfl,rfl⟩,if_neg (fun z=>ne z.symm),if_pos rfl,if_pos rfl,ok.sym a b ha hb];omega
 ·rw[if_neg q1]
  by_cases q2:a=i/\b=j
  ·obtain⟨rfl,rfl⟩:=q2
   rw[if_pos ⟨rfl,rfl⟩,if_pos rfl,if_pos rfl,if_neg ne];omega
  ·rw[if_neg q2]
   have h1:(if i=a then(if j=b then(1:Int) else 0) else 0)=0:=by
    by_cases z:i=a
    ·rw[if_pos z,if_neg (fun y=>q2 ⟨z.symm,y.symm⟩)]
    ·rw[if_neg z]
   have h2:(if i=b then(if j=a then(1:Int) else 0) else 0)=0:=by
    by_cases z:i=b
    ·rw[if_pos z,if_neg (fun y=>q1 ⟨z.symm,y.symm⟩)]
    ·rw[if_neg z]
   rw[h1,h2];omega
theorem Ml{n a b:Nat}(ha:a<n)(hb:b<n):sN n (fun i=>sN n (fun j=>if i=a then(if j=b then(1:Int) else 0) else 0))=1:=by
 rw[X6 (k:=a) ha fun i _ hi=>W4 fun j _=>if_neg hi]
 rw[X6 (k:=b) hb fun j _ hj=>by rw[if_pos rfl,if_neg hj],if_pos rfl,if_pos rfl]
theorem Tied.up{n t:Nat}{M:List (List Int)}{a b:Nat}(h:Tied n M t)(h8:t<=8)(ha:a<n)(hb:b<n)(ne:a≠b):Tied n (Lz M a b) (t+1):=by
 have f:=h.few a b ha hb;have lo:=h.mat.lo a b ha hb
 refine⟨FA h.mat ha hb ne (by omega) (by omega),fun i j hi hj=>?_,?_⟩
 ·rw[Jy h.mat ha hb ne]
  have g:=h.few i j hi hj
  by_cases q1:i=a
  ·have:i≠b:=fun z=>ne (q1.symm.trans z)
   rw[if_pos q1,if_neg this]
   split<;>omega
  ·rw[if_neg q1]
   by_cases q2:i=b
   ·rw[if_pos q2];split<;>omega
   ·rw[if_neg q2];omega
 ·unfold Jx
  have:sN n (fun i=>sN n (fun j=>ZV (Lz M a b) i j))=sN n (fun i=>sN n (fun j=>ZV M i j)+(sN n (fun j=>if i=a then(if j=b then(1:Int) else 0) else 0)+sN n (fun j=>if i=b then(if j=a then(1:Int) else 0) else 0))):=
   Z0 fun i _=>by
    rw[<-XW,<-XW]
    exact Z0 fun j _=>Jy h.mat ha hb ne i j
  rw[this,XW,XW,Ml ha hb,Ml hb ha]
  have:=h.sum
  unfold Jx at this;omega
theorem Tied.zero(n:Nat):Tied n (List.replicate n (List.replicate n 0)) 0:=by
 have z:∀i j,i<n->j<n->ZV (List.replicate n (List.replicate n (0:Int))) i j=0:=fun i j hi hj=>by
  have a:=(MatOk.zero n).lo i j hi hj
  have:ZF (List.replicate n (List.replicate n (0:Int))) i=List.replicate n 0:=by
   unfold ZF
   rw[List.getD_eq_getElem?_getD,List.getElem?_replicate,if_pos hi];rfl
  unfold ZV;rw[this];unfold ZA
  rw[List.getD_eq_getElem?_getD,List.getElem?_replicate,if_pos hj];rfl
 refine⟨MatOk.zero n,fun i j hi hj=>by rw[z i j hi hj];omega,?_⟩
 unfold Jx
 exact W4 fun i hi=>W4 fun j hj=>z i j hi hj
theorem Tied.grow{n t:Nat}{M:List (List Int)}{a b:Nat}(h:Tied n M t)(ha:a<n)(hb:b<n):(∀i j,0<ZV M i j->0<ZV (Lz M a b) i j)/\0<ZV (Lz M a b) a b:=by
 have lo:=h.mat.lo a b ha hb
 exact Hi h.mat ha hb (by omega)
theorem Om{i:Nat}{fa fb ft:XE}{s:ZP}{n:Nat}{M:List (List Int)}{a b:Nat}(ok:MatOk n M)(ha:a<n)(hb:b<n)(hs:OU s i=some (rL M))(t:Int)(e1:fa s=some (.int (a:Int)))(e2:fb s=some (.int (b:Int)))(e3:ft s=some (.int t)) :
  Yn i fa fb ft s=some (.nx (s.set i (some (.lst (rL (WC M a b t)))))):=by
 have lenM:(rL M).length=n:=by unfold rL;rw[List.length_map];exact ok.len
 rw[S0 (l:=.int t) (a:=(a:Int)) (b:=(b:Int)) (j:=a) (c:=b) (m:=rL M) (n:=iL (ZF M a)) e3 e1 e2 hs (VN (by rw[lenM];exact ha)) (Nv (by rw[ok.len];exact ha)) (Yk _) rfl (VN (by rw[List.length_map,ok.row a ha];exact hb)),Jh]
theorem Qp{i:Nat}{fa fb ft:XE}{s:ZP}{n:Nat}{M:List (List Int)}{a b:Nat}{u:Int}(ok:MatOk n M)(ha:a<n)(hb:b<n)(hs:OU s i=some (rL (WC M a b u)))(t:Int)(e1:fa s=some (.int (b:Int)))(e2:fb s=some (.int (a:Int)))(e3:ft s=some (.int t)) :
  Yn i fa fb ft s=some (.nx (s.set i (some (.lst (rL (WC (WC M a b u) b a t)))))):=by
 have sh:=We (t:=u) (b:=b) ok.len ok.row ha
 have lenM:(rL (WC M a b u)).length=n:=by unfold rL;rw[List.length_map];exact sh.1
 rw[S0 (l:=.int t) (a:=(b:Int)) (b:=(a:Int)) (j:=b) (c:=a) (m:=rL (WC M a b u)) (n:=iL (ZF (WC M a b u) b)) e3 e1 e2 hs (VN (by rw[lenM];exact hb)) (Nv (by rw[sh.1];exact hb)) (Yk _) rfl (VN (by rw[List.length_map,sh.2 b hb];exact ha)),Jh]
theorem Pd{s:ZP}{fm fa fb:XE}{n:Nat}{M:List (List Int)}{a b:Nat}(hl:M.length=n)(hr:∀i,i<n->(ZF M i).length=n)(ha:a<n)(hb:b<n)(e0:fm s=some (.lst (rL M)))(e1:fa s=some (.int (a:Int)))(e2:fb s=some (.int (b:Int))):Ze ZE (Ze ZE fm fa) fb s=some (.int (ZV M a b)):=by
 have i1:U2 (rL M) (a:Int)=some (.lst (iL (ZF M a))):=Sf (Nv (by rw[hl];exact ha))
 have i2:U2 (iL (ZF M a)) (b:Int)=some (.int (ZV M a b)):=Wk (by rw[hr a ha];exact hb)
 have h1:Ze ZE fm fa s=some (.lst (iL (ZF M a))):=by rw[ZJ,e0,e1];exact i1
 rw[ZJ,h1,e2];exact i2
theorem Mm{M:List (List Int)}{n k:Nat}{s:ZP}(hl:M.length<=7)(h:s[k]?=some (some (.lst (rL M)))):eP (Zc Yi [(Zz 1 [] (YN (Za k)) (.one 0) ZL (Zc Yi [(Za 0)]))]) s=some (wP M):=by
 have a:Za k s=some (.lst (rL M)):=by
  show s[k]?.bind id=_
  rw[h];rfl
 have hc:Zz 1 [] (YN (Za k)) (.one 0) ZL (Zc Yi [(Za 0)]) s=some (.lst (tL M)):=by
  refine Yc M (fun r=>.lst (iL r)) pP (by unfold YN;rw[a];rfl) (by omega) (fun r _=>⟨[some (.lst (iL r))],rfl,rfl,rfl⟩)
 rw[Y1,ZC,Zk,hc]
 show(if Z4 (wP M)=true then some (wP M) else none)=_
 rw[if_pos (by rw[MZ];exact Ky _)]
abbrev YC:PV:=.lst (iL [1,2,3,4,5])
theorem Oo(v:Nat)(h:v<5):∃n:Nat,1<=n/\n<=5/\ZE YC (.int (v:Int))=some (.int (n:Int)):=by
 have:v=0\/v=1\/v=2\/v=3\/v=4:=by omega
 rcases this with rfl | rfl | rfl | rfl | rfl
 ·exact⟨1,by omega,by omega,rfl⟩
 ·exact⟨2,by omega,by omega,rfl⟩
 ·exact⟨3,by omega,by omega,rfl⟩
 ·exact⟨4,by omega,by omega,rfl⟩
 ·exact⟨5,by omega,by omega,rfl⟩
theorem Xr(x:Int){m:Nat}(h:0<m):∃v:Nat,v<m/\x%(m:Int)=(v:Int):=by
 have h0:=Int.emod_nonneg x (show(m:Int)≠0 by omega)
 have h1:=Int.emod_lt_of_pos x (show(0:Int)<(m:Int) by omega)
 exact⟨(x%(m:Int)).toNat,by omega,by omega⟩
def FF(n:Nat)(p:Nat×Nat):Prop:=p.1<n/\p.2<n/\p.1≠p.2
def Yp(p:Nat×Nat):PV:=.tup [.int (p.1:Int),.int (p.2:Int)]
abbrev XH(x:Int)(n:Nat)(o:List Int)(ps:List (Nat×Nat))(x6 x7 x8:Option PV):ZP:=[some (.int x),some YC,some (.int 8),some (.int (n:Int)),some (.lst (iL o)),some (.lst (ps.map Yp)),x6,x7,x8,none,none,none]
theorem Oq(x:Int):∃(W:List (List Int)) (t:Nat),X5 [.int x,YC,.int 8]=some (wP W)/\ZW W/\Lv W/\W.length<=5/\Jx W.length W=2*(t:Int)/\t<=8:=by
 obtain⟨v,hv,ev⟩:=Xr x (m:=5) (by omega)
 obtain⟨n,n1,n4,en⟩:=Oo v hv
 have e1:Zo 3 (eP (Ze ZE (Za 1) (Ze Z3 (Za 0) (Zc Zw [(Za 1)])))) [some (.int x),some YC,some (.int 8),none,none,none,none,none,none,none,none,none]=some (.nx [some (.int x),some YC,some (.int 8),some (.int (n:Int)),none,none,none,none,none,none,none,none]):=by
  have a:Ze Z3 (Za 0) (Zc Zw [(Za 1)]) [some (.int x),some YC,some (.int 8),none,none,none,none,none,none,none,none,none]=some (.int (v:Int)):=by
   rw[<-ev]
   exact vC (C:=fun _ j=>0<j) (op:=(· % ·)) (a:=x) (b:=((5:Nat):Int)) rfl rfl (by decide)
  rw[Zm,vP (a:=(n:Int)) (by rw[ZJ,a];exact en)];rfl
 have e2:Zo 0 (eP (Ze Y4 (Za 0) (Zc Zw [(Za 1)]))) [some (.int x),some YC,some (.int 8),some (.int (n:Int)),none,none,none,none,none,none,none,none]=some (.nx [some (.int (x/5)),some YC,some (.int 8),some (.int (n:Int)),none,none,none,none,none,none,none,none]):=by
  rw[Zm,vP (a:=x/5) (vC (C:=Vb) (op:=(· / ·)) (a:=x) (b:=5) rfl rfl ⟨by decide,by decide⟩)];rfl
 -- the order
 let f1:XS:=(Zn (VF 4 (Ze Z3 (Za 0) (Ze Zx (Za 6) (eC (.int 1)))) (Za 6)) (Zo 0 (eP (Ze Y4 (Za 0) (Ze Zx (Za 6) (eC (.int 1)))))))
 obtain⟨s1,g1,y1,o,z6,hs1,nk⟩:=ZY (T:=.one 6) (fb:=f1) (ls:=Vc n) (s:=XH (x/5) n [] [] none none none) (fun i s=>∃y o z6,s=XH y n o [] z6 none none/\NamesOk i o) ⟨x/5,[],none,rfl,NamesOk.nil⟩ (by
  rintro i l s hl ⟨y,o,z6,rfl,nk⟩
  obtain⟨hi,rfl⟩:=Wm hl
  obtain⟨r,hr,er⟩:=Xr y (m:=i+1) (by omega)
  have ci:(i:Int)+1=((i+1:Nat):Int):=by omega
  have a:Ze Z3 (Za 0) (Ze Zx (Za 6) (eC (.int 1))) (XH y n o [] (some (.int (i:Int))) none none)=some (.int (r:Int)):=by
   rw[<-er,<-ci]
   exact vC (C:=fun _ j=>0<j) (op:=(· % ·)) (a:=y) rfl (vI (op:=(· + ·)) (a:=(i:Int)) rfl rfl) (by omega)
  have q1:VF 4 (Ze Z3 (Za 0) (Ze Zx (Za 6) (eC (.int 1)))) (Za 6) (XH y n o [] (some (.int (i:Int))) none none)=some (.nx (XH y n (o.take r++(i:Int)::o.drop r) [] (some (.int (i:Int))) none none)):=by
   rw[OZ (k:=(r:Int)) (l:=.int (i:Int)) (m:=iL o) a rfl rfl (Yk o) rfl (by omega) (by omega) (by rw[List.length_map,nk.len];omega),Int.toNat_natCast,Fw]
   rfl
  have q2:Zo 0 (eP (Ze Y4 (Za 0) (Ze Zx (Za 6) (eC (.int 1))))) (XH y n (o.take r++(i:Int)::o.drop r) [] (some (.int (i:Int))) none none)=some (.nx (XH (y/((i:Int)+1)) n (o.take r++(i:Int)::o.drop r) [] (some (.int (i:Int))) none none)):=by
   rw[Zm,vP (a:=y/((i:Int)+1)) (vC (C:=Vb) (op:=(· / ·)) (a:=y) rfl (vI (op:=(· + ·)) (a:=(i:Int)) rfl rfl) ⟨by omega,by omega⟩)];rfl
  exact⟨XH y n o [] (some (.int (i:Int))) none none,_,rfl,(by show Zn _ _ _=_;rw[Zy q1,q2]),_,_,_,rfl,nk.ins r⟩)
 subst hs1;rw[WI] at nk
 have e5:Yv [4,5,9] (ZI [(Za 3)]) (.one 6) f1 (XH (x/5) n [] [] none none none)=some (.nx (XH y1 n o [] z6 none none)):=by
  show(ZI [(Za 3)] (ZM [4,5,9] (XH (x/5) n [] [] none none none))).bind _=_
  rw[Yd (n:=n) rfl (by omega)];exact g1
 -- each to one ahead
 let f2:XS:=(Zn (YL 5 (eP (YT [(Za 6),(Ze Z3 (Za 0) (Za 6))]))) (Zo 0 (eP (Ze Y4 (Za 0) (Za 6)))))
 let Pre:List (Nat×Nat)->Prop:=fun ps=>∀j p,ps[j]?=some p->p.1=j+1/\p.2<j+1
 obtain⟨s2,g2,y2,ps,w6,hs2,lp,pre⟩:=ZY (T:=.one 6) (fb:=f2) (ls:=XC 1 (n-1)) (s:=XH y1 n o [] z6 none none) (fun i s=>∃y ps z6,s=XH y n o ps z6 none none/\ps.length=i/\Pre ps) ⟨y1,[],z6,rfl,rfl,fun j p h=>by simp at h⟩ (by
  rintro i l s hl ⟨y,ps,z6,rfl,lp,pre⟩
  obtain⟨hi,rfl⟩:=Vm hl
  have ci:(1:Int)+(i:Int)=((i+1:Nat):Int):=by omega
  rw[ci]
  obtain⟨r,hr,er⟩:=Xr y (m:=i+1) (by omega)
  have q1:YL 5 (eP (YT [(Za 6),(Ze Z3 (Za 0) (Za 6))])) (XH y n o ps (some (.int ((i+1:Nat):Int))) none none)=some (.nx (XH y n o (ps++[(i+1,r)]) (some (.int ((i+1:Nat):Int))) none none)):=by
   have a:Ze Z3 (Za 0) (Za 6) (XH y n o ps (some (.int ((i+1:Nat):Int))) none none)=some (.int (r:Int)):=by
    rw[<-er]
    exact vC (C:=fun _ j=>0<j) (op:=(· % ·)) (a:=y) rfl rfl (by omega)
   rw[WY (l:=Yp (i+1,r)) (m:=ps.map Yp) (by
    rw[Y1,show YT [(Za 6),(Ze Z3 (Za 0) (Za 6))] (XH y n o ps (some (.int ((i+1:Nat):Int))) none none)=some (Yp (i+1,r)) by
     show(Uz [(Za 6),(Ze Z3 (Za 0) (Za 6))] (XH y n o ps (some (.int ((i+1:Nat):Int))) none none)).map PV.tup=_
     rw[Zk,Zk,a];rfl]
    rfl) rfl (by simp;omega)]
   show some (Out.nx [_,_,_,_,_,some (.lst (ps.map Yp++[Yp (i+1,r)])),_,_,_,_,_,_])=some (Out.nx [_,_,_,_,_,some (.lst ((ps++[(i+1,r)]).map Yp)),_,_,_,_,_,_])
   rw[List.map_append];rfl
  have q2:Zo 0 (eP (Ze Y4 (Za 0) (Za 6))) (XH y n o (ps++[(i+1,r)]) (some (.int ((i+1:Nat):Int))) none none)=some (.nx (XH (y/((i+1:Nat):Int)) n o (ps++[(i+1,r)]) (some (.int ((i+1:Nat):Int))) none none)):=by
   rw[Zm,vP (a:=y/((i+1:Nat):Int)) (vC (C:=Vb) (op:=(· / ·)) (a:=y) rfl rfl ⟨by omega,by omega⟩)];rfl
  refine⟨XH y n o ps (some (.int ((i+1:Nat):Int))) none none,_,rfl,(by show Zn _ _ _=_;rw[Zy q1,q2]),_,_,_,rfl,by simp[lp],fun j p h=>?_⟩
  by_cases z:j<ps.length
  ·rw[List.getElem?_append_left z] at h
   exact pre j p h
  ·rw[List.getElem?_append_right (by omega)] at h
   have:j=ps.length:=by
    have:=(List.getElem?_eq_some_iff.mp h).1
    simp at this;omega
   subst this
   simp at h
   subst h
   rw[lp];exact⟨rfl,hr⟩)
 subst hs2
 rw[show(XC 1 (n-1)).length=n-1 by simp[XC]] at lp
 have e6:Yv [4,5,9] (YZ [(eC (.int 1)),(Za 3)]) (.one 6) f2 (XH y1 n o [] z6 none none)=some (.nx (XH y2 n o ps w6 none none)):=by
  show(YZ [(eC (.int 1)),(Za 3)] (ZM [4,5,9] (XH y1 n o [] z6 none none))).bind _=_
  rw[WK (i:=1) (j:=(n:Int)) rfl rfl (by omega) (by omega),show((n:Int)-1).toNat=n-1 by omega];exact g2
 -- how many more
 obtain⟨r,hr,er⟩:=Xr y2 (m:=10-n) (by omega)
 have c7:(8:Int)-(n:Int)+2=((10-n:Nat):Int):=by omega
 have am:∀z7,Ze Z3 (Za 0) (Ze Zx (Ze Yt (Za 2) (Za 3)) (eC (.int 2))) (XH y2 n o ps w6 z7 none)=some (.int (r:Int)):=fun z7=>by
  rw[<-er,<-c7]
  exact vC (C:=fun _ j=>0<j) (op:=(· % ·)) (a:=y2) rfl (vI (op:=(· + ·)) (vI (op:=(· - ·)) (a:=8) rfl rfl) rfl) (by omega)
 obtain⟨mo,hmo,em,m1⟩:∃mo:Nat,mo+n<=9/\Zo 7 (eP (Ze YR (Zc TJ [(Ze RG (Za 3) (eC (.int 1)))]) (Ze Z3 (Za 0) (Ze Zx (Ze Yt (Za 2) (Za 3)) (eC (.int 2)))))) (XH y2 n o ps w6 none none)=some (.nx (XH y2 n o ps w6 (some (.int (mo:Int))) none))/\(1<=mo->2<=n):=by
  by_cases q:1<n
  ·have g:Zc TJ [(Ze RG (Za 3) (eC (.int 1)))] (XH y2 n o ps w6 none none)=some (.int 1):=by
    have q':(n:Int)>1:=by omega
    have:Ze RG (Za 3) (eC (.int 1)) (XH y2 n o ps w6 none none)=some (.bl true):=by
     show some (PV.bl (decide ((n:Int)>1)))=_
     rw[decide_eq_true q']
    rw[ZC,Zk,this];rfl
   refine⟨r,by omega,?_,fun _=>by omega⟩
   rw[Zm,vP (a:=1*(r:Int)) (vC (C:=CMul) (op:=(· * ·)) g (am none) (.inl (by omega)))]
   rw[Int.one_mul];rfl
  ·have g:Zc TJ [(Ze RG (Za 3) (eC (.int 1)))] (XH y2 n o ps w6 none none)=some (.int 0):=by
    have q':¬(n:Int)>1:=by omega
    have:Ze RG (Za 3) (eC (.int 1)) (XH y2 n o ps w6 none none)=some (.bl false):=by
     show some (PV.bl (decide ((n:Int)>1)))=_
     rw[decide_eq_false q']
    rw[ZC,Zk,this];rfl
   refine⟨0,by omega,?_,fun h=>by omega⟩
   rw[Zm,vP (a:=0*(r:Int)) (vC (C:=CMul) (op:=(· * ·)) g (am none) (.inl (by omega)))]
   rw[Int.zero_mul];rfl
 have e8:Zo 0 (eP (Ze Y4 (Za 0) (Ze Zx (Ze Yt (Za 2) (Za 3)) (eC (.int 2))))) (XH y2 n o ps w6 (some (.int (mo:Int))) none)=some (.nx (XH (y2/((8:Int)-(n:Int)+2)) n o ps w6 (some (.int (mo:Int))) none)):=by
  rw[Zm,vP (a:=y2/((8:Int)-(n:Int)+2)) (vC (C:=Vb) (op:=(· / ·)) (a:=y2) rfl (vI (op:=(· + ·)) (vI (op:=(· - ·)) (a:=8) rfl rfl) rfl) ⟨by omega,by omega⟩)];rfl
 -- more pairs
 let f3:XS:=(Zn (Zo 8 (eP (Ze Z3 (Za 0) (Za 3)))) (Zn (Zo 0 (eP (Ze Y4 (Za 0) (Za 3)))) (Zn (YL 5 (eP (YT [(Za 8),(Ze Z3 (Ze Zx (Ze Zx (Za 8) (eC (.int 1))) (Ze Z3 (Za 0) (Ze Yt (Za 3) (eC (.int 1))))) (Za 3))]))) (Zo 0 (eP (Ze Y4 (Za 0) (Ze Yt (Za 3) (eC (.int 1)))))))))
 let All:List (Nat×Nat)->Prop:=fun qs=>(∀j,j<n-1->qs[j]?=ps[j]?)/\∀p∈qs,FF n p
 have all0:All ps:=⟨fun j _=>rfl,fun p hp=>by
  obtain⟨j,hj,e⟩:=List.getElem_of_mem hp
  have:=pre j p (by rw[List.getElem?_eq_getElem hj,e])
  exact⟨by omega,by omega,by omega⟩⟩
 obtain⟨s3,g3,y3,qs,v6,v8,hs3,lq,all⟩:=ZY (T:=.one 6) (fb:=f3) (ls:=Vc mo) (s:=XH (y2/((8:Int)-(n:Int)+2)) n o ps w6 (some (.int (mo:Int))) none) (fun i s=>∃y qs z6 z8,s=XH y n o qs z6 (some (.int (mo:Int))) z8/\qs.length=n-1+i/\All qs) ⟨_,ps,w6,none,rfl,by omega,all0⟩ (by
  rintro i l s hl ⟨y,qs,z6,z8,rfl,lq,all⟩
  obtain⟨hi,rfl⟩:=Wm hl
  have n2:=m1 (by omega)
  obtain⟨a,ha,ea⟩:=Xr y (m:=n) (by omega)
  obtain⟨b,hb,eb⟩:=Xr (y/(n:Int)) (m:=n-1) (by omega)
  obtain⟨c,hc,ec⟩:=Xr ((a:Int)+1+(b:Int)) (m:=n) (by omega)
  have cn:(n:Int)-1=((n-1:Nat):Int):=by omega
  have ne:a≠c:=fun z=>by
   subst z
   have h1:((a:Int)+1+(b:Int))=((a+1+b:Nat):Int):=by omega
   rw[h1] at ec
   have ec':(a+1+b)%n=a:=by
    have:=ec
    rw[<-Int.natCast_emod] at this;omega
   by_cases w:a+1+b<n
   ·rw[Nat.mod_eq_of_lt w] at ec';omega
   ·rw[Nat.mod_eq_sub_mod (by omega),Nat.mod_eq_of_lt (by omega)] at ec';omega
  have q1:Zo 8 (eP (Ze Z3 (Za 0) (Za 3))) (XH y n o qs (some (.int (i:Int))) (some (.int (mo:Int))) z8)=some (.nx (XH y n o qs (some (.int (i:Int))) (some (.int (mo:Int))) (some (.int (a:Int))))):=by
   rw[Zm,vP (a:=(a:Int)) (by rw[<-ea];exact vC (C:=fun _ j=>0<j) (op:=(· % ·)) (a:=y) rfl rfl (by omega))];rfl
  have q2:Zo 0 (eP (Ze Y4 (Za 0) (Za 3))) (XH y n o qs (some (.int (i:Int))) (some (.int (mo:Int))) (some (.int (a:Int))))=some (.nx (XH (y/(n:Int)) n o qs (some (.int (i:Int))) (some (.int (mo:Int))) (some (.int (a:Int))))):=by
   rw[Zm,vP (a:=y/(n:Int)) (vC (C:=Vb) (op:=(· / ·)) (a:=y) rfl rfl ⟨by omega,by omega⟩)];rfl
  have q3:YL 5 (eP (YT [(Za 8),(Ze Z3 (Ze Zx (Ze Zx (Za 8) (eC (.int 1))) (Ze Z3 (Za 0) (Ze Yt (Za 3) (eC (.int 1))))) (Za 3))])) (XH (y/(n:Int)) n o qs (some (.int (i:Int))) (some (.int (mo:Int))) (some (.int (a:Int))))=some (.nx (XH (y/(n:Int)) n o (qs++[(a,c)]) (some (.int (i:Int))) (some (.int (mo:Int))) (some (.int (a:Int))))):=by
   have a1:Ze Z3 (Za 0) (Ze Yt (Za 3) (eC (.int 1))) (XH (y/(n:Int)) n o qs (some (.int (i:Int))) (some (.int (mo:Int))) (some (.int (a:Int))))=some (.int (b:Int)):=by
    rw[<-eb,<-cn]
    exact vC (C:=fun _ j=>0<j) (op:=(· % ·)) (a:=y/(n:Int)) rfl (vI (op:=(· - ·)) (a:=(n:Int)) rfl rfl) (by omega)
   have a2:Ze Z3 (Ze Zx (Ze Zx (Za 8) (eC (.int 1))) (Ze Z3 (Za 0) (Ze Yt (Za 3) (eC (.int 1))))) (Za 3) (XH (y/(n:Int)) n o qs (some (.int (i:Int))) (some (.int (mo:Int))) (some (.int (a:Int))))=some (.int (c:Int)):=by
    rw[<-ec]
    exact vC (C:=fun _ j=>0<j) (op:=(· % ·)) (vI (op:=(· + ·)) (vI (op:=(· + ·)) (a:=(a:Int)) rfl rfl) a1) rfl (by omega)
   rw[WY (l:=Yp (a,c)) (m:=qs.map Yp) (by
    rw[Y1,show YT [(Za 8),(Ze Z3 (Ze Zx (Ze Zx (Za 8) (eC (.int 1))) (Ze Z3 (Za 0) (Ze Yt (Za 3) (eC (.int 1))))) (Za 3))] (XH (y/(n:Int)) n o qs (some (.int (i:Int))) (some (.int (mo:Int))) (some (.int (a:Int))))=some (Yp (a,c)) by
     show(Uz [(Za 8),(Ze Z3 (Ze Zx (Ze Zx (Za 8) (eC (.int 1))) (Ze Z3 (Za 0) (Ze Yt (Za 3) (eC (.int 1))))) (Za 3))] (XH (y/(n:Int)) n o qs (some (.int (i:Int))) (some (.int (mo:Int))) (some (.int (a:Int))))).map PV.tup=_
     rw[Zk,Zk,a2];rfl]
    rfl) rfl (by simp;omega)]
   show some (Out.nx [_,_,_,_,_,some (.lst (qs.map Yp++[Yp (a,c)])),_,_,_,_,_,_])=some (Out.nx [_,_,_,_,_,some (.lst ((qs++[(a,c)]).map Yp)),_,_,_,_,_,_])
   rw[List.map_append];rfl
  have q4:Zo 0 (eP (Ze Y4 (Za 0) (Ze Yt (Za 3) (eC (.int 1))))) (XH (y/(n:Int)) n o (qs++[(a,c)]) (some (.int (i:Int))) (some (.int (mo:Int))) (some (.int (a:Int))))=some (.nx (XH (y/(n:Int)/((n:Int)-1)) n o (qs++[(a,c)]) (some (.int (i:Int))) (some (.int (mo:Int))) (some (.int (a:Int))))):=by
   rw[Zm,vP (a:=y/(n:Int)/((n:Int)-1)) (vC (C:=Vb) (op:=(· / ·)) (a:=y/(n:Int)) rfl (vI (op:=(· - ·)) (a:=(n:Int)) rfl rfl) ⟨by omega,by omega⟩)];rfl
  refine⟨XH y n o qs (some (.int (i:Int))) (some (.int (mo:Int))) z8,_,rfl,(by show Zn _ _ _=_;rw[Zy q1,Zy q2,Zy q3,q4]),_,_,_,_,rfl,by simp[lq];omega,fun j hj=>?_,fun p hp=>?_⟩
  ·rw[List.getElem?_append_left (by omega)]
   exact all.1 j hj
  ·rcases List.mem_append.mp hp with hp | hp
   ·exact all.2 p hp
   ·rw[List.mem_singleton.mp hp]
    exact⟨ha,hc,ne⟩)
 subst hs3;rw[WI] at lq
 have e9:Yv [4,5,9] (ZI [(Za 7)]) (.one 6) f3 (XH (y2/((8:Int)-(n:Int)+2)) n o ps w6 (some (.int (mo:Int))) none)=some (.nx (XH y3 n o qs v6 (some (.int (mo:Int))) v8)):=by
  show(ZI [(Za 7)] (ZM [4,5,9] (XH (y2/((8:Int)-(n:Int)+2)) n o ps w6 (some (.int (mo:Int))) none))).bind _=_
  rw[Yd (n:=mo) rfl (by omega)];exact g3
 -- the rows
 let Z:=List.replicate n (List.replicate n (0:Int))
 let stT:List (List Int)->Option PV->Option PV->Option PV->ZP:=fun M z8 z10 z11=>[some (.int y3),some YC,some (.int 8),some (.int (n:Int)),some (.lst (iL o)),some (.lst (qs.map Yp)),v6,some (.int (mo:Int)),z8,some (.lst (rL M)),z10,z11]
 have e10:Zo 9 (Zz 1 [3] (ZI [(Za 3)]) (.one 0) ZL (Ze RM (Xt [(eC (.int 0))]) (Za 1))) (XH y3 n o qs v6 (some (.int (mo:Int))) v8)=some (.nx (stT Z v8 none none)):=by
  rw[Zm,Qn (n:=n) rfl (by omega)];rfl
 let f4:XS:=(Zn (Zo 11 (eP (Ze Zx (Ze ZE (Ze ZE (Za 9) (Ze ZE (Za 4) (Za 8))) (Ze ZE (Za 4) (Za 10))) (eC (.int 1))))) (Zn (Yn 9 (Ze ZE (Za 4) (Za 8)) (Ze ZE (Za 4) (Za 10)) (Za 11)) (Yn 9 (Ze ZE (Za 4) (Za 10)) (Ze ZE (Za 4) (Za 8)) (Za 11))))
 obtain⟨s4,g4,M,t8,t10,t11,hs4,td,gr⟩:=ZY (T:=.many [8,10]) (fb:=f4) (ls:=qs.map Yp) (s:=stT Z v8 none none) (fun i s=>∃M z8 z10 z11,s=stT M z8 z10 z11/\Tied n M i/\Grown M o (min (i+1) n)) ⟨Z,v8,none,none,rfl,Tied.zero n,fun j h1 h2=>by omega⟩ (by
  rintro i l s hl ⟨M,z8,z10,z11,rfl,td,gr⟩
  obtain⟨⟨p1,p2⟩,hp,rfl⟩:∃p,qs[i]?=some p/\l=Yp p:=by
   rw[List.getElem?_map] at hl
   cases q:qs[i]? with
   | none=>rw[q] at hl;cases hl
   | some p=>rw[q] at hl;cases hl;exact⟨p,rfl,rfl⟩
  have hi:i<qs.length:=(List.getElem?_eq_some_iff.mp hp).1
  obtain⟨h1,h2,h3⟩:=all.2 _ (List.mem_of_getElem? hp)
  have h1:p1<n:=h1
  have h2:p2<n:=h2
  have h3:p1≠p2:=h3
  have na:=nk.at (x:=p1) h1
  have nb:=nk.at (x:=p2) h2
  have nn:=nk.ne (x:=p1) (y:=p2) h1 h2 h3
  obtain⟨a,ea⟩:∃a:Nat,ZA o p1=(a:Int):=⟨(ZA o p1).toNat,by omega⟩
  obtain⟨b,eb⟩:∃b:Nat,ZA o p2=(b:Int):=⟨(ZA o p2).toNat,by omega⟩
  have ha:a<n:=by omega
  have hb:b<n:=by omega
  have ab:a≠b:=by omega
  have ia:∀M z11,Ze ZE (Za 4) (Za 8) (stT M (some (.int (p1:Int))) (some (.int (p2:Int))) z11)=some (.int (a:Int)):=fun M z11=>by
   have:=Wk (l:=o) (k:=p1) (by rw[nk.len];exact h1)
   rw[ea] at this;exact this
  have ib:∀M z11,Ze ZE (Za 4) (Za 10) (stT M (some (.int (p1:Int))) (some (.int (p2:Int))) z11)=some (.int (b:Int)):=fun M z11=>by
   have:=Wk (l:=o) (k:=p2) (by rw[nk.len];exact h2)
   rw[eb] at this;exact this
  let t:=ZV M a b+1
  have q1:Zo 11 (eP (Ze Zx (Ze ZE (Ze ZE (Za 9) (Ze ZE (Za 4) (Za 8))) (Ze ZE (Za 4) (Za 10))) (eC (.int 1)))) (stT M (some (.int (p1:Int))) (some (.int (p2:Int))) z11)=some (.nx (stT M (some (.int (p1:Int))) (some (.int (p2:Int))) (some (.int t)))):=by
   rw[Zm,vP (vI (op:=(· + ·)) (Pd td.mat.len td.mat.row ha hb rfl (ia M z11) (ib M z11)) rfl)];rfl
  have q2:Yn 9 (Ze ZE (Za 4) (Za 8)) (Ze ZE (Za 4) (Za 10)) (Za 11) (stT M (some (.int (p1:Int))) (some (.int (p2:Int))) (some (.int t)))=some (.nx (stT (WC M a b t) (some (.int (p1:Int))) (some (.int (p2:Int))) (some (.int t)))):=by
   rw[Om td.mat ha hb rfl t (ia M _) (ib M _) rfl];rfl
  have q3:Yn 9 (Ze ZE (Za 4) (Za 10)) (Ze ZE (Za 4) (Za 8)) (Za 11) (stT (WC M a b t) (some (.int (p1:Int))) (some (.int (p2:Int))) (some (.int t)))=some (.nx (stT (Lz M a b) (some (.int (p1:Int))) (some (.int (p2:Int))) (some (.int t)))):=by
   rw[Qp td.mat ha hb rfl t (ib _ _) (ia _ _) rfl];rfl
  obtain⟨gr1,gr2⟩:=td.grow ha hb
  refine⟨stT M (some (.int (p1:Int))) (some (.int (p2:Int))) z11,_,rfl,(by show Zn _ _ _=_;rw[Zy q1,Zy q2,q3]),_,_,_,_,rfl,td.up (by omega) ha hb ab,fun j h1 h2=>?_⟩
  by_cases w:j<min (i+1) n
  ·exact(gr.mono gr1) j h1 w
  ·have hj:j=i+1:=by omega
   have hin:i<n-1:=by omega
   have pp:=pre i (p1,p2) (by rw[<-all.1 i hin];exact hp)
   refine⟨p2,by omega,?_⟩
   have e1:p1=j:=by have:=pp.1;simp at this;omega
   rw[<-e1,ea,eb]
   exact gr2)
 subst hs4
 rw[List.length_map,lq] at td gr
 have e11:Yv [9] (YN (Za 5)) (.many [8,10]) f4 (stT Z v8 none none)=some (.nx (stT M t8 t10 t11)):=by
  show(YN (Za 5) (ZM [9] (stT Z v8 none none))).bind _=_
  exact g4
 have ok:ZW M:=td.mat.web (by omega) (by omega)
 refine⟨M,n-1+mo,?_,ok,Grown.conn (n:=n) (fun j h1 h2=>gr j h1 (by omega)) td.mat.len nk,by rw[td.mat.len];exact n4,by rw[td.mat.len];exact td.sum,by omega⟩
 show Xi 12 X4 _=_
 unfold X4
 show(Zn _ _ [some (.int x),some YC,some (.int 8),none,none,none,none,none,none,none,none,none]).bind Xm=_
 rw[Zy e1,Zy e2,Zy (s1:=[some (.int (x/5)),some YC,some (.int 8),some (.int (n:Int)),some (.lst (iL [])),none,none,none,none,none,none,none]) rfl,Zy (s1:=XH (x/5) n [] [] none none none) rfl,Zy e5,Zy e6,Zy em,Zy e8,Zy e9,Zy e10,Zy e11,WB (Mm (n:=n) (by rw[td.mat.len];omega) rfl)]
 rfl
theorem Hk(l:List PV){k:Nat}(h:k<=l.length):XD l none (some (k:Int))=l.take k:=by
 unfold XD;rw[HT.sIx_nat,HT.sIx_none,Nat.min_eq_left h,List.drop_zero,Nat.sub_zero]
theorem Pe(l:List PV){k:Nat}(h:k<=l.length):XD l (some (k:Int)) none=l.drop k:=by
 unfold XD
 rw[HT.sIx_nat,HT.sIx_none,Nat.min_eq_left h,List.take_of_length_le (by rw[List.length_drop];omega)]
def Tw{α:Type}(k:Nat)(l:List α):List α:=l.drop k++l.take k
theorem Pf{α:Type}{k:Nat}{l:List α}(h:k<=l.length):(Tw k l).length=l.length:=by unfold Tw;rw[List.length_append,List.length_drop,List.length_take];omega
theorem Pg{α:Type}{k i:Nat}{l:List α}(h:k<=l.length)(hi:i<l.length):(Tw k l)[i]?=l[(i+k)%l.length]?:=by
 unfold Tw
 by_cases q:i<l.length-k
 ·rw[List.getElem?_append_left (by rw[List.length_drop];exact q),List.getElem?_drop,Nat.mod_eq_of_lt (by omega),Nat.add_comm]
 ·rw[List.getElem?_append_right (by rw[List.length_drop];omega),List.length_drop,Nat.mod_eq_sub_mod (by omega),Nat.mod_eq_of_lt (by omega),List.getElem?_take_of_lt (by omega)]
  congr 1
  omega
def Tx(k:Nat)(M:List (List Int)):List (List Int):=(Tw k M).map (Tw k)
theorem WN{n k:Nat}{M:List (List Int)}(ok:MatOk n M)(hk:k<n){i j:Nat}(hi:i<n)(hj:j<n):ZV (Tx k M) i j=ZV M ((i+k)%n) ((j+k)%n):=by
 have hm:(i+k)%n<n:=Nat.mod_lt _ (by omega)
 have r1:ZF (Tx k M) i=Tw k (ZF M ((i+k)%n)):=by
  unfold ZF Tx
  rw[List.getD_eq_getElem?_getD,List.getElem?_map,Pg (by rw[ok.len];omega) (by rw[ok.len];exact hi),ok.len,List.getElem?_eq_getElem (by rw[ok.len];exact hm),List.getD_eq_getElem?_getD,List.getElem?_eq_getElem (by rw[ok.len];exact hm)]
  rfl
 have lr:=ok.row _ hm;unfold ZV;rw[r1];unfold ZA
 rw[List.getD_eq_getElem?_getD,List.getD_eq_getElem?_getD,Pg (by rw[lr];omega) (by rw[lr];exact hj),lr]
theorem Mn{n k:Nat}{M:List (List Int)}(ok:MatOk n M)(hk:k<n):MatOk n (Tx k M):=by
 have hm:∀i,(i+k)%n<n:=fun i=>Nat.mod_lt _ (by omega)
 refine⟨by unfold Tx;rw[List.length_map,Pf (by rw[ok.len];omega),ok.len],fun i hi=>?_,fun i j hi hj=>?_,fun i j hi hj=>?_,fun i j hi hj=>?_,fun i hi=>?_⟩
 ·have:ZF (Tx k M) i=Tw k (ZF M ((i+k)%n)):=by
   unfold ZF Tx
   rw[List.getD_eq_getElem?_getD,List.getElem?_map,Pg (by rw[ok.len];omega) (by rw[ok.len];exact hi),ok.len,List.getElem?_eq_getElem (by rw[ok.len];exact hm i),List.getD_eq_getElem?_getD,List.getElem?_eq_getElem (by rw[ok.len];exact hm i)]
   rfl
  rw[this,Pf (by rw[ok.row _ (hm i)];omega),ok.row _ (hm i)]
 ·rw[WN ok hk hi hj];exact ok.lo _ _ (hm i) (hm j)
 ·rw[WN ok hk hi hj];exact ok.hi _ _ (hm i) (hm j)
 ·rw[WN ok hk hi hj,WN ok hk hj hi];exact ok.sym _ _ (hm i) (hm j)
 ·rw[WN ok hk hi hi];exact ok.dia _ (hm i)
theorem rot_pick{n k:Nat}(hn:n<=5)(hk:k<n)(f:Nat->Int):sN n (fun i=>f ((i+k)%n))=sN n f:=by
 have:n=1\/n=2\/n=3\/n=4\/n=5:=by omega
 have:k=0\/k=1\/k=2\/k=3\/k=4:=by omega
 rcases ‹n=1\/_› with rfl | rfl | rfl | rfl | rfl<;>rcases ‹k=0\/_› with rfl | rfl | rfl | rfl | rfl<;>first
  | (exfalso;omega)
  | (simp[sN];done)
  | (simp[sN];omega)
def EG(n:Nat):List Int:=(List.range n).map fun(i:Nat)=>(i:Int)
theorem Ph{n i:Nat}(h:i<n):ZA (EG n) i=(i:Int):=Y3 h
def ES(n k:Nat):List Int:=(List.range n).map fun(i:Nat)=>(((i+n-k)%n:Nat):Int)
theorem Jz{n k i:Nat}(h:i<n):ZA (ES n k) i=(((i+n-k)%n:Nat):Int):=Y3 h
theorem Mo{n k i:Nat}(hk:k<n)(hi:i<n):((i+n-k)%n+k)%n=i:=by
 rw[Nat.mod_add_mod,show i+n-k+k=i+n by omega,Nat.add_mod_right,Nat.mod_eq_of_lt hi]
theorem JA{n k:Nat}(hn:n<=5)(hk:k<n):NamesOk n (ES n k):=by
 refine⟨by simp[ES],?_,fun x hx=>?_,fun x hx=>?_⟩
 ·have:n=1\/n=2\/n=3\/n=4\/n=5:=by omega
  have:k=0\/k=1\/k=2\/k=3\/k=4:=by omega
  rcases ‹n=1\/_› with rfl | rfl | rfl | rfl | rfl<;>rcases ‹k=0\/_› with rfl | rfl | rfl | rfl | rfl<;>first
   | (exfalso;omega)
   | decide
 ·obtain⟨i,_,rfl⟩:=List.mem_map.mp hx
  omega
 ·obtain⟨i,_,rfl⟩:=List.mem_map.mp hx
  have:(i+n-k)%n<n:=Nat.mod_lt _ (by omega)
  omega
theorem JB{n k:Nat}{M:List (List Int)}(ok:MatOk n M)(hn:n<=5)(hk:k<n)(gr:Grown M (EG n) n):Lv (Tx k M):=by
 refine Grown.conn (n:=n) (l:=ES n k) (fun j h1 h2=>?_) (Mn ok hk).len (JA hn hk)
 obtain⟨j',hj',e⟩:=gr j h1 h2
 refine⟨j',hj',?_⟩
 rw[Jz h2,Jz (by omega),Int.toNat_natCast,Int.toNat_natCast,WN ok hk (Nat.mod_lt _ (by omega)) (Nat.mod_lt _ (by omega)),Mo hk h2,Mo hk (by omega)];rw[Ph h2,Ph (by omega),Int.toNat_natCast,Int.toNat_natCast] at e;exact e
theorem JC{ns:List Int}(hns:ns.length<=63):∃W,VU [.cst (iL ns),YC,.int 8]=some (wP W)/\ZW W/\Lv W/\W.length<=5:=by
 have Dv:ZZ [.cst (iL ns),.int 0]=some (.int (ZA ns 0)):=Sn hns 0
 let s0:ZP:=[some (.cst (iL ns)),some YC,some (.int 8),none,none,none,none,none,none,none,none,none]
 have a0:∀s:ZP,s[0]?=some (some (.cst (iL ns)))->Zc ZZ [(Za 0),(eC (.int 0))] s=some (.int (ZA ns 0)):=fun s h=>by
  have:Za 0 s=some (.cst (iL ns)):=by
   show s[0]?.bind id=_
   rw[h];rfl
  rw[ZC,Zk,this];exact Dv
 have c0:xB (Ze (Xs false) (Ze Z3 (Zc ZZ [(Za 0),(eC (.int 0))]) (eC (.int 2))) (eC (.int 1))) s0=some (decide (ZA ns 0%2=1)):=by
  have m:Ze Z3 (Zc ZZ [(Za 0),(eC (.int 0))]) (eC (.int 2)) s0=some (.int (ZA ns 0%2)):=vC (C:=fun _ j=>0<j) (op:=(· % ·)) (a0 s0 rfl) rfl (by decide)
  rw[Yy,ZJ,m]
  show(Xs false (.int (ZA ns 0%2)) (.int 1)).bind MY=_
  rw[Wl];rfl
 by_cases q:ZA ns 0%2=1
 ·obtain⟨W,t,e,ok,cn,l4,sm,t5⟩:=Oq (ZA ns 1)
  refine⟨W,?_,ok,cn,l4⟩
  have at1:ZZ [.cst (iL ns),.int 1]=some (.int (ZA ns 1)):=Sn hns 1
  show Xi 12 VR _=_
  unfold VR
  show(Zn _ _ s0).bind Xm=_
  rw[Jt (v:=wP W)]
  ·rfl
  ·rw[ZS,c0,decide_eq_true q]
   refine WB ?_
   have a1:Zc ZZ [(Za 0),(eC (.int 1))] s0=some (.int (ZA ns 1)):=at1
   rw[ZC,Zk,a1];exact e
 ·obtain⟨v,hv,ev⟩:=Z8 (ZA ns 0) (t:=1) (m:=5) (by omega) (by omega)
  obtain⟨n,n1,n4,en⟩:=Oo v hv
  have e1:Zo 3 (eP (Ze ZE (Za 1) (Zc Zj [(Zc ZZ [(Za 0),(eC (.int 0))]),(eC (.int 1)),(Zc Zw [(Za 1)])]))) s0=some (.nx [some (.cst (iL ns)),some YC,some (.int 8),some (.int (n:Int)),none,none,none,none,none,none,none,none]):=by
   have a:Zc Zj [(Zc ZZ [(Za 0),(eC (.int 0))]),(eC (.int 1)),(Zc Zw [(Za 1)])] s0=some (.int (v:Int)):=by
    rw[ZC,Zk,a0 s0 rfl];exact ev
   rw[Zm,vP (a:=(n:Int)) (by rw[ZJ,a];exact en)];rfl
  let Z:=List.replicate n (List.replicate n (0:Int))
  let st:List (List Int)->Nat->Option PV->Option PV->Option PV->Option PV->Option PV->ZP:=fun M t x6 x7 x8 x9 x10=>[some (.cst (iL ns)),some YC,some (.int 8),some (.int (n:Int)),some (.lst (rL M)),some (.int (t:Int)),x6,x7,x8,x9,x10,none]
  have e2:Zo 4 (Zz 1 [3] (ZI [(Za 3)]) (.one 0) ZL (Ze RM (Xt [(eC (.int 0))]) (Za 1))) [some (.cst (iL ns)),some YC,some (.int 8),some (.int (n:Int)),none,none,none,none,none,none,none,none]=some (.nx [some (.cst (iL ns)),some YC,some (.int 8),some (.int (n:Int)),some (.lst (rL Z)),none,none,none,none,none,none,none]):=by
   rw[Zm,Qn (n:=n) rfl (by omega)];rfl
  have e3:Zo 5 (eP (eC (.int 0))) [some (.cst (iL ns)),some YC,some (.int 8),some (.int (n:Int)),some (.lst (rL Z)),none,none,none,none,none,none,none]=some (.nx (st Z 0 none none none none none)):=by
   rw[Zm,vP (a:=0) rfl];rfl
  let fT:XS:=(Zn (Yn 4 (Za 8) (Za 9) (Ze Zx (Ze ZE (Ze ZE (Za 4) (Za 8)) (Za 9)) (eC (.int 1))))
   (Zn (Yn 4 (Za 9) (Za 8) (Ze ZE (Ze ZE (Za 4) (Za 8)) (Za 9)))
   (Zo 5 (eP (Ze Zx (Za 5) (eC (.int 1)))))))
  have tie:∀(M:List (List Int))(t:Nat)(x6 x7 x10:Option PV)(a b:Nat),MatOk n M->a<n->b<n->fT (st M t x6 x7 (some (.int (a:Int))) (some (.int (b:Int))) x10)=some (.nx (st (Lz M a b) (t+1) x6 x7 (some (.int (a:Int))) (some (.int (b:Int))) x10)):=fun M t x6 x7 x10 a b ok ha hb=>by
   have q1:Yn 4 (Za 8) (Za 9) (Ze Zx (Ze ZE (Ze ZE (Za 4) (Za 8)) (Za 9)) (eC (.int 1))) (st M t x6 x7 (some (.int (a:Int))) (some (.int (b:Int))) x10)=some (.nx (st (WC M a b (ZV M a b+1)) t x6 x7 (some (.int (a:Int))) (some (.int (b:Int))) x10)):=by
    rw[Om ok ha hb rfl (ZV M a b+1) rfl rfl (vI (op:=(· + ·)) (Pd ok.len ok.row ha hb rfl rfl rfl) rfl)];rfl
   have q2:Yn 4 (Za 9) (Za 8) (Ze ZE (Ze ZE (Za 4) (Za 8)) (Za 9)) (st (WC M a b (ZV M a b+1)) t x6 x7 (some (.int (a:Int))) (some (.int (b:Int))) x10)=some (.nx (st (Lz M a b) t x6 x7 (some (.int (a:Int))) (some (.int (b:Int))) x10)):=by
    have sh:=We (t:=ZV M a b+1) (b:=b) ok.len ok.row ha
    have rd:=Pd (s:=st (WC M a b (ZV M a b+1)) t x6 x7 (some (.int (a:Int))) (some (.int (b:Int))) x10) (fm:=Za 4) (fa:=Za 8) (fb:=Za 9) sh.1 sh.2 ha hb rfl rfl rfl
    rw[Sz ok.len ok.row ha hb,if_pos ⟨rfl,rfl⟩] at rd
    rw[Qp ok ha hb rfl (ZV M a b+1) rfl rfl rd];rfl
   have q3:Zo 5 (eP (Ze Zx (Za 5) (eC (.int 1)))) (st (Lz M a b) t x6 x7 (some (.int (a:Int))) (some (.int (b:Int))) x10)=some (.nx (st (Lz M a b) (t+1) x6 x7 (some (.int (a:Int))) (some (.int (b:Int))) x10)):=by
    have e:(t:Int)+1=((t+1:Nat):Int):=by omega
    rw[Zm,vP (a:=((t+1:Nat):Int)) (by rw[<-e];exact vI (op:=(· + ·)) (a:=(t:Int)) rfl rfl)];rfl
   show Zn _ _ _=_
   rw[Zy q1,Zy q2,q3]
  let fb:XS:=(Zn (Zo 7 (Zc ZZ [(Za 0),(Za 6)]))
   (Zn (Zo 8 (Zc Zj [(Za 7),(eC (.int 13)),(Za 3)]))
   (Zn (Zo 9 (eP (Ze Z3 (Ze Zx (Ze Zx (Za 8) (eC (.int 1))) (Zc Zj [(Za 7),(eC (.int 17)),(Zc TH [(eC (.int 1)),(Ze Yt (Za 3) (eC (.int 1)))])])) (Za 3))))
   (Zn (WG (xB (Ze UW (Za 6) (Za 3))) (Zn (Zo 8 (eP (Za 6)))
   (Zo 9 (Zc Zj [(Za 7),(eC (.int 5)),(Za 6)]))) ZX)
   (Zn (Zo 10 (eP (Ug (Ze RG (Za 3) (eC (.int 1))) (Ug (Ze UW (Za 5) (Za 2)) (Ze RG (Zc Zj [(Za 7),(eC (.int 3)),(eC (.int 3))]) (eC (.int 0)))))))
   (WG (R5 (xB (Ze UW (Za 6) (Za 3))) (xB (Za 10))) fT ZX))))))
  obtain⟨s4,g4,M,t,y6,y7,y8,y9,y10,hs4,td,t5,tl,gr⟩:=ZY (T:=.one 6) (fb:=fb) (ls:=XC 1 12) (s:=st Z 0 none none none none none)
   (fun i s=>∃M t x6 x7 x8 x9 x10,s=st M t x6 x7 x8 x9 x10/\Tied n M t/\t<=8/\(i<=n-1->t=i)/\Grown M (EG n) (min (i+1) n)) ⟨Z,0,none,none,none,none,none,rfl,Tied.zero n,by omega,fun _=>rfl,fun j h1 h2=>by omega⟩ (by
   rintro i l s hl ⟨M,t,x6,x7,x8,x9,x10,rfl,td,t5,tl,gr⟩
   obtain⟨hi,rfl⟩:=Vm hl
   have ci:(1:Int)+(i:Int)=((i+1:Nat):Int):=by omega
   rw[ci]
   let K6:Option PV:=some (.int ((i+1:Nat):Int))
   let c:=ZA ns (i+1)
   let C7:Option PV:=some (.int c)
   obtain⟨a,ha,ea⟩:=Z8 c (t:=13) (m:=n) (by omega) (by omega)
   obtain⟨b,hb,eb⟩:=Z8 c (t:=17) (m:=max 1 (n-1)) (by omega) (by omega)
   obtain⟨d,hd,ed⟩:=Xr ((a:Int)+1+(b:Int)) (m:=n) (by omega)
   obtain⟨r,hr,er⟩:=Z8 c (t:=3) (m:=3) (by omega) (by omega)
   have q1:Zo 7 (Zc ZZ [(Za 0),(Za 6)]) (st M t K6 x7 x8 x9 x10)=some (.nx (st M t K6 C7 x8 x9 x10)):=by
    have:Zc ZZ [(Za 0),(Za 6)] (st M t K6 x7 x8 x9 x10)=some (.int c):=Sn hns (i+1)
    rw[Zm,this];rfl
   have q2:Zo 8 (Zc Zj [(Za 7),(eC (.int 13)),(Za 3)]) (st M t K6 C7 x8 x9 x10)=some (.nx (st M t K6 C7 (some (.int (a:Int))) x9 x10)):=by
    have:Zc Zj [(Za 7),(eC (.int 13)),(Za 3)] (st M t K6 C7 x8 x9 x10)=some (.int (a:Int)):=ea
    rw[Zm,this];rfl
   have q3:Zo 9 (eP (Ze Z3 (Ze Zx (Ze Zx (Za 8) (eC (.int 1))) (Zc Zj [(Za 7),(eC (.int 17)),(Zc TH [(eC (.int 1)),(Ze Yt (Za 3) (eC (.int 1)))])])) (Za 3))) (st M t K6 C7 (some (.int (a:Int))) x9 x10)=some (.nx (st M t K6 C7 (some (.int (a:Int))) (some (.int (d:Int))) x10)):=by
    have m1:Ze Yt (Za 3) (eC (.int 1)) (st M t K6 C7 (some (.int (a:Int))) x9 x10)=some (.int ((n:Int)-1)):=vI (op:=(· - ·)) rfl rfl
    have m2:Zc TH [(eC (.int 1)),(Ze Yt (Za 3) (eC (.int 1)))] (st M t K6 C7 (some (.int (a:Int))) x9 x10)=some (.int ((max 1 (n-1):Nat):Int)):=by
     rw[ZC,Zk,Zk,m1]
     show some (PV.int (if(n:Int)-1>1 then(n:Int)-1 else 1))=_
     congr 2
     split<;>omega
    have m3:Zc Zj [(Za 7),(eC (.int 17)),(Zc TH [(eC (.int 1)),(Ze Yt (Za 3) (eC (.int 1)))])] (st M t K6 C7 (some (.int (a:Int))) x9 x10)=some (.int (b:Int)):=by
     rw[ZC,Zk,Zk,Zk,m2];exact eb
    rw[Zm,vP (a:=(d:Int)) (by
     rw[<-ed]
     exact vC (C:=fun _ j=>0<j) (op:=(· % ·)) (vI (op:=(· + ·)) (vI (op:=(· + ·)) (a:=(a:Int)) rfl rfl) m3) rfl (by omega))]
    rfl
   have c6:∀x8 x9 x10,xB (Ze UW (Za 6) (Za 3)) (st M t K6 C7 x8 x9 x10)=some (decide (i+1<n)):=fun x8 x9 x10=>by
    show some (decide (((i+1:Nat):Int)<(n:Int)))=_
    congr 1
    by_cases w:i+1<n
    ·rw[decide_eq_true w,decide_eq_true (by omega)]
    ·rw[decide_eq_false w,decide_eq_false (by omega)]
   have m10:∀x8 x9 x10,Ug (Ze RG (Za 3) (eC (.int 1))) (Ug (Ze UW (Za 5) (Za 2)) (Ze RG (Zc Zj [(Za 7),(eC (.int 3)),(eC (.int 3))]) (eC (.int 0)))) (st M t K6 C7 x8 x9 x10)=some (.bl (decide (1<n)&&(decide (t<8)&&decide (0<r)))):=fun x8 x9 x10=>by
    have b1:xB (Ze RG (Za 3) (eC (.int 1))) (st M t K6 C7 x8 x9 x10)=some (decide (1<n)):=by
     show some (decide ((n:Int)>1))=_
     congr 1
     by_cases w:1<n
     ·rw[decide_eq_true w,decide_eq_true (by omega)]
     ·rw[decide_eq_false w,decide_eq_false (by omega)]
    have b2:xB (Ze UW (Za 5) (Za 2)) (st M t K6 C7 x8 x9 x10)=some (decide (t<8)):=by
     show some (decide ((t:Int)<8))=_
     congr 1
     by_cases w:t<8
     ·rw[decide_eq_true w,decide_eq_true (by omega)]
     ·rw[decide_eq_false w,decide_eq_false (by omega)]
    have b3:Ze RG (Zc Zj [(Za 7),(eC (.int 3)),(eC (.int 3))]) (eC (.int 0)) (st M t K6 C7 x8 x9 x10)=some (.bl (decide (0<r))):=by
     have:Zc Zj [(Za 7),(eC (.int 3)),(eC (.int 3))] (st M t K6 C7 x8 x9 x10)=some (.int (r:Int)):=er
     rw[ZJ,this]
     show some (PV.bl (decide ((r:Int)>0)))=_
     congr 2
     by_cases w:0<r
     ·rw[decide_eq_true w,decide_eq_true (by omega)]
     ·rw[decide_eq_false w,decide_eq_false (by omega)]
    rw[SU,b1]
    by_cases w1:1<n
    ·rw[decide_eq_true w1]
     simp only[Option.bind_some,if_true,Bool.true_and];rw[SU,b2]
     by_cases w2:t<8
     ·rw[decide_eq_true w2]
      simp only[Option.bind_some,if_true,Bool.true_and];exact b3
     ·rw[decide_eq_false w2];rfl
    ·rw[decide_eq_false w1];rfl
   by_cases w:i+1<n
   ·obtain⟨e,he,ee⟩:=Z8 c (t:=5) (m:=i+1) (by omega) (by omega)
    have q4:WG (xB (Ze UW (Za 6) (Za 3))) (Zn (Zo 8 (eP (Za 6))) (Zo 9 (Zc Zj [(Za 7),(eC (.int 5)),(Za 6)]))) ZX (st M t K6 C7 (some (.int (a:Int))) (some (.int (d:Int))) x10)=some (.nx (st M t K6 C7 K6 (some (.int (e:Int))) x10)):=by
     rw[ZS,c6,decide_eq_true w];simp only[Option.bind_some,if_true]
     have r1:Zo 8 (eP (Za 6)) (st M t K6 C7 (some (.int (a:Int))) (some (.int (d:Int))) x10)=some (.nx (st M t K6 C7 K6 (some (.int (d:Int))) x10)):=by
      rw[Zm,vP (a:=((i+1:Nat):Int)) rfl];rfl
     have r2:Zo 9 (Zc Zj [(Za 7),(eC (.int 5)),(Za 6)]) (st M t K6 C7 K6 (some (.int (d:Int))) x10)=some (.nx (st M t K6 C7 K6 (some (.int (e:Int))) x10)):=by
      have:Zc Zj [(Za 7),(eC (.int 5)),(Za 6)] (st M t K6 C7 K6 (some (.int (d:Int))) x10)=some (.int (e:Int)):=ee
      rw[Zm,this];rfl
     rw[Zy r1,r2]
    let B:=decide (1<n)&&(decide (t<8)&&decide (0<r))
    have q5:Zo 10 (eP (Ug (Ze RG (Za 3) (eC (.int 1))) (Ug (Ze UW (Za 5) (Za 2)) (Ze RG (Zc Zj [(Za 7),(eC (.int 3)),(eC (.int 3))]) (eC (.int 0)))))) (st M t K6 C7 K6 (some (.int (e:Int))) x10)=some (.nx (st M t K6 C7 K6 (some (.int (e:Int))) (some (.bl B)))):=by
     rw[Zm,Y1,m10];rfl
    have q6:WG (R5 (xB (Ze UW (Za 6) (Za 3))) (xB (Za 10))) fT ZX (st M t K6 C7 K6 (some (.int (e:Int))) (some (.bl B)))=some (.nx (st (Lz M (i+1) e) (t+1) K6 C7 K6 (some (.int (e:Int))) (some (.bl B)))):=by
     rw[ZS,Wu,c6,decide_eq_true w];simp only[Option.bind_some,if_true]
     exact tie M t K6 C7 (some (.bl B)) (i+1) e td.mat w (by omega)
    have te:=tl (by omega)
    obtain⟨gr1,gr2⟩:=td.grow (a:=i+1) (b:=e) w (by omega)
    refine⟨st M t K6 x7 x8 x9 x10,_,rfl,(by show Zn _ _ _=_;rw[Zy q1,Zy q2,Zy q3,Zy q4,Zy q5,q6]),_,_,_,_,_,_,_,rfl,td.up (by omega) w (by omega) (by omega),by omega,fun _=>by omega,fun j h1 h2=>?_⟩
    by_cases z:j<min (i+1) n
    ·exact(gr.mono gr1) j h1 z
    ·have hj:j=i+1:=by omega
     refine⟨e,by omega,?_⟩
     rw[hj,Ph w,Ph (by omega),Int.toNat_natCast,Int.toNat_natCast];exact gr2
   ·have q4:WG (xB (Ze UW (Za 6) (Za 3))) (Zn (Zo 8 (eP (Za 6))) (Zo 9 (Zc Zj [(Za 7),(eC (.int 5)),(Za 6)]))) ZX (st M t K6 C7 (some (.int (a:Int))) (some (.int (d:Int))) x10)=some (.nx (st M t K6 C7 (some (.int (a:Int))) (some (.int (d:Int))) x10)):=by
     rw[ZS,c6,decide_eq_false w];rfl
    let B:=decide (1<n)&&(decide (t<8)&&decide (0<r))
    have q5:Zo 10 (eP (Ug (Ze RG (Za 3) (eC (.int 1))) (Ug (Ze UW (Za 5) (Za 2)) (Ze RG (Zc Zj [(Za 7),(eC (.int 3)),(eC (.int 3))]) (eC (.int 0)))))) (st M t K6 C7 (some (.int (a:Int))) (some (.int (d:Int))) x10)=some (.nx (st M t K6 C7 (some (.int (a:Int))) (some (.int (d:Int))) (some (.bl B)))):=by
     rw[Zm,Y1,m10];rfl
    have gr':Grown M (EG n) (min (i+1+1) n):=fun j h1 h2=>gr j h1 (by omega)
    by_cases hB:B=true
    ·have hB':1<n/\t<8/\0<r:=by
      have:=hB
      simp only[B,Bool.and_eq_true,decide_eq_true_eq] at this;exact this
     have ne:a≠d:=fun z=>by
      subst z
      have h1:((a:Int)+1+(b:Int))=((a+1+b:Nat):Int):=by omega
      rw[h1] at ed
      have ed':(a+1+b)%n=a:=by
       have:=ed
       rw[<-Int.natCast_emod] at this;omega
      by_cases w:a+1+b<n
      ·rw[Nat.mod_eq_of_lt w] at ed';omega
      ·rw[Nat.mod_eq_sub_mod (by omega),Nat.mod_eq_of_lt (by omega)] at ed';omega
     have q6:WG (R5 (xB (Ze UW (Za 6) (Za 3))) (xB (Za 10))) fT ZX (st M t K6 C7 (some (.int (a:Int))) (some (.int (d:Int))) (some (.bl B)))=some (.nx (st (Lz M a d) (t+1) K6 C7 (some (.int (a:Int))) (some (.int (d:Int))) (some (.bl B)))):=by
      have c10:xB (Za 10) (st M t K6 C7 (some (.int (a:Int))) (some (.int (d:Int))) (some (.bl B)))=some true:=by
       show some B=_
       rw[hB]
      rw[ZS,Wu,c6,decide_eq_false w];simp only[Option.bind_some,Bool.false_eq_true,if_false];rw[c10];simp only[Option.bind_some,if_true]
      exact tie M t K6 C7 (some (.bl B)) a d td.mat ha hd
     obtain⟨gr1,gr2⟩:=td.grow (a:=a) (b:=d) ha hd
     refine⟨st M t K6 x7 x8 x9 x10,_,rfl,(by show Zn _ _ _=_;rw[Zy q1,Zy q2,Zy q3,Zy q4,Zy q5,q6]),_,_,_,_,_,_,_,rfl,td.up (by omega) ha hd ne,by omega,fun h=>by omega,gr'.mono gr1⟩
    ·have q6:WG (R5 (xB (Ze UW (Za 6) (Za 3))) (xB (Za 10))) fT ZX (st M t K6 C7 (some (.int (a:Int))) (some (.int (d:Int))) (some (.bl B)))=some (.nx (st M t K6 C7 (some (.int (a:Int))) (some (.int (d:Int))) (some (.bl B)))):=by
      have c10:xB (Za 10) (st M t K6 C7 (some (.int (a:Int))) (some (.int (d:Int))) (some (.bl B)))=some false:=by
       show some B=_
       rw[Bool.not_eq_true] at hB;rw[hB]
      rw[ZS,Wu,c6,decide_eq_false w];simp only[Option.bind_some,Bool.false_eq_true,if_false]
      rw[c10];rfl
     exact⟨st M t K6 x7 x8 x9 x10,_,rfl,(by show Zn _ _ _=_;rw[Zy q1,Zy q2,Zy q3,Zy q4,Zy q5,q6]),_,_,_,_,_,_,_,rfl,td,t5,fun h=>by omega,gr'⟩)
  subst hs4
  rw[show(XC 1 12).length=12 by simp[XC]] at gr
  have e4:Yv [4] (YZ [(eC (.int 1)),(eC (.int 13))]) (.one 6) fb (st Z 0 none none none none none)=some (.nx (st M t y6 y7 y8 y9 y10)):=by
   show(YZ [(eC (.int 1)),(eC (.int 13))] (ZM [4] (st Z 0 none none none none none))).bind _=_
   rw[WK (i:=1) (j:=13) rfl rfl (by omega) (by omega)];exact g4
  have gr:Grown M (EG n) n:=fun j h1 h2=>gr j h1 (by omega)
  obtain⟨k,hk,ek⟩:=Z8 (ZA ns 0) (t:=7) (m:=n) (by omega) (by omega)
  let st2:List (List Int)->ZP:=fun M=>[some (.cst (iL ns)),some YC,some (.int 8),some (.int (n:Int)),some (.lst (rL M)),some (.int (t:Int)),y6,y7,y8,y9,y10,some (.int (k:Int))]
  have e5:Zo 11 (Zc Zj [(Zc ZZ [(Za 0),(eC (.int 0))]),(eC (.int 7)),(Za 3)]) (st M t y6 y7 y8 y9 y10)=some (.nx (st2 M)):=by
   have:Zc Zj [(Zc ZZ [(Za 0),(eC (.int 0))]),(eC (.int 7)),(Za 3)] (st M t y6 y7 y8 y9 y10)=some (.int (k:Int)):=by
    rw[ZC,Zk,a0 _ rfl];exact ek
   rw[Zm,this];rfl
  have lenM:(rL M).length=n:=by unfold rL;rw[List.length_map];exact td.mat.len
  have e6:Zo 4 (Zz 1 [11] (YN (Ze OV (W6 Y6 (Za 4) (Wz (Za 11)) Uk) (W6 Y6 (Za 4) Uk (Wz (Za 11))))) (.one 0) ZL (Ze W7 (W6 Y6 (Za 0) (Wz (Za 1)) Uk) (W6 Y6 (Za 0) Uk (Wz (Za 1))))) (st2 M)=some (.nx (st2 (Tx k M))):=by
   have s1:W6 Y6 (Za 4) (Wz (Za 11)) Uk (st2 M)=some (.lst ((rL M).drop k)):=by
    show some (PV.lst (XD (rL M) (some (k:Int)) none))=_
    rw[Pe _ (by omega)]
   have s2:W6 Y6 (Za 4) Uk (Wz (Za 11)) (st2 M)=some (.lst ((rL M).take k)):=by
    show some (PV.lst (XD (rL M) none (some (k:Int))))=_
    rw[Hk _ (by omega)]
   have s3:YN (Ze OV (W6 Y6 (Za 4) (Wz (Za 11)) Uk) (W6 Y6 (Za 4) Uk (Wz (Za 11)))) (st2 M)=some ((Tw k M).map fun r=>.lst (iL r)):=by
    have:Ze OV (W6 Y6 (Za 4) (Wz (Za 11)) Uk) (W6 Y6 (Za 4) Uk (Wz (Za 11))) (st2 M)=some (.lst ((Tw k M).map fun r=>.lst (iL r))):=by
     rw[ZJ,s1,s2]
     show(if((rL M).drop k).length+((rL M).take k).length<=10000 then some (PV.lst ((rL M).drop k++(rL M).take k)) else none)=_
     rw[if_pos (by rw[List.length_drop,List.length_take];omega)]
     unfold Tw rL;rw[List.map_append,List.map_drop,List.map_take]
    unfold YN
    rw[this];rfl
   have hc:Zz 1 [11] (YN (Ze OV (W6 Y6 (Za 4) (Wz (Za 11)) Uk) (W6 Y6 (Za 4) Uk (Wz (Za 11))))) (.one 0) ZL (Ze W7 (W6 Y6 (Za 0) (Wz (Za 1)) Uk) (W6 Y6 (Za 0) Uk (Wz (Za 1)))) (st2 M)=some (.lst (rL (Tx k M))):=by
    rw[Yc (Tw k M) (fun r=>.lst (iL r)) (fun r=>.lst (iL (Tw k r))) s3 (by rw[Pf (by rw[td.mat.len];omega),td.mat.len];omega) (fun r hr=>⟨[some (.lst (iL r)),some (.int (k:Int))],rfl,rfl,?_⟩)]
    ·unfold Tx rL
     rw[List.map_map];rfl
    ·have lr:r.length=n:=by
      have:r∈M:=by
       rcases List.mem_append.mp hr with h | h
       ·exact List.mem_of_mem_drop h
       ·exact List.mem_of_mem_take h
      obtain⟨i,hi,e⟩:=List.getElem_of_mem this
      have hi':i<n:=by rw[<-td.mat.len];exact hi
      have:=td.mat.row i hi'
      unfold ZF at this;rw[List.getD_eq_getElem?_getD,List.getElem?_eq_getElem hi] at this
      rw[<-e];exact this
     have u1:W6 Y6 (Za 0) (Wz (Za 1)) Uk [some (.lst (iL r)),some (.int (k:Int))]=some (.lst (iL (r.drop k))):=by
      show some (PV.lst (XD (iL r) (some (k:Int)) none))=_
      rw[Fy]
     have u2:W6 Y6 (Za 0) Uk (Wz (Za 1)) [some (.lst (iL r)),some (.int (k:Int))]=some (.lst (iL (r.take k))):=by
      show some (PV.lst (XD (iL r) none (some (k:Int))))=_
      rw[Fx]
     rw[ZJ,u1,u2]
     show(if(iL (r.drop k)).length+(iL (r.take k)).length<=10000/\ZG (iL (r.drop k))=true/\ZG (iL (r.take k))=true then some (PV.lst (iL (r.drop k)++iL (r.take k))) else none)=_
     rw[if_pos ⟨by rw[List.length_map,List.length_map,List.length_drop,List.length_take];omega,Yk _,Yk _⟩,<-List.map_append]
     rfl
   rw[Zm,hc];rfl
  have okW:=Mn td.mat hk
  have ok:ZW (Tx k M):=okW.web (by omega) (by omega)
  refine⟨Tx k M,?_,ok,JB td.mat n4 hk gr,by rw[okW.len];exact n4⟩
  show Xi 12 VR _=_
  unfold VR
  show(Zn _ _ s0).bind Xm=_
  rw[Zy (s1:=s0) (by rw[ZS,c0,decide_eq_false q];rfl),Zy e1,Zy e2,Zy e3,Zy e4,Zy e5,Zy e6,WB (Mm (n:=n) (by rw[okW.len];omega) rfl)]
  rfl
end PW
namespace PW
open L2 VL VX PK
def eW(W:List (List Int)):List Yo:=Qj W.length (ZV W)
def LF(W:List (List Int))(a b:Nat):List Yo:=List.replicate (ZV W a b).toNat (a,b)
def eA(W:List (List Int))(a:Nat):List Yo:=(List.range (W.length-(a+1))).flatMap fun j=>LF W a (a+1+j)
theorem Mp(W:List (List Int)):eW W=(List.range W.length).flatMap (eA W):=by
 unfold eW Qj Fz;rw[List.flatMap_assoc]
 congr 1
 funext a
 rw[List.flatMap_map];rfl
theorem JD(W:List (List Int)):(eW W).length=(Rq W).length:=by
 rw[Mp];unfold Rq;rw[List.length_flatMap,List.length_flatMap]
 congr 1
 refine List.map_congr_left fun a _=>?_
 unfold eA Ub;rw[List.length_flatMap,List.length_flatMap]
 congr 1
 refine List.map_congr_left fun j _=>?_
 unfold LF XU
 simp
theorem Dp{W:List (List Int)}(ok:ZW W):Wt W.length (ZV W):=⟨fun a b ha hb=>ok.lo a b ha hb,fun a b ha hb=>ok.sym a b ha hb,fun a ha=>ok.dia a ha⟩
theorem JE{W:List (List Int)}:∀e∈eW W,e.1<e.2/\e.2<W.length/\0<ZV W e.1 e.2:=fun e he=>by
 unfold eW Qj at he
 obtain⟨p,hp,hq⟩:=List.mem_flatMap.mp he
 have hq':=List.mem_replicate.mp hq
 obtain⟨h1,rfl⟩:=hq'
 have:=mem_prs.mp (show(e.1,e.2)∈Fz W.length from hp)
 exact⟨by omega,by omega,by omega⟩
theorem FG{W:List (List Int)}{a b:Nat}(hab:a<b)(hb:b<W.length)(h:0<ZV W a b):(a,b)∈eW W:=by
 unfold eW Qj
 refine List.mem_flatMap.mpr ⟨(a,b),mem_prs.mpr ⟨by omega,by omega⟩,List.mem_replicate.mpr ⟨?_,rfl⟩⟩
 show(ZV W a b).toNat≠0
 omega
theorem JF{W:List (List Int)}(ok:ZW W)(cn:Lv W){m:Nat->Nat}{F:List Nat}(h:TrOk W.length (eW W) m F []):∀x,x<W.length->m x=m 0:=fun x hx=>by
 have lt:∀a b,a<b->b<W.length->0<ZV W a b->m a=m b:=fun a b hab hb h0=>by
  obtain⟨i,hi,e⟩:=List.getElem_of_mem (FG hab hb h0)
  have:=h.done i hi (by simp)
  have ee:YX (eW W) i=(a,b):=by
   unfold YX
   rw[List.getD_eq_getElem?_getD,List.getElem?_eq_getElem hi,e];rfl
  rw[ee] at this;exact this
 refine(cn (fun x=>m x=m 0) (fun a b ha hb h0=>?_) x 0 hx ok.pos).mpr rfl
 have e:m a=m b:=by
  by_cases q:a<b
  ·exact lt a b q hb h0
  ·by_cases q2:b<a
   ·exact(lt b a q2 ha (by rw[ok.sym b a hb ha];exact h0)).symm
   ·rw[show a=b by omega]
 rw[e]
theorem Mq{W:List (List Int)}(ok:ZW W){G:List Nat}(nd:G.Nodup)(hG:∀g∈G,g<W.length):tw (ZV W) G=2*X7 G (eW W):=by
 let u:Nat->Nat->Int:=fun i j=>b1 (decide (i∈G))*(b1 (decide (j∈G))*ZV W i j)
 have h1:tw (ZV W) G=sN W.length (fun i=>sN W.length (u i)):=by
  unfold tw;rw[Pc _ nd hG]
  refine Z0 fun i hi=>?_
  unfold Sb;rw[Pc _ nd hG,<-Pb]
 have h2:X7 G (eW W)=sN W.length fun a=>sN W.length fun b=>if a<b then u a b else 0:=by
  unfold X7 eW;rw[Lw (Dp ok)]
  refine Z0 fun a _=>Z0 fun b _=>?_
  split
  ·show ZV W a b*b1 (decide (a∈G)&&decide (b∈G))=b1 (decide (a∈G))*(b1 (decide (b∈G))*ZV W a b)
   by_cases x:a∈G<;>by_cases y:b∈G<;>simp[x,y,b1]
  ·rfl
 rw[h1,h2]
 refine Hh (fun a b ha hb=>?_) fun a ha=>?_
 ·show b1 (decide (a∈G))*(b1 (decide (b∈G))*ZV W a b)=b1 (decide (b∈G))*(b1 (decide (a∈G))*ZV W b a)
  rw[ok.sym a b ha hb,<-Int.mul_assoc,<-Int.mul_assoc,Int.mul_comm (b1 _) (b1 _)]
 ·show b1 (decide (a∈G))*(b1 (decide (a∈G))*ZV W a a)=0
  rw[ok.dia a ha];simp
theorem Hl{W:List (List Int)}:X7 (List.range W.length) (eW W)=((eW W).length:Int):=by
 have:∀T:List Yo,(∀e∈T,e.1<W.length/\e.2<W.length)->X7 (List.range W.length) T=(T.length:Int):=by
  intro T
  induction T with
  | nil=>intro _;rfl
  | cons e T ih=>
   intro hh
   have q:Oz (List.range W.length) e=true:=by
    have:=hh e (by simp)
    unfold Oz;simp[this.1,this.2]
   have:=ih fun x hx=>hh x (by simp[hx])
   unfold X7 at this ⊢
   rw[List.map_cons,List.sum_cons,this,q,List.length_cons]
   show(1:Int)+_=_
   omega
 exact this _ fun e he=>by
  have:=JE e he
  exact⟨by omega,by omega⟩
theorem Hm{W:List (List Int)}(ok:ZW W){a b:Nat}(ha:a<W.length)(hb:b<W.length):(LF W a b).length<=9:=by
 have:=ok.hi a b ha hb
 unfold LF;simp;omega
theorem FH{W:List (List Int)}(ok:ZW W){a b:Nat}(ha:a<W.length)(hb:b<W.length)(t:Option PV):Zz 1 [2,3] (ZI [(Ze ZE (Ze ZE (Za 0) (Za 2)) (Za 3))]) (.one 0) ZL (eP (YT [(Za 1),(Za 2)])) [some (wP W),t,some (.int (a:Int)),some (.int (b:Int))]=some (.lst ((LF W a b).map Yp)):=by
 have hr:=ok.sq a ha;have b1:=ok.lo a b ha hb;have b2:=ok.hi a b ha hb
 have a1:Ze ZE (Za 0) (Za 2) [some (wP W),t,some (.int (a:Int)),some (.int (b:Int))]=some (pP (ZF W a)):=Sj ha
 have a2:Ze ZE (Ze ZE (Za 0) (Za 2)) (Za 3) [some (wP W),t,some (.int (a:Int)),some (.int (b:Int))]=some (.int (((ZV W a b).toNat:Nat):Int)):=by
  rw[ZJ,a1]
  have:=Wk (l:=ZF W a) (k:=b) (by omega)
  rw[show(((ZV W a b).toNat:Nat):Int)=ZA (ZF W a) b by show _=ZV W a b;omega]
  exact this
 rw[Yc (List.range (ZV W a b).toNat) (fun(i:Nat)=>.int (i:Int)) (fun _=>Yp (a,b)) (Yd a2 (by omega)) (by simp;omega) (fun i hi=>⟨_,rfl,rfl,rfl⟩)]
 unfold LF;rw[List.map_replicate]
 congr 2
 exact List.ext_getElem (by simp) (by intros;simp)
theorem Hn{W:List (List Int)}(ok:ZW W){a:Nat}(ha:a<W.length)(acc:List Yo)(hacc:acc.length<=1000)(b0:Option PV) :
  ∃b',Tb (.one 3) (Xa 1 (Zz 1 [2,3] (ZI [(Ze ZE (Ze ZE (Za 0) (Za 2)) (Za 3))]) (.one 0) ZL (eP (YT [(Za 1),(Za 2)])))) (XC ((a:Int)+1) (W.length-(a+1))) [some (wP W),some (.lst (acc.map Yp)),some (.int (a:Int)),b0]
   = some (.nx [some (wP W),some (.lst ((acc++eA W a).map Yp)),some (.int (a:Int)),b'])/\(eA W a).length<=63:=by
 have hf:=ok.few
 obtain⟨s',h1,b',h2,h3⟩:=ZY (T:=.one 3) (fb:=Xa 1 (Zz 1 [2,3] (ZI [(Ze ZE (Ze ZE (Za 0) (Za 2)) (Za 3))]) (.one 0) ZL (eP (YT [(Za 1),(Za 2)])))) (ls:=XC ((a:Int)+1) (W.length-(a+1))) (s:=[some (wP W),some (.lst (acc.map Yp)),some (.int (a:Int)),b0])
  (fun j st=>∃b',st=[some (wP W),some (.lst ((acc++(List.range j).flatMap fun j=>LF W a (a+1+j)).map Yp)),some (.int (a:Int)),b']/\((List.range j).flatMap fun j=>LF W a (a+1+j)).length<=9*j)
  ⟨b0,by simp,by simp⟩ (fun j l st hl hJ=>by
   obtain⟨hj,rfl⟩:=Vm hl
   obtain⟨b',rfl,hlen⟩:=hJ
   have hb:a+1+j<W.length:=by omega
   have e1:(a:Int)+1+(j:Int)=((a+1+j:Nat):Int):=by omega
   rw[e1]
   have hc:=FH ok ha hb (some (.lst ((acc++(List.range j).flatMap fun j=>LF W a (a+1+j)).map Yp)))
   have hl2:=Hm ok ha hb
   have hg:(acc.length+((List.range j).flatMap fun j=>LF W a (a+1+j)).length)+(LF W a (a+1+j)).length<=10000:=by omega
   refine⟨_,_,rfl,?_,some (.int ((a+1+j:Nat):Int)),rfl,?_⟩
   ·refine(SY hc rfl (by rw[List.length_map,List.length_map,List.length_append];exact hg)).trans ?_
    simp[Xh]
   ·rw[Xh,List.length_append];omega)
 rw[PZ] at h2 h3
 refine⟨b',?_,?_⟩
 ·rw[h1,h2];rfl
 ·have:eA W a=(List.range (W.length-(a+1))).flatMap fun j=>LF W a (a+1+j):=rfl
  rw[this];omega
theorem V3{W:List (List Int)}(ok:ZW W):Y7 [wP W]=some (.lst ((eW W).map Yp))/\(eW W).length<=441:=by
 have hf:=ok.few
 refine⟨?_,by rw[JD];exact(Rr ok).2⟩
 have lenW:∀x y z:Option PV,Zc Zw [(Za 0)] [some (wP W),x,y,z]=some (.int (W.length:Int)):=fun x y z=>by
  show some (PV.int ((W.map pP).length:Int))=_
  rw[List.length_map]
 obtain⟨s',h1,y,z,h2,h3⟩:=ZY (T:=.one 2) (fb:=Yv [1] (YZ [(Ze Zx (Za 2) (eC (.int 1))),(Zc Zw [(Za 0)])]) (.one 3) (Xa 1 (Zz 1 [2,3] (ZI [(Ze ZE (Ze ZE (Za 0) (Za 2)) (Za 3))]) (.one 0) ZL (eP (YT [(Za 1),(Za 2)]))))) (ls:=Vc W.length) (s:=[some (wP W),some (.lst []),none,none])
  (fun i st=>∃y z,st=[some (wP W),some (.lst (((List.range i).flatMap (eA W)).map Yp)),y,z]/\((List.range i).flatMap (eA W)).length<=63*i)
  ⟨none,none,by simp,by simp⟩ (fun i l st hl hJ=>by
   obtain⟨y,z,rfl,hlen⟩:=hJ
   obtain⟨hi,rfl⟩:=Wm hl
   obtain⟨b',e1,e2⟩:=Hn ok hi ((List.range i).flatMap (eA W)) (by omega) z
   refine⟨_,_,rfl,?_,some (.int (i:Int)),b',rfl,?_⟩
   ·have hr:YZ [(Ze Zx (Za 2) (eC (.int 1))),(Zc Zw [(Za 0)])] (ZM [1] [some (wP W),some (.lst (((List.range i).flatMap (eA W)).map Yp)),some (.int (i:Int)),z])=some (XC ((i:Int)+1) (W.length-(i+1))):=by
     show YZ [(Ze Zx (Za 2) (eC (.int 1))),(Zc Zw [(Za 0)])] [some (wP W),none,some (.int (i:Int)),z]=_
     have p1:Ze Zx (Za 2) (eC (.int 1)) [some (wP W),none,some (.int (i:Int)),z]=some (.int ((i:Int)+1)):=vI (op:=(· + ·)) (a:=(i:Int)) rfl rfl
     rw[WK p1 (lenW _ _ _) ⟨by omega,by omega⟩ ⟨by omega,by omega⟩]
     congr 2;omega
    show Yv _ _ _ _ [some (wP W),_,some (.int (i:Int)),z]=_
    rw[SX,hr];simp only[Option.bind_some];rw[e1,Xh]
   ·rw[Xh,List.length_append];omega)
 rw[WI] at h2 h3
 have e3:Yv [1] (ZI [(Zc Zw [(Za 0)])]) (.one 2) (Yv [1] (YZ [(Ze Zx (Za 2) (eC (.int 1))),(Zc Zw [(Za 0)])]) (.one 3) (Xa 1 (Zz 1 [2,3] (ZI [(Ze ZE (Ze ZE (Za 0) (Za 2)) (Za 3))]) (.one 0) ZL (eP (YT [(Za 1),(Za 2)]))))) [some (wP W),some (.lst []),none,none]=some (.nx [some (wP W),some (.lst ((eW W).map Yp)),y,z]):=by
  show(ZI [(Zc Zw [(Za 0)])] (ZM [1] [some (wP W),some (.lst []),none,none])).bind _=_
  have p0:ZI [(Zc Zw [(Za 0)])] (ZM [1] [some (wP W),some (.lst []),none,none])=some (Vc W.length):=Yd (n:=W.length) (lenW none none none) (by omega)
  rw[p0,Option.bind_some,h1,h2,Mp]
 show Xi 4 UN _=_
 unfold UN
 show(Zn _ _ [some (wP W),none,none,none]).bind Xm=_
 rw[Zy (s1:=[some (wP W),some (.lst []),none,none]) rfl,Zy e3]
 rfl
theorem JG{W:List (List Int)}(ok:ZW W):Xn [wP W]=some (.int (((eW W).length:Int)-(W.length:Int)+1)):=by rw[JD];exact Jf ok
def JH(n:Nat)(m:Nat->Nat):List Int:=(List.range n).map fun x=>((m x:Nat):Int)
theorem Mr(n:Nat)(m:Nat->Nat):(JH n m).length=n:=by simp[JH]
theorem Ms{n:Nat}{m:Nat->Nat}{x:Nat}(h:x<n):ZA (JH n m) x=(m x:Int):=Y3 h
theorem Ny{F:List Nat}(h:F.length<64):UI [.lst (iL (nL F))]=some (.lst (iL (Wn (nL F)))):=by
 show(Xx (iL (nL F))).bind (fun ns=>if ns.length<64 then some (PV.lst (iL (Wn ns))) else none)=_
 rw[XB]
 rw[Option.bind_some,if_pos (by simpa [nL] using h)]
theorem Ot{n:Nat}{E:List Yo}{m:Nat->Nat}{F L:List Nat}(h:TrOk n E m F L):F.length<=n:=by
 have e:=h.mark.eq
 have e1:X7 (List.range n) (F.map (YX E))=((F.map (YX E)).length:Int):=by
  have:∀T:List Yo,(∀e∈T,e.1<n/\e.2<n)->X7 (List.range n) T=(T.length:Int):=by
   intro T
   induction T with
   | nil=>intro _;rfl
   | cons e T ih=>
    intro hh
    have q:Oz (List.range n) e=true:=by
     have:=hh e (by simp)
     unfold Oz;simp[this.1,this.2]
    have:=ih fun x hx=>hh x (by simp[hx])
    unfold X7 at this ⊢
    rw[List.map_cons,List.sum_cons,this,q,List.length_cons]
    show(1:Int)+_=_
    omega
  exact this _ h.mark.inn
 have d:0<=Lx n m (List.range n):=Qo fun i _=>Mh _
 rw[List.length_map] at e1;omega
section
variable {W:List (List Int)} {c:Int}
abbrev Yg(W:List (List Int))(c:Int)(m:Nat->Nat)(F L:List Nat)(num:Int)(x7 x8 x9 x10 x11:Option PV):ZP:=
 [some (wP W),some (.int c),some (.lst ((eW W).map Yp)),some (.lst (iL (JH W.length m))),some (.lst (iL (nL F))),some (.lst (iL (nL L))),some (.int num),x7,x8,x9,x10,x11]
theorem JI{m:Nat->Nat}{F L:List Nat}{num:Int}{a b i:Nat}{x7:Option PV}(ha:a<W.length)(hb:b<W.length)(hf:W.length<=7) :
  Zz 1 [11,3,10] (YN (Za 3)) (.one 0) ZL (eP (JP (xB (Ze (Xs false) (Za 0) (Za 1))) (Ze ZE (Za 2) (Za 3)) (Za 0))) (Yg W c m F L num x7 (some (.int (i:Int))) (some (.int (a:Int))) (some (.int (b:Int))) (some (.int (m a:Int))))=some (.lst (iL (JH W.length (Z5 m a b)))):=by
 rw[Yc (List.range W.length) (fun x=>.int (m x:Int)) (fun x=>.int (Z5 m a b x:Int)) (by
  show some (iL (JH W.length m))=_
  rw[JH,Vu]) (by simp;omega) (fun x hx=>⟨[some (.int (m x:Int)),some (.int (m a:Int)),some (.lst (iL (JH W.length m))),some (.int (b:Int))],rfl,rfl,?_⟩)]
 ·rw[JH,Vu]
 ·have t:xB (Ze (Xs false) (Za 0) (Za 1)) [some (.int (m x:Int)),some (.int (m a:Int)),some (.lst (iL (JH W.length m))),some (.int (b:Int))]=some (decide (m x=m a)):=by
   show(Xs false (.int (m x:Int)) (.int (m a:Int))).bind MY=_
   rw[Wl]
   show some (decide ((m x:Int)=(m a:Int)))=_
   congr 1
   exact decide_eq_decide.mpr (by omega)
  refine vP ?_
  rw[QL,t,Option.bind_some];unfold Z5
  by_cases q:m x=m a
  ·rw[decide_eq_true q,if_pos rfl,if_pos q]
   have:=RA (Mr W.length m) b hb
   rw[Ms hb] at this;exact this
  ·rw[decide_eq_false q,if_neg (by decide),if_neg q];rfl
theorem FI(L:List Nat)(p:Nat):(iL (nL L)).take p++(iL (nL L)).drop (p+1)=iL (nL (L.eraseIdx p)):=by
 rw[List.eraseIdx_eq_take_drop_succ];unfold nL iL;rw[List.map_append,List.map_append,<-List.map_take,<-List.map_take,<-List.map_drop,<-List.map_drop]
theorem LA(ok:ZW W)(c:Int):∃(m:Nat->Nat) (F:List Nat),XG [wP W,.int c]=some (pP (Wn (nL F)))/\TrOk W.length (eW W) m F []:=by
 have hf:=ok.few
 obtain⟨et,le⟩:=V3 ok
 have hE:∀e∈eW W,e.1<W.length/\e.2<W.length:=fun e he=>by
  have:=JE e he
  exact⟨by omega,by omega⟩
 let fi:XS:=(Zn (Zo 11 (eP (Ze ZE (Za 3) (Za 9))))
  (Zn (Zo 3 (Zz 1 [11,3,10] (YN (Za 3)) (.one 0) ZL (eP (JP (xB (Ze (Xs false) (Za 0) (Za 1))) (Ze ZE (Za 2) (Za 3)) (Za 0)))))
  (YL 4 (eP (Za 8)))))
 let fb:XS:=(Zn (Zo 8 (Zc Zj [(Ze Zx (Za 1) (Ze YR (Ze YR (eC (.int 53)) (Za 7)) (Za 7))),(Ze Zx (eC (.int 47)) (Za 7)),(Zc Zw [(Za 5)])]))
  (Zn (WG (xB (Ze (Xs false) (Ze Z3 (Za 1) (eC (.int 2))) (eC (.int 1)))) (Zn (Zo 8 (eP (Ze Z3 (Za 6) (Zc Zw [(Za 5)]))))
  (Zo 6 (eP (Ze Y4 (Za 6) (Zc Zw [(Za 5)]))))) ZX)
  (Zn (KD 8 5 (Za 8))
  (Zn (PY (.many [9,10]) (Ze ZE (Za 2) (Za 8)))
  (WG (xB (Ze (Xs true) (Ze ZE (Za 3) (Za 9)) (Ze ZE (Za 3) (Za 10)))) fi ZX)))))
 obtain⟨s',f1,m,F,L,num,x7,x8,x9,x10,x11,hs,tr,lL⟩:=ZY (T:=.one 7) (fb:=fb) (ls:=Vc (eW W).length) (s:=Yg W c (fun x=>x) [] (List.range (eW W).length) (c/2) none none none none none)
  (fun i s=>∃m F L num x7 x8 x9 x10 x11,s=Yg W c m F L num x7 x8 x9 x10 x11/\TrOk W.length (eW W) m F L/\L.length+i=(eW W).length) ⟨_,_,_,_,_,_,_,_,_,rfl,TrOk.start _ _,by simp⟩ (by
  rintro i l s hl ⟨m,F,L,num,x7,x8,x9,x10,x11,rfl,tr,lL⟩
  obtain⟨hi,rfl⟩:=Wm hl
  have sh:=Ot tr
  have K7:Option PV:=some (.int (i:Int))
  have lenL:∀num x8,Zc Zw [(Za 5)] (Yg W c m F L num (some (.int (i:Int))) x8 x9 x10 x11)=some (.int (L.length:Int)):=fun num x8=>by
   show some (PV.int ((iL (nL L)).length:Int))=_
   simp[nL]
  obtain⟨v,hv,ev⟩:=Z8 (c+53*(i:Int)*(i:Int)) (t:=47+i) (m:=L.length) (by omega) (by omega)
  have q1:Zo 8 (Zc Zj [(Ze Zx (Za 1) (Ze YR (Ze YR (eC (.int 53)) (Za 7)) (Za 7))),(Ze Zx (eC (.int 47)) (Za 7)),(Zc Zw [(Za 5)])]) (Yg W c m F L num (some (.int (i:Int))) x8 x9 x10 x11)=some (.nx (Yg W c m F L num (some (.int (i:Int))) (some (.int (v:Int))) x9 x10 x11)):=by
   have a1:Ze YR (eC (.int 53)) (Za 7) (Yg W c m F L num (some (.int (i:Int))) x8 x9 x10 x11)=some (.int (53*(i:Int))):=vC (C:=CMul) (op:=(· * ·)) (a:=53) rfl rfl (KA (by omega) (by omega))
   have a2:Ze YR (Ze YR (eC (.int 53)) (Za 7)) (Za 7) (Yg W c m F L num (some (.int (i:Int))) x8 x9 x10 x11)=some (.int (53*(i:Int)*(i:Int))):=vC (C:=CMul) (op:=(· * ·)) a1 rfl (.inl (by omega))
   have a3:Ze Zx (Za 1) (Ze YR (Ze YR (eC (.int 53)) (Za 7)) (Za 7)) (Yg W c m F L num (some (.int (i:Int))) x8 x9 x10 x11)=some (.int (c+53*(i:Int)*(i:Int))):=vI (op:=(· + ·)) rfl a2
   have a4:Ze Zx (eC (.int 47)) (Za 7) (Yg W c m F L num (some (.int (i:Int))) x8 x9 x10 x11)=some (.int ((47+i:Nat):Int)):=by
    have:=vI (op:=(· + ·)) (f:=eC (.int 47)) (g:=Za 7) (s:=Yg W c m F L num (some (.int (i:Int))) x8 x9 x10 x11) (a:=47) (b:=(i:Int)) rfl rfl
    rw[show((47+i:Nat):Int)=47+(i:Int) by omega];exact this
   have:Zc Zj [(Ze Zx (Za 1) (Ze YR (Ze YR (eC (.int 53)) (Za 7)) (Za 7))),(Ze Zx (eC (.int 47)) (Za 7)),(Zc Zw [(Za 5)])] (Yg W c m F L num (some (.int (i:Int))) x8 x9 x10 x11)=some (.int (v:Int)):=by
    rw[ZC,Zk,a3,Zk,a4,Zk,lenL];exact ev
   rw[Zm,this];rfl
  obtain⟨p,num',hp,q2⟩:∃(p:Nat) (num':Int),p<L.length/\WG (xB (Ze (Xs false) (Ze Z3 (Za 1) (eC (.int 2))) (eC (.int 1)))) (Zn (Zo 8 (eP (Ze Z3 (Za 6) (Zc Zw [(Za 5)])))) (Zo 6 (eP (Ze Y4 (Za 6) (Zc Zw [(Za 5)]))))) ZX (Yg W c m F L num (some (.int (i:Int))) (some (.int (v:Int))) x9 x10 x11)=some (.nx (Yg W c m F L num' (some (.int (i:Int))) (some (.int (p:Int))) x9 x10 x11)):=by
   have mo:Ze Z3 (Za 1) (eC (.int 2)) (Yg W c m F L num (some (.int (i:Int))) (some (.int (v:Int))) x9 x10 x11)=some (.int (c%2)):=vC (C:=fun _ j=>0<j) (op:=(· % ·)) rfl rfl (by decide)
   have t:xB (Ze (Xs false) (Ze Z3 (Za 1) (eC (.int 2))) (eC (.int 1))) (Yg W c m F L num (some (.int (i:Int))) (some (.int (v:Int))) x9 x10 x11)=some (decide (c%2=1)):=by
    rw[Yy,ZJ,mo]
    show(Xs false (.int (c%2)) (.int 1)).bind MY=_
    rw[Wl];rfl
   by_cases q:c%2=1
   ·obtain⟨r,hr,er⟩:=Xr num (m:=L.length) (by omega)
    refine⟨r,num/(L.length:Int),hr,?_⟩
    have r1:Zo 8 (eP (Ze Z3 (Za 6) (Zc Zw [(Za 5)]))) (Yg W c m F L num (some (.int (i:Int))) (some (.int (v:Int))) x9 x10 x11)=some (.nx (Yg W c m F L num (some (.int (i:Int))) (some (.int (r:Int))) x9 x10 x11)):=by
     rw[Zm,vP (a:=(r:Int)) (by rw[<-er];exact vC (C:=fun _ j=>0<j) (op:=(· % ·)) (a:=num) rfl (lenL num _) (by omega))];rfl
    have r2:Zo 6 (eP (Ze Y4 (Za 6) (Zc Zw [(Za 5)]))) (Yg W c m F L num (some (.int (i:Int))) (some (.int (r:Int))) x9 x10 x11)=some (.nx (Yg W c m F L (num/(L.length:Int)) (some (.int (i:Int))) (some (.int (r:Int))) x9 x10 x11)):=by
     rw[Zm,vP (a:=num/(L.length:Int)) (vC (C:=Vb) (op:=(· / ·)) (a:=num) rfl (lenL num _) (QM (by omega) (by omega)))];rfl
    rw[ZS,t,decide_eq_true q,Option.bind_some,if_pos rfl,Zy r1,r2]
   ·refine⟨v,num,hv,?_⟩
    rw[ZS,t,decide_eq_false q];rfl
  have li:L[p]<(eW W).length:=tr.inn _ (List.mem_append_right _ (List.getElem_mem hp))
  have q3:KD 8 5 (Za 8) (Yg W c m F L num' (some (.int (i:Int))) (some (.int (p:Int))) x9 x10 x11)=some (.nx (Yg W c m F (L.eraseIdx p) num' (some (.int (i:Int))) (some (.int ((L[p]:Nat):Int))) x9 x10 x11)):=by
   have g:(iL (nL L))[p]?=some (.int ((L[p]:Nat):Int)):=by
    rw[Tc (by simpa [nL] using hp)]
    simp[nL,ZA,hp]
   have d:gd (ZG (iL (nL L))&&decide (0<=(p:Int)/\(p:Int)<10000/\(iL (nL L)).length<=10000))=some ():=VJ (by
    rw[Bool.and_eq_true]
    exact⟨Yk _,decide_eq_true ⟨by omega,by omega,by simp[nL];omega⟩⟩)
   unfold KD
   show(gd (ZG (iL (nL L))&&decide (0<=(p:Int)/\(p:Int)<10000/\(iL (nL L)).length<=10000))).bind (fun _=>((iL (nL L))[((p:Nat):Int).toNat]?).bind fun l=>some (Out.nx _))=_
   rw[d,Option.bind_some,Int.toNat_natCast,g,Option.bind_some,FI];rfl
  let e:=YX (eW W) L[p]
  have eE:e∈eW W:=by
   show YX (eW W) L[p]∈eW W
   unfold YX;rw[List.getD_eq_getElem?_getD,List.getElem?_eq_getElem li]
   exact List.getElem_mem li
  have h1:e.1<W.length:=(hE e eE).1
  have h2:e.2<W.length:=(hE e eE).2
  have q4:PY (.many [9,10]) (Ze ZE (Za 2) (Za 8)) (Yg W c m F (L.eraseIdx p) num' (some (.int (i:Int))) (some (.int ((L[p]:Nat):Int))) x9 x10 x11)=some (.nx (Yg W c m F (L.eraseIdx p) num' (some (.int (i:Int))) (some (.int ((L[p]:Nat):Int))) (some (.int (e.1:Int))) (some (.int (e.2:Int))) x11)):=by
   have g:Ze ZE (Za 2) (Za 8) (Yg W c m F (L.eraseIdx p) num' (some (.int (i:Int))) (some (.int ((L[p]:Nat):Int))) x9 x10 x11)=some (Yp e):=by
    refine UE (l:=(eW W).map Yp) (k:=L[p]) ?_
    rw[List.getElem?_map,List.getElem?_eq_getElem li]
    show some (Yp (eW W)[L[p]])=some (Yp (YX (eW W) L[p]))
    unfold YX
    rw[List.getD_eq_getElem?_getD,List.getElem?_eq_getElem li];rfl
   unfold PY
   rw[g];rfl
  have m1:∀(z:Nat),z<W.length->ZE (.lst (iL (JH W.length m))) (.int (z:Int))=some (.int (m z:Int)):=fun z hz=>by
   rw[RA (Mr W.length m) z hz,Ms hz]
  have t5:xB (Ze (Xs true) (Ze ZE (Za 3) (Za 9)) (Ze ZE (Za 3) (Za 10))) (Yg W c m F (L.eraseIdx p) num' (some (.int (i:Int))) (some (.int ((L[p]:Nat):Int))) (some (.int (e.1:Int))) (some (.int (e.2:Int))) x11)=some (!decide (m e.1=m e.2)):=by
   have g1:Ze ZE (Za 3) (Za 9) (Yg W c m F (L.eraseIdx p) num' (some (.int (i:Int))) (some (.int ((L[p]:Nat):Int))) (some (.int (e.1:Int))) (some (.int (e.2:Int))) x11)=some (.int (m e.1:Int)):=m1 e.1 h1
   have g2:Ze ZE (Za 3) (Za 10) (Yg W c m F (L.eraseIdx p) num' (some (.int (i:Int))) (some (.int ((L[p]:Nat):Int))) (some (.int (e.1:Int))) (some (.int (e.2:Int))) x11)=some (.int (m e.2:Int)):=m1 e.2 h2
   rw[Yy,ZJ,g1,g2]
   show(Xs true (.int (m e.1:Int)) (.int (m e.2:Int))).bind MY=_
   rw[Wl]
   show some (!decide ((m e.1:Int)=(m e.2:Int)))=_
   rw[decide_eq_decide.mpr (Int.ofNat_inj (m:=m e.1) (n:=m e.2))]
  obtain⟨st1,st2⟩:=tr.step hE hp
  have lL':(L.eraseIdx p).length+(i+1)=(eW W).length:=by rw[List.length_eraseIdx_of_lt hp];omega
  by_cases q:m e.1=m e.2
  ·have q5:WG (xB (Ze (Xs true) (Ze ZE (Za 3) (Za 9)) (Ze ZE (Za 3) (Za 10)))) fi ZX (Yg W c m F (L.eraseIdx p) num' (some (.int (i:Int))) (some (.int ((L[p]:Nat):Int))) (some (.int (e.1:Int))) (some (.int (e.2:Int))) x11)=some (.nx (Yg W c m F (L.eraseIdx p) num' (some (.int (i:Int))) (some (.int ((L[p]:Nat):Int))) (some (.int (e.1:Int))) (some (.int (e.2:Int))) x11)):=by
    rw[ZS,t5,decide_eq_true q];rfl
   exact⟨Yg W c m F L num (some (.int (i:Int))) x8 x9 x10 x11,_,rfl,(by show Zn _ _ _=_;rw[Zy q1,Zy q2,Zy q3,Zy q4,q5]),_,_,_,_,_,_,_,_,_,rfl,st2 q,lL'⟩
  ·have r1:Zo 11 (eP (Ze ZE (Za 3) (Za 9))) (Yg W c m F (L.eraseIdx p) num' (some (.int (i:Int))) (some (.int ((L[p]:Nat):Int))) (some (.int (e.1:Int))) (some (.int (e.2:Int))) x11)=some (.nx (Yg W c m F (L.eraseIdx p) num' (some (.int (i:Int))) (some (.int ((L[p]:Nat):Int))) (some (.int (e.1:Int))) (some (.int (e.2:Int))) (some (.int (m e.1:Int))))):=by
    have g1:Ze ZE (Za 3) (Za 9) (Yg W c m F (L.eraseIdx p) num' (some (.int (i:Int))) (some (.int ((L[p]:Nat):Int))) (some (.int (e.1:Int))) (some (.int (e.2:Int))) x11)=some (.int (m e.1:Int)):=m1 e.1 h1
    rw[Zm,vP g1];rfl
   have r2:Zo 3 (Zz 1 [11,3,10] (YN (Za 3)) (.one 0) ZL (eP (JP (xB (Ze (Xs false) (Za 0) (Za 1))) (Ze ZE (Za 2) (Za 3)) (Za 0)))) (Yg W c m F (L.eraseIdx p) num' (some (.int (i:Int))) (some (.int ((L[p]:Nat):Int))) (some (.int (e.1:Int))) (some (.int (e.2:Int))) (some (.int (m e.1:Int))))=some (.nx (Yg W c (Z5 m e.1 e.2) F (L.eraseIdx p) num' (some (.int (i:Int))) (some (.int ((L[p]:Nat):Int))) (some (.int (e.1:Int))) (some (.int (e.2:Int))) (some (.int (m e.1:Int))))):=by
    rw[Zm,JI h1 h2 hf];rfl
   have r3:YL 4 (eP (Za 8)) (Yg W c (Z5 m e.1 e.2) F (L.eraseIdx p) num' (some (.int (i:Int))) (some (.int ((L[p]:Nat):Int))) (some (.int (e.1:Int))) (some (.int (e.2:Int))) (some (.int (m e.1:Int))))=some (.nx (Yg W c (Z5 m e.1 e.2) (F++[L[p]]) (L.eraseIdx p) num' (some (.int (i:Int))) (some (.int ((L[p]:Nat):Int))) (some (.int (e.1:Int))) (some (.int (e.2:Int))) (some (.int (m e.1:Int))))):=by
    rw[WY (l:=.int ((L[p]:Nat):Int)) (m:=iL (nL F)) (vP rfl) rfl (by simp[nL];omega)]
    have:iL (nL F)++[.int ((L[p]:Nat):Int)]=iL (nL (F++[L[p]])):=by simp[nL]
    rw[this];rfl
   have q5:WG (xB (Ze (Xs true) (Ze ZE (Za 3) (Za 9)) (Ze ZE (Za 3) (Za 10)))) fi ZX (Yg W c m F (L.eraseIdx p) num' (some (.int (i:Int))) (some (.int ((L[p]:Nat):Int))) (some (.int (e.1:Int))) (some (.int (e.2:Int))) x11)=some (.nx (Yg W c (Z5 m e.1 e.2) (F++[L[p]]) (L.eraseIdx p) num' (some (.int (i:Int))) (some (.int ((L[p]:Nat):Int))) (some (.int (e.1:Int))) (some (.int (e.2:Int))) (some (.int (m e.1:Int))))):=by
    rw[ZS,t5,decide_eq_false q]
    show Zn _ _ _=_
    rw[Zy r1,Zy r2,r3]
   exact⟨Yg W c m F L num (some (.int (i:Int))) x8 x9 x10 x11,_,rfl,(by show Zn _ _ _=_;rw[Zy q1,Zy q2,Zy q3,Zy q4,q5]),_,_,_,_,_,_,_,_,_,rfl,st1 q,lL'⟩)
 subst hs;rw[WI] at lL
 have hL:L=[]:=List.length_eq_zero_iff.mp (by omega)
 subst hL
 refine⟨m,F,?_,tr⟩
 have lenE:∀s:ZP,s[2]?=some (some (.lst ((eW W).map Yp)))->Zc Zw [(Za 2)] s=some (.int ((eW W).length:Int)):=fun s h=>by
  have a:Za 2 s=some (.lst ((eW W).map Yp)):=by
   show s[2]?.bind id=_
   rw[h];rfl
  rw[ZC,Zk,a]
  show some (PV.int (((eW W).map Yp).length:Int))=_
  rw[List.length_map]
 have lenW:∀x2 x3 x4 x5 x6:Option PV,Zc Zw [(Za 0)] [some (wP W),some (.int c),x2,x3,x4,x5,x6,none,none,none,none,none]=some (.int (W.length:Int)):=fun x2 x3 x4 x5 x6=>by
  show some (PV.int ((W.map pP).length:Int))=_
  rw[List.length_map]
 have lr:∀(k:Nat),k<=10000->Wo (.int (k:Int))=some (.lst (iL (nL (List.range k)))):=fun k hk=>by
  show(if 0<=(k:Int)/\(k:Int)<=10000 then some (PV.lst (iL ((List.range (k:Int).toNat).map fun(i:Nat)=>(i:Int)))) else none)=_
  rw[if_pos ⟨by omega,by omega⟩,Int.toNat_natCast];rfl
 have e1:Zo 2 (Zc Y7 [(Za 0)]) [some (wP W),some (.int c),none,none,none,none,none,none,none,none,none,none]=some (.nx [some (wP W),some (.int c),some (.lst ((eW W).map Yp)),none,none,none,none,none,none,none,none,none]):=by
  have:Zc Y7 [(Za 0)] [some (wP W),some (.int c),none,none,none,none,none,none,none,none,none,none]=some (.lst ((eW W).map Yp)):=et
  rw[Zm,this];rfl
 have e2:Zo 3 (RK Wo (Zc Zw [(Za 0)])) [some (wP W),some (.int c),some (.lst ((eW W).map Yp)),none,none,none,none,none,none,none,none,none]=some (.nx [some (wP W),some (.int c),some (.lst ((eW W).map Yp)),some (.lst (iL (nL (List.range W.length)))),none,none,none,none,none,none,none,none]):=by
  have:RK Wo (Zc Zw [(Za 0)]) [some (wP W),some (.int c),some (.lst ((eW W).map Yp)),none,none,none,none,none,none,none,none,none]=some (.lst (iL (nL (List.range W.length)))):=by
   show(Zc Zw [(Za 0)] _).bind Wo=_
   rw[lenW];exact lr W.length (by omega)
  rw[Zm,this];rfl
 have e4:Zo 5 (RK Wo (Zc Zw [(Za 2)])) [some (wP W),some (.int c),some (.lst ((eW W).map Yp)),some (.lst (iL (nL (List.range W.length)))),some (.lst []),none,none,none,none,none,none,none]=some (.nx [some (wP W),some (.int c),some (.lst ((eW W).map Yp)),some (.lst (iL (nL (List.range W.length)))),some (.lst []),some (.lst (iL (nL (List.range (eW W).length)))),none,none,none,none,none,none]):=by
  have:RK Wo (Zc Zw [(Za 2)]) [some (wP W),some (.int c),some (.lst ((eW W).map Yp)),some (.lst (iL (nL (List.range W.length)))),some (.lst []),none,none,none,none,none,none,none]=some (.lst (iL (nL (List.range (eW W).length)))):=by
   show(Zc Zw [(Za 2)] _).bind Wo=_
   rw[lenE _ rfl];exact lr _ (by omega)
  rw[Zm,this];rfl
 have e5:Zo 6 (eP (Ze Y4 (Za 1) (eC (.int 2)))) [some (wP W),some (.int c),some (.lst ((eW W).map Yp)),some (.lst (iL (nL (List.range W.length)))),some (.lst []),some (.lst (iL (nL (List.range (eW W).length)))),none,none,none,none,none,none]=some (.nx (Yg W c (fun x=>x) [] (List.range (eW W).length) (c/2) none none none none none)):=by
  rw[Zm,vP (a:=c/2) (vC (C:=Vb) (op:=(· / ·)) (a:=c) rfl rfl (QM (by decide) (by decide)))];rfl
 have e6:Yv [4,5] (ZI [(Zc Zw [(Za 2)])]) (.one 7) fb (Yg W c (fun x=>x) [] (List.range (eW W).length) (c/2) none none none none none)=some (.nx (Yg W c m F [] num x7 x8 x9 x10 x11)):=by
  show(ZI [(Zc Zw [(Za 2)])] (ZM [4,5] (Yg W c (fun x=>x) [] (List.range (eW W).length) (c/2) none none none none none))).bind _=_
  rw[Yd (n:=(eW W).length) (lenE _ rfl) (by omega)];exact f1
 have sh:=Ot tr
 show Xi 12 UO _=_
 unfold UO
 show(Zn _ _ [some (wP W),some (.int c),none,none,none,none,none,none,none,none,none,none]).bind Xm=_
 rw[Zy e1,Zy e2,Zy (s1:=[some (wP W),some (.int c),some (.lst ((eW W).map Yp)),some (.lst (iL (nL (List.range W.length)))),some (.lst []),none,none,none,none,none,none,none]) rfl,Zy e4,Zy e5,Zy e6]
 rw[WB (v:=pP (Wn (nL F))) (by
  have g:Zc UI [(Za 4)] (Yg W c m F [] num x7 x8 x9 x10 x11)=some (.lst (iL (Wn (nL F)))):=Ny (by omega)
  rw[Y1,ZC,Zk,g]
  exact Ju (s:=Yg W c m F [] num x7 x8 x9 x10 x11))]
 rfl
end
theorem EH(neg:Bool)(a:Int)(l:List Int):G7 neg (.int a) (pP l)=some (.bl (if neg then !decide (a∈l) else decide (a∈l))):=by
 unfold G7
 have c:((iL l).all fun z=>X2 8 z (.int a))=true:=by
  rw[List.all_map,List.all_eq_true]
  intro x _;rfl
 show(some (iL l)).bind _=_
 simp only[Option.bind_some,if_pos c]
 have:decide (PV.int a∈iL l)=decide (a∈l):=decide_eq_decide.mpr (by
  rw[List.mem_map];constructor
  ·rintro⟨x,hx,e⟩;cases e;exact hx
  ·intro h;exact⟨a,h,rfl⟩)
 rw[this]
def Sd(W:List (List Int))(F:List Nat):List Yo:=(Rv (eW W) F).map (YX (eW W))
theorem JJ{W:List (List Int)}{F:List Nat}:(Sd W F).length<=(eW W).length:=by
 unfold Sd Rv;rw[List.length_map]
 exact Nat.le_trans (List.length_filter_le _ _) (by simp)
theorem Ho{W:List (List Int)}{F:List Nat}:∀e∈Sd W F,e.1<W.length/\e.2<W.length:=fun e he=>by
 unfold Sd at he
 obtain⟨i,hi,rfl⟩:=List.mem_map.mp he
 have li:i<(eW W).length:=List.mem_range.mp (List.mem_filter.mp hi).1
 have:YX (eW W) i∈eW W:=by
  unfold YX;rw[List.getD_eq_getElem?_getD,List.getElem?_eq_getElem li]
  exact List.getElem_mem li
 have:=JE _ this
 exact⟨by omega,by omega⟩
theorem Pj{W:List (List Int)}(ok:ZW W){F:List Nat}{T:List Int}(hT:∀k:Nat,(k:Int)∈T↔k∈F):Xf [wP W,pP T]=some (.lst ((Sd W F).map Yp)):=by
 obtain⟨et,le⟩:=V3 ok
 have e1:Zo 2 (Zc Y7 [(Za 0)]) [some (wP W),some (pP T),none]=some (.nx [some (wP W),some (pP T),some (.lst ((eW W).map Yp))]):=by
  have:Zc Y7 [(Za 0)] [some (wP W),some (pP T),none]=some (.lst ((eW W).map Yp)):=et
  rw[Zm,this];rfl
 have ln:Zc Zw [(Za 2)] [some (wP W),some (pP T),some (.lst ((eW W).map Yp))]=some (.int ((eW W).length:Int)):=by
  show some (PV.int (((eW W).map Yp).length:Int))=_
  rw[List.length_map]
 have hc:Zz 1 [2,1] (ZI [(Zc Zw [(Za 2)])]) (.one 0) (xB (Ze (G7 true) (Za 0) (Za 2))) (eP (Ze ZE (Za 1) (Za 0))) [some (wP W),some (pP T),some (.lst ((eW W).map Yp))]=some (.lst ((Sd W F).map Yp)):=by
  rw[WX (List.range (eW W).length) (fun(i:Nat)=>.int (i:Int)) (fun i=>Yp (YX (eW W) i)) (fun k=>decide (k∉F)) (Yd ln (by omega)) (by simp;omega) (fun i hi=>⟨[some (.int (i:Int)),some (.lst ((eW W).map Yp)),some (pP T)],rfl,?_,fun _=>?_⟩)]
  ·unfold Sd Rv
   rw[List.map_map];rfl
  ·have gi:Ze (G7 true) (Za 0) (Za 2) [some (.int (i:Int)),some (.lst ((eW W).map Yp)),some (pP T)]=some (.bl (!decide ((i:Int)∈T))):=EH true i T
   rw[Yy,gi]
   show some (!decide ((i:Int)∈T))=_
   congr 1
   by_cases q:i∈F
   ·rw[decide_eq_true ((hT i).mpr q),decide_eq_false (fun z:i∉F=>z q)];rfl
   ·rw[decide_eq_false (fun z=>q ((hT i).mp z)),decide_eq_true q];rfl
  ·have li:i<(eW W).length:=List.mem_range.mp hi
   have:Ze ZE (Za 1) (Za 0) [some (.int (i:Int)),some (.lst ((eW W).map Yp)),some (pP T)]=some (Yp (YX (eW W) i)):=by
    refine UE (l:=(eW W).map Yp) (k:=i) ?_
    rw[List.getElem?_map,List.getElem?_eq_getElem li];unfold YX
    rw[List.getD_eq_getElem?_getD,List.getElem?_eq_getElem li];rfl
   rw[Y1,this];rfl
 show Xi 3 Ww _=_
 unfold Ww
 show(Zn _ _ [some (wP W),some (pP T),none]).bind Xm=_
 rw[Zy e1,WB hc];rfl
theorem T3(β:Nat->Bool):∀(S:List Yo)(k:Nat),(List.range S.length).map (fun i=>T1 β (k+i) (S.getD i (0,0)))=Xu β k S
 | [],k=>rfl
 | e::S,k=>by
  rw[List.length_cons,List.range_succ_eq_map,List.map_cons,List.map_map,Xu,<-T3 β S (k+1)]
  congr 1
  refine List.map_congr_left fun i _=>?_
  show T1 β (k+(i+1)) ((e::S).getD (i+1) (0,0))=_
  rw[show k+(i+1)=k+1+i by omega]
  simp
theorem Nz(x:Int):PySem.Builtin.bitAnd x 1=0\/PySem.Builtin.bitAnd x 1=1:=by
 unfold PySem.Builtin.bitAnd
 have h1:decide ((0:Int)<=1)=true:=by decide
 rw[h1]
 cases decide (0<=x) with
 | true=>
  show((x.toNat&&& (1:Int).toNat:Nat):Int)=0\/((x.toNat&&& (1:Int).toNat:Nat):Int)=1
  have:x.toNat&&& (1:Int).toNat=x.toNat%2:=Nat.and_one_is_mod _
  rw[this];omega
 | false=>
  show(1:Int)-(((1:Int).toNat&&& (PySem.Builtin.bitNot x).toNat:Nat):Int)=0\/(1:Int)-(((1:Int).toNat&&& (PySem.Builtin.bitNot x).toNat:Nat):Int)=1
  have:(1:Int).toNat&&& (PySem.Builtin.bitNot x).toNat=(PySem.Builtin.bitNot x).toNat%2:=by
   rw[Nat.and_comm];exact Nat.and_one_is_mod _
  rw[this];omega
theorem FJ(e:Yo)(b:Bool):ZE (Yp e) (.int (if b=true then 1 else 0))=some (.int ((if b=true then e.2 else e.1:Nat):Int)):=by
 cases b<;>rfl
theorem LB{W:List (List Int)}(ok:ZW W){F:List Nat}{T:List Int}(hT:∀k:Nat,(k:Int)∈T↔k∈F)(c:Int):∃β,Xo [wP W,pP T,.int c]=some (pP (nL (Xu β 0 (Sd W F)))):=by
 have le:=(V3 ok).2
 have lo:=JJ (W:=W) (F:=F)
 generalize hS:Sd W F=S at lo
 have e1:Zo 3 (Zc Xf [(Za 0),(Za 1)]) [some (wP W),some (pP T),some (.int c),none,none]=some (.nx [some (wP W),some (pP T),some (.int c),some (.lst (S.map Yp)),none]):=by
  have:Zc Xf [(Za 0),(Za 1)] [some (wP W),some (pP T),some (.int c),none,none]=some (.lst (S.map Yp)):=by rw[<-hS];exact Pj ok hT
  rw[Zm,this];rfl
 have ln:∀x4,Zc Zw [(Za 3)] [some (wP W),some (pP T),some (.int c),some (.lst (S.map Yp)),x4]=some (.int (S.length:Int)):=fun x4=>by
  show some (PV.int ((S.map Yp).length:Int))=_
  rw[List.length_map]
 have mo:Ze Z3 (Za 2) (eC (.int 2)) [some (wP W),some (pP T),some (.int c),some (.lst (S.map Yp)),none]=some (.int (c%2)):=vC (C:=fun _ j=>0<j) (op:=(· % ·)) rfl rfl (by decide)
 have t:xB (Ze (Xs false) (Ze Z3 (Za 2) (eC (.int 2))) (eC (.int 1))) [some (wP W),some (pP T),some (.int c),some (.lst (S.map Yp)),none]=some (decide (c%2=1)):=by
  rw[Yy,ZJ,mo]
  show(Xs false (.int (c%2)) (.int 1)).bind MY=_
  rw[Wl];rfl
 have tie:∀(x:Option PV)(k:Nat),k<S.length->Ze ZE (Za 1) (Za 0) [some (.int (k:Int)),some (.lst (S.map Yp)),x]=some (Yp (S.getD k (0,0))):=fun x k hk=>by
  refine UE (l:=S.map Yp) (k:=k) ?_
  rw[List.getElem?_map,List.getElem?_eq_getElem hk,List.getD_eq_getElem?_getD,List.getElem?_eq_getElem hk];rfl
 -- what the two ways have in common
 have both:∀(ix:Nat)(x4 x:Option PV)(fe:XE)(hx:Yr 1 [3,ix] [some (wP W),some (pP T),some (.int c),some (.lst (S.map Yp)),x4]=[none,some (.lst (S.map Yp)),x])(β:Nat->Bool),(∀k,k<S.length->fe [some (.int (k:Int)),some (.lst (S.map Yp)),x]=some (.int (if β k=true then 1 else 0)))->
   eP (Zc Yi [(Zz 1 [3,ix] (ZI [(Zc Zw [(Za 3)])]) (.one 0) ZL (Ze ZE (Ze ZE (Za 1) (Za 0)) fe))]) [some (wP W),some (pP T),some (.int c),some (.lst (S.map Yp)),x4]=some (pP (nL (Xu β 0 S))):=fun ix x4 x fe hx β hβ=>by
  have hc:Zz 1 [3,ix] (ZI [(Zc Zw [(Za 3)])]) (.one 0) ZL (Ze ZE (Ze ZE (Za 1) (Za 0)) fe) [some (wP W),some (pP T),some (.int c),some (.lst (S.map Yp)),x4]=some (.lst (iL (nL (Xu β 0 S)))):=by
   rw[Yc (List.range S.length) (fun(i:Nat)=>.int (i:Int)) (fun k=>.int ((T1 β k (S.getD k (0,0)):Nat):Int)) (Yd (ln x4) (by omega)) (by simp;omega) (fun k hk=>⟨[some (.int (k:Int)),some (.lst (S.map Yp)),x],by rw[hx];rfl,rfl,?_⟩)]
   ·rw[<-T3 β S 0]
    unfold nL;rw[Vu,List.map_map];simp only[Function.comp_def,Nat.zero_add]
   ·have hk:=List.mem_range.mp hk
    rw[ZJ,tie x k hk,hβ k hk]
    exact FJ _ _
  rw[Y1,ZC,Zk,hc]
  exact Ju (s:=[])
 by_cases q:c%2=1
 ·let y:=c/2/479001600
  have bits:∀k:Nat,∃b:Bool,Ze OL (Ze QA (Za 2) (Za 0)) (eC (.int 1)) [some (.int (k:Int)),some (.lst (S.map Yp)),some (.int y)]=some (.int (if b=true then 1 else 0)):=fun k=>by
   have a:Ze QA (Za 2) (Za 0) [some (.int (k:Int)),some (.lst (S.map Yp)),some (.int y)]=some (.int (y/2^(k:Int).toNat)):=vC (C:=fun _ j=>0<=j) (op:=fun i j=>i/2^j.toNat) (a:=y) (b:=(k:Int)) rfl rfl (by omega)
   have b:Ze OL (Ze QA (Za 2) (Za 0)) (eC (.int 1)) [some (.int (k:Int)),some (.lst (S.map Yp)),some (.int y)]=some (.int (PySem.Builtin.bitAnd (y/2^(k:Int).toNat) 1)):=vI (op:=PySem.Builtin.bitAnd) a rfl
   rcases Nz (y/2^(k:Int).toNat) with z | z
   ·exact⟨false,by rw[b,z];rfl⟩
   ·exact⟨true,by rw[b,z];rfl⟩
  obtain⟨β,hβ⟩:=Classical.axiomOfChoice bits
  refine⟨β,?_⟩
  have e2:Zo 4 (eP (Ze Y4 (Ze Y4 (Za 2) (eC (.int 2))) (eC (.int 479001600)))) [some (wP W),some (pP T),some (.int c),some (.lst (S.map Yp)),none]=some (.nx [some (wP W),some (pP T),some (.int c),some (.lst (S.map Yp)),some (.int y)]):=by
   have a:Ze Y4 (Za 2) (eC (.int 2)) [some (wP W),some (pP T),some (.int c),some (.lst (S.map Yp)),none]=some (.int (c/2)):=vC (C:=Vb) (op:=(· / ·)) (a:=c) rfl rfl (QM (by decide) (by decide))
   rw[Zm,vP (a:=y) (vC (C:=Vb) (op:=(· / ·)) a rfl ⟨by decide,by decide⟩)];rfl
  show Xi 5 WM _=_
  unfold WM
  show(Zn _ _ [some (wP W),some (pP T),some (.int c),none,none]).bind Xm=_
  rw[Zy e1,Jt (v:=pP (nL (Xu β 0 S)))]
  ·rfl
  ·rw[ZS,t,decide_eq_true q,Option.bind_some,if_pos rfl,Zy e2]
   exact WB (both 4 (some (.int y)) (some (.int y)) _ rfl β fun k _=>hβ k)
 ·have bits:∀k:Nat,∃b:Bool,k<S.length->Zc Zj [(Ze Zx (Za 2) (Ze YR (Ze YR (eC (.int 59)) (Za 0)) (Za 0))),(Ze Zx (eC (.int 61)) (Za 0)),(eC (.int 2))] [some (.int (k:Int)),some (.lst (S.map Yp)),some (.int c)]=some (.int (if b=true then 1 else 0)):=fun k=>by
   by_cases hk:k<S.length
   ·have hk':k<=441:=by omega
    obtain⟨v,hv,ev⟩:=Z8 (c+59*(k:Int)*(k:Int)) (t:=61+k) (m:=2) (by omega) (by omega)
    have a1:Ze YR (eC (.int 59)) (Za 0) [some (.int (k:Int)),some (.lst (S.map Yp)),some (.int c)]=some (.int (59*(k:Int))):=vC (C:=CMul) (op:=(· * ·)) (a:=59) rfl rfl (KA (by omega) (by omega))
    have a2:Ze YR (Ze YR (eC (.int 59)) (Za 0)) (Za 0) [some (.int (k:Int)),some (.lst (S.map Yp)),some (.int c)]=some (.int (59*(k:Int)*(k:Int))):=vC (C:=CMul) (op:=(· * ·)) a1 rfl (.inl (by omega))
    have a3:Ze Zx (Za 2) (Ze YR (Ze YR (eC (.int 59)) (Za 0)) (Za 0)) [some (.int (k:Int)),some (.lst (S.map Yp)),some (.int c)]=some (.int (c+59*(k:Int)*(k:Int))):=vI (op:=(· + ·)) rfl a2
    have a4:Ze Zx (eC (.int 61)) (Za 0) [some (.int (k:Int)),some (.lst (S.map Yp)),some (.int c)]=some (.int ((61+k:Nat):Int)):=by
     have:=vI (op:=(· + ·)) (f:=eC (.int 61)) (g:=Za 0) (s:=[some (.int (k:Int)),some (.lst (S.map Yp)),some (.int c)]) (a:=61) (b:=(k:Int)) rfl rfl
     rw[show((61+k:Nat):Int)=61+(k:Int) by omega];exact this
    have r:Zc Zj [(Ze Zx (Za 2) (Ze YR (Ze YR (eC (.int 59)) (Za 0)) (Za 0))),(Ze Zx (eC (.int 61)) (Za 0)),(eC (.int 2))] [some (.int (k:Int)),some (.lst (S.map Yp)),some (.int c)]=some (.int (v:Int)):=by
     rw[ZC,Zk,a3,Zk,a4];exact ev
    have:v=0\/v=1:=by omega
    rcases this with rfl | rfl
    ·exact⟨false,fun _=>r⟩
    ·exact⟨true,fun _=>r⟩
   ·exact⟨false,fun z=>absurd z hk⟩
  obtain⟨β,hβ⟩:=Classical.axiomOfChoice bits
  refine⟨β,?_⟩
  show Xi 5 WM _=_
  unfold WM
  show(Zn _ _ [some (wP W),some (pP T),some (.int c),none,none]).bind Xm=_
  rw[Zy e1,Zy (s1:=[some (wP W),some (pP T),some (.int c),some (.lst (S.map Yp)),none]) (by rw[ZS,t,decide_eq_false q];rfl)]
  rw[WB (both 2 none (some (.int c)) _ rfl β hβ)];rfl
def Yj(n:Nat)(X:List Nat):List Int:=(List.range n).map fun h=>((X.count h:Nat):Int)
theorem Up(n:Nat)(X:List Nat):(Yj n X).length=n:=by simp[Yj]
theorem V4{n:Nat}{X:List Nat}{h:Nat}(hh:h<n):ZA (Yj n X) h=((X.count h:Nat):Int):=Y3 hh
theorem NA{W:List (List Int)}(ok:ZW W){X:List Nat}(hX:∀x∈X,x<W.length):Xe [wP W,pP (nL X)]=some (pP (Yj W.length X)):=by
 have hf:=ok.few
 let st:Nat->Option PV->ZP:=fun i x3=>[some (wP W),some (pP (nL X)),some (.lst (iL (Yj W.length (X.take i)))),x3]
 let fb:XS:=Wj 2 (Za 3) (Ze Zx (Ze ZE (Za 2) (Za 3)) (eC (.int 1)))
 have e1:Zo 2 (Ze RM (Xt [(eC (.int 0))]) (Zc Zw [(Za 0)])) [some (wP W),some (pP (nL X)),none,none]=some (.nx (st 0 none)):=by
  have ln:Zc Zw [(Za 0)] [some (wP W),some (pP (nL X)),none,none]=some (.int (W.length:Int)):=by
   show some (PV.int ((W.map pP).length:Int))=_
   rw[List.length_map]
  have r:Ze RM (Xt [(eC (.int 0))]) (Zc Zw [(Za 0)]) [some (wP W),some (pP (nL X)),none,none]=some (.lst (iL (Yj W.length []))):=by
   rw[ZJ,ln]
   have z:Yj W.length []=List.replicate W.length 0:=by
    unfold Yj
    exact List.ext_getElem (by simp) (by intros;simp)
   rw[z]
   show(if ZG [PV.int 0]=true/\(-1000000:Int)<=(W.length:Int)/\(W.length:Int)<=1000000/\[PV.int 0].length*((W.length:Int)).toNat<=10000 then some (PV.lst (List.replicate ((W.length:Int)).toNat [PV.int 0]).flatten) else none)=_
   rw[if_pos ⟨rfl,by omega,by omega,by simp;omega⟩,Int.toNat_natCast,PH]
   simp
  rw[Zm,r];rfl
 obtain⟨s',f1,x3,hs⟩:=ZY (T:=.one 3) (fb:=fb) (ls:=iL (nL X)) (s:=st 0 none) (fun i s=>∃x3,s=st i x3) ⟨none,rfl⟩ (by
  rintro i l s hl ⟨x3,rfl⟩
  have hi:i<X.length:=by
   have:=(List.getElem?_eq_some_iff.mp hl).1
   simpa [nL] using this
  have el:l = .int ((X[i]:Nat):Int):=by
   rw[Tc (by simpa [nL] using hi)] at hl
   have:=Option.some.inj hl
   rw[<-this];simp[nL,ZA,hi]
  subst el
  have hx:X[i]<W.length:=hX _ (List.getElem_mem hi)
  refine⟨st i (some (.int ((X[i]:Nat):Int))),st (i+1) (some (.int ((X[i]:Nat):Int))),rfl,?_,_,rfl⟩
  have g:Ze ZE (Za 2) (Za 3) (st i (some (.int ((X[i]:Nat):Int))))=some (.int (((X.take i).count X[i]:Nat):Int)):=by
   have:=RA (Up W.length (X.take i)) X[i] hx
   rw[V4 hx] at this;exact this
  show Wj 2 (Za 3) _ _=_
  rw[Qd (l:=.int ((((X.take i).count X[i]:Nat):Int)+1)) (k:=((X[i]:Nat):Int)) (m:=iL (Yj W.length (X.take i))) (j:=X[i]) (vI (op:=(· + ·)) g rfl) rfl rfl (Yk _) rfl (VN (by simp[Yj];exact hx))]
  have e:(iL (Yj W.length (X.take i))).set X[i] (.int ((((X.take i).count X[i]:Nat):Int)+1))=iL (Yj W.length (X.take (i+1))):=by
   unfold iL;rw[<-List.map_set]
   congr 1
   refine Ha (by simp[Yj]) fun h hh=>?_
   have hh':h<W.length:=by simpa [Yj] using hh
   rw[PW.nth_set (by rw[Up];exact hh'),V4 hh',V4 hh',List.take_succ_eq_append_getElem hi,List.count_append]
   by_cases q:h=X[i]
   ·subst q;simp
   ·rw[if_neg q]
    have:X[i]≠h:=fun z=>q z.symm
    simp[List.count_singleton,this]
  rw[e];rfl)
 subst hs
 rw[show(iL (nL X)).length=X.length by simp[nL]] at f1
 have e2:Yv [2] (Uj (Za 1)) (.one 3) fb (st 0 none)=some (.nx (st X.length x3)):=by
  show(Uj (Za 1) (ZM [2] (st 0 none))).bind _=_
  exact f1
 show Xi 4 VV _=_
 unfold VV
 show(Zn _ _ [some (wP W),some (pP (nL X)),none,none]).bind Xm=_
 rw[Zy e1,Zy e2]
 rw[WB (v:=pP (Yj W.length X)) (by
  rw[Y1]
  show(Option.bind (Yi [.lst (iL (Yj W.length (X.take X.length)))]) fun l=>if Z4 l=true then some l else none)=_
  rw[List.take_length]
  exact Ju (s:=[]))]
 rfl
theorem NB{W:List (List Int)}{D S:List Int}{X Y:PV}(ok:ZW W)(hd:D.length=W.length)(hx:∀k:Nat,k<W.length->ZE X (.int (k:Int))=some (.int (ZA D k)))(hy:∀k:Nat,k<W.length->ZE Y (.int (k:Int))=some (.int (ZA S k))) :
  Vn [wP W,X,Y]=some (pP (XQ W D S)):=by
 have hf:=ok.few
 let w0:Option PV:=some (wP W)
 let st:Nat->Option PV->Option PV->Option PV->Option PV->ZP:=fun i x4 x5 x6 x7=>[w0,some X,some Y,some (.lst (iL ((XQ W D S).take i))),x4,x5,x6,x7]
 let part:Nat->Nat->Int:=fun h j=>ZA D h-sN j (fun g=>ZV W h g*(ZA S h-ZA S g))
 let fi:XS:=(Zn (Zo 7 (eP (Ze Yt (Ze ZE (Za 2) (Za 4)) (Ze ZE (Za 2) (Za 6)))))
  (Zo 5 (eP (Ze Yt (Za 5) (Ze YR (Ze ZE (Ze ZE (Za 0) (Za 4)) (Za 6)) (Za 7))))))
 let fb:XS:=(Zn (Zo 5 (eP (Ze ZE (Za 1) (Za 4))))
  (Zn (Yv [3] (ZI [(Zc Zw [(Za 0)])]) (.one 6) fi)
  (YL 3 (eP (Za 5)))))
 have len:∀s:ZP,s[0]?=some w0->ZI [(Zc Zw [(Za 0)])] s=some (Vc W.length):=fun s h=>by
  have a:Za 0 s=some (wP W):=by
   show s[0]?.bind id=_
   rw[h];rfl
  refine Yd (n:=W.length) ?_ (by omega)
  rw[ZC,Zk,a]
  show some (PV.int ((W.map pP).length:Int))=_
  rw[List.length_map]
 obtain⟨s',f1,x4,x5,x6,x7,hs⟩:=ZY (T:=.one 4) (fb:=fb) (ls:=Vc W.length) (s:=st 0 none none none none) (fun i s=>∃x4 x5 x6 x7,s=st i x4 x5 x6 x7) ⟨none,none,none,none,rfl⟩ (by
  rintro h l s hl ⟨x4,x5,x6,x7,rfl⟩
  obtain⟨hh,rfl⟩:=Wm hl
  obtain⟨s2,g1,y6,y7,hs2⟩:=ZY (T:=.one 6) (fb:=fi) (ls:=Vc W.length) (s:=st h (some (.int (h:Int))) (some (.int (part h 0))) x6 x7) (fun j s=>∃y6 y7,s=st h (some (.int (h:Int))) (some (.int (part h j))) y6 y7) ⟨x6,x7,rfl⟩ (by
   rintro j l s hl ⟨y6,y7,rfl⟩
   obtain⟨hj,rfl⟩:=Wm hl
   refine⟨st h (some (.int (h:Int))) (some (.int (part h j))) (some (.int (j:Int))) y7,st h (some (.int (h:Int))) (some (.int (part h (j+1)))) (some (.int (j:Int))) (some (.int (ZA S h-ZA S j))),rfl,?_,_,_,rfl⟩
   have q1:Zo 7 (eP (Ze Yt (Ze ZE (Za 2) (Za 4)) (Ze ZE (Za 2) (Za 6)))) (st h (some (.int (h:Int))) (some (.int (part h j))) (some (.int (j:Int))) y7)=some (.nx (st h (some (.int (h:Int))) (some (.int (part h j))) (some (.int (j:Int))) (some (.int (ZA S h-ZA S j))))):=by
    have a:Ze ZE (Za 2) (Za 4) (st h (some (.int (h:Int))) (some (.int (part h j))) (some (.int (j:Int))) y7)=some (.int (ZA S h)):=hy h hh
    have b:Ze ZE (Za 2) (Za 6) (st h (some (.int (h:Int))) (some (.int (part h j))) (some (.int (j:Int))) y7)=some (.int (ZA S j)):=hy j hj
    rw[Zm,vP (vI (op:=(· - ·)) a b)];rfl
   have q2:Zo 5 (eP (Ze Yt (Za 5) (Ze YR (Ze ZE (Ze ZE (Za 0) (Za 4)) (Za 6)) (Za 7)))) (st h (some (.int (h:Int))) (some (.int (part h j))) (some (.int (j:Int))) (some (.int (ZA S h-ZA S j))))=some (.nx (st h (some (.int (h:Int))) (some (.int (part h (j+1)))) (some (.int (j:Int))) (some (.int (ZA S h-ZA S j))))):=by
    have a1:Ze ZE (Za 0) (Za 4) (st h (some (.int (h:Int))) (some (.int (part h j))) (some (.int (j:Int))) (some (.int (ZA S h-ZA S j))))=some (pP (ZF W h)):=Sj hh
    have a2:Ze ZE (Ze ZE (Za 0) (Za 4)) (Za 6) (st h (some (.int (h:Int))) (some (.int (part h j))) (some (.int (j:Int))) (some (.int (ZA S h-ZA S j))))=some (.int (ZV W h j)):=by
     rw[ZJ,a1]
     exact Wk (l:=ZF W h) (k:=j) (by rw[ok.sq h hh];exact hj)
    have lo:=ok.lo h j hh hj;have hi:=ok.hi h j hh hj
    have e:part h j-ZV W h j*(ZA S h-ZA S j)=part h (j+1):=by
     show ZA D h-sN j (fun g=>ZV W h g*(ZA S h-ZA S g))-ZV W h j*(ZA S h-ZA S j)=ZA D h-(sN j (fun g=>ZV W h g*(ZA S h-ZA S g))+ZV W h j*(ZA S h-ZA S j))
     omega
    rw[Zm,vP (a:=part h (j+1)) (by
     rw[<-e]
     exact vI (op:=(· - ·)) (a:=part h j) rfl (vC (C:=CMul) (op:=(· * ·)) a2 rfl (.inl (by omega))))]
    rfl
   show Zn _ _ _=_
   rw[Zy q1,q2])
  subst hs2;rw[WI] at g1
  have pe:part h W.length=ZA (XQ W D S) h:=by
   rw[FD (by omega)]
   show ZA D h-sN W.length _=_
   have:sN W.length (fun g=>ZV W h g*(ZA S h-ZA S g))=(-1)*gN W (ZA S) h:=by
    unfold gN;rw[<-Pb]
    exact Z0 fun g _=>by rw[Int.mul_sub,Int.mul_sub];omega
   rw[this];omega
  have q1:Zo 5 (eP (Ze ZE (Za 1) (Za 4))) (st h (some (.int (h:Int))) x5 x6 x7)=some (.nx (st h (some (.int (h:Int))) (some (.int (part h 0))) x6 x7)):=by
   have a:Ze ZE (Za 1) (Za 4) (st h (some (.int (h:Int))) x5 x6 x7)=some (.int (ZA D h)):=hx h hh
   have e:part h 0=ZA D h:=by show ZA D h-0=_;omega
   rw[Zm,vP a,e];rfl
  have q2:Yv [3] (ZI [(Zc Zw [(Za 0)])]) (.one 6) fi (st h (some (.int (h:Int))) (some (.int (part h 0))) x6 x7)=some (.nx (st h (some (.int (h:Int))) (some (.int (part h W.length))) y6 y7)):=by
   show(ZI [(Zc Zw [(Za 0)])] (ZM [3] (st h (some (.int (h:Int))) (some (.int (part h 0))) x6 x7))).bind _=_
   rw[len _ rfl];exact g1
  refine⟨st h (some (.int (h:Int))) x5 x6 x7,st (h+1) (some (.int (h:Int))) (some (.int (part h W.length))) y6 y7,rfl,?_,_,_,_,_,rfl⟩
  show Zn _ _ _=_
  rw[Zy q1,Zy q2,WY (l:=.int (ZA (XQ W D S) h)) (m:=iL ((XQ W D S).take h)) (by rw[<-pe];exact vP rfl) rfl (by simp;omega)]
  have hkl:h<(XQ W D S).length:=by rw[Rt];omega
  have tk:(XQ W D S).take (h+1)=(XQ W D S).take h++[ZA (XQ W D S) h]:=by
   rw[List.take_succ_eq_append_getElem hkl];simp[ZA,List.getD_eq_getElem?_getD,List.getElem?_eq_getElem hkl]
  show some (Out.nx [w0,some X,some Y,some (.lst (iL ((XQ W D S).take h)++[.int (ZA (XQ W D S) h)])),_,_,_,_])=some (Out.nx [w0,some X,some Y,some (.lst (iL ((XQ W D S).take (h+1)))),_,_,_,_])
  rw[tk,FE])
 subst hs;rw[WI] at f1
 have e2:Yv [3] (ZI [(Zc Zw [(Za 0)])]) (.one 4) fb (st 0 none none none none)=some (.nx (st W.length x4 x5 x6 x7)):=by
  show(ZI [(Zc Zw [(Za 0)])] (ZM [3] (st 0 none none none none))).bind _=_
  rw[len _ rfl];exact f1
 have Jg:(XQ W D S).take W.length=XQ W D S:=List.take_of_length_le (by rw[Rt];omega)
 show Xi 8 UL _=_
 unfold UL
 show(Zn _ _ [w0,some X,some Y,none,none,none,none,none]).bind Xm=_
 rw[Zy (s1:=st 0 none none none none) rfl,Zy e2]
 rw[WB (v:=pP (XQ W D S)) (by
  rw[Y1]
  show(Option.bind (Yi [.lst (iL ((XQ W D S).take W.length))]) fun l=>if Z4 l=true then some l else none)=_
  rw[Jg]
  exact Ju (s:=[]))]
 rfl
theorem Mu{l:List Int}{k:Nat}{v:Int}(hk:k<l.length):(l.set k v).sum=l.sum+(v-ZA l k):=by
 rw[Nx,Nx l,List.length_set]
 have e:sN l.length (ZA (l.set k v))=sN l.length (fun i=>ZA l i+(if i=k then v-ZA l k else 0)):=Z0 fun i hi=>by
  rw[PW.nth_set hi]
  by_cases q:i=k
  ·subst q;rw[if_pos rfl,if_pos rfl];omega
  ·rw[if_neg q,if_neg q];omega
 rw[e,XW,X6 (k:=k) hk fun i _ hi=>if_neg hi,if_pos rfl]
theorem NC{W:List (List Int)}(ok:ZW W){D:List Int}(hd:D.length=W.length)(c:Int):∃D',Xg [wP W,pP D,.int c]=some (pP D')/\D'.length=W.length/\D'.sum=D.sum:=by
 have hf:=ok.few;have hp:=ok.pos
 let st:List Int->Option PV->Option PV->Option PV->ZP:=fun M x4 x5 x6=>[some (wP W),some (pP D),some (.int c),some (.lst (iL M)),x4,x5,x6]
 have lenW:∀M x4 x5 x6,Zc Zw [(Za 0)] (st M x4 x5 x6)=some (.int (W.length:Int)):=fun M x4 x5 x6=>by
  show some (PV.int ((W.map pP).length:Int))=_
  rw[List.length_map]
 obtain⟨n1,hn1,en1⟩:=Z8 c (t:=101) (m:=4) (by omega) (by omega)
 obtain⟨n2,hn2,en2⟩:=Z8 c (t:=109) (m:=4) (by omega) (by omega)
 let fb:XS:=(Zn (Zo 5 (Zc Zj [(Ze Zx (Za 2) (Za 4)),(eC (.int 103)),(Zc Zw [(Za 0)])]))
  (Zn (Zo 6 (Zc Zj [(Ze Zx (Za 2) (Za 4)),(eC (.int 107)),(Zc Zw [(Za 0)])]))
  (Zn (Wj 3 (Za 5) (Ze Yt (Ze ZE (Za 3) (Za 5)) (eC (.int 1))))
  (Wj 3 (Za 6) (Ze Zx (Ze ZE (Za 3) (Za 6)) (eC (.int 1)))))))
 have put:∀(M:List Int)(x4 x5 x6:Option PV)(fk fv:XE)(a:Nat)(v:Int),M.length=W.length->a<W.length->fk (st M x4 x5 x6)=some (.int (a:Int))->fv (st M x4 x5 x6)=some (.int v)->Wj 3 fk fv (st M x4 x5 x6)=some (.nx (st (M.set a v) x4 x5 x6)):=fun M x4 x5 x6 fk fv a v hM ha h1 h2=>by
  rw[Qd (l:=.int v) (k:=(a:Int)) (m:=iL M) (j:=a) h2 h1 rfl (Yk _) rfl (VN (by rw[List.length_map];omega))]
  have:(iL M).set a (.int v)=iL (M.set a v):=by
   unfold iL;rw[List.map_set]
  rw[this];rfl
 obtain⟨s',f1,M,x4,x5,x6,hs,lM,sM⟩:=ZY (T:=.one 4) (fb:=fb) (ls:=Vc n1) (s:=st D none none none) (fun _ s=>∃M x4 x5 x6,s=st M x4 x5 x6/\M.length=W.length/\M.sum=D.sum) ⟨D,none,none,none,rfl,hd,rfl⟩ (by
  rintro i l s hl ⟨M,x4,x5,x6,rfl,lM,sM⟩
  obtain⟨hi,rfl⟩:=Wm hl
  obtain⟨a,ha,ea⟩:=Z8 (c+(i:Int)) (t:=103) (m:=W.length) (by omega) (by omega)
  obtain⟨b,hb,eb⟩:=Z8 (c+(i:Int)) (t:=107) (m:=W.length) (by omega) (by omega)
  have s1:∀x5 x6,Ze Zx (Za 2) (Za 4) (st M (some (.int (i:Int))) x5 x6)=some (.int (c+(i:Int))):=fun x5 x6=>vI (op:=(· + ·)) rfl rfl
  have q1:Zo 5 (Zc Zj [(Ze Zx (Za 2) (Za 4)),(eC (.int 103)),(Zc Zw [(Za 0)])]) (st M (some (.int (i:Int))) x5 x6)=some (.nx (st M (some (.int (i:Int))) (some (.int (a:Int))) x6)):=by
   have:Zc Zj [(Ze Zx (Za 2) (Za 4)),(eC (.int 103)),(Zc Zw [(Za 0)])] (st M (some (.int (i:Int))) x5 x6)=some (.int (a:Int)):=by
    rw[ZC,Zk,s1,Zk,Zk,lenW];exact ea
   rw[Zm,this];rfl
  have q2:Zo 6 (Zc Zj [(Ze Zx (Za 2) (Za 4)),(eC (.int 107)),(Zc Zw [(Za 0)])]) (st M (some (.int (i:Int))) (some (.int (a:Int))) x6)=some (.nx (st M (some (.int (i:Int))) (some (.int (a:Int))) (some (.int (b:Int))))):=by
   have:Zc Zj [(Ze Zx (Za 2) (Za 4)),(eC (.int 107)),(Zc Zw [(Za 0)])] (st M (some (.int (i:Int))) (some (.int (a:Int))) x6)=some (.int (b:Int)):=by
    rw[ZC,Zk,s1,Zk,Zk,lenW];exact eb
   rw[Zm,this];rfl
  have q3:=put M (some (.int (i:Int))) (some (.int (a:Int))) (some (.int (b:Int))) (Za 5) (Ze Yt (Ze ZE (Za 3) (Za 5)) (eC (.int 1))) a (ZA M a-1) lM ha rfl (vI (op:=(· - ·)) (show Ze ZE (Za 3) (Za 5) (st M (some (.int (i:Int))) (some (.int (a:Int))) (some (.int (b:Int))))=some (.int (ZA M a)) from RA lM a ha) rfl)
  have lM1:(M.set a (ZA M a-1)).length=W.length:=by rw[List.length_set];exact lM
  have q4:=put (M.set a (ZA M a-1)) (some (.int (i:Int))) (some (.int (a:Int))) (some (.int (b:Int))) (Za 6) (Ze Zx (Ze ZE (Za 3) (Za 6)) (eC (.int 1))) b (ZA (M.set a (ZA M a-1)) b+1) lM1 hb rfl (vI (op:=(· + ·)) (show Ze ZE (Za 3) (Za 6) (st (M.set a (ZA M a-1)) (some (.int (i:Int))) (some (.int (a:Int))) (some (.int (b:Int))))=some (.int (ZA (M.set a (ZA M a-1)) b)) from RA lM1 b hb) rfl)
  refine⟨st M (some (.int (i:Int))) x5 x6,_,rfl,(by show Zn _ _ _=_;rw[Zy q1,Zy q2,Zy q3,q4]),_,_,_,_,rfl,by rw[List.length_set];exact lM1,?_⟩
  rw[Mu (by omega),Mu (by omega),sM];omega)
 subst hs
 have e1:Zo 3 (Zc Wf [(Za 1)]) [some (wP W),some (pP D),some (.int c),none,none,none,none]=some (.nx (st D none none none)):=by
  have:Zc Wf [(Za 1)] [some (wP W),some (pP D),some (.int c),none,none,none,none]=some (.lst (iL D)):=by
   show(if ZG (iL D)=true then some (PV.lst (iL D)) else none)=_
   rw[if_pos (Yk D)]
  rw[Zm,this];rfl
 have e2:Yv [3] (ZI [(Zc Zj [(Za 2),(eC (.int 101)),(eC (.int 4))])]) (.one 4) fb (st D none none none)=some (.nx (st M x4 x5 x6)):=by
  show(ZI [(Zc Zj [(Za 2),(eC (.int 101)),(eC (.int 4))])] (ZM [3] (st D none none none))).bind _=_
  have:Zc Zj [(Za 2),(eC (.int 101)),(eC (.int 4))] (ZM [3] (st D none none none))=some (.int (n1:Int)):=en1
  rw[Yd (n:=n1) this (by omega)];exact f1
 have t:xB (Ze (Xs false) (Zc Zj [(Za 2),(eC (.int 109)),(eC (.int 4))]) (eC (.int 0))) (st M x4 x5 x6)=some (decide (n2=0)):=by
  have:Zc Zj [(Za 2),(eC (.int 109)),(eC (.int 4))] (st M x4 x5 x6)=some (.int (n2:Int)):=en2
  rw[Yy,ZJ,this]
  show(Xs false (.int (n2:Int)) (.int 0)).bind MY=_
  rw[Wl]
  show some (decide ((n2:Int)=0))=_
  congr 1
  exact decide_eq_decide.mpr (by omega)
 by_cases q:n2=0
 ·have bits:∀k:Nat,∃v:Nat,Zj [.int (c+(k:Int)),.int 113,.int 3]=some (.int (v:Int)):=fun k=>by
   obtain⟨v,_,ev⟩:=Z8 (c+(k:Int)) (t:=113) (m:=3) (by omega) (by omega)
   exact⟨v,ev⟩
  obtain⟨g,hg⟩:=Classical.axiomOfChoice bits
  let S:List Int:=(List.range W.length).map fun k=>((g k:Nat):Int)
  have hc:Zz 1 [2] (ZI [(Zc Zw [(Za 0)])]) (.one 0) ZL (Zc Zj [(Ze Zx (Za 1) (Za 0)),(eC (.int 113)),(eC (.int 3))]) (st M x4 x5 x6)=some (.lst (iL S)):=by
   rw[Yc (List.range W.length) (fun(i:Nat)=>.int (i:Int)) (fun k=>.int ((g k:Nat):Int)) (Yd (lenW M x4 x5 x6) (by omega)) (by simp;omega) (fun k hk=>⟨[some (.int (k:Int)),some (.int c)],rfl,rfl,?_⟩)]
   ·rw[Vu]
   ·have:Ze Zx (Za 1) (Za 0) [some (.int (k:Int)),some (.int c)]=some (.int (c+(k:Int))):=vI (op:=(· + ·)) rfl rfl
    rw[ZC,Zk,this];exact hg k
  have el:Vn [wP W,.lst (iL M),.lst (iL S)]=some (pP (XQ W M S)):=NB ok lM (RA lM) (RA (by simp[S]))
  refine⟨XQ W M S,?_,by rw[Rt];exact lM,by rw[Hb ok lM];exact sM⟩
  show Xi 7 Wa _=_
  unfold Wa
  show(Zn _ _ [some (wP W),some (pP D),some (.int c),none,none,none,none]).bind Xm=_
  rw[Zy e1,Zy e2,Jt (v:=pP (XQ W M S))]
  ·rfl
  ·rw[ZS,t,decide_eq_true q,Option.bind_some,if_pos rfl]
   refine WB ?_
   rw[ZC,Zk,Zk,Zk,hc];exact el
 ·refine⟨M,?_,lM,sM⟩
  show Xi 7 Wa _=_
  unfold Wa
  show(Zn _ _ [some (wP W),some (pP D),some (.int c),none,none,none,none]).bind Xm=_
  rw[Zy e1,Zy e2,Zy (s1:=st M x4 x5 x6) (by rw[ZS,t,decide_eq_false q];rfl)]
  rw[WB (v:=pP M) (by
   rw[Y1]
   show(Option.bind (Yi [.lst (iL M)]) fun l=>if Z4 l=true then some l else none)=_
   exact Ju (s:=[]))]
  rfl
def Ou(W:List (List Int))(D:List Int)(G:List Nat):PV:=.tup [pP (nL G),.int (Sl (ZV W) (ZA D) G)]
theorem Ov(W:List (List Int))(D:List Int)(l:List (List Nat)):ZG (l.map (Ou W D))=true:=Qb fun G _=>by
 unfold Ou
 simp
theorem Pk{W:List (List Int)}{h:Nat}{F:List Nat}(ok:ZW W)(hh:h<W.length)(hF:∀x∈F,x<W.length)(hl:F.length<=100):YQ [wP W,.int (h:Int),pP (nL F)]=some (.int (Sb (ZV W) h F)):=by
 have hc:Zz 1 [0,1] (Uj (Za 2)) (.one 0) ZL (Ze ZE (Ze ZE (Za 1) (Za 2)) (Za 0)) [some (wP W),some (.int (h:Int)),some (pP (nL F))]=some (.lst (iL (F.map (ZV W h)))):=by
  rw[Yc F (fun(o:Nat)=>.int (o:Int)) (fun o=>.int (ZV W h o)) (by
   rw[SW (l:=iL (nL F)) rfl];unfold nL
   rw[Vu]) (by omega) (fun o ho=>⟨[some (.int (o:Int)),some (wP W),some (.int (h:Int))],rfl,rfl,?_⟩)]
  ·rw[Vu]
  ·have a1:Ze ZE (Za 1) (Za 2) [some (.int (o:Int)),some (wP W),some (.int (h:Int))]=some (pP (ZF W h)):=Sj hh
   rw[ZJ,a1]
   exact Wk (l:=ZF W h) (k:=o) (by rw[ok.sq h hh];exact hF o ho)
 show Xi 3 Wx _=_
 unfold Wx
 show(Ya _ [some (wP W),some (.int (h:Int)),some (pP (nL F))]).bind Xm=_
 rw[WB (vP (a:=Sb (ZV W) h F) (by
  rw[ZC,Zk,hc]
  exact OY _))]
 rfl
def LG(W:List (List Int))(D:List Int):List (List Nat):=((Z7 W.length).drop 1).filter fun G=>decide (Sl (ZV W) (ZA D) G<0)
def Vv(W:List (List Int))(D:List Int):PV:=match LG W D with
 | []=>.non
 | G::_=>pP (nL G)
theorem Tz{W:List (List Int)}(ok:ZW W){D:List Int}(hd:D.length=W.length):YE [wP W,pP D]=some (Vv W D):=by
 have hf:=ok.few
 have p7:∀i,i<=7->(Z7 i).length<=128:=fun i hi=>by
  rw[Ry]
  have:2^i<=2^7:=Nat.pow_le_pow_right (by decide) hi
  omega
 let gs:Nat->List PV:=fun i=>(Z7 i).map (Ou W D)
 let st:Nat->Option PV->Option PV->ZP:=fun i x3 x4=>[some (wP W),some (pP D),some (.lst (gs i)),x3,x4,none]
 let fc:XE:=Zz 2 [3,0,4] (YN (Za 2)) (.many [0,1]) ZL (YT [(Ze S1 (Za 0) (YT [(Za 2)])),(Ze Yt (Ze Zx (Ze Zx (Za 1) (Za 4)) (eC (.int 1))) (Zc YQ [(Za 3),(Za 2),(Za 0)]))])
 let fb:XS:=Zo 2 (Ze W7 (Za 2) fc)
 have e1:Zo 2 (Xt [(eP (YT [(YT []),(RK PM (eC (.int 1)))]))]) [some (wP W),some (pP D),none,none,none,none]=some (.nx (st 0 none none)):=by
  have:gs 0=[.tup [.tup [],.int (-1)]]:=by
   show [Ou W D []]=_
   unfold Ou Sl tw;simp[nL]
  show some (Out.nx [some (wP W),some (pP D),some (.lst [.tup [.tup [],.int (-1)]]),none,none,none])=some (Out.nx [some (wP W),some (pP D),some (.lst (gs 0)),none,none,none])
  rw[this]
 have enumD:Wg (iL D)=(List.range W.length).map fun(i:Nat)=>.tup [.int (i:Int),.int (ZA D i)]:=by
  rw[TQ,List.length_map,hd]
  exact List.map_congr_left fun i hi=>by rw[Iz D i (by rw[hd];exact List.mem_range.mp hi)]
 obtain⟨s',f1,x3,x4,hs⟩:=ZY (T:=.many [3,4]) (fb:=fb) (ls:=Wg (iL D)) (s:=st 0 none none) (fun i s=>∃x3 x4,s=st i x3 x4) ⟨none,none,rfl⟩ (by
  rintro i l s hl ⟨x3,x4,rfl⟩
  have hi:i<W.length:=by
   have:=(List.getElem?_eq_some_iff.mp hl).1
   rw[X8,List.length_map,hd] at this;exact this
  rw[enumD,List.getElem?_map,List.getElem?_range hi] at hl;cases hl
  refine⟨st i (some (.int (i:Int))) (some (.int (ZA D i))),st (i+1) (some (.int (i:Int))) (some (.int (ZA D i))),rfl,?_,_,_,rfl⟩
  have l7:=p7 i (by omega)
  have hc:fc (st i (some (.int (i:Int))) (some (.int (ZA D i))))=some (.lst (((Z7 i).map (·++[i])).map (Ou W D))):=by
   show Zz 2 [3,0,4] (YN (Za 2)) (.many [0,1]) ZL _ _=_
   rw[Yc (Z7 i) (Ou W D) (fun G=>Ou W D (G++[i])) (by rfl) (by omega) (fun G hG=>⟨[some (pP (nL G)),some (.int (Sl (ZV W) (ZA D) G)),some (.int (i:Int)),some (wP W),some (.int (ZA D i))],rfl,rfl,?_⟩)]
   ·rw[List.map_map];rfl
   ·obtain⟨_,lt,ln,_⟩:=US hG
    have ltW:∀g∈G,g<W.length:=fun g hg=>Nat.lt_trans (lt g hg) hi
    have a1:Ze S1 (Za 0) (YT [(Za 2)]) [some (pP (nL G)),some (.int (Sl (ZV W) (ZA D) G)),some (.int (i:Int)),some (wP W),some (.int (ZA D i))]=some (pP (nL (G++[i]))):=by
     show(if(iL (nL G)).length+1<=10000 then some (PV.tup (iL (nL G)++[.int (i:Int)])) else none)=_
     rw[if_pos (by simp[nL];omega)]
     unfold nL;rw[List.map_append]
     show some (PV.tup _)=some (PV.tup (List.map PV.int _))
     rw[List.map_append];rfl
    have a2:Zc YQ [(Za 3),(Za 2),(Za 0)] [some (pP (nL G)),some (.int (Sl (ZV W) (ZA D) G)),some (.int (i:Int)),some (wP W),some (.int (ZA D i))]=some (.int (Sb (ZV W) i G)):=Pk ok hi ltW (by omega)
    have a3:Ze Yt (Ze Zx (Ze Zx (Za 1) (Za 4)) (eC (.int 1))) (Zc YQ [(Za 3),(Za 2),(Za 0)]) [some (pP (nL G)),some (.int (Sl (ZV W) (ZA D) G)),some (.int (i:Int)),some (wP W),some (.int (ZA D i))]=some (.int (Sl (ZV W) (ZA D) (G++[i]))):=by
     rw[Js (ZV W) (n:=W.length) (fun a b ha hb=>ok.sym a b ha hb) (fun a ha=>ok.dia a ha) (ZA D) ltW hi]
     exact vI (op:=(· - ·)) (vI (op:=(· + ·)) (vI (op:=(· + ·)) (a:=Sl (ZV W) (ZA D) G) rfl rfl) rfl) a2
    show(Uz _ _).map PV.tup=_
    rw[Zk,a1,Zk,a3];rfl
  have hcat:Ze W7 (Za 2) fc (st i (some (.int (i:Int))) (some (.int (ZA D i))))=some (.lst (gs (i+1))):=by
   rw[ZJ,hc]
   show(if(gs i).length+(((Z7 i).map (·++[i])).map (Ou W D)).length<=10000/\ZG (gs i)=true/\ZG (((Z7 i).map (·++[i])).map (Ou W D))=true then some (PV.lst (gs i++((Z7 i).map (·++[i])).map (Ou W D))) else none)=_
   rw[if_pos ⟨by simp[gs];omega,Ov W D _,Ov W D _⟩]
   show some (PV.lst ((Z7 i).map (Ou W D)++((Z7 i).map (·++[i])).map (Ou W D)))=some (PV.lst ((Z7 (i+1)).map (Ou W D)))
   rw[Z7,List.map_append]
  show Zo 2 _ _=_
  rw[Zm,hcat];rfl)
 subst hs;rw[X8,List.length_map,hd] at f1
 have e2:Yv [] (UC false [(Za 1)]) (.many [3,4]) fb (st 0 none none)=some (.nx (st W.length x3 x4)):=by
  show(UC false [(Za 1)] (ZM [] (st 0 none none))).bind _=_
  have:UC false [(Za 1)] (ZM [] (st 0 none none))=some (Wg (iL D)):=rfl
  rw[this];exact f1
 have l7:=p7 W.length hf
 have hc:Zz 2 [] (YN (W6 Y6 (Za 2) (Wz (eC (.int 1))) Uk)) (.many [0,1]) (xB (Ze UW (Za 1) (eC (.int 0)))) (eP (Za 0)) (st W.length x3 x4)=some (.lst ((LG W D).map fun G=>pP (nL G))):=by
  have sl:W6 Y6 (Za 2) (Wz (eC (.int 1))) Uk (st W.length x3 x4)=some (.lst (((Z7 W.length).drop 1).map (Ou W D))):=by
   show some (PV.lst (XD (gs W.length) (some ((1:Nat):Int)) none))=_
   rw[Pe _ (by
    show 1<=((Z7 W.length).map (Ou W D)).length
    rw[List.length_map,Ry]
    exact Nat.one_le_two_pow),List.map_drop]
  rw[WX ((Z7 W.length).drop 1) (Ou W D) (fun G=>pP (nL G)) (fun G=>decide (Sl (ZV W) (ZA D) G<0)) (by
   show(W6 Y6 (Za 2) (Wz (eC (.int 1))) Uk (st W.length x3 x4)).bind G9=_
   rw[sl];rfl) (by rw[List.length_drop];omega) (fun G hG=>⟨[some (pP (nL G)),some (.int (Sl (ZV W) (ZA D) G))],rfl,rfl,fun _=>?_⟩)]
  ·rfl
  ·show(some (pP (nL G))).bind _=_
   simp
 have e3:Zo 5 (Zz 2 [] (YN (W6 Y6 (Za 2) (Wz (eC (.int 1))) Uk)) (.many [0,1]) (xB (Ze UW (Za 1) (eC (.int 0)))) (eP (Za 0))) (st W.length x3 x4)=some (.nx [some (wP W),some (pP D),some (.lst (gs W.length)),x3,x4,some (.lst ((LG W D).map fun G=>pP (nL G)))]):=by
  rw[Zm,hc];rfl
 show Xi 6 Xb _=_
 unfold Xb
 show(Zn _ _ [some (wP W),some (pP D),none,none,none,none]).bind Xm=_
 rw[Zy e1,Zy e2,Zy e3]
 rw[WB (v:=Vv W D) (by
  rw[Y1,QL]
  have t:xB (Ze RG (Zc Zw [(Za 5)]) (eC (.int 0))) [some (wP W),some (pP D),some (.lst (gs W.length)),x3,x4,some (.lst ((LG W D).map fun G=>pP (nL G)))]=some (decide (0<(LG W D).length)):=by
   show some (decide ((((LG W D).map fun G=>pP (nL G)).length:Int)>0))=_
   rw[List.length_map]
   congr 1
   exact decide_eq_decide.mpr (by omega)
  rw[t,Option.bind_some];unfold Vv
  cases q:LG W D with
  | nil=>rfl
  | cons G r=>
   rw[List.length_cons,decide_eq_true (by omega),if_pos rfl]
   have:Ze ZE (Za 5) (eC (.int 0)) [some (wP W),some (pP D),some (.lst (gs W.length)),x3,x4,some (.lst ((G::r).map fun G=>pP (nL G)))]=some (pP (nL G)):=UE (l:=(G::r).map fun G=>pP (nL G)) (k:=0) rfl
   rw[this]
   simp)]
 rfl
theorem Mv{n:Nat}{G:List Nat}(h:G∈(Z7 n).drop 1):G∈Z7 n/\G≠[]:=by
 obtain⟨r,e,hr⟩:=Tv n
 rw[e] at h ⊢
 have h':G∈r:=by simpa using h
 exact⟨List.mem_cons_of_mem _ h',hr G h'⟩
theorem LC{n:Nat}{G:List Nat}(h:G∈Z7 n)(ne:G≠[]):G∈(Z7 n).drop 1:=by
 obtain⟨r,e,hr⟩:=Tv n
 rw[e] at h ⊢
 rcases List.mem_cons.mp h with z | z
 ·exact absurd z ne
 ·simpa using z
theorem Hq{G:List Nat}(h:G.Pairwise (· < ·)):G.Nodup:=h.imp fun z=>by omega
theorem JK{W:List (List Int)}(ok:ZW W){D:List Int}(hd:D.length=W.length)(ht:D.sum=((eW W).length:Int)-(W.length:Int)+1):Sl (ZV W) (ZA D) (List.range W.length)=0:=by
 unfold Sl
 have h1:((List.range W.length).map (ZA D)).sum=D.sum:=by rw[UR,Nx D,hd]
 have h2:=Mq ok (G:=List.range W.length) List.nodup_range fun g hg=>List.mem_range.mp hg
 rw[Hl] at h2;rw[h1,h2,List.length_range,ht];omega
theorem ND{f:XE}{s:ZP}{Y:PV}{m:List PV}(h:f s=some Y)(hY:Y = .lst m\/Y = .tup m):Md f s=some m:=by
 unfold Md
 rcases hY with rfl | rfl
 ·have:YN f s=some m:=by unfold YN;rw[h];rfl
  rw[this]
 ·have:YN f s=none:=by unfold YN;rw[h];rfl
  rw[this]
  exact SW h
theorem JL{f:Nat->Int}{G:List Nat}{i:Nat}(hi:i<G.length):((G.take (i+1)).map f).sum=((G.take i).map f).sum+f G[i]:=by
 rw[List.take_succ_eq_append_getElem hi,List.map_append,List.sum_append]
 simp
theorem LD{W:List (List Int)}(ok:ZW W){G:List Nat}(hG:∀g∈G,g<W.length)(hl:G.length<=100){Y:PV}(hY:Y = .lst (iL (nL G))\/Y = .tup (iL (nL G))):Vr [wP W,Y]=some (.int (tw (ZV W) G/2-(G.length:Int)+1)):=by
 let st:Int->Option PV->ZP:=fun t x3=>[some (wP W),some Y,some (.int t),x3]
 let part:Nat->Int:=fun i=>((G.take i).map fun a=>Sb (ZV W) a G).sum
 let fb:XS:=Zo 2 (eP (Ze Zx (Za 2) (Zc X1 [(Zz 1 [0,3] (Md (Za 1)) (.one 0) ZL (Ze ZE (Ze ZE (Za 1) (Za 2)) (Za 0)))])))
 obtain⟨s',f1,x3,hs⟩:=ZY (T:=.one 3) (fb:=fb) (ls:=iL (nL G)) (s:=st 0 none) (fun i s=>∃x3,s=st (part i) x3) ⟨none,by simp[part,st]⟩ (by
  rintro i l s hl' ⟨x3,rfl⟩
  have hi:i<G.length:=by
   have:=(List.getElem?_eq_some_iff.mp hl').1
   simpa [nL] using this
  have el:l = .int ((G[i]:Nat):Int):=by
   rw[Tc (by simpa [nL] using hi)] at hl'
   have:=Option.some.inj hl'
   rw[<-this];simp[nL,ZA,hi]
  subst el
  have hx:G[i]<W.length:=hG _ (List.getElem_mem hi)
  have hc:Zz 1 [0,3] (Md (Za 1)) (.one 0) ZL (Ze ZE (Ze ZE (Za 1) (Za 2)) (Za 0)) (st (part i) (some (.int ((G[i]:Nat):Int))))=some (.lst (iL (G.map (ZV W G[i])))):=by
   rw[Yc G (fun(o:Nat)=>.int (o:Int)) (fun o=>.int (ZV W G[i] o)) (by
    rw[ND (Y:=Y) (m:=iL (nL G)) rfl hY];unfold nL
    rw[Vu]) (by omega) (fun o ho=>⟨[some (.int (o:Int)),some (wP W),some (.int ((G[i]:Nat):Int))],rfl,rfl,?_⟩)]
   ·rw[Vu]
   ·have a1:Ze ZE (Za 1) (Za 2) [some (.int (o:Int)),some (wP W),some (.int ((G[i]:Nat):Int))]=some (pP (ZF W G[i])):=Sj hx
    rw[ZJ,a1]
    exact Wk (l:=ZF W G[i]) (k:=o) (by rw[ok.sq _ hx];exact hG o ho)
  have hsum:Zc X1 [(Zz 1 [0,3] (Md (Za 1)) (.one 0) ZL (Ze ZE (Ze ZE (Za 1) (Za 2)) (Za 0)))] (st (part i) (some (.int ((G[i]:Nat):Int))))=some (.int (Sb (ZV W) G[i] G)):=by
   rw[ZC,Zk,hc]
   exact OY _
  refine⟨st (part i) (some (.int ((G[i]:Nat):Int))),st (part (i+1)) (some (.int ((G[i]:Nat):Int))),rfl,?_,_,rfl⟩
  show Zo 2 _ _=_
  have e:part (i+1)=part i+Sb (ZV W) G[i] G:=JL hi
  rw[Zm,vP (a:=part (i+1)) (by rw[e];exact vI (op:=(· + ·)) (a:=part i) rfl hsum)];rfl)
 subst hs
 rw[show(iL (nL G)).length=G.length by simp[nL]] at f1
 have pe:part G.length=tw (ZV W) G:=by
  show((G.take G.length).map fun a=>Sb (ZV W) a G).sum=_
  rw[List.take_length];rfl
 rw[pe] at f1
 have e2:Yv [] (Md (Za 1)) (.one 3) fb (st 0 none)=some (.nx (st (tw (ZV W) G) x3)):=by
  show(Md (Za 1) (ZM [] (st 0 none))).bind _=_
  rw[ND (Y:=Y) (m:=iL (nL G)) rfl hY];exact f1
 have ln:Zc Zw [(Za 1)] (st (tw (ZV W) G) x3)=some (.int (G.length:Int)):=by
  have:Zw [Y]=some (.int (G.length:Int)):=by
   rcases hY with rfl | rfl
   ·show some (PV.int ((iL (nL G)).length:Int))=_
    simp[nL]
   ·show some (PV.int ((iL (nL G)).length:Int))=_
    simp[nL]
  exact this
 show Xi 4 UQ _=_
 unfold UQ
 show(Zn _ _ [some (wP W),some Y,none,none]).bind Xm=_
 rw[Zy (s1:=st 0 none) rfl,Zy e2];rw[WB (vP (a:=tw (ZV W) G/2-(G.length:Int)+1) (vI (op:=(· + ·)) (vI (op:=(· - ·)) (vC (C:=Vb) (op:=(· / ·)) (a:=tw (ZV W) G) rfl rfl (QM (by decide) (by decide))) ln) rfl))];rfl
theorem RD{W:List (List Int)}(ok:ZW W){D:List Int}(hd:D.length=W.length){G:List Nat}(hG:∀g∈G,g<W.length)(hl:G.length<=100){Y:PV}(hY:Y = .lst (iL (nL G))\/Y = .tup (iL (nL G))):YW [wP W,pP D,Y]=some (.bl (decide (Sl (ZV W) (ZA D) G<0))):=by
 have hc:Zz 1 [1] (Md (Za 2)) (.one 0) ZL (Ze ZE (Za 1) (Za 0)) [some (wP W),some (pP D),some Y]=some (.lst (iL (G.map (ZA D)))):=by
  rw[Yc G (fun(o:Nat)=>.int (o:Int)) (fun o=>.int (ZA D o)) (by
   rw[ND (Y:=Y) (m:=iL (nL G)) rfl hY];unfold nL
   rw[Vu]) (by omega) (fun o ho=>⟨[some (.int (o:Int)),some (pP D)],rfl,rfl,Jw hd o (hG o ho)⟩)]
  rw[Vu]
 have hs:Zc X1 [(Zz 1 [1] (Md (Za 2)) (.one 0) ZL (Ze ZE (Za 1) (Za 0)))] [some (wP W),some (pP D),some Y]=some (.int (G.map (ZA D)).sum):=by
  rw[ZC,Zk,hc]
  exact OY _
 have hn:Zc Vr [(Za 0),(Za 2)] [some (wP W),some (pP D),some Y]=some (.int (tw (ZV W) G/2-(G.length:Int)+1)):=LD ok hG hl hY
 show Xi 3 V0 _=_
 unfold V0
 show(Ya _ [some (wP W),some (pP D),some Y]).bind Xm=_
 rw[WB (v:=.bl (decide (Sl (ZV W) (ZA D) G<0))) (by
  rw[Y1,ZJ,hs,hn]
  show some (PV.bl (decide ((G.map (ZA D)).sum<tw (ZV W) G/2-(G.length:Int)+1)))=_
  congr 2
  refine decide_eq_decide.mpr ?_
  unfold Sl
  omega)]
 rfl
theorem NF(x:Nat):PySem.Builtin.bitAnd (x:Int) 1=((x%2:Nat):Int):=by
 unfold PySem.Builtin.bitAnd
 have h1:decide ((0:Int)<=1)=true:=by decide
 have h2:decide (0<=(x:Int))=true:=decide_eq_true (by omega)
 rw[h1,h2]
 show(((x:Int).toNat&&& (1:Int).toNat:Nat):Int)=_
 rw[Int.toNat_natCast]
 congr 1
 exact Nat.and_one_is_mod x
theorem RE{W:List (List Int)}(ok:ZW W){D:List Int}(hd:D.length=W.length)(h:∀G∈(Z7 W.length).drop 1,¬Sl (ZV W) (ZA D) G<0):YG [wP W,pP D]=some (.bl true):=by
 have hf:=ok.few
 obtain⟨P,hP⟩:∃P:Nat,P=2^W.length:=⟨_,rfl⟩
 have p7:P<=128:=by
  have:2^W.length<=2^7:=Nat.pow_le_pow_right (by decide) hf
  omega
 let st:Option PV->ZP:=fun x2=>[some (wP W),some (pP D),x2]
 have lenW:∀x2,Zc Zw [(Za 0)] (st x2)=some (.int (W.length:Int)):=fun x2=>by
  show some (PV.int ((W.map pP).length:Int))=_
  rw[List.length_map]
 let fc:XE:=Zz 1 [2] (ZI [(Zc Zw [(Za 0)])]) (.one 0) (xB (Ze (Xs false) (Ze OL (Ze QA (Za 1) (Za 0)) (eC (.int 1))) (eC (.int 1)))) (Za 0)
 let fb:XS:=WG (xB (Zc YW [(Za 0),(Za 1),fc])) (Ya (eP (eC (.bl false)))) ZX
 obtain⟨s',f1,x2,hs⟩:=ZY (T:=.one 2) (fb:=fb) (ls:=XC 1 (P-1)) (s:=st none) (fun _ s=>∃x2,s=st x2) ⟨none,rfl⟩ (by
  rintro i l s hl ⟨x2,rfl⟩
  obtain⟨hi,rfl⟩:=Vm hl
  have ci:(1:Int)+(i:Int)=((1+i:Nat):Int):=by omega
  rw[ci]
  let M:=1+i
  let G:=(List.range W.length).filter fun k=>M.testBit k
  have hc:fc (st (some (.int (M:Int))))=some (.lst (iL (nL G))):=by
   show Zz 1 [2] _ _ _ _ _=_
   rw[WX (List.range W.length) (fun(k:Nat)=>.int (k:Int)) (fun(k:Nat)=>.int (k:Int)) (fun k=>M.testBit k) (Yd (lenW _) (by omega)) (by simp;omega) (fun k hk=>⟨[some (.int (k:Int)),some (.int (M:Int))],rfl,?_,fun _=>rfl⟩)]
   ·show _=some (PV.lst (iL (nL ((List.range W.length).filter fun k=>M.testBit k))))
    unfold nL;rw[Vu]
   ·have a:Ze QA (Za 1) (Za 0) [some (.int (k:Int)),some (.int (M:Int))]=some (.int ((M/2^k:Nat):Int)):=by
     have:=vC (C:=fun _ j=>0<=j) (op:=fun i j=>i/2^j.toNat) (f:=Za 1) (g:=Za 0) (s:=[some (.int (k:Int)),some (.int (M:Int))]) (a:=(M:Int)) (b:=(k:Int)) rfl rfl (by omega)
     have e:(M:Int)/2^(k:Int).toNat=((M/2^k:Nat):Int):=by
      rw[Int.toNat_natCast,show(2:Int)^k=((2^k:Nat):Int) by rw[Int.natCast_pow];rfl]
      exact(Int.natCast_ediv _ _).symm
     rw[<-e];exact this
    have b:Ze OL (Ze QA (Za 1) (Za 0)) (eC (.int 1)) [some (.int (k:Int)),some (.int (M:Int))]=some (.int ((M/2^k%2:Nat):Int)):=by
     rw[vI (op:=PySem.Builtin.bitAnd) a (show eC (.int 1) [some (.int (k:Int)),some (.int (M:Int))]=some (.int 1) from rfl),NF]
    rw[Yy,ZJ,b]
    show(Xs false (.int ((M/2^k%2:Nat):Int)) (.int 1)).bind MY=_
    rw[Wl]
    show some (decide (((M/2^k%2:Nat):Int)=1))=_
    congr 1
    rw[Nat.testBit_eq_decide_div_mod_eq]
    exact decide_eq_decide.mpr (by omega)
  have hG:∀g∈G,g<W.length:=fun g hg=>List.mem_range.mp (List.mem_filter.mp hg).1
  have lG:G.length<=100:=Nat.le_trans (List.length_filter_le _ _) (by simp;omega)
  have ne:G≠[]:=by
   obtain⟨k,hk,hb⟩:=Jr (k:=M) (n:=W.length) (by omega) (by rw[<-hP];show 1+i<P;omega)
   exact List.ne_nil_of_mem (List.mem_filter.mpr ⟨List.mem_range.mpr hk,hb⟩)
  have hin:G∈(Z7 W.length).drop 1:=LC (T2 _ _) ne
  have t:xB (Zc YW [(Za 0),(Za 1),fc]) (st (some (.int (M:Int))))=some false:=by
   have:Zc YW [(Za 0),(Za 1),fc] (st (some (.int (M:Int))))=some (.bl false):=by
    rw[ZC,Zk,Zk,Zk,hc]
    have:=RD ok hd hG lG (Y:=.lst (iL (nL G))) (.inl rfl)
    rw[decide_eq_false (h G hin)] at this;exact this
   rw[Yy,this];rfl
  refine⟨st (some (.int (M:Int))),st (some (.int (M:Int))),rfl,?_,_,rfl⟩
  show WG _ _ _ _=_
  rw[ZS,t];rfl)
 subst hs
 have e1:Yv [] (YZ [(eC (.int 1)),(Ze Kd (eC (.int 1)) (Zc Zw [(Za 0)]))]) (.one 2) fb (st none)=some (.nx (st x2)):=by
  show(YZ [(eC (.int 1)),(Ze Kd (eC (.int 1)) (Zc Zw [(Za 0)]))] (ZM [] (st none))).bind _=_
  have a:Ze Kd (eC (.int 1)) (Zc Zw [(Za 0)]) (ZM [] (st none))=some (.int (P:Int)):=by
   have:=vC (C:=LR) (op:=fun i j=>i*2^j.toNat) (f:=eC (.int 1)) (g:=Zc Zw [(Za 0)]) (s:=ZM [] (st none)) (a:=1) (b:=(W.length:Int)) rfl (lenW none) ⟨by omega,by omega,by decide⟩
   have e:(1:Int)*2^(W.length:Int).toNat=(P:Int):=by
    rw[Int.toNat_natCast,Int.one_mul,hP,Int.natCast_pow];rfl
   rw[<-e];exact this
  rw[WK (i:=1) (j:=(P:Int)) rfl a (by omega) (by omega),show((P:Int)-1).toNat=P-1 by omega];exact f1
 show Xi 3 Xz _=_
 unfold Xz
 show(Zn _ _ (st none)).bind Xm=_
 rw[Zy e1];rfl
def LH(W:List (List Int)):Int:=((eW W).length:Int)-(W.length:Int)+1
theorem RF{W:List (List Int)}(ok:ZW W)(D:List Int):xB (Ze (Xs true) (Zc YM [(Za 1)]) (Zc Xn [(Za 0)])) [some (wP W),some (pP D)]=some (!decide (D.sum=LH W)):=by
 have a:Zc YM [(Za 1)] [some (wP W),some (pP D)]=some (.int D.sum):=Oe D
 have b:Zc Xn [(Za 0)] [some (wP W),some (pP D)]=some (.int (LH W)):=JG ok
 rw[Yy,ZJ,a,b]
 show(Xs true (.int D.sum) (.int (LH W))).bind MY=_
 rw[Wl];rfl
theorem Uq{W:List (List Int)}(ok:ZW W){D:List Int}(hd:D.length=W.length)(ht:D.sum=LH W):Z2 [wP W,pP D]=some (Vv W D):=by
 have hr:Yz [wP W,pP D]=some .non:=by
  show Xi 2 Xp _=_
  unfold Xp
  show(WG _ _ _ [some (wP W),some (pP D)]).bind Xm=_
  rw[ZS,RF ok D,decide_eq_true ht];rfl
 have e1:HY (Zc Yz [(Za 0),(Za 1)]) [some (wP W),some (pP D)]=some (.nx [some (wP W),some (pP D)]):=by
  have:Zc Yz [(Za 0),(Za 1)] [some (wP W),some (pP D)]=some .non:=hr
  unfold HY
  rw[this];rfl
 show Xi 2 VZ _=_
 unfold VZ
 show(Zn _ _ [some (wP W),some (pP D)]).bind Xm=_
 rw[Zy e1,WB (show Zc YE [(Za 0),(Za 1)] [some (wP W),some (pP D)]=some (Vv W D) from Tz ok hd)]
 rfl
theorem NG{W:List (List Int)}(ok:ZW W){D:List Int}(ht:D.sum=LH W):YV [wP W,pP D]=none:=by
 show Fs 2 _ _=_
 show RO (TY ZN [(Za 0),(Za 1)]) Um IP [some (wP W),some (pP D)]=none
 have:TY ZN [(Za 0),(Za 1)] [some (wP W),some (pP D)]=none:=by
  show ZN [wP W,pP D]=none
  show HV _ _ _ [some (wP W),some (pP D)]=none
  unfold HV
  rw[RF ok D,decide_eq_true ht];rfl
 unfold RO
 rw[this];rfl
theorem T4{m:Int}(h0 : -1000<=m)(h1:m<=1000):P8 (.int m)=true:=by
 refine decide_eq_true ?_
 have:m.natAbs.log2<=1000:=Nat.le_trans (Nat.log2_le_self _) (by omega)
 omega
theorem Ox{W:List (List Int)}(ok:ZW W){D:List Int}(ht:D.sum≠LH W)(h0 : -1000<=D.sum)(h1:D.sum<=1000):YV [wP W,pP D]=some (("NoTotal" : PySem.Str),PV.int D.sum):=by
 show RO (TY ZN [(Za 0),(Za 1)]) Um IP [some (wP W),some (pP D)]=_
 have:TY ZN [(Za 0),(Za 1)] [some (wP W),some (pP D)]=some (("NoTotal" : PySem.Str),PV.int D.sum):=by
  show ZN [wP W,pP D]=_
  show HV _ _ _ [some (wP W),some (pP D)]=_
  unfold HV;rw[RF ok D,decide_eq_false ht]
  show Th "NoTotal" (Zc YM [(Za 1)]) [some (wP W),some (pP D)]=_
  unfold Th
  have a:Zc YM [(Za 1)] [some (wP W),some (pP D)]=some (.int D.sum):=Oe D
  rw[a,Option.bind_some,if_pos (T4 h0 h1)]
 unfold RO;rw[this]
theorem NH{W:List (List Int)}(ok:ZW W)(h5:W.length<=5){D:List Int}(hd:D.length=W.length)(ht:D.sum=LH W):Xy [wP W,pP D]=some (.bl true):=by
 have e1:Zo 2 (Zc Z2 [(Za 0),(Za 1)]) [some (wP W),some (pP D),none]=some (.nx [some (wP W),some (pP D),some (Vv W D)]):=by
  have:Zc Z2 [(Za 0),(Za 1)] [some (wP W),some (pP D),none]=some (Vv W D):=Uq ok hd ht
  rw[Zm,this];rfl
 show Xi 3 V1 _=_
 unfold V1
 show(Zn _ _ [some (wP W),some (pP D),none]).bind Xm=_
 rw[Zy e1];unfold Vv
 cases q:LG W D with
 | nil=>
  have none:∀G∈(Z7 W.length).drop 1,¬Sl (ZV W) (ZA D) G<0:=fun G hG z=>by
   have:G∈LG W D:=List.mem_filter.mpr ⟨hG,decide_eq_true z⟩
   rw[q] at this
   simp at this
  rw[Jt (v:=.bl true)]
  ·rfl
  ·have t:xB (WR false (Za 2)) [some (wP W),some (pP D),some .non]=some true:=rfl
   show WG (xB (WR false (Za 2))) _ _ [some (wP W),some (pP D),some .non]=_
   rw[ZS,t,Option.bind_some,if_pos rfl]
   exact WB (show Zc YG [(Za 0),(Za 1)] [some (wP W),some (pP D),some .non]=some (.bl true) from RE ok hd none)
 | cons G r=>
  have hG:G∈LG W D:=by rw[q];simp
  obtain⟨hG1,hG2⟩:=List.mem_filter.mp hG
  have neg:Sl (ZV W) (ZA D) G<0:=of_decide_eq_true hG2
  obtain⟨hG3,ne⟩:=Mv hG1
  obtain⟨ris,lt,ln,Jg⟩:=US hG3
  have l4:G.length<=4:=by
   by_cases z:G.length=W.length
   ·rw[Jg z,JK ok hd ht] at neg
    omega
   ·omega
  have lp:0<G.length:=List.length_pos_iff.mpr ne
  let s:ZP:=[some (wP W),some (pP D),some (pP (nL G))]
  show(Zn _ _ s).bind Xm=_
  have c0:WG (xB (WR false (Za 2))) (Ya (Zc YG [(Za 0),(Za 1)])) ZX s=some (.nx s):=by
   have t:xB (WR false (Za 2)) s=some false:=rfl
   rw[ZS,t];rfl
  have lnG:Zc Zw [(Za 2)] s=some (.int (G.length:Int)):=by
   show some (PV.int ((iL (nL G)).length:Int))=_
   simp[nL]
  have hc:Zz 1 [] (Uj (Za 2)) (.one 0) ZL (Zc Yl [(Za 0)]) s=some (.lst (((nL G).map fun _=>true).map PV.bl)):=by
   rw[Yc (nL G) PV.int (fun _=>.bl true) (SW (by rfl)) (by simp[nL];omega) (fun i hi=>⟨[some (.int i)],rfl,rfl,Of i⟩),List.map_map]
   rfl
  have c1:WG (R5 (U9 (xB (Zc Vj [(Za 2),(eC (.ty "tuple"))]))) (R5 (xB (Ze (Xs false) (Zc Zw [(Za 2)]) (eC (.int 0)))) (U9 (xB (Zc PQ [(Zz 1 [] (Uj (Za 2)) (.one 0) ZL (Zc Yl [(Za 0)]))]))))) (Ya (eP (eC (.bl false)))) ZX s=some (.nx s):=by
   have t1:Zc Vj [(Za 2),(eC (.ty "tuple"))] s=some (.bl true):=by simp[s]
   have t2:xB (Ze (Xs false) (Zc Zw [(Za 2)]) (eC (.int 0))) s=some false:=by
    rw[Yy,ZJ,lnG]
    show(Xs false (.int (G.length:Int)) (.int 0)).bind MY=_
    rw[Wl]
    show some (decide ((G.length:Int)=0))=_
    rw[decide_eq_false (by omega)]
   have t3:Zc PQ [(Zz 1 [] (Uj (Za 2)) (.one 0) ZL (Zc Yl [(Za 0)]))] s=some (.bl true):=by
    rw[ZC,Zk,hc]
    show PQ [.lst (((nL G).map fun _=>true).map PV.bl)]=_
    rw[Fg]
    simp
   rw[ZS,Wu,UD,Yy,t1];simp only[Option.bind_some,Ff,Option.map_some,Bool.not_true,Bool.false_eq_true,if_false];rw[Wu,t2];simp only[Option.bind_some,Bool.false_eq_true,if_false]
   rw[UD,Yy,t3];rfl
  have ss:Fp (pP (nL G))=some (.lst (iL (nL G))):=by
   show(Xx (iL (nL G))).bind (fun ns=>if IG ns=true then some (PV.lst (iL ns)) else none)=_
   rw[XB,Option.bind_some,if_pos];unfold IG;simp only[Bool.and_eq_true,decide_eq_true_eq,List.all_eq_true]
   refine⟨⟨?_,fun k hk=>?_⟩,by simpa [nL] using l4⟩
   ·unfold nL
    exact List.pairwise_map.mpr (ris.imp fun z=>by omega)
   ·unfold nL at hk
    obtain⟨g,hg,rfl⟩:=List.mem_map.mp hk
    have:=lt g hg
    omega
  have g0:∃a:Nat,ZE (pP (nL G)) (.int 0)=some (.int (a:Int)):=by
   have:=Jw (l:=nL G) (n:=G.length) (by simp[nL]) 0 lp
   refine⟨G[0],?_⟩
   rw[show((0:Nat):Int)=(0:Int) from rfl] at this;rw[this];simp[nL,ZA,lp]
  have g1:∃a:Nat,a<W.length/\ZE (pP (nL G)) (.int (-1))=some (.int (a:Int)):=by
   refine⟨G[G.length-1],lt _ (List.getElem_mem (by omega)),?_⟩
   show U2 (iL (nL G)) (-1)=_
   have e:U2 (iL (nL G)) (-1)=(iL (nL G))[G.length-1]?:=by
    unfold U2
    have:(iL (nL G)).length=G.length:=by simp[nL]
    rw[this]
    have e2:Pl G.length (-1)=some (G.length-1):=by
     unfold Pl;rw[if_neg (by decide),if_pos (by omega)]
     congr 1
     omega
    rw[e2];rfl
   rw[e,Tc (by simp[nL];omega)]
   have h9:ZA (nL G) (G.length-1)=((G[G.length-1]:Nat):Int):=by
    unfold ZA nL
    rw[List.getD_eq_getElem?_getD,List.getElem?_map,List.getElem?_eq_getElem (by omega)];rfl
   rw[h9]
  obtain⟨a0,ga⟩:=g0
  obtain⟨a1,la,gb⟩:=g1
  have c2:WG (R5 (xB (Ze (Xs true) (Zc Wf [(Za 2)]) (RK Fp (Za 2)))) (R5 (xB (Ze UW (Ze ZE (Za 2) (eC (.int 0))) (eC (.int 0)))) (xB (Ze EM (Ze ZE (Za 2) (RK PM (eC (.int 1)))) (Zc Zw [(Za 0)]))))) (Ya (eP (eC (.bl false)))) ZX s=some (.nx s):=by
   have t1:xB (Ze (Xs true) (Zc Wf [(Za 2)]) (RK Fp (Za 2))) s=some false:=by
    have a:Zc Wf [(Za 2)] s=some (.lst (iL (nL G))):=by
     show(if ZG (iL (nL G))=true then some (PV.lst (iL (nL G))) else none)=_
     rw[if_pos (Yk (nL G))]
    have b:RK Fp (Za 2) s=some (.lst (iL (nL G))):=ss
    rw[Yy,ZJ,a,b]
    show(Xs true (.lst ((nL G).map PV.int)) (.lst ((nL G).map PV.int))).bind MY=_
    rw[Fi]
    simp
   have t2:xB (Ze UW (Ze ZE (Za 2) (eC (.int 0))) (eC (.int 0))) s=some false:=by
    have a:Ze ZE (Za 2) (eC (.int 0)) s=some (.int (a0:Int)):=ga
    rw[Yy,ZJ,a]
    show some (decide ((a0:Int)<0))=_
    rw[decide_eq_false (by omega)]
   have t3:xB (Ze EM (Ze ZE (Za 2) (RK PM (eC (.int 1)))) (Zc Zw [(Za 0)])) s=some false:=by
    have a:Ze ZE (Za 2) (RK PM (eC (.int 1))) s=some (.int (a1:Int)):=gb
    have b:Zc Zw [(Za 0)] s=some (.int (W.length:Int)):=by
     show some (PV.int ((W.map pP).length:Int))=_
     rw[List.length_map]
    rw[Yy,ZJ,a,b]
    show some (decide ((a1:Int) ≥ (W.length:Int)))=_
    rw[decide_eq_false (by omega)]
   rw[ZS,Wu,t1];simp only[Option.bind_some,Bool.false_eq_true,if_false];rw[Wu,t2];simp only[Option.bind_some,Bool.false_eq_true,if_false]
   rw[t3];rfl
  rw[Zy c0,Zy c1,Zy c2,WB (v:=.bl true) (by
   have:=RD ok hd lt (by omega) (Y:=pP (nL G)) (.inr rfl)
   rw[decide_eq_true neg] at this
   exact this)]
  rfl
theorem NI{W:List (List Int)}(ok:ZW W){D:List Int}(hd:D.length=W.length)(ht:D.sum=LH W)(c:Int):Z9 [wP W,pP D,.int c]=some (.bl true):=by
 have hp:=ok.pos
 have le:=(V3 ok).2
 have hf:=ok.few
 obtain⟨v,hv,ev⟩:=Z8 c (t:=127) (m:=5) (by omega) (by omega)
 let E:List Int:=(ZA D 0+(v:Int)-2)::D.drop 1
 have lE:E.length=W.length:=by show(D.drop 1).length+1=_;rw[List.length_drop];omega
 have sE:E.sum=D.sum+(v:Int)-2:=by
  obtain⟨a,r,e⟩:∃a r,D=a::r:=by
   cases q:D with
   | nil=>rw[q] at hd;simp at hd;omega
   | cons a r=>exact⟨a,r,rfl⟩
  show((ZA D 0+(v:Int)-2)::D.drop 1).sum=_
  rw[e];simp[ZA];omega
 have lo : -10<=D.sum/\D.sum<=900:=by rw[ht];unfold LH;omega
 let st:Option PV->Option PV->ZP:=fun x3 x4=>[some (wP W),some (pP D),some (.int c),x3,x4,none]
 have e1:Zo 3 (eP (eC .non)) (st none none)=some (.nx (st (some .non) none)):=rfl
 have e2:Zo 4 (eP (Ze S1 (YT [(Ze Yt (Ze Zx (Ze ZE (Za 1) (eC (.int 0))) (Zc Zj [(Za 2),(eC (.int 127)),(eC (.int 5))])) (eC (.int 2)))]) (W6 OT (Za 1) (Wz (eC (.int 1))) Uk))) (st (some .non) none)=some (.nx (st (some .non) (some (pP E)))):=by
  have a1:Ze ZE (Za 1) (eC (.int 0)) (st (some .non) none)=some (.int (ZA D 0)):=Jw hd 0 hp
  have a2:Zc Zj [(Za 2),(eC (.int 127)),(eC (.int 5))] (st (some .non) none)=some (.int (v:Int)):=ev
  have a3:Ze Yt (Ze Zx (Ze ZE (Za 1) (eC (.int 0))) (Zc Zj [(Za 2),(eC (.int 127)),(eC (.int 5))])) (eC (.int 2)) (st (some .non) none)=some (.int (ZA D 0+(v:Int)-2)):=vI (op:=(· - ·)) (vI (op:=(· + ·)) a1 a2) rfl
  have a4:W6 OT (Za 1) (Wz (eC (.int 1))) Uk (st (some .non) none)=some (pP (D.drop 1)):=by
   show OT (pP D) (some ((1:Nat):Int)) none=_
   have lD:(iL D).length=D.length:=List.length_map ..
   have h1:HT.sIx (iL D).length 0 (some ((1:Nat):Int))=1:=by
    rw[lD];unfold HT.sIx
    simp
    omega
   show(if HT.sIx (iL D).length 0 (some ((1:Nat):Int))=0/\HT.sIx (iL D).length (iL D).length none=(iL D).length then none else some (PV.tup (XD (iL D) (some ((1:Nat):Int)) none)))=_
   rw[if_neg (by rw[h1];omega),Pe _ (by rw[lD];omega)]
   show some (PV.tup ((D.map PV.int).drop 1))=some (PV.tup ((D.drop 1).map PV.int))
   rw[List.map_drop]
  have a5:YT [(Ze Yt (Ze Zx (Ze ZE (Za 1) (eC (.int 0))) (Zc Zj [(Za 2),(eC (.int 127)),(eC (.int 5))])) (eC (.int 2)))] (st (some .non) none)=some (.tup [.int (ZA D 0+(v:Int)-2)]):=by
   show(Uz _ _).map PV.tup=_
   rw[Zk,a3];rfl
  have a6:Ze S1 (YT [(Ze Yt (Ze Zx (Ze ZE (Za 1) (eC (.int 0))) (Zc Zj [(Za 2),(eC (.int 127)),(eC (.int 5))])) (eC (.int 2)))]) (W6 OT (Za 1) (Wz (eC (.int 1))) Uk) (st (some .non) none)=some (pP E):=by
   rw[ZJ,a5,a4]
   show(if 1+(iL (D.drop 1)).length<=10000 then some (PV.tup ([.int (ZA D 0+(v:Int)-2)]++iL (D.drop 1))) else none)=_
   rw[if_pos (by simp;omega)];rfl
  rw[Zm,Y1,a6]
  rw[Option.bind_some,if_pos (show Z4 (pP E)=true by simp)];rfl
 let fO:XS:=HX (TV YV [(Za 0),(Za 4)] 5 (Zo 3 (eP (TX "NoTotal" (Za 5))))) (HY (Zc Z2 [(Za 0),(Za 4)]))
 have sm:∀x3,xB (Ze (Xs false) (Zc X1 [(Za 4)]) (Zc X1 [(Za 1)])) (st x3 (some (pP E)))=some (decide (E.sum=D.sum)):=fun x3=>by
  have a:Zc X1 [(Za 4)] (st x3 (some (pP E)))=some (.int E.sum):=OX _
  have b:Zc X1 [(Za 1)] (st x3 (some (pP E)))=some (.int D.sum):=OX _
  rw[Yy,ZJ,a,b]
  show(Xs false (.int E.sum) (.int D.sum)).bind MY=_
  rw[Wl];rfl
 have ea:Uz [(Za 0),(Za 4)] (st (some .non) (some (pP E)))=some [wP W,pP E]:=rfl
 show Xi 6 Xc _=_
 unfold Xc
 show(Zn _ _ (st none none)).bind Xm=_
 by_cases q:E.sum=D.sum
 ·have e3:fO (st (some .non) (some (pP E)))=some (.nx (st (some .non) (some (pP E)))):=by
   have h1:TV YV [(Za 0),(Za 4)] 5 (Zo 3 (eP (TX "NoTotal" (Za 5)))) (st (some .non) (some (pP E)))=none:=by
    unfold TV
    rw[ea,Option.bind_some,NG ok (by rw[q,ht])];rfl
   show HX _ _ _=_
   unfold HX;rw[h1]
   have:Zc Z2 [(Za 0),(Za 4)] (st (some .non) (some (pP E)))=some (Vv W E):=Uq ok lE (by rw[q,ht])
   show HY _ _=_
   unfold HY
   rw[this];rfl
  rw[Zy e1,Zy e2,Zy e3,Jt (v:=.bl true)]
  ·rfl
  ·rw[ZS,sm,decide_eq_true q,Option.bind_some,if_pos rfl]
   rfl
 ·have e3:fO (st (some .non) (some (pP E)))=some (.nx (st (some (.int E.sum)) (some (pP E)))):=by
   have f:TX "NoTotal" (Za 5) ((st (some .non) (some (pP E))).set 5 (some (.exf "NoTotal" (.int E.sum))))=some (.int E.sum):=by
    show(if("NoTotal" : PySem.Str) = "NoTotal"/\P8 (.int E.sum)=true then some (PV.int E.sum) else none)=_
    rw[if_pos ⟨rfl,T4 (by omega) (by omega)⟩]
   have h2:Zo 3 (eP (TX "NoTotal" (Za 5))) ((st (some .non) (some (pP E))).set 5 (some (.exf "NoTotal" (.int E.sum))))=some (.nx [some (wP W),some (pP D),some (.int c),some (.int E.sum),some (pP E),some (.exf "NoTotal" (.int E.sum))]):=by
    rw[Zm,vP f];rfl
   have h1:TV YV [(Za 0),(Za 4)] 5 (Zo 3 (eP (TX "NoTotal" (Za 5)))) (st (some .non) (some (pP E)))=some (.nx (st (some (.int E.sum)) (some (pP E)))):=by
    unfold TV
    rw[ea,Option.bind_some,Ox ok (by rw[<-ht];exact q) (by omega) (by omega),Option.bind_some]
    show(Zo 3 _ ((st (some .non) (some (pP E))).set 5 (some (.exf "NoTotal" (.int E.sum))))).map (HQ 5)=_
    rw[h2];rfl
   show HX _ _ _=_
   unfold HX;rw[h1]
  have e4:WG (xB (Ze (Xs false) (Zc X1 [(Za 4)]) (Zc X1 [(Za 1)]))) (Ya (eP (WR false (Za 3)))) ZX (st (some (.int E.sum)) (some (pP E)))=some (.nx (st (some (.int E.sum)) (some (pP E)))):=by
   rw[ZS,sm,decide_eq_false q];rfl
  rw[Zy e1,Zy e2,Zy e3,Zy e4,WB (v:=.bl true) (by
   have w:Zc Yl [(Za 3)] (st (some (.int E.sum)) (some (pP E)))=some (.bl true):=Of E.sum
   have w':xB (Zc Yl [(Za 3)]) (st (some (.int E.sum)) (some (pP E)))=some true:=by rw[Yy,w];rfl
   have a:Zc X1 [(Za 4)] (st (some (.int E.sum)) (some (pP E)))=some (.int E.sum):=OX _
   have b:Ze (Xs false) (Za 3) (Zc X1 [(Za 4)]) (st (some (.int E.sum)) (some (pP E)))=some (.bl true):=by
    rw[ZJ,a]
    show Xs false (.int E.sum) (.int E.sum)=_
    rw[Wl];simp
   rw[Y1,SU,w',Option.bind_some,if_pos rfl,b];rfl)]
  rfl
theorem JM{F:List Nat}(k:Nat):(k:Int)∈Wn (nL F)↔k∈F:=((Ul (nL F)).mem_iff).trans FC
theorem Hr{W:List (List Int)}(ok:ZW W)(cn:Lv W)(c:Int):∃(T X D:List Int),XG [wP W,.int c]=some (pP T)/\Xo [wP W,pP T,.int c]=some (pP X)/\Xe [wP W,pP X]=some (pP D)/\D.length=W.length/\D.sum=LH W/\Vv W D = .non:=by
 obtain⟨m,F,et,tr⟩:=LA ok c
 obtain⟨β,ee⟩:=LB ok (F:=F) (T:=Wn (nL F)) JM c
 let X:=Xu β 0 (Sd W F)
 have hX:∀x∈X,x<W.length:=Oj Ho
 have one:=JF ok cn tr;have tot:=Ol tr ok.pos one
 have lX:X.length=(Rv (eW W) F).length:=by
  show(Xu β 0 (Sd W F)).length=_
  rw[Qm];unfold Sd;rw[List.length_map]
 have nD:∀h,h<W.length->ZA (Yj W.length X) h=((X.count h:Nat):Int):=fun h hh=>V4 hh
 have sD:(Yj W.length X).sum=LH W:=by
  have h1:(Yj W.length X).sum=((List.range W.length).map fun g=>((X.count g:Nat):Int)).sum:=rfl
  rw[h1,Rx List.nodup_range]
  have h2:(X.map fun x=>b1 (decide (x∈List.range W.length))).sum=(X.length:Int):=by
   have:∀X:List Nat,(∀x∈X,x<W.length)->(X.map fun x=>b1 (decide (x∈List.range W.length))).sum=(X.length:Int):=by
    intro X
    induction X with
    | nil=>intro _;rfl
    | cons x X ih=>
     intro hh
     have q:decide (x∈List.range W.length)=true:=decide_eq_true (List.mem_range.mpr (hh x (by simp)))
     rw[List.map_cons,List.sum_cons,ih fun y hy=>hh y (by simp[hy]),q,List.length_cons]
     show(1:Int)+_=_
     omega
   exact this X hX
  rw[h2,lX];unfold LH;exact tot
 refine⟨_,_,_,et,ee,NA ok hX,Up _ _,sD,?_⟩
 unfold Vv
 have:LG W (Yj W.length X)=[]:=by
  unfold LG;rw[List.filter_eq_nil_iff];intro G hG
  obtain⟨hG1,ne⟩:=Mv hG
  obtain⟨ris,lt,_,_⟩:=US hG1
  have nd:=Hq ris;have h1:=Jq tr nd lt ne β;have h2:=Mq ok nd lt
  have h3:(G.map (ZA (Yj W.length X))).sum=(G.map fun g=>((X.count g:Nat):Int)).sum:=by
   congr 1
   exact List.map_congr_left fun g hg=>nD g (lt g hg)
  have h4:¬Sl (ZV W) (ZA (Yj W.length X)) G<0:=by
   unfold Sl;rw[h3,h2]
   have:(G.map fun g=>((X.count g:Nat):Int)).sum=(G.map fun g=>(((Xu β 0 ((Rv (eW W) F).map (YX (eW W)))).count g:Nat):Int)).sum:=rfl
   rw[this];omega
  simpa using h4
 rw[this]
theorem law_true(ns:List Int)(hns:ns.length<=63):D_law [.cst (iL ns)]=some (.bl true):=by
 obtain⟨W,ew,ok,cn,h5⟩:=JC hns
 let s0:ZP:=[some (.cst (iL ns)),none,none,none,none]
 let st:Option PV->Option PV->Option PV->ZP:=fun x2 x3 x4=>[some (.cst (iL ns)),some (wP W),x2,x3,x4]
 have e1:Zo 1 (Zc VU [(Za 0),(Xt [(eC (.int 1)),(eC (.int 2)),(eC (.int 3)),(eC (.int 4)),(eC (.int 5))]),(eC (.int 8))]) s0=some (.nx (st none none none)):=by
  have:Zc VU [(Za 0),(Xt [(eC (.int 1)),(eC (.int 2)),(eC (.int 3)),(eC (.int 4)),(eC (.int 5))]),(eC (.int 8))] s0=some (wP W):=ew
  rw[Zm,this];rfl
 let fb:XS:=(Zn (Zo 3 (Zc XG [(Za 1),(Za 2)]))
  (Zn (Zo 4 (Zc Xe [(Za 1),(Zc Xo [(Za 1),(Za 3),(Za 2)])]))
  (Zn (WG (R5 (xB (WR true (Zc Z2 [(Za 1),(Za 4)]))) (U9 (xB (Zc Xy [(Za 1),(Zc Xg [(Za 1),(Za 4),(Za 2)])])))) (Ya (eP (eC (.bl false)))) ZX)
  (WG (U9 (xB (Zc Z9 [(Za 1),(Za 4),(Za 2)]))) (Ya (eP (eC (.bl false)))) ZX))))
 let cut:=XD (iL ns) (some 13) (some 25)
 have cutI:∀l∈cut,∃c,l=PV.int c:=fun l hl=>by
  have hl':l∈XD (iL ns) (some 13) (some 25):=hl
  unfold XD at hl'
  have:l∈iL ns:=List.mem_of_mem_drop (List.mem_of_mem_take hl')
  obtain⟨c,_,rfl⟩:=List.mem_map.mp this
  exact⟨c,rfl⟩
 have cutL:cut.length<=63:=by
  show(XD (iL ns) (some 13) (some 25)).length<=63
  unfold XD;rw[List.length_take,List.length_drop,List.length_map];omega
 let ls:List PV:=[.int (ZA ns 12)]++cut
 obtain⟨s',f1,x2,x3,x4,hs⟩:=ZY (T:=.one 2) (fb:=fb) (ls:=ls) (s:=st none none none) (fun _ s=>∃x2 x3 x4,s=st x2 x3 x4) ⟨none,none,none,rfl⟩ (by
  rintro i l s hl ⟨x2,x3,x4,rfl⟩
  obtain⟨c,rfl⟩:∃c,l=PV.int c:=by
   rcases List.mem_append.mp (List.mem_of_getElem? hl) with z | z
   ·exact⟨_,List.mem_singleton.mp z⟩
   ·exact cutI l z
  obtain⟨T,X,D,et,ee,ec,lD,sD,lk⟩:=Hr ok cn c
  obtain⟨D',em,lD',sD'⟩:=NC ok lD c
  have q1:Zo 3 (Zc XG [(Za 1),(Za 2)]) (st (some (.int c)) x3 x4)=some (.nx (st (some (.int c)) (some (pP T)) x4)):=by
   have:Zc XG [(Za 1),(Za 2)] (st (some (.int c)) x3 x4)=some (pP T):=et
   rw[Zm,this];rfl
  have q2:Zo 4 (Zc Xe [(Za 1),(Zc Xo [(Za 1),(Za 3),(Za 2)])]) (st (some (.int c)) (some (pP T)) x4)=some (.nx (st (some (.int c)) (some (pP T)) (some (pP D)))):=by
   have a:Zc Xo [(Za 1),(Za 3),(Za 2)] (st (some (.int c)) (some (pP T)) x4)=some (pP X):=ee
   have:Zc Xe [(Za 1),(Zc Xo [(Za 1),(Za 3),(Za 2)])] (st (some (.int c)) (some (pP T)) x4)=some (pP D):=by
    rw[ZC,Zk,Zk,a];exact ec
   rw[Zm,this];rfl
  have q3:WG (R5 (xB (WR true (Zc Z2 [(Za 1),(Za 4)]))) (U9 (xB (Zc Xy [(Za 1),(Zc Xg [(Za 1),(Za 4),(Za 2)])])))) (Ya (eP (eC (.bl false)))) ZX (st (some (.int c)) (some (pP T)) (some (pP D)))=some (.nx (st (some (.int c)) (some (pP T)) (some (pP D)))):=by
   have a:Zc Z2 [(Za 1),(Za 4)] (st (some (.int c)) (some (pP T)) (some (pP D)))=some .non:=by
    rw[<-lk];exact Uq ok lD sD
   have t1:xB (WR true (Zc Z2 [(Za 1),(Za 4)])) (st (some (.int c)) (some (pP T)) (some (pP D)))=some false:=by
    rw[Yy,Kw,a];rfl
   have b:Zc Xg [(Za 1),(Za 4),(Za 2)] (st (some (.int c)) (some (pP T)) (some (pP D)))=some (pP D'):=em
   have d:Zc Xy [(Za 1),(Zc Xg [(Za 1),(Za 4),(Za 2)])] (st (some (.int c)) (some (pP T)) (some (pP D)))=some (.bl true):=by
    rw[ZC,Zk,Zk,b];exact NH ok h5 lD' (by rw[sD',sD])
   rw[ZS,Wu,t1];simp only[Option.bind_some,Bool.false_eq_true,if_false]
   rw[UD,Yy,d];rfl
  have q4:WG (U9 (xB (Zc Z9 [(Za 1),(Za 4),(Za 2)]))) (Ya (eP (eC (.bl false)))) ZX (st (some (.int c)) (some (pP T)) (some (pP D)))=some (.nx (st (some (.int c)) (some (pP T)) (some (pP D)))):=by
   have d:Zc Z9 [(Za 1),(Za 4),(Za 2)] (st (some (.int c)) (some (pP T)) (some (pP D)))=some (.bl true):=NI ok lD sD c
   rw[ZS,UD,Yy,d];rfl
  exact⟨st (some (.int c)) x3 x4,_,rfl,(by show Zn _ _ _=_;rw[Zy q1,Zy q2,Zy q3,q4]),_,_,_,rfl⟩)
 subst hs
 have e2:Yv [] (YN (Ze W7 (Xt [(Zc ZZ [(Za 0),(eC (.int 12))])]) (W6 Y6 (Za 0) (Wz (eC (.int 13))) (Wz (eC (.int 25)))))) (.one 2) fb (st none none none)=some (.nx (st x2 x3 x4)):=by
  show(YN (Ze W7 (Xt [(Zc ZZ [(Za 0),(eC (.int 12))])]) (W6 Y6 (Za 0) (Wz (eC (.int 13))) (Wz (eC (.int 25))))) (ZM [] (st none none none))).bind _=_
  have a:Zc ZZ [(Za 0),(eC (.int 12))] (ZM [] (st none none none))=some (.int (ZA ns 12)):=Sn hns 12
  have b:Xt [(Zc ZZ [(Za 0),(eC (.int 12))])] (ZM [] (st none none none))=some (.lst [.int (ZA ns 12)]):=by
   show(Uz _ _).map PV.lst=_
   rw[Zk,a];rfl
  have d:W6 Y6 (Za 0) (Wz (eC (.int 13))) (Wz (eC (.int 25))) (ZM [] (st none none none))=some (.lst cut):=rfl
  have h:Ze W7 (Xt [(Zc ZZ [(Za 0),(eC (.int 12))])]) (W6 Y6 (Za 0) (Wz (eC (.int 13))) (Wz (eC (.int 25)))) (ZM [] (st none none none))=some (.lst ls):=by
   rw[ZJ,b,d]
   show(if 1+cut.length<=10000/\ZG [PV.int (ZA ns 12)]=true/\ZG cut=true then some (PV.lst ([.int (ZA ns 12)]++cut)) else none)=_
   rw[if_pos ⟨by omega,rfl,MT _ _ (Yk ns)⟩]
  have:YN (Ze W7 (Xt [(Zc ZZ [(Za 0),(eC (.int 12))])]) (W6 Y6 (Za 0) (Wz (eC (.int 13))) (Wz (eC (.int 25))))) (ZM [] (st none none none))=some ls:=by
   unfold YN
   rw[h];rfl
  rw[this];exact f1
 show Xi 5 Me _=_
 unfold Me
 show(Zn _ _ s0).bind Xm=_
 rw[Zy e1,Zy e2];rfl
end PW
namespace PW
open PySem L2 VL
section
open PySem.Spec PyProof.Rows VX
variable {P:Program} {w:World} {K:PySem.W.Frag} {mg:Str->Option Value} {base:Heap}
abbrev Wb:Stmt:=EC 0 (TZ 2)
theorem NJ{C Cb fI:Addr}{fd:FuncData}(Fn:Fun K "__init__" "NoTotal.__init__" Wb fI fd)(ex:exiIn K C veT "ValueError.__new__" fI=true)(BI:BInit K Cb "ValueError.__init__")(mB:mg "PurseError" = some (.ref Cb))(sa:PySem.W.findIn K (.ref C) "__setattr__" = some (some (.builtin "object.__setattr__")))(ve:veOver K C=true)(tk:PySem.W.takerIn K C "total" = some none)(hd:(PySem.W.clsIn K C).any (·.hasDict)=true) :
  V5 P w K mg base Py 1 fI fd ["self","total"] (ER C "total"):=
 Fn.ok (k:=0) (N:=["self","total"]) ⟨rfl,rfl,rfl,by decide +kernel,rfl,by decide +kernel,by decide +kernel⟩ (fun _ _ _ _ h=>h.1) fun cdv A outer s H vs Q E hr h=>by
  refine⟨_,Us (XX (KY (pl:=?pl) F.excBase_ValueError BI ex rfl mB rfl (YI (pv 0) (YI (K5 hr (pv 1)) XI)))) (Qs (IJ ex sa ve tk hd rfl (pv 0) (pv 1))),?_⟩
  exact Lk (a:="self") (b:="total") h
end
theorem all_mk{P:Program}{w:World}{K:PySem.W.Frag}{h:Heap}{mg:Str->Option Value}{fa:Addr}(X:K.In h)(G:h.Ns mainGlobals mg)(hfa:mg "law" = some (.ref fa))(B:UU mg)
  (d0:Def K mg "_law_pick" Rg)
  (d1:Def K mg "_law_read_web" W3)
  (d2:Def K mg "_law_at" Nh)
  (d3:Def K mg "_law_web" Q4)
  (d4:Def K mg "_law_ties" Rh)
  (d5:Def K mg "_law_tree" Ri)
  (d6:Def K mg "_law_coins" Ti)
  (d7:Def K mg "_law_outside" Vs)
  (d8:Def K mg "_law_ends" Rj)
  (d9:Def K mg "total" Q6)
  (d10:Def K mg "ties_of" Tj)
  (d11:Def K mg "loops" Q8)
  (d12:Def K mg "refuse_total" Xq)
  (d13:Def K mg "ties_to" Vt)
  (d14:Def K mg "lacking_among" XM)
  (d15:Def K mg "lacking" V2)
  (d16:Def K mg "_law_whole" Tp)
  (d17:Def K mg "_law_other_total" XN)
  (d18:Def K mg "_law_need" Rl)
  (d19:Def K mg "_law_lacks" Tr)
  (d20:Def K mg "_law_none_lack" WA)
  (d21:Def K mg "_law_right" Ts)
  (d22:Def K mg "_law_lend" Ro)
  (d23:Def K mg "_law_moved" Tt)
  (d24:Def K mg "law" Je)
  {CNoTotal Cb fW:Addr} {odW anW:Option Addr} {slW:Array (Option Value)} {kVW dcW pmW cdW ctW:Value}
  (qNoTotal:PySem.W.nsIn K mainGlobals "NoTotal" = some (some (.ref CNoTotal)))
  (qB:PySem.W.nsIn K mainGlobals "PurseError" = some (some (.ref Cb)))
  (g1:PySem.W.specialIn K (.ref Cb) "__getattribute__" = some (some (.builtin "type.__getattribute__")))
  (g2:PySem.W.readsIn K Cb (.type "type")=true)
  (g3:PySem.W.findCls K (.ref Cb) (.type "type") "__init__" = some (.val (.builtin "ValueError.__init__")))
  (iW:PySem.W.findIn K (.ref CNoTotal) "__init__" = some (some (.ref fW)))
  (lW:K.lookup fW=some ⟨.type "function",odW,.func (PySem.W.fnOf "__init__" "NoTotal.__init__" (Y9 Wb) (Yb Wb) (Zl Wb) .none kVW dcW pmW anW cdW ctW),slW⟩)
  (cW:PySem.W.codeIn K cdW "NoTotal.__init__" = true)
  (kW:PySem.W.keepIn K (.ref fW)=true)
  (eW:VX.exiIn K CNoTotal VX.veT "ValueError.__new__" fW=true)
  (sW:PySem.W.findIn K (.ref CNoTotal) "__setattr__" = some (some (.builtin "object.__setattr__")))
  (vW:VX.veOver K CNoTotal=true)
  (uW:PySem.W.takerIn K CNoTotal "total" = some none)
  (hW:(PySem.W.clsIn K CNoTotal).any (·.hasDict)=true)
  (nW:PySem.W.findIn K (.ref CNoTotal) "total" = some none)
  (x1W:PySem.W.ktsIn K CNoTotal "BaseException" = true)
  (x4W:PySem.W.findIn K (.ref CNoTotal) "__getattribute__" = some (some (.builtin "BaseException.__getattribute__")))
  (x5W:PySem.W.findIn K (.ref CNoTotal) "__getattr__" = some none)
  (x6W:PySem.W.findIn K (.ref CNoTotal) "__class__" = some (some (.builtin "object.__class__")))
  (x7W:PySem.W.mroIn K CNoTotal (.type "object")=some true)
  (sbW:VX.belowIn K CNoTotal CNoTotal=true)
  : ∃fd:FuncData,(∀(s:Shared)(u:Value),BindsTo s fd ⟨[u],[]⟩ [("_law_script",u)])/\∀base:Heap,K.In base->base.Ns mainGlobals mg->V5 P w K mg base Py 6 fa fd ["_law_script"] (YJ K D_law 1):=by
 have mB:=PySem.W.mg_of X G qB
 have BI:VX.BInit K Cb "ValueError.__init__":=⟨g1,g2,g3⟩
 have FW:Fun K "__init__" "NoTotal.__init__" Wb fW _:=L6 (st:=Wb) lW cW kW
 have QW:∀base:Heap,VX.QFL "NoTotal" P w K mg base CNoTotal:=fun base=>
  ⟨qNoTotal,PySem.W.mg_of X G qNoTotal,⟨fW,_,_,eW,lW,rfl,FW.binds (fun _ _ _ _ _ _ us hl=>match us,hl with | [_,_],_=>rfl),NJ FW eW BI mB sW vW uW hW⟩,⟨qNoTotal,⟨x4W,x5W,x6W,x7W,x1W⟩,nW,hW⟩⟩
 refine Kt d24 hfa (fun _ _ _ _ _ _ _=>rfl) fun base f fd _ _ F=>?_
 have Q:VX.Q7 "NoTotal" P w K mg base CNoTotal Cb:=⟨QW base,sbW⟩
 have C_l_pick:=Ln (P:=P) (w:=w) (base:=base) d0 B
 have C_l_read_web:=RP (P:=P) (w:=w) (base:=base) d1 B
 have C_l_at:=IZ (P:=P) (w:=w) (base:=base) d2 B
 have C_p_web:=K9 (P:=P) (w:=w) (base:=base) d3 B C_l_at C_l_read_web C_l_pick
 have C_l_ties:=Lo (P:=P) (w:=w) (base:=base) d4 B
 have C_l_tree:=Lp (P:=P) (w:=w) (base:=base) d5 B C_l_ties C_l_pick
 have C_b_coins:=Ni (P:=P) (w:=w) (base:=base) d6 B
 have C_l_outside:=Q5 (P:=P) (w:=w) (base:=base) d7 B C_l_ties
 have C_l_ends:=Lq (P:=P) (w:=w) (base:=base) d8 B C_l_outside C_l_pick
 have C_total:=Jb (P:=P) (w:=w) (base:=base) d9 B
 have C_ties_of:=Nj (P:=P) (w:=w) (base:=base) d10 B
 have C_loops:=Jd (P:=P) (w:=w) (base:=base) d11 B C_ties_of
 have C_refuse_total:=Sa (P:=P) (w:=w) (base:=base) d12 B C_total C_loops
 have X_refuse_total:=Tn (P:=P) (w:=w) (base:=base) d12 B Q C_total C_loops
 have C_b_ties_to:=Pa (P:=P) (w:=w) (base:=base) d13 B
 have C_lacking_among:=To (P:=P) (w:=w) (base:=base) d14 B C_b_ties_to
 have C_lacking:=Nk (P:=P) (w:=w) (base:=base) d15 B C_refuse_total C_lacking_among
 have X_lacking:=Od (P:=P) (w:=w) (base:=base) d15 B Q  X_refuse_total
 have C_l_whole:=Nm (P:=P) (w:=w) (base:=base) d16 B
 have C_l_other_total:=Tq (P:=P) (w:=w) (base:=base) d17 B C_l_pick C_lacking C_l_whole Q X_lacking
 have C_l_need:=Lr (P:=P) (w:=w) (base:=base) d18 B
 have C_l_lacks:=Np (P:=P) (w:=w) (base:=base) d19 B C_l_need
 have C_l_none_lack:=Rn (P:=P) (w:=w) (base:=base) d20 B C_l_lacks
 have C_l_right:=Nq (P:=P) (w:=w) (base:=base) d21 B C_lacking C_l_none_lack C_l_whole C_l_lacks
 have C_l_lend:=Ls (P:=P) (w:=w) (base:=base) d22 B
 have C_l_moved:=Nr (P:=P) (w:=w) (base:=base) d23 B C_l_pick C_l_lend
 exact Fv F B C_p_web C_l_at C_l_tree C_b_coins C_l_ends C_l_right C_l_moved C_lacking C_l_other_total
end PW
def PySem.W.Fast.tw2086691324637136794:Unit:=()
def PySem.W.Fast.tw4462238990988346144:Unit:=()
def PySem.W.Fast.tw2246627267344522303:Unit:=()
def PySem.W.Fast.tw17106441725349192516:Unit:=()
def PySem.W.Fast.tw3493980889388998392:Unit:=()
def PySem.W.Fast.tw6299326339863884858:Unit:=()
def PySem.W.Fast.tw8354183060909478038:Unit:=()
def PySem.W.Fast.tw9790541998246143008:Unit:=()
def PySem.W.Fast.tw16382152056076545368:Unit:=()
def PySem.W.Fast.tw11364668627062484146:Unit:=()
def PySem.W.Fast.tw7438328409952041650:Unit:=()
def PySem.W.Fast.tw17798287442086773714:Unit:=()
def PySem.W.Fast.tw16589016968231145974:Unit:=()
def PySem.W.Fast.tw9052344545769086826:Unit:=()
def PySem.W.Fast.tw9386225857759118384:Unit:=()
def PySem.W.Fast.tw7756630258836228921:Unit:=()
def PySem.W.Fast.tw15543454536500386387:Unit:=()
def PySem.W.Fast.tw9868515853804298869:Unit:=()
def PySem.W.Fast.tw18277053849499860254:Unit:=()
def PySem.W.Fast.tw14977606173860907856:Unit:=()
def PySem.W.Fast.tw18278887048985775494:Unit:=()
def PySem.W.Fast.tw16241981178035325226:Unit:=()
def PySem.W.Fast.tw6069120891185650614:Unit:=()
def PySem.W.Fast.tw1409937630024674467:Unit:=()
def PySem.W.Fast.tw17833677938450304335:Unit:=()
def PySem.W.Fast.tw8040878239311510449:Unit:=()
def PySem.W.Fast.tw11790716161437104334:Unit:=()
def PySem.W.Fast.tw13280042298385519800:Unit:=()
def PySem.W.Fast.tw9001359709554801615:Unit:=()
def PySem.W.Fast.tw308549826932542385:Unit:=()
def PySem.W.Fast.tw13175496672629452851:Unit:=()
def PySem.W.Fast.tw5686901572152064777:Unit:=()
def PySem.W.Fast.tw17746526881060277721:Unit:=()
def PySem.W.Fast.tw12300364053758203283:Unit:=()
def PySem.W.Fast.tw10581226768262192782:Unit:=()
def PySem.W.Fast.tw9821510615549432055:Unit:=()
def PySem.W.Fast.tw17520113628895467948:Unit:=()
def PySem.W.Fast.tw7889192177619965019:Unit:=()
def PySem.W.Fast.tw2775705074545309597:Unit:=()
def PySem.W.Fast.tw1988332929648547839:Unit:=()
def PySem.W.Fast.tw16456225170493711479:Unit:=()
def PySem.W.Fast.tw393102351903440021:Unit:=()
def PySem.W.Fast.tw8644864178150492395:Unit:=()
def PySem.W.Fast.tw561373649937355465:Unit:=()
def PySem.W.Fast.tw4198513177153863425:Unit:=()
def PySem.W.Fast.tw11092668491033450561:Unit:=()
def PySem.W.Fast.tw4095483160118177864:Unit:=()
def PySem.W.Fast.tw9195489931404104214:Unit:=()
def PySem.W.Fast.tw15593551400849928868:Unit:=()
def PySem.W.Fast.tw12193624249198707857:Unit:=()
def PySem.W.Fast.tw7685679921781576189:Unit:=()
def PySem.W.Fast.tw17622093632491225174:Unit:=()
def PySem.W.Fast.tw14003489032693256559:Unit:=()
def PySem.W.Fast.tw4893004014727452275:Unit:=()
def PySem.W.Fast.tw16944442010292902686:Unit:=()
def PySem.W.Fast.tw11671610676633015396:Unit:=()
def PySem.W.Fast.tw18009145972792529618:Unit:=()
def PySem.W.Fast.tw14517288600890254106:Unit:=()
def PySem.W.Fast.tw10689076182277193538:Unit:=()
def PySem.W.Fast.tw8723856230516710998:Unit:=()
def PySem.W.Fast.tw14821385775151420546:Unit:=()
def PySem.W.Fast.tw14197119834969720313:Unit:=()
def PySem.W.Fast.tw10075417720316511236:Unit:=()
open PySem PySem.W PyProof.Rows
set_option maxRecDepth 100000 in
set_option maxHeartbeats 0 in
theorem PySem.Challenge.cw_purseweb_k72_houses_that_lack_holds : PySem.Challenge.rw_purseweb_k72_houses_that_lack.Holds := by
 w_on;o_law;k_head;(case hw=>w_witness2)
 k_fill
 refine VL.law_walk (l:=PySem.Challenge.rw_purseweb_k72_houses_that_lack) (D:=PW.D_law) (x:="_law_script") 6 rfl rfl ⟨rfl,by decide,by decide,rfl⟩ PW.law_true (fun w h Y=>PySem.W.kIn_of Y) ?F
 case F=>
  intro w mg fa h KX G hmg
  refine' PW.all_mk KX G hmg ?B ?d0 ?d1 ?d2 ?d3 ?d4 ?d5 ?d6 ?d7 ?d8 ?d9 ?d10 ?d11 ?d12 ?d13 ?d14 ?d15 ?d16 ?d17 ?d18 ?d19 ?d20 ?d21 ?d22 ?d23 ?d24 ?qNoTotal ?qB ?g1 ?g2 ?g3 ?iW ?lW ?cW ?kW ?eW ?sW ?vW ?uW ?hW ?nW ?x1W ?x4W ?x5W ?x6W ?x7W ?sbW
  case B=>constructor<;>(refine PySem.W.mg_none_of KX G ?_;k_is)
  case d0 | d1 | d2 | d3 | d4 | d5 | d6 | d7 | d8 | d9 | d10 | d11 | d12 | d13 | d14 | d15 | d16 | d17 | d18 | d19 | d20 | d21 | d22 | d23 | d24=>(refine' L2.def_mk KX G ?a ?l ?c ?k;(case a=>k_is);(case l=>k_is);(case c=>k_is);(case k=>k_is))
  (case qNoTotal=>k_is)
  (case qB=>k_is)
  (case g1=>kernel_rfl)
  (case g2=>kernel_rfl)
  (case g3=>kernel_rfl)
  (case iW=>k_is)
  (case lW=>k_is)
  (case cW=>k_is)
  (case kW=>k_is)
  (case eW=>kernel_rfl)
  (case sW=>k_is)
  (case vW=>kernel_rfl)
  (case uW=>kernel_rfl)
  (case hW=>kernel_rfl)
  (case nW=>k_is)
  (case x1W=>kernel_rfl)
  (case x4W=>k_is)
  (case x5W=>k_is)
  (case x6W=>k_is)
  (case x7W=>k_is)
  (case sbW=>kernel_rfl)
