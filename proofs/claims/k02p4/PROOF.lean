import PyProof.Rows.All
import Wide.All
import OpenK.AllK
import Wide.FinOn
import Lean
import PyProof.EqAt
import PyProof.EqKinds
import PyProof.TupleCall
import PyProof.NeKinds
import PyProof.ListMulRoad
import PyProof.WalkInts
import PyProof.ListRange
import KE.KRevIter
import PyProof.ExcInit
import PyProof.InstStoreFacts
import OpenK.KMake
import OpenK.KCls
import PyProof.FString2
import PySem.Challenge.RW_purseweb_k02_webs_refused
set_option Elab.async false
set_option linter.all false
set_option maxRecDepth 100000
namespace L2
open PySem PySem.Spec PyProof.Rows
abbrev Ys:=Sum Int Str
def Rv:Ys->Value->Bool
 | .inl k,v=>Value.isInt k v
 | .inr x,v=>Value.isStrOf x v
def Eb(w:World):Ys->Int
 | .inl k=>hashInt k
 | .inr x=>hashStr w x
theorem Yo:∀{k:Ys}{v:Value},Rv k v=true->(∃i t,k=Sum.inl i/\v=Value.int i t)\/(∃x t,k=Sum.inr x/\v=Value.str x t)
 | .inl i,v,h=>by
  obtain⟨t,e⟩:=Value.isInt_shape (k:=i) (v:=v) h
  exact .inl ⟨i,t,rfl,e⟩
 | .inr x,v,h=>by
  obtain⟨t,e⟩:=Value.isStrOf_shape (x:=x) (v:=v) h
  exact .inr ⟨x,t,rfl,e⟩
theorem NZ(i:Int)(t:Tok):Rv (.inl i) (.int i t)=true:=by simp[Rv,Value.isInt]
theorem N0(x:Str)(t:Tok):Rv (.inr x) (.str x t)=true:=by simp[Rv,Value.isStrOf]
theorem IU(a b:Int):decide ((Sum.inl a:Ys)=Sum.inl b)=(a==b):=by
 by_cases e:a=b
 ·subst e;simp
 ·have h:¬(Sum.inl a:Ys)=Sum.inl b:=fun q=>e (Sum.inl.inj q)
  rw[decide_eq_false h]
  exact(beq_eq_false_iff_ne.mpr e).symm
theorem IV(a b:Str):decide ((Sum.inr a:Ys)=Sum.inr b)=decide (a=b):=by
 by_cases e:a=b
 ·subst e;simp
 ·have h:¬(Sum.inr a:Ys)=Sum.inr b:=fun q=>e (Sum.inr.inj q)
  rw[decide_eq_false h,decide_eq_false e]
theorem IW(a:Int)(b:Str):decide ((Sum.inl a:Ys)=Sum.inr b)=false:=decide_eq_false (fun q=>nomatch q)
theorem IX(a:Str)(b:Int):decide ((Sum.inr a:Ys)=Sum.inl b)=false:=decide_eq_false (fun q=>nomatch q)
def YB(prog:Program)(w:World):PySem.KeyKind prog w Ys where
 is:=Rv
 hash:=Eb w
 inj:=fun v a b ha hb=>by
  rcases Yo ha with⟨i,t,rfl,rfl⟩ | ⟨x,t,rfl,rfl⟩
  ·rcases Yo hb with⟨j,u,rfl,e⟩ | ⟨y,u,rfl,e⟩
   ·injection e with e1 _;rw[e1]
   ·exact nomatch e
  ·rcases Yo hb with⟨j,u,rfl,e⟩ | ⟨y,u,rfl,e⟩
   ·exact nomatch e
   ·injection e with e1 _;rw[e1]
 byValue:=fun k v h=>by
  rcases Yo h with⟨i,t,rfl,rfl⟩ | ⟨x,t,rfl,rfl⟩<;>rfl
 pyHash:=fun hv h=>by
  rcases Yo hv with⟨i,t,rfl,rfl⟩ | ⟨x,t,rfl,rfl⟩
  ·exact wpAny_pyHash_int h
  ·exact wpAny_pyHash_str h
 eqBool:=fun hu hv h=>by
  rcases Yo hu with⟨i,t,rfl,rfl⟩ | ⟨x,t,rfl,rfl⟩
  ·rcases Yo hv with⟨j,u,rfl,rfl⟩ | ⟨y,u,rfl,rfl⟩
   ·rw[IU] at h;exact wpAny_eqBool_int h
   ·rw[IW] at h;exact SeqAt.EqAt.int_str i t y u _ _ _ _ h
  ·rcases Yo hv with⟨j,u,rfl,rfl⟩ | ⟨y,u,rfl,rfl⟩
   ·rw[IX] at h;exact SeqAt.EqAt.str_int x t j u _ _ _ _ h
   ·rw[IV] at h;exact wpAny_eqBool_str h
 «strs»:=fun k x t v h=>by
  rcases Yo h with⟨i,u,rfl,e⟩ | ⟨y,u,rfl,e⟩
  ·exact nomatch e
  ·injection e with e1 _
   subst e1
   cases v<;>rfl
theorem QY(prog:Program)(w:World)(i:Int)(t:Tok):(YB prog w).is (.inl i) (.int i t)=true:=NZ i t
theorem QZ(prog:Program)(w:World)(x:Str)(t:Tok):(YB prog w).is (.inr x) (.str x t)=true:=N0 x t
inductive V where
 | non | bl (b:Bool) | int (i:Int) | str (x:Str) | byt (b:Array UInt8) | flt (b:UInt64) | ref (a:Addr) | ty (n:String)
 deriving DecidableEq
def RelV:V->Value->Prop
 | .non,u=>u=Value.none
 | .bl b,u=>u=Value.bool b
 | .int i,u=>∃t,u=Value.int i t
 | .str x,u=>∃t,u=Value.str x t
 | .byt b,u=>∃t,u=Value.bytes b t
 | .flt b,u=>∃t,u=Value.float b t
 | .ref a,u=>u=Value.ref a
 | .ty n,u=>u=Value.type n
abbrev Vals:List V->List Value->Prop:=Paired RelV
theorem Vals.length{xs:List V}{us:List Value}(r:Vals xs us):xs.length=us.length:=Paired.length r
theorem Vals.get:∀{xs:List V}{us:List Value}{i:Nat}{x:V},Vals xs us->xs[i]?=some x->∃u,us[i]?=some u/\RelV x u
 | _,_,_,_,.nil,e=>by simp at e
 | _,_,0,_,.cons r _,e=>by simp at e;subst e;exact⟨_,rfl,r⟩
 | _,_,i+1,x,.cons _ t,e=>by
  obtain⟨u,h1,h2⟩:=Vals.get (i:=i) (x:=x) t (by simpa using e)
  exact⟨u,by simpa using h1,h2⟩
theorem Vals.set{x:V}{u:Value}(r:RelV x u):∀{xs:List V}{us:List Value}(i:Nat),Vals xs us->Vals (xs.set i x) (us.set i u)
 | _,_,_,.nil=>.nil
 | _,_,0,.cons _ t=>.cons r t
 | _,_,i+1,.cons q t=>.cons q (Vals.set r i t)
theorem Vals.append:∀{xs ys:List V}{us ws:List Value},Vals xs us->Vals ys ws->Vals (xs++ys) (us++ws)
 | _,_,_,_,.nil,s=>s
 | _,_,_,_,.cons r t,s=>.cons r (Vals.append t s)
theorem Vals.take:∀{xs:List V}{us:List Value}(n:Nat),Vals xs us->Vals (xs.take n) (us.take n)
 | _,_,0,_=>.nil
 | _,_,_+1,.nil=>.nil
 | _,_,n+1,.cons r t=>.cons r (Vals.take n t)
theorem Vals.drop:∀{xs:List V}{us:List Value}(n:Nat),Vals xs us->Vals (xs.drop n) (us.drop n)
 | _,_,0,r=>r
 | _,_,_+1,.nil=>.nil
 | _,_,n+1,.cons _ t=>Vals.drop n t
def RelO:Option V->Option Value->Prop
 | some v,some u=>RelV v u
 | none,none=>True
 | _,_=>False
def KV{κ:Type}:List (κ×V)->List (κ×Value)->Prop:=Paired fun(p:κ×V) (q:κ×Value)=>p.1=q.1/\RelV p.2 q.2
def kV:Ys->V
 | .inl i=>.int i
 | .inr x=>.str x
inductive HO where
 /-- a list -/
 | lst (xs:List V)
 /-- a tuple (never changes) -/
 | tup (xs:List V)
 /-- a dict whose keys are ints and texts;one whose keys are tuples of ints and texts (the empty one is both) -/
 | dK (kvs:List (Ys×V)) | dT (kvs:List (List Ys×V))
 /-- a set of ints: its members,its size -/
 | set (S:Int->Bool) (n:Nat)
 /-- an instance of the class at C,its dict at dx,its attributes -/
 | ins (C dx:Addr) (fs:List (Str×V))
 /-- the dict of the instance at x -/
 | own (x:Addr)
 /-- the dict of an exception -/
 | xd (fs:List (Str×V))
 /-- a bound method,f of x -/
 | met (f x:Addr)
 /-- a range object lo,lo+1,.. below hi -/
 | rng (lo hi:Int)
 /-- a thing that is known to the object (the script;a dict while a loop walks it): read,never written while it is so -/
 | frz (o:Obj) (u:HO)
 /-- a code object's table -/
 | tbl (ps:Array Value)
 /-- any other thing,by what is true of its one object (a def of one's own: SetO a S n:=HO.ext fun h=>..) -/
 | ext (φ:Heap->Prop)
abbrev Hp:=Addr->Option HO
def upd(H:Hp)(a:Addr)(o:HO):Hp:=fun b=>if b=a then some o else H b
theorem upd_same{H:Hp}{a:Addr}{o:HO}:upd H a o a=some o:=by unfold upd;rw[if_pos rfl]
theorem upd_ne{H:Hp}{a b:Addr}{o:HO}(h:b≠a):upd H a o b=H b:=by unfold upd;rw[if_neg h]
theorem GG{H:Hp}{a b:Addr}{o u:HO}(h:H a=some o)(h':H b=some u)(d:o≠u):a≠b:=by
 intro e;subst e;rw[h] at h';exact d (Option.some.inj h')
theorem ZA{H:Hp}{a b:Addr}{o:HO}(h:H a=some o)(h':H b=none):a≠b:=by
 intro e;subst e;rw[h] at h';cases h'
section
variable (P:Program) (w:World)
def ObjOk(H:Hp)(h:Heap)(a:Addr):HO->Prop
 | .lst xs=>xs.length<=sizeLine/\∃(its:List Value) (n:Nat),Vals xs its/\h.get? a=some { cls:=.type "list",data:=.seq its.toArray n }
 | .tup xs=>xs.length<=sizeLine/\∃its:List Value,Vals xs its/\IsTup h a its.toArray
 | .dK kvs=>kvs.length<=sizeLine/\(a==sysModules)=false/\∃vs,KV kvs vs/\h.DictOf (YB P w) a vs
 | .dT kvs=>kvs.length<=sizeLine/\(a==sysModules)=false/\∃xs:List (List Ys×Addr×Value),
   Paired (fun(p:List Ys×V) (q:List Ys×Addr×Value)=>p.1=q.1/\H q.2.1=some (.tup (p.1.map kV))/\RelV p.2 q.2.2) kvs xs/\
   ∃o es ep,h.get? a=some o/\o.ExactDict/\o.data = .dict es ep/\es.toList=xs.map (entryOfKey (tupleKind (YB P w)))/\(xs.map (·.1)).Nodup
 | .set S n=>h.SetOf (intKind P w) a S n
 | .ins C dx fs=>H dx=some (.own a)/\fs.length<=1000/\dx≠a/\h.get? a=some (PySem.W.instObj C dx)/\
   ∃mA,h.Ns1 dx mA/\(∀f,RelO (fs.lookup f) (mA f))/\PySem.Within mA (fs.map (·.1))
 | .own _=>∃o,h.get? a=some o
 | .xd fs=>∃mA,h.Ns1 a mA/\∀f,RelO (fs.lookup f) (mA f)
 | .rng lo hi=>∃t u v,h.get? a=some { cls:=.type "range",data:=.fields #[.int lo t,.int hi u,.int 1 v] }
 | .frz o u=>h.get? a=some o/\ObjOk H h a u
 | .tbl ps=>h.get? a=some { cls:=.none,data:=.fields ps }
 | .met f x=>h.get? a=some (PySem.W.methodObj (.ref f) (.ref x))
 | .ext φ=>φ h/\(∃o,h.get? a=some o)/\∀h1 h2:Heap,φ h1->(∀o,h1.get? a=some o->h2.get? a=some o)->φ h2
def HOk(H:Hp)(h:Heap):Prop:=∀a o,H a=some o->ObjOk P w H h a o
end
section
variable {P:Program} {w:World} {H H':Hp} {h h':Heap} {a:Addr} {o:HO}
theorem ObjOk.lt(x:ObjOk P w H h a o):a<h.objs.size:=by
 cases o with
 | lst xs=>obtain⟨_,_,_,_,e⟩:=x;exact Heap.lt_size e
 | tup xs=>obtain⟨_,_,_,p⟩:=x;exact p.lt
 | dK kvs=>obtain⟨_,_,_,_,o,_,_,e,_⟩:=x;exact Heap.lt_size e
 | dT kvs=>obtain⟨_,_,_,_,o,_,_,e,_⟩:=x;exact Heap.lt_size e
 | set S n=>obtain⟨o,_,_,_,e,_⟩:=x;exact Heap.lt_size e
 | ins C dx fs=>obtain⟨_,_,_,e,_⟩:=x;exact Heap.lt_size e
 | own y=>obtain⟨_,e⟩:=x;exact Heap.lt_size e
 | xd fs=>obtain⟨_,⟨_,_,_,e,_⟩,_⟩:=x;exact Heap.lt_size e
 | rng lo hi=>obtain⟨_,_,_,e⟩:=x;exact Heap.lt_size e
 | frz ob u=>obtain⟨e,_⟩:=x;exact Heap.lt_size e
 | tbl ps=>exact Heap.lt_size (show h.get? a=some _ from x)
 | met f y=>exact Heap.lt_size (show h.get? a=some _ from x)
 | ext φ=>obtain⟨_,⟨_,e⟩,_⟩:=x;exact Heap.lt_size e
theorem Paired.mapP{α β:Type}{F G:α->β->Prop}:∀{l₁:List α}{l₂:List β},Paired F l₁ l₂->(∀a b,F a b->G a b)->Paired G l₁ l₂
 | _,_,.nil,_=>.nil
 | _,_,.cons r t,f=>.cons (f _ _ r) (Paired.mapP t f)
theorem ObjOk.stay(x:ObjOk P w H h a o)(k:∀b u,(b=a\/H b=some (.own a))->h.get? b=some u->h'.get? b=some u)
  (ho:∀b,H b=some (.own a)->H' b=some (.own a)) (ht:∀b xs,H b=some (.tup xs)->H' b=some (.tup xs)):ObjOk P w H' h' a o:=by
 induction o with
 | lst xs=>obtain⟨z,its,n,r,e⟩:=x;exact⟨z,its,n,r,k _ _ (.inl rfl) e⟩
 | tup xs=>obtain⟨z,its,r,ob,e,c⟩:=x;exact⟨z,its,r,ob,k _ _ (.inl rfl) e,c⟩
 | dK kvs=>obtain⟨z,y,vs,r,ob,es,ep,e,c⟩:=x;exact⟨z,y,vs,r,ob,es,ep,k _ _ (.inl rfl) e,c⟩
 | dT kvs=>
  obtain⟨z,y,xs,r,ob,es,ep,e,c⟩:=x
  exact⟨z,y,xs,Paired.mapP r fun p q z=>⟨z.1,ht _ _ z.2.1,z.2.2⟩,ob,es,ep,k _ _ (.inl rfl) e,c⟩
 | set S n=>obtain⟨ob,es,ep,t,e,c⟩:=x;exact⟨ob,es,ep,t,k _ _ (.inl rfl) e,c⟩
 | ins C dx fs=>
  obtain⟨d,z,ne,e,mA,⟨od,es,ep,e2,c⟩,r⟩:=x
  exact⟨ho _ d,z,ne,k _ _ (.inl rfl) e,mA,⟨od,es,ep,k _ _ (.inr d) e2,c⟩,r⟩
 | own y=>obtain⟨ob,e⟩:=x;exact⟨ob,k _ _ (.inl rfl) e⟩
 | xd fs=>obtain⟨mA,⟨od,es,ep,e,c⟩,r⟩:=x;exact⟨mA,⟨od,es,ep,k _ _ (.inl rfl) e,c⟩,r⟩
 | rng lo hi=>obtain⟨t,u,v,e⟩:=x;exact⟨t,u,v,k _ _ (.inl rfl) e⟩
 | frz ob u ih=>obtain⟨e,q⟩:=x;exact⟨k _ _ (.inl rfl) e,ih q⟩
 | tbl ps=>
  have e:h.get? a=some { cls:=.none,data:=.fields ps }:=x
  show h'.get? a=some { cls:=.none,data:=.fields ps }
  exact k a _ (.inl rfl) e
 | met f y=>
  have e:h.get? a=some (PySem.W.methodObj (.ref f) (.ref y)):=x
  show h'.get? a=some (PySem.W.methodObj (.ref f) (.ref y))
  exact k a _ (.inl rfl) e
 | ext φ=>obtain⟨p,⟨o,e⟩,st⟩:=x;exact⟨st _ _ p fun o q=>k _ _ (.inl rfl) q,⟨o,k _ _ (.inl rfl) e⟩,st⟩
theorem HOk.lt(x:HOk P w H h)(e:H a=some o):a<h.objs.size:=(x a o e).lt
theorem HOk.fresh(x:HOk P w H h)(e:h.objs.size<=a):H a=none:=by
 cases q:H a with
 | none=>rfl
 | some u=>exact absurd (Nat.lt_of_lt_of_le (x.lt q) e) (Nat.lt_irrefl _)
theorem HOk.kept(x:HOk P w H h)(k:∀b u,h.get? b=some u->h'.get? b=some u):HOk P w H h':=fun a o e=>
 (x a o e).stay (fun b u _ q=>k b u q) (fun _ q=>q) fun _ _ q=>q
theorem HOk.laid(x:HOk P w H h)(k:∀b u,h.get? b=some u->h'.get? b=some u)(hp:h.objs.size<=a)(new:ObjOk P w (upd H a o) h' a o):HOk P w (upd H a o) h':=fun b u e=>by
 have hn:=x.fresh hp
 by_cases hb:b=a
 ·subst hb;rw[upd_same] at e;cases e;exact new
 ·rw[upd_ne hb] at e
  exact(x b u e).stay (fun c v _ q=>k c v q) (fun c q=>by rw[upd_ne (ZA q hn)];exact q) fun c xs q=>by rw[upd_ne (ZA q hn)];exact q
end
def Rd(H:Hp)(a:Addr)(u:HO):Prop:=H a=some u\/∃o,H a=some (.frz o u)
theorem Rd.ok{P:Program}{w:World}{H:Hp}{h:Heap}{a:Addr}{u:HO}(r:Rd H a u)(x:HOk P w H h):ObjOk P w H h a u:=by
 rcases r with r | ⟨o,r⟩
 ·exact x a u r
 ·obtain⟨_,q⟩:=x a _ r
  exact q
def Ws:Option HO->Prop
 | some (.lst _)=>True
 | some (.dK _)=>True
 | some (.dT _)=>True
 | some (.set _ _)=>True
 | some (.ins _ _ _)=>True
 | some (.ext _)=>True
 | _=>False
section
variable {P:Program} {w:World} {H:Hp} {h h':Heap} {x e:Addr} {o':HO}
theorem HOk.write(ok:HOk P w H h)(mu:Ws (H x))(he:e=x\/H e=some (.own x))(k:∀b u,b≠e->h.get? b=some u->h'.get? b=some u)(heo:∃u,h'.get? e=some u)
  (new:ObjOk P w (upd H x o') h' x o'):HOk P w (upd H x o') h':=fun b u q=>by
 have nown:∀c y,H c=some (.own y)->c≠x:=fun c y r z=>by subst z;rw[r] at mu;exact mu
 have ntup:∀c xs,H c=some (.tup xs)->c≠x:=fun c xs r z=>by subst z;rw[r] at mu;exact mu
 by_cases hb:b=x
 ·subst hb;rw[upd_same] at q;cases q;exact new
 ·rw[upd_ne hb] at q
  by_cases hbe:b=e
  ·have q':H b=some (.own x):=by
    rcases he with z | z
    ·exact absurd (hbe.trans z) hb
    ·rw[hbe];exact z
   rw[q] at q';cases q'
   obtain⟨v,hv⟩:=heo
   exact⟨v,by rw[hbe];exact hv⟩
  ·refine(ok b u q).stay (fun c v hc r=>k c v ?_ r) (fun c r=>by rw[upd_ne (nown c b r)];exact r) fun c xs r=>by rw[upd_ne (ntup c xs r)];exact r
   rcases hc with rfl | hc
   ·exact hbe
   ·rintro rfl
    rcases he with z | z
    ·exact nown c b hc z
    ·rw[hc] at z;cases z;exact hb rfl
end
structure Un(fs ex:List Addr)(H H':Hp)(h h':Heap):Prop where
 keep:∀b o,h.get? b=some o->H b=none->b∉fs->b∉ex->h'.get? b=some o
 slot:∀b o,h.get? b=some o->H b=none->b∈fs->b∉ex->∃sl,h'.get? b=some { o with slots:=sl }
 free:∀b o,h.get? b=some o->H b=none->b∉ex->H' b=none
 there:∀b o,h.get? b=some o->b∉ex->∃o',h'.get? b=some o'
 tups:∀b xs,H b=some (.tup xs)->H' b=some (.tup xs)
 frzs:∀b o u,H b=some (.frz o u)->H' b=some (.frz o u)
 tbls:∀b ps,H b=some (.tbl ps)->∃more,H' b=some (.tbl (ps++more))
section
variable {fs fs' ex ex':List Addr} {H H1 H2:Hp} {h h1 h2 h':Heap} {a x e:Addr} {o:HO}
theorem Un.any(u:Un fs ex H H1 h h1){b:Addr}{ob:Obj}(q:h.get? b=some ob)(n:H b=none)(hx:b∉ex):∃sl,h1.get? b=some { ob with slots:=sl }:=by
 by_cases hb:b∈fs
 ·exact u.slot b ob q n hb hx
 ·exact⟨ob.slots,u.keep b ob q n hb hx⟩
theorem Un.kept(k:∀b u,h.get? b=some u->h'.get? b=some u):Un fs ex H H h h':=
 ⟨fun b ob q _ _ _=>k b ob q,fun b ob q _ _ _=>⟨ob.slots,k b ob q⟩,fun _ _ _ n _=>n,fun b ob q _=>⟨ob,k b ob q⟩,fun _ _ q=>q,fun _ _ _ q=>q,fun _ ps q=>⟨#[],by rw[q];simp⟩⟩
theorem Un.refl:Un fs ex H H h h:=Un.kept fun _ _ q=>q
theorem Un.laid(k:∀b u,h.get? b=some u->h'.get? b=some u)(hp:h.objs.size<=a)(hn:H a=none):Un fs ex H (upd H a o) h h' where
 keep:=fun b u q _ _ _=>k b u q
 slot:=fun b u q _ _ _=>⟨u.slots,k b u q⟩
 free:=fun b u q n _=>by rw[upd_ne (Nat.ne_of_lt (Nat.lt_of_lt_of_le (Heap.lt_size q) hp))];exact n
 there:=fun b u q _=>⟨u,k b u q⟩
 tups:=fun b xs q=>by rw[upd_ne (ZA q hn)];exact q
 frzs:=fun b u xs q=>by rw[upd_ne (ZA q hn)];exact q
 tbls:=fun b ps q=>⟨#[],by rw[upd_ne (ZA q hn),q];simp⟩
theorem Un.write(mu:Ws (H x))(he:e=x\/H e=some (.own x))(k:∀b u,b≠e->h.get? b=some u->h'.get? b=some u)(heo:∃u,h'.get? e=some u):Un fs ex H (upd H x o) h h':=by
 have hx:∀b,H b=none->b≠x:=fun b n z=>by subst z;rw[n] at mu;exact mu
 have hb:∀b,H b=none->b≠e:=fun b n z=>by
  subst z
  rcases he with r | r
  ·exact hx b n r
  ·rw[n] at r;cases r
 have hm:∀b u,H b=some u->¬Ws (some u)->b≠x:=fun b u q nm z=>by subst z;rw[q] at mu;exact nm mu
 refine⟨fun b u q n _ _=>k b u (hb b n) q,fun b u q n _ _=>⟨u.slots,k b u (hb b n) q⟩,fun b u q n _=>by rw[upd_ne (hx b n)];exact n,fun b u q _=>?_,
  fun b xs q=>by rw[upd_ne (hm b _ q fun z=>z)];exact q,fun b u xs q=>by rw[upd_ne (hm b _ q fun z=>z)];exact q,fun b ps q=>⟨#[],by rw[upd_ne (hm b _ q fun z=>z),q];simp⟩⟩
 by_cases hbe:b=e
 ·subst hbe;exact heo
 ·exact⟨u,k b u hbe q⟩
end
def F0(h:Heap)(H:Hp):List Addr:=(List.range h.objs.size).filter fun a=>(H a).isSome
def R9(h:Heap)(H:Hp):Heap:=PySem.W.hideAll h (F0 h H)
theorem N1(h:Heap)(H:Hp):(R9 h H).objs.size=h.objs.size:=PySem.W.hideAll_size _ _
theorem M9{h:Heap}{H:Hp}{b:Addr}{o:Obj}(e:h.get? b=some o)(n:H b=none):(R9 h H).get? b=some o:=
 PySem.W.hideAll_get _ e fun hm=>by
  have q:(H b).isSome=true:=(List.mem_filter.mp hm).2
  rw[n] at q;simp at q
theorem KG{h:Heap}{H:Hp}{b:Addr}{o:Obj}(e:(R9 h H).get? b=some o):h.get? b=some o/\H b=none:=by
 have e':h.get? b=some o:=PySem.W.of_hideAll (F0 h H) e
 refine⟨e',?_⟩
 cases q:H b with
 | none=>rfl
 | some x=>
  have hm:b∈F0 h H:=List.mem_filter.mpr ⟨List.mem_range.mpr (Heap.lt_size e'),by simp[q]⟩
  have z:(R9 h H).get? b=none:=PySem.W.hideAll_none (F0 h H) hm
  rw[z] at e;cases e
def KH(g h:Heap)(L:Addr):List (Addr×Obj):=(List.range h.objs.size).filterMap fun a=>if a=L\/(g.get? a).isSome=true then none else(h.get? a).map fun o=>(a,o)
def rest(g h:Heap)(L d:Addr):List (Addr×Obj):=(KH g h L).filter fun p=>decide (p.1≠d)
structure Mod(K:PySem.W.Frag)(mg:Str->Option Value)(base:Heap):Prop where
 kin:K.In base
 glob:base.Ns mainGlobals mg
 blt:∃mb,base.Ns builtinsNs mb/\∀x:Str,x≠"__name__"->mb x=bootBuiltins x
 nolimit:base.NoLimit
structure Cx where
 prog:Program
 w:World
 K:PySem.W.Frag
 mg:Str->Option Value
 base:Heap
 A:Around
 N:List Str
 s₀:Shared
 H₀:Hp
 env:Env
 outer:List Env
 stack:List Env
 ex:List Addr
 fn:Str->Bool
 calm:Bool
 pn:List (Addr×Obj)
 xe:Value->Shared->Prop
def P0(l:List Env):List Addr:=l.filterMap (·.frame)
abbrev Cx.fs(X:Cx):List Addr:=P0 X.outer
def F1(sc:Scope)(x:Str):Prop:=sc.names.lookup x=some .local\/sc.names.lookup x=some .cell\/sc.names.lookup x=some .free
def Gx(sc:Scope)(x:Str):Prop:=sc.names.lookup x=some .local\/sc.names.lookup x=some .cell
def Ec(env:Env)(h:Heap)(m:Str->Option Value)(x:Str)(u:Value):Prop:=
 (env.kindOf x=some .local/\m x=some u)\/((env.kindOf x=some .cell\/env.kindOf x=some .free)/\∃c,env.cells.lookup x=some c/\h.IsCell c (some u))
structure Cx.Ok(X:Cx):Prop where
 mod:Mod X.K X.mg X.base
 kind:X.env.scope.kind = .function
 glob:X.env.globals=mainGlobals
 blt:X.env.builtins=builtinsNs
 above:X.s₀.heap.objs.size<=X.env.locals
 inj:∀x y c,X.env.cells.lookup x=some c->X.env.cells.lookup y=some c->x=y
 has:∀x,(X.env.kindOf x=some .cell\/X.env.kindOf x=some .free)->∃c,X.env.cells.lookup x=some c
 cab:∀x c,X.fn x=true->X.env.cells.lookup x=some c->X.s₀.heap.objs.size<=c
 hd:X.calm=true->X.A.handled=none
 frames:X.A.frames=some X.stack
 stk:X.stack=X.outer\/(X.stack=X.env::X.outer/\X.env.frame=some X.env.locals)
 exf:∀b∈X.ex,b≠X.env.locals/\∀x c,X.env.cells.lookup x=some c->c≠b
 bs:∀b o,X.base.get? b=some o->X.s₀.heap.get? b=some o/\X.H₀ b=none
 bsz:X.base.objs.size<=X.s₀.heap.objs.size
 noex:∀b o,X.base.get? b=some o->b∉X.ex
 exfs:∀b∈X.ex,b∉X.fs
 funs:X.s₀.heap.FunFrames X.base X.outer
 frf:∀b∈X.fs,X.H₀ b=none
structure Inv(X:Cx)(pins:List (Addr×Obj))(Z:List (Option V))(H:Hp)(s:Shared):Prop where
 ok:X.Ok
 os:s.os=X.s₀.os
 bare:AllBare s.gens
 base:Un X.fs X.ex X.H₀ H X.s₀.heap s.heap
 loc:∃m,s.heap.Ns X.env.locals m/\∀(i:Nat)(x:Str)(v:V),X.N[i]?=some x->Z[i]?=some (some v)->F1 X.env.scope x->∃u,RelV v u/\Ec X.env s.heap m x u
 cell:∀x c,X.env.cells.lookup x=some c->∃v,s.heap.IsCell c v
 free:H X.env.locals=none
 freeC:∀x c,X.env.cells.lookup x=some c->H c=none
 pin:∀p∈X.pn++pins,s.heap.get? p.1=some p.2/\H p.1=none/\p.1≠X.env.locals/\p.1∉X.fs/\∀v,p.2.data≠.cell v
 hok:HOk X.prog X.w H s.heap
 len:Z.length=X.N.length
section
variable {X:Cx} {pins:List (Addr×Obj)} {Z:List (Option V)} {H H':Hp} {s:Shared} {h':Heap}
theorem Cx.Ok.nofr(ok:X.Ok){b:Addr}{o:Obj}(e:X.base.get? b=some o):b∉X.fs:=fun hb=>by
 have:=(ok.funs.mem hb).1
 rw[e] at this;cases this
theorem Inv.bs(I:Inv X pins Z H s):∀b o,X.base.get? b=some o->s.heap.get? b=some o/\H b=none:=fun b o e=>
 ⟨I.base.keep b o (I.ok.bs b o e).1 (I.ok.bs b o e).2 (I.ok.nofr e) (I.ok.noex b o e),I.base.free b o (I.ok.bs b o e).1 (I.ok.bs b o e).2 (I.ok.noex b o e)⟩
theorem Inv.bk(I:Inv X pins Z H s):∀b o,X.base.get? b=some o->s.heap.get? b=some o:=fun b o e=>(I.bs b o e).1
theorem Inv.mod(I:Inv X pins Z H s):Mod X.K X.mg X.base:=I.ok.mod
theorem Inv.kIn(I:Inv X pins Z H s):X.K.In s.heap:=I.ok.mod.kin.keeps I.bk
theorem Inv.fr(I:Inv X pins Z H s):∃m,Fr X.base X.env.locals s.heap m:=
 let⟨m,hn,_⟩:=I.loc
 ⟨m,hn,I.bk,Nat.le_trans I.ok.bsz I.ok.above⟩
theorem Inv.lt(I:Inv X pins Z H s):X.env.locals<s.heap.objs.size:=let⟨_,hn,_⟩:=I.loc;hn.lt
theorem Inv.sz(I:Inv X pins Z H s):X.s₀.heap.objs.size<=s.heap.objs.size:=Nat.le_trans I.ok.above (Nat.le_of_lt I.lt)
theorem Inv.nofs(I:Inv X pins Z H s){a:Addr}(h:s.heap.objs.size<=a):a∉X.fs:=fun hb=>by
 obtain⟨_,o,ho,_⟩:=I.ok.funs.mem hb
 exact absurd (Nat.lt_of_lt_of_le (Heap.lt_size ho) (Nat.le_trans I.sz h)) (Nat.lt_irrefl _)
theorem Inv.cne(I:Inv X pins Z H s):∀x c,X.env.cells.lookup x=some c->c≠X.env.locals:=fun x c e z=>by
 obtain⟨v,o,ho,hd⟩:=I.cell x c e
 obtain⟨m,⟨o',es,ep,ho',hd',_⟩,_⟩:=I.loc
 rw[z,ho'] at ho;cases ho;rw[hd'] at hd;cases hd
theorem Inv.funs(I:Inv X pins Z H s):s.heap.FunFrames X.base X.outer:=by
 have all:∀(l:List Env),(∀b∈P0 l,b∈X.fs)->X.s₀.heap.FunFrames X.base l->s.heap.FunFrames X.base l:=by
  intro l
  induction l with
  | nil=>intro _ _;trivial
  | cons env r ih=>
   intro hs hl
   obtain⟨hk,⟨L,o,hf,hn,ho,hd⟩,hr⟩:=hl
   have hL:L∈X.fs:=hs L (by unfold P0;rw[List.filterMap_cons,hf];exact List.mem_cons_self)
   obtain⟨sl,e⟩:=I.base.slot L o ho (I.ok.frf L hL) hL fun z=>I.ok.exfs L z hL
   exact⟨hk,⟨L,_,hf,hn,e,hd⟩,ih (fun b hb=>hs b (by unfold P0;rw[List.filterMap_cons,hf];exact List.mem_cons_of_mem _ hb)) hr⟩
 exact all X.outer (fun _ hb=>hb) I.ok.funs
theorem Inv.stack(I:Inv X pins Z H s):s.heap.FunFrames X.base X.stack:=by
 rcases I.ok.stk with e | ⟨e,hf⟩
 ·rw[e];exact I.funs
 ·rw[e]
  obtain⟨m,hn,_⟩:=I.loc
  refine .cons (by rw[I.ok.kind];decide) hf hn ?_ I.funs
  exact Heap.get?_none_of_le (Nat.le_trans I.ok.bsz I.ok.above)
theorem Inv.stkSub(I:Inv X pins Z H s):∀b∈P0 X.stack,b∈X.env.locals::X.fs:=fun b hb=>by
 rcases I.ok.stk with e | ⟨e,hf⟩
 ·rw[e] at hb;exact List.mem_cons_of_mem _ hb
 ·rw[e] at hb
  unfold P0 at hb;rw[List.filterMap_cons,hf] at hb;exact hb
theorem Inv.stkFree(I:Inv X pins Z H s):∀b∈P0 X.stack,H b=none:=fun b hb=>by
 rcases List.mem_cons.mp (I.stkSub b hb) with e | hb
 ·rw[e];exact I.free
 ·obtain⟨_,o,ho,_⟩:=I.ok.funs.mem hb
  exact I.base.free b o ho (I.ok.frf b hb) fun z=>I.ok.exfs b z hb
theorem Inv.step{g':Array GenState}{t':Nat}{d':Drawn}{ch:List Addr}(I:Inv X pins Z H s)
  (hch:∀b∈ch,(b∈X.ex\/X.s₀.heap.objs.size<=b)/\b≠X.env.locals/\(∀x c,X.env.cells.lookup x=some c->c≠b)/\∀p∈X.pn++pins,p.1≠b)
  (keep:∀b o,b≠X.env.locals->b∉X.fs->b∉ch->s.heap.get? b=some o->H b=none->h'.get? b=some o)
  (slot:∀b o,b≠X.env.locals->b∈X.fs->b∉ch->s.heap.get? b=some o->H b=none->∃sl,h'.get? b=some { o with slots:=sl }) (free:∀b o,b∉ch->s.heap.get? b=some o->H b=none->H' b=none)
  (there:∀b o,b∉ch->s.heap.get? b=some o->∃o',h'.get? b=some o')
  (tups:∀b xs,H b=some (.tup xs)->H' b=some (.tup xs)) (frzs:∀b o u,H b=some (.frz o u)->H' b=some (.frz o u)) (tbls:∀b ps,H b=some (.tbl ps)->∃more,H' b=some (.tbl (ps++more)))
  (ns:∀m,s.heap.Ns X.env.locals m->h'.Ns X.env.locals m) (hok:HOk X.prog X.w H' h') (hg:AllBare g') :
  Inv X pins Z H' { s with heap:=h',gens:=g',drawn:=d',toks:=t' }:=by
 have neL:∀b o,X.s₀.heap.get? b=some o->b≠X.env.locals:=fun b o e=>Nat.ne_of_lt (Nat.lt_of_lt_of_le (Heap.lt_size e) I.ok.above)
 have neC:∀b o,X.s₀.heap.get? b=some o->b∉X.ex->b∉ch:=fun b o e hx hb=>by
  rcases(hch b hb).1 with z | z
  ·exact hx z
  ·exact absurd (Nat.lt_of_lt_of_le (Heap.lt_size e) z) (Nat.lt_irrefl _)
 have cellK:∀x c,X.env.cells.lookup x=some c->∀v,s.heap.IsCell c v->h'.IsCell c v:=fun x c e v ⟨o,ho,hd⟩=>by
  have nch:c∉ch:=fun z=>(hch c z).2.2.1 x c e rfl
  by_cases hc:c∈X.fs
  ·obtain⟨sl,q⟩:=slot c o (I.cne x c e) hc nch ho (I.freeC x c e)
   exact⟨_,q,hd⟩
  ·exact⟨o,keep c o (I.cne x c e) hc nch ho (I.freeC x c e),hd⟩
 refine⟨I.ok,I.os,hg,⟨fun b o e n hb hx=>?_,fun b o e n hb hx=>?_,fun b o e n hx=>?_,fun b o e hx=>?_,fun b xs e=>tups b xs (I.base.tups b xs e),fun b o xs e=>frzs b o xs (I.base.frzs b o xs e),fun b ps e=>?_⟩,?_,fun x c e=>?_,?_,fun x c e=>?_,fun p hp=>?_,hok,I.len⟩
 ·exact keep b o (neL b o e) hb (neC b o e hx) (I.base.keep b o e n hb hx) (I.base.free b o e n hx)
 ·obtain⟨sl,e1⟩:=I.base.slot b o e n hb hx
  obtain⟨sl',e2⟩:=slot b _ (neL b o e) hb (neC b o e hx) e1 (I.base.free b o e n hx)
  exact⟨sl',e2⟩
 ·obtain⟨o',e1⟩:=I.base.there b o e hx
  exact free b o' (neC b o e hx) e1 (I.base.free b o e n hx)
 ·obtain⟨o',e1⟩:=I.base.there b o e hx
  exact there b o' (neC b o e hx) e1
 ·obtain⟨m1,e1⟩:=I.base.tbls b ps e
  obtain⟨m2,e2⟩:=tbls b _ e1
  exact⟨m1++m2,by rw[e2,Array.append_assoc]⟩
 ·obtain⟨m,hn,hl⟩:=I.loc
  refine⟨m,ns m hn,fun i x v e1 e2 e3=>?_⟩
  obtain⟨u,r,l⟩:=hl i x v e1 e2 e3
  refine⟨u,r,?_⟩
  rcases l with l | ⟨k,c,e,z⟩
  ·exact .inl l
  ·exact .inr ⟨k,c,e,cellK x c e _ z⟩
 ·obtain⟨v,z⟩:=I.cell x c e
  exact⟨v,cellK x c e v z⟩
 ·obtain⟨m,⟨o,_,_,ho,_⟩,_⟩:=I.loc
  exact free _ o (fun z=>(hch _ z).2.1 rfl) ho I.free
 ·obtain⟨v,o,ho,hd⟩:=I.cell x c e
  exact free c o (fun z=>(hch c z).2.2.1 x c e rfl) ho (I.freeC x c e)
 ·obtain⟨e,n,ne,nf,d⟩:=I.pin p hp
  have nch:p.1∉ch:=fun z=>(hch p.1 z).2.2.2 p hp rfl
  exact⟨keep p.1 p.2 ne nf nch e n,free p.1 p.2 nch e n,ne,nf,d⟩
theorem Inv.un{t':Nat}(I:Inv X pins Z H s)(u:Un X.fs [] H H' s.heap h')(hok:HOk X.prog X.w H' h'):Inv X pins Z H' { s with heap:=h',toks:=t' }:=by
 obtain⟨m,⟨o,es,ep,ho,r⟩,_⟩:=id I.loc
 obtain⟨sl,hL⟩:=u.any ho I.free (by simp)
 exact I.step (g':=s.gens) (d':=s.drawn) (ch:=[]) (fun _ z=>nomatch z) (fun b o _ hb _ e n=>u.keep b o e n hb (by simp)) (fun b o _ hb _ e n=>u.slot b o e n hb (by simp)) (fun b o _ e n=>u.free b o e n (by simp)) (fun b o _ e=>u.there b o e (by simp)) u.tups u.frzs u.tbls (fun m' hm=>by
  obtain⟨o',es',ep',ho',r'⟩:=hm
  rw[ho] at ho';cases ho'
  exact⟨_,es',ep',hL,r'⟩) hok I.bare
theorem Inv.call{g':Array GenState}{t':Nat}{d':Drawn}{ch:List Addr}(I:Inv X pins Z H s)(u:Un (P0 X.stack) ch H H' s.heap h')(hok:HOk X.prog X.w H' h')(hg:AllBare g')
  (hch:∀b∈ch,(b∈X.ex\/X.s₀.heap.objs.size<=b)/\b≠X.env.locals/\(∀x c,X.env.cells.lookup x=some c->c≠b)/\∀p∈X.pn++pins,p.1≠b) :
  Inv X pins Z H' { s with heap:=h',gens:=g',drawn:=d',toks:=t' }:=by
 obtain⟨m,⟨o,es,ep,ho,r⟩,_⟩:=id I.loc
 obtain⟨sl,hL⟩:=u.any ho I.free fun z=>(hch _ z).2.1 rfl
 exact I.step (ch:=ch) hch (fun b o hL hb hc e n=>u.keep b o e n (fun z=>(List.mem_cons.mp (I.stkSub b z)).elim hL hb) hc) (fun b o _ _ hc e n=>u.any e n hc) (fun b o hc e n=>u.free b o e n hc) (fun b o hc e=>u.there b o e hc) u.tups u.frzs u.tbls (fun m' hm=>by
  obtain⟨o',es',ep',ho',r'⟩:=hm
  rw[ho] at ho';cases ho'
  exact⟨_,es',ep',hL,r'⟩) hok hg
theorem Inv.turned{t':Nat}{it:Addr}(I:Inv X pins Z H s)(k:∀b o,b≠it->s.heap.get? b=some o->h'.get? b=some o)(hn:H it=none)(hL:it≠X.env.locals)
  (h1:it∈X.ex\/X.s₀.heap.objs.size<=it) (h2:∀x c,X.env.cells.lookup x=some c->c≠it) (h3:∀p∈X.pn++pins,p.1≠it):Inv X pins Z H { s with heap:=h',toks:=t' }:=by
 have nit:∀b u,H b=some u->b≠it:=fun b u e z=>by rw[z,hn] at e;cases e
 refine I.step (g':=s.gens) (d':=s.drawn) (ch:=[it]) (fun b hb=>?_) (fun b o _ _ hc e _=>k b o (fun z=>hc (by simp[z])) e) (fun b o _ _ hc e _=>⟨o.slots,k b o (fun z=>hc (by simp[z])) e⟩) (fun _ _ _ _ n=>n)
  (fun b o hc e=>⟨o,k b o (fun z=>hc (by simp[z])) e⟩) (fun _ _ e=>e) (fun _ _ _ e=>e) (fun b ps e=>⟨#[],by rw[e];simp⟩) (fun m hm=>?_) (fun b u e=>?_) I.bare
 ·have e:b=it:=by simpa using hb
  subst e
  exact⟨h1,hL,h2,h3⟩
 ·obtain⟨o,es,ep,ho,r⟩:=hm
  exact⟨o,es,ep,k _ o (Ne.symm hL) ho,r⟩
 ·refine(I.hok b u e).stay (fun c v hc q=>k c v ?_ q) (fun _ q=>q) fun _ _ q=>q
  rcases hc with z | z
  ·rw[z];exact nit b u e
  ·exact nit c _ z
theorem Inv.tok(I:Inv X pins Z H s)(t:Nat):Inv X pins Z H { s with toks:=t }:=I.un (h':=s.heap) (t':=t) Un.refl I.hok
theorem Inv.kept{t':Nat}(I:Inv X pins Z H s)(k:∀b u,s.heap.get? b=some u->h'.get? b=some u):Inv X pins Z H { s with heap:=h',toks:=t' }:=I.un (Un.kept k) (I.hok.kept k)
theorem Inv.laid{a:Addr}{o:HO}{t':Nat}(I:Inv X pins Z H s)(k:∀b u,s.heap.get? b=some u->h'.get? b=some u)(hp:s.heap.objs.size<=a)(new:ObjOk X.prog X.w (upd H a o) h' a o) :
  Inv X pins Z (upd H a o) { s with heap:=h',toks:=t' }:=I.un (Un.laid k hp (I.hok.fresh hp)) (I.hok.laid k hp new)
theorem Inv.write{x e:Addr}{o:HO}{t':Nat}(I:Inv X pins Z H s)(mu:Ws (H x))(he:e=x\/H e=some (.own x))(k:∀b u,b≠e->s.heap.get? b=some u->h'.get? b=some u)(heo:∃u,h'.get? e=some u)
  (new:ObjOk X.prog X.w (upd H x o) h' x o):Inv X pins Z (upd H x o) { s with heap:=h',toks:=t' }:=I.un (Un.write mu he k heo) (I.hok.write mu he k heo new)
theorem Inv.weak{Z':List (Option V)}(I:Inv X pins Z H s)(hl:Z'.length=Z.length)(w:∀(i:Nat) v,Z'[i]?=some (some v)->Z[i]?=some (some v)):Inv X pins Z' H s:=
 ⟨I.ok,I.os,I.bare,I.base,let⟨m,hn,hl'⟩:=I.loc;⟨m,hn,fun i x v e1 e2 e3=>hl' i x v e1 (w i v e2) e3⟩,I.cell,I.free,I.freeC,I.pin,I.hok,hl.trans I.len⟩
theorem Inv.pins_of{pins':List (Addr×Obj)}(I:Inv X pins Z H s)(h:∀p∈pins',s.heap.get? p.1=some p.2/\H p.1=none/\p.1≠X.env.locals/\p.1∉X.fs/\∀v,p.2.data≠.cell v):Inv X pins' Z H s:=
 ⟨I.ok,I.os,I.bare,I.base,I.loc,I.cell,I.free,I.freeC,fun p hp=>(List.mem_append.mp hp).elim (fun z=>I.pin p (List.mem_append_left _ z)) (h p),I.hok,I.len⟩
theorem Sd{N:List Str}(hN:N.Nodup){i j:Nat}{x:Str}(a:N[i]?=some x)(b:N[j]?=some x):i=j:=by
 obtain⟨h1,e1⟩:=List.getElem?_eq_some_iff.mp a
 obtain⟨h2,e2⟩:=List.getElem?_eq_some_iff.mp b
 exact(List.getElem_inj hN).mp (e1.trans e2.symm)
theorem N2{M:Model}{A:Around}{E:Value->Shared->Prop}{i:Nat}{x:Str}{v:V}{u:Value}{Q:Unit->Shared->Prop}(I:Inv X pins Z H s)(hN:X.N.Nodup)(hi:X.N[i]?=some x)(hx:Gx X.env.scope x)(r:RelV v u)
  (h:∀s',Inv X pins (Z.set i (some v)) H s'->(∃a,Heap.SameBut a s.heap s'.heap/\(a=X.env.locals\/X.env.cells.lookup x=some a))->Q () s') (hf:X.fn x=true\/X.env.scope.names.lookup x=some .local:=by first | exact .inl rfl | exact .inr rfl | assumption):wpAny M A (storeName X.env x u) Q E s:=by
 obtain⟨m,hn,hl⟩:=id I.loc
 have hcls:(X.env.scope.kind==.class || (X.env.scope.kind==.module&&X.env.locals != X.env.globals))=false:=by rw[I.ok.kind];rfl
 have hiZ:i<Z.length:=by rw[I.len];exact(List.getElem?_eq_some_iff.mp hi).1
 have cne:=I.cne
 have tracked:∀{a:Addr}{h':Heap},(∃o,s.heap.get? a=some o/\H a=none)->Heap.SameBut a s.heap h'->HOk X.prog X.w H h':=fun{a h'} ha hs b ob e=>by
  obtain⟨_,_,hfree⟩:=ha
  refine(I.hok b ob e).stay (fun c w' hc q=>(hs.2 c ?_).trans q) (fun _ q=>q) fun _ _ q=>q
  rintro rfl
  rcases hc with rfl | hc
  ·rw[hfree] at e;cases e
  ·rw[hfree] at hc;cases hc
 rcases hx with hk | hk
 ·refine wpAny_storeName_local hk hn (fun h' hn' hs=>?_) hcls
  obtain⟨oL,_,_,hoL,_⟩:=id hn
  refine h _ ⟨I.ok,I.os,I.bare,⟨fun b o e n hb hx=>?_,fun b o e n hb hx=>?_,I.base.free,fun b o e hx=>?_,I.base.tups,I.base.frzs,I.base.tbls⟩,⟨_,hn',fun j y v' e1 e2 e3=>?_⟩,fun y c e=>?_,I.free,I.freeC,fun p hp=>?_,tracked ⟨oL,hoL,I.free⟩ hs,by simpa using I.len⟩ ⟨_,hs,.inl rfl⟩
  ·exact(hs.2 b (Nat.ne_of_lt (Nat.lt_of_lt_of_le (Heap.lt_size e) I.ok.above))).trans (I.base.keep b o e n hb hx)
  ·obtain⟨sl,e1⟩:=I.base.slot b o e n hb hx
   exact⟨sl,(hs.2 b (Nat.ne_of_lt (Nat.lt_of_lt_of_le (Heap.lt_size e) I.ok.above))).trans e1⟩
  ·obtain⟨o',e1⟩:=I.base.there b o e hx
   exact⟨o',(hs.2 b (Nat.ne_of_lt (Nat.lt_of_lt_of_le (Heap.lt_size e) I.ok.above))).trans e1⟩
  ·by_cases hj:j=i
   ·subst hj
    rw[hi] at e1;cases e1;rw[List.getElem?_set_self hiZ] at e2;cases e2
    exact⟨u,r,.inl ⟨hk,by simp⟩⟩
   ·rw[List.getElem?_set_ne (Ne.symm hj)] at e2
    obtain⟨u',r',q⟩:=hl j y v' e1 e2 e3
    refine⟨u',r',?_⟩
    rcases q with⟨k,e⟩ | ⟨k,c,e,z⟩
    ·refine .inl ⟨k,?_⟩
     have:y≠x:=fun e=>hj (Sd hN e1 (e▸hi))
     simp[this,e]
    ·exact .inr ⟨k,c,e,z.sameBut hs (cne y c e)⟩
  ·obtain⟨w',z⟩:=I.cell y c e
   exact⟨w',z.sameBut hs (cne y c e)⟩
  ·obtain⟨e,n,ne,nf,d⟩:=I.pin p hp
   exact⟨(hs.2 p.1 ne).trans e,n,ne,nf,d⟩
 ·have hfn:X.fn x=true:=by
   rcases hf with z | z
   ·exact z
   ·rw[z] at hk;cases hk
  obtain⟨c,hc⟩:=I.ok.has x (.inl hk)
  obtain⟨w',z⟩:=I.cell x c hc
  refine wpAny_storeName_cell I.ok.kind hk hc z (fun h' hc' hs=>?_)
  obtain⟨oc,hoc,hocd⟩:=id z
  refine h { s with heap:=h' } ⟨I.ok,I.os,I.bare,⟨fun b o e n hb hx=>?_,fun b o e n hb hx=>?_,I.base.free,fun b o e hx=>?_,I.base.tups,I.base.frzs,I.base.tbls⟩,⟨m,hn.sameBut hs (Ne.symm (cne x c hc)),fun j y v' e1 e2 e3=>?_⟩,fun y c' e=>?_,I.free,I.freeC,fun p hp=>?_,tracked ⟨oc,hoc,I.freeC x c hc⟩ hs,by simpa using I.len⟩ ⟨c,hs,.inr hc⟩
  ·exact(hs.2 b (Nat.ne_of_lt (Nat.lt_of_lt_of_le (Heap.lt_size e) (I.ok.cab x c hfn hc)))).trans (I.base.keep b o e n hb hx)
  ·obtain⟨sl,e1⟩:=I.base.slot b o e n hb hx
   exact⟨sl,(hs.2 b (Nat.ne_of_lt (Nat.lt_of_lt_of_le (Heap.lt_size e) (I.ok.cab x c hfn hc)))).trans e1⟩
  ·obtain⟨o',e1⟩:=I.base.there b o e hx
   exact⟨o',(hs.2 b (Nat.ne_of_lt (Nat.lt_of_lt_of_le (Heap.lt_size e) (I.ok.cab x c hfn hc)))).trans e1⟩
  ·by_cases hj:j=i
   ·subst hj
    rw[hi] at e1;cases e1;rw[List.getElem?_set_self hiZ] at e2;cases e2
    exact⟨u,r,.inr ⟨.inl hk,c,hc,hc'⟩⟩
   ·rw[List.getElem?_set_ne (Ne.symm hj)] at e2
    obtain⟨u',r',q⟩:=hl j y v' e1 e2 e3
    refine⟨u',r',?_⟩
    rcases q with q | ⟨k,c',e,z'⟩
    ·exact .inl q
    ·refine .inr ⟨k,c',e,z'.sameBut hs ?_⟩
     rintro rfl
     exact hj (Sd hN e1 (I.ok.inj _ _ _ e hc▸hi))
  ·by_cases hcc:c'=c
   ·subst hcc;exact⟨_,hc'⟩
   ·obtain⟨w2,z2⟩:=I.cell y c' e
    exact⟨w2,z2.sameBut hs hcc⟩
  ·obtain⟨e,n,ne,nf,d⟩:=I.pin p hp
   refine⟨(hs.2 p.1 ?_).trans e,n,ne,nf,d⟩
   intro q;rw[q,hoc] at e
   have q':oc=p.2:=Option.some.inj e
   exact d w' (by rw[<-q'];exact hocd)
theorem Wt{M:Model}{A:Around}{E:Value->Shared->Prop}{i:Nat}{x:Str}{v:V}{u:Value}{Q:Unit->Shared->Prop}(I:Inv X pins Z H s)(hN:X.N.Nodup)(hi:X.N[i]?=some x)(hx:Gx X.env.scope x)(r:RelV v u)
  (h:∀s',Inv X pins (Z.set i (some v)) H s'->Q () s') (hf:X.fn x=true\/X.env.scope.names.lookup x=some .local:=by first | exact .inl rfl | exact .inr rfl | assumption):wpAny M A (storeName X.env x u) Q E s:=
 N2 I hN hi hx r (fun s' I' _=>h s' I') hf
theorem Inv.call'{s':Shared}{ch:List Addr}(I:Inv X pins Z H s)(ho:s'.os=s.os)(u:Un (P0 X.stack) ch H H' s.heap s'.heap)(hok:HOk X.prog X.w H' s'.heap)(hg:AllBare s'.gens)
  (hch:∀b∈ch,(b∈X.ex\/X.s₀.heap.objs.size<=b)/\b≠X.env.locals/\(∀x c,X.env.cells.lookup x=some c->c≠b)/\∀p∈X.pn++pins,p.1≠b):Inv X pins Z H' s':=by
 obtain⟨h',g',d',t',o'⟩:=s'
 have e:o'=s.os:=ho
 subst e
 exact I.call (g':=g') (t':=t') (d':=d') u hok hg hch
end
abbrev XK:=Value->Option Addr->Hp->Prop
abbrev St:=List (Option V)
abbrev VK:=V->Hp->Prop
abbrev TE:=St->Hp->VK->Prop
abbrev TT:=St->Hp->(Bool->Hp->Prop)->Prop
abbrev TA:=St->Hp->(List V->Hp->Prop)->Prop
structure Wu where
 nx:St->Hp->Prop
 rt:VK
 bk:St->Hp->Prop:=fun _ _=>False
 ct:St->Hp->Prop:=fun _ _=>False
abbrev TS:=Wu->St->Hp->Prop
def EP(X:Cx)(pins:List (Addr×Obj))(Z:St)(Q:VK)(u:Value)(s':Shared):Prop:=∃v H',Inv X pins Z H' s'/\RelV v u/\Q v H'
def TP(X:Cx)(pins:List (Addr×Obj))(Z:St)(Q:Bool->Hp->Prop)(b:Bool)(s':Shared):Prop:=∃H',Inv X pins Z H' s'/\Q b H'
def AP(X:Cx)(pins:List (Addr×Obj))(Z:St)(Q:List V->Hp->Prop)(us:List Value)(s':Shared):Prop:=∃vs H',Inv X pins Z H' s'/\Vals vs us/\Q vs H'
def SP(X:Cx)(pins:List (Addr×Obj))(D:Wu)(f:Flow)(s':Shared):Prop:=
 match f with
 | .next=>∃Z' H',Inv X pins Z' H' s'/\D.nx Z' H'
 | .brk=>∃Z' H',Inv X pins Z' H' s'/\D.bk Z' H'
 | .cont=>∃Z' H',Inv X pins Z' H' s'/\D.ct Z' H'
 | .ret u=>∃v Z' H',Inv X pins Z' H' s'/\RelV v u/\D.rt v H'
def PE(X:Cx)(e:Expr)(t:TE):Prop:=
 ∀(pins:List (Addr×Obj))(s:Shared)(Z:St)(H:Hp)(Q:VK),Inv X pins Z H s->t Z H Q->wpAny (model X.prog X.w) X.A (eval e X.env) (EP X pins Z Q) X.xe s
def PT(X:Cx)(e:Expr)(t:TT):Prop:=
 ∀(pins:List (Addr×Obj))(s:Shared)(Z:St)(H:Hp)(Q:Bool->Hp->Prop),Inv X pins Z H s->t Z H Q->wpAny (model X.prog X.w) X.A (isTrue e X.env (eval e X.env)) (TP X pins Z Q) X.xe s
def PW(X:Cx)(e:Expr)(t:TT):Prop:=
 ∀(whole:Sem Value)(pins:List (Addr×Obj))(s:Shared)(Z:St)(H:Hp)(Q:Bool->Hp->Prop),Inv X pins Z H s->t Z H Q->wpAny (model X.prog X.w) X.A (isTrue e X.env whole) (TP X pins Z Q) X.xe s
theorem PW.pt{X:Cx}{e:Expr}{t:TT}(h:PW X e t):PT X e t:=h _
def PA(X:Cx)(es:List Expr)(t:TA):Prop:=
 ∀(pos:Pos)(pins:List (Addr×Obj))(s:Shared)(Z:St)(H:Hp)(Q:List V->Hp->Prop),Inv X pins Z H s->t Z H Q->wpAny (model X.prog X.w) X.A (spliced (backTo pos (starEach es X.env))) (AP X pins Z Q) X.xe s
def PS(X:Cx)(st:Stmt)(t:TS):Prop:=
 ∀(pins:List (Addr×Obj))(s:Shared)(Z:St)(H:Hp)(D:Wu),Inv X pins Z H s->t D Z H->wpAny (model X.prog X.w) X.A (exec st X.env) (SP X pins D) X.xe s
def PSs(X:Cx)(st:List Stmt)(t:TS):Prop:=
 ∀(pins:List (Addr×Obj))(s:Shared)(Z:St)(H:Hp)(D:Wu),Inv X pins Z H s->t D Z H->wpAny (model X.prog X.w) X.A (execs st X.env) (SP X pins D) X.xe s
theorem Ya{α:Type}{t:Sem α}{Q Q':α->Shared->Prop}{M:Model}{A:Around}{E:Value->Shared->Prop}{s:Shared}(h:wpAny M A t Q E s)(hQ:∀a s,Q a s->Q' a s):wpAny M A t Q' E s:=wpAny_mono h hQ fun _ _ x=>x
section
variable {X:Cx}
theorem bin{a b:Expr}{ta tb:TE}(ha:PE X a ta)(hb:PE X b tb){pins:List (Addr×Obj)}{s:Shared}{Z:St}{H:Hp}{R:V->V->Hp->Prop}(I:Inv X pins Z H s)(h:ta Z H fun x H1=>tb Z H1 fun y H2=>R x y H2)
  {α:Type} {Q:α->Shared->Prop} {f:Value->Value->Sem α}
  (hf:∀v u s2 x y H2,Inv X pins Z H2 s2->RelV x v->RelV y u->R x y H2->wpAny (model X.prog X.w) X.A (f v u) Q X.xe s2) :
  wpAny (model X.prog X.w) X.A (eval a X.env) (fun v s₁=>wpAny (model X.prog X.w) X.A (eval b X.env) (fun u s₂=>wpAny (model X.prog X.w) X.A (f v u) Q X.xe s₂) X.xe s₁) X.xe s:=by
 refine Ya (ha pins s Z H _ I h) fun v s1 ⟨x,H1,I1,r1,q1⟩=>?_
 refine Ya (hb pins s1 Z H1 _ I1 q1) fun u s2 ⟨y,H2,I2,r2,q2⟩=>?_
 exact hf v u s2 x y H2 I2 r1 r2 q2
def W8(i:Nat):TE:=fun Z H Q=>∃v,Z[i]?=some (some v)/\Q v H
def tC(v:V):TE:=fun _ H Q=>Q v H
theorem IY{i:Nat}{x:Str}{pos:Pos}(hN:X.N[i]?=some x)(hv:F1 X.env.scope x)(hd:(x==("__debug__" : Str))=false:=by decide)(hcd:(x==("__classdict__" : Str))=false:=by decide):PE X (.Name x pos) (W8 i):=by
 intro pins s Z H Q I h
 obtain⟨v,e,h⟩:=h
 obtain⟨m,hn,hl⟩:=I.loc
 obtain⟨u,r,l⟩:=hl i x v hN e hv
 have fin:EP X pins Z Q u s:=⟨v,H,I,r,h⟩
 rcases l with⟨hk,hm⟩ | ⟨hk,c,hc,hcell⟩
 ·exact wpAny_Name (wpAny_loadName_local I.ok.kind hk hn hm fin) hd
 ·rcases hk with hk | hk
  ·exact wpAny_Name (wpAny_loadName_cell I.ok.kind hk hc hcell fin) hd
  ·exact wpAny_Name (wpAny_loadName_free I.ok.kind hk hc hcell fin hcd) hd
theorem IZ{i j pos}:PE X (.Constant (.int i) j pos) (tC (.int i)):=fun _ _ _ H _ I h=>wpAny_Constant_int ⟨.int i,H,I.tok _,⟨_,rfl⟩,h⟩
theorem GH{b j pos}:PE X (.Constant (.bool b) j pos) (tC (.bl b)):=fun _ _ _ H _ I h=>Constant_bool ⟨.bl b,H,I,rfl,h⟩
theorem La{j pos}:PE X (.Constant .none j pos) (tC .non):=fun _ _ _ H _ I h=>Constant_none ⟨.non,H,I,rfl,h⟩
theorem Ha{x j pos}:PE X (.Constant (.str x) j pos) (tC (.str x)):=fun _ _ _ H _ I h=>Calls.Constant_str ⟨.str x,H,I.tok _,⟨_,rfl⟩,h⟩
def Gl(X:Cx)(x:Str):Prop:=X.env.kindOf x=some .globalImplicit
theorem WG{E:Value->Shared->Prop}{pins:List (Addr×Obj)}{s:Shared}{Z:St}{H:Hp}{x:Str}{u:Value}{pos:Pos}{Q:Value->Shared->Prop}(I:Inv X pins Z H s)(hg:Gl X x)(hm:X.mg x=some u)(h:Q u s)
  (hd:(x==("__debug__" : Str))=false:=by decide):wpAny (model X.prog X.w) X.A (eval (.Name x pos) X.env) Q E s:=
 Calls.Name_function_global I.ok.kind hg (Calls.loadGlobal_global (by rw[I.ok.glob];exact I.mod.glob.keeps I.bk) hm h) hd
theorem Ub{E:Value->Shared->Prop}{pins:List (Addr×Obj)}{s:Shared}{Z:St}{H:Hp}{x:Str}{u:Value}{pos:Pos}{Q:Value->Shared->Prop}(I:Inv X pins Z H s)(hg:Gl X x)(hm:X.mg x=none)(hv:bootBuiltins x=some u)(h:Q u s)
  (hn:x≠"__name__":=by decide) (hd:(x==("__debug__" : Str))=false:=by decide):wpAny (model X.prog X.w) X.A (eval (.Name x pos) X.env) Q E s:=by
 obtain⟨mb,h1,h2⟩:=I.mod.blt
 exact Calls.Name_function_global I.ok.kind hg (Calls.loadGlobal_builtin (by rw[I.ok.glob];exact I.mod.glob.keeps I.bk) hm (by rw[I.ok.blt];exact h1.keeps I.bk) ((h2 x hn).trans hv) h) hd
theorem KI{x:Str}{v:V}{u:Value}{pos:Pos}(hg:Gl X x)(hm:X.mg x=some u)(r:RelV v u)(hd:(x==("__debug__" : Str))=false:=by decide):PE X (.Name x pos) (tC v):=
 fun _ _ _ H _ I h=>WG I hg hm ⟨v,H,I,r,h⟩ hd
theorem KJ{x:Str}{v:V}{u:Value}{pos:Pos}(hg:Gl X x)(hm:X.mg x=none)(hv:bootBuiltins x=some u)(r:RelV v u)(hn:x≠"__name__":=by decide)(hd:(x==("__debug__" : Str))=false:=by decide):PE X (.Name x pos) (tC v):=
 fun _ _ _ H _ I h=>Ub I hg hm hv ⟨v,H,I,r,h⟩ hn hd
variable {a b:Expr} {ta tb:TE} {pos:Pos}
def PC(X:Cx)(op:CmpOp)(a b:Expr)(t:TE):Prop:=
 ∀(pins:List (Addr×Obj))(s:Shared)(Z:St)(H:Hp)(Q:VK),Inv X pins Z H s->t Z H Q->
  wpAny (model X.prog X.w) X.A (eval a X.env) (fun v s₁=>wpAny (model X.prog X.w) X.A (eval b X.env) (fun u s₂=>wpAny (model X.prog X.w) X.A (compareOp op v u) (EP X pins Z Q) X.xe s₂) X.xe s₁) X.xe s
theorem Lb(b:Expr){op:CmpOp}(h:op≠.In)(h2:op≠.NotIn):behindInMarks op b=false:=by
 have e1:(op==CmpOp.In)=false:=by cases op<;>first | rfl | exact absurd rfl h
 have e2:(op==CmpOp.NotIn)=false:=by cases op<;>first | rfl | exact absurd rfl h2
 cases b<;>simp[behindInMarks,e1,e2]
def GI(ta:TE):TE:=fun Z H Q=>ta Z H fun x H1=>Q (.bl (decide (x = .non))) H1
def Ie(ta:TE):TE:=fun Z H Q=>ta Z H fun x H1=>Q (.bl (!decide (x = .non))) H1
theorem RelV.none_iff{x:V}{v:Value}(r:RelV x v):(v==Value.none)=decide (x = .non):=by
 cases x with
 | non=>cases r;rfl
 | bl _=>cases r;rfl
 | int _=>obtain⟨t,rfl⟩:=r;rfl
 | str _=>obtain⟨t,rfl⟩:=r;rfl
 | byt _=>obtain⟨t,rfl⟩:=r;rfl
 | flt _=>obtain⟨t,rfl⟩:=r;rfl
 | ref _=>cases r;rfl
 | ty _=>cases r;rfl
theorem Hb{j pos'}(ha:PE X a ta):PC X .Is a (.Constant .none j pos') (GI ta):=by
 intro pins s Z H Q I h
 refine Ya (ha pins s Z H _ I h) fun v s1 ⟨x,H1,I1,r1,q1⟩=>?_
 exact Constant_none (is_none_gen ⟨.bl _,H1,I1,by rw[r1.none_iff];rfl,q1⟩)
theorem KN{j pos'}(ha:PE X a ta):PC X .IsNot a (.Constant .none j pos') (Ie ta):=by
 intro pins s Z H Q I h
 refine Ya (ha pins s Z H _ I h) fun v s1 ⟨x,H1,I1,r1,q1⟩=>?_
 exact Constant_none (isnot_none_gen ⟨.bl _,H1,I1,by rw[r1.none_iff];rfl,q1⟩)
def tB(t:TE):TT:=fun Z H Q=>t Z H fun x H1=>∃c,x = .bl c/\Q c H1
theorem P5{op:CmpOp}{t:TE}(h:PC X op a b t)(h1:behindInMarks op b=false:=by first | exact Lb _ (by decide) (by decide) | rfl):PT X (.Compare a [op] [b] pos) (tB t):=by
 intro pins s Z H Q I hw
 refine wpAny_isTrue_Compare1 (Ya (h pins s Z H _ I hw) fun v s1 h1=>Ya h1 fun u s2 h2=>Ya h2 fun c s3 ⟨x,H1,I1,r1,q1⟩=>?_) h1
 obtain⟨d,rfl,q⟩:=q1
 cases r1
 exact wpAny_truthy_bool ⟨H1,I1,q⟩
theorem Hd{e:Expr}{t:TE}(h:PE X e t)(he:∀whole,isTrue e X.env whole=(do let v <-whole;standAt e.pos;holding [v] (truthy v)):=by intro _;rfl):PT X e (tB t):=by
 intro pins s Z H Q I hw
 refine isTrue_plain (Ya (h pins s Z H _ I hw) fun v s1 ⟨x,H1,I1,r1,q1⟩=>?_) (he _)
 obtain⟨d,rfl,q⟩:=q1
 cases r1
 exact wpAny_truthy_bool ⟨H1,I1,q⟩
variable {tA tB':TT} {rest:List Expr}
def GJ(t u:TT):TT:=fun Z H Q=>t Z H fun c H1=>if c=true then u Z H1 Q else Q false H1
def EG(t u:TT):TT:=fun Z H Q=>t Z H fun c H1=>if c=true then Q true H1 else u Z H1 Q
def Ed(t:TT):TT:=fun Z H Q=>t Z H fun c H1=>Q (!c) H1
theorem KO(ha:PT X a tA):PW X (.BoolOp .And [a] pos) tA:=by
 intro wh pins s Z H Q I h
 refine isTrue_and (Ya (ha pins s Z H Q I h) fun c s1 e=>?_)
 cases c with
 | true=>exact isTrue_and_nil e
 | false=>exact e
theorem He(ha:PT X a tA):PW X (.BoolOp .Or [a] pos) tA:=by
 intro wh pins s Z H Q I h
 refine isTrue_or (Ya (ha pins s Z H Q I h) fun c s1 e=>?_)
 cases c with
 | false=>exact isTrue_or_nil e
 | true=>exact e
theorem Hf(ha:PT X a tA)(hb:PW X (.BoolOp .And (b::rest) pos) tB'):PW X (.BoolOp .And (a::b::rest) pos) (GJ tA tB'):=by
 intro wh pins s Z H Q I h
 refine isTrue_and (Ya (ha pins s Z H _ I h) fun c s1 ⟨H1,I1,q1⟩=>?_)
 cases c with
 | true=>exact hb wh pins s1 Z H1 Q I1 q1
 | false=>exact⟨H1,I1,q1⟩
theorem GK(ha:PT X a tA)(hb:PW X (.BoolOp .Or (b::rest) pos) tB'):PW X (.BoolOp .Or (a::b::rest) pos) (EG tA tB'):=by
 intro wh pins s Z H Q I h
 refine isTrue_or (Ya (ha pins s Z H _ I h) fun c s1 ⟨H1,I1,q1⟩=>?_)
 cases c with
 | true=>exact⟨H1,I1,q1⟩
 | false=>exact hb wh pins s1 Z H1 Q I1 q1
theorem Hg(ha:PT X a tA):PT X (.UnaryOp .Not a pos) (Ed tA):=by
 intro pins s Z H Q I h
 exact isTrue_not (ha pins s Z H (fun c H1=>Q (!c) H1) I h)
def GL(ta tb:TE):TE:=fun Z H Q=>ta Z H fun x H1=>∃c,x = .bl c/\if c=true then tb Z H1 Q else Q (.bl false) H1
def GN(ta:TE):TE:=fun Z H Q=>ta Z H fun x H1=>∃c,x = .bl c/\Q (.bl (!c)) H1
theorem Hh{op}{t:TE}(h:PE X a t):PE X (.BoolOp op [a] pos) t:=fun pins s Z H Q I hw=>BoolOp_one (h pins s Z H Q I hw)
theorem Hi(ha:PE X a ta)(hb:PE X (.BoolOp .And (b::rest) pos) tb):PE X (.BoolOp .And (a::b::rest) pos) (GL ta tb):=by
 intro pins s Z H Q I h
 refine BoolOp_and (Ya (ha pins s Z H _ I h) fun v s1 ⟨x,H1,I1,r1,q1⟩=>?_)
 obtain⟨c,rfl,q1⟩:=q1
 cases r1
 refine wpAny_truthy_bool ?_
 cases c with
 | true=>exact hb pins s1 Z H1 Q I1 q1
 | false=>exact⟨.bl false,H1,I1,rfl,q1⟩
theorem Hj(ha:PE X a ta):PE X (.UnaryOp .Not a pos) (GN ta):=by
 intro pins s Z H Q I h
 refine UnaryOp_ (Ya (ha pins s Z H _ I h) fun v s1 ⟨x,H1,I1,r1,q1⟩=>?_)
 obtain⟨c,rfl,q1⟩:=q1
 cases r1
 exact not_of (wpAny_truthy_bool ⟨.bl (!c),H1,I1,rfl,q1⟩)
end
def SqL(K:PySem.W.Frag)(H:Hp)(a:Addr)(xs:List V):Prop:=
 Rd H a (.lst xs)\/
  ∃(o:Obj) (its:Array Value) (n:Nat),K.lookup a=some o/\o.cls = .type "list"/\o.dict=none/\o.data = .seq its n/\its.size<=sizeLine/\Vals xs its.toList
def SqT(K:PySem.W.Frag)(H:Hp)(a:Addr)(xs:List V):Prop:=
 Rd H a (.tup xs)\/
  ∃(o:Obj) (its:Array Value) (n:Nat),K.lookup a=some o/\o.cls = .type "tuple"/\o.data = .seq its n/\its.size<=sizeLine/\Vals xs its.toList
def Ee:Value->Option V
 | .none=>some .non
 | .bool b=>some (.bl b)
 | .int i _=>some (.int i)
 | .str x _=>some (.str x)
 | .bytes b _=>some (.byt b)
 | .float b _=>some (.flt b)
 | .ref a=>some (.ref a)
 | .type n=>some (.ty n)
 | _=>none
theorem RelV.abs{x:V}{u:Value}(r:RelV x u):Ee u=some x:=by
 cases x with
 | non=>cases r;rfl
 | bl _=>cases r;rfl
 | int _=>obtain⟨t,rfl⟩:=r;rfl
 | str _=>obtain⟨t,rfl⟩:=r;rfl
 | byt _=>obtain⟨t,rfl⟩:=r;rfl
 | flt _=>obtain⟨t,rfl⟩:=r;rfl
 | ref _=>cases r;rfl
 | ty _=>cases r;rfl
theorem RelV.inj{x y:V}{u:Value}(r:RelV x u)(q:RelV y u):x=y:=Option.some.inj (r.abs.symm.trans q.abs)
theorem Vals.inj:∀{xs ys:List V}{us:List Value},Vals xs us->Vals ys us->xs=ys
 | _,_,_,.nil,.nil=>rfl
 | _,_,_,.cons r t,.cons r' t'=>by rw[r.inj r',Vals.inj t t']
section
variable {X:Cx} {pins:List (Addr×Obj)} {Z:St} {H:Hp} {s:Shared} {a:Addr} {xs ys:List V}
theorem SqL.of{K:PySem.W.Frag}(h:H a=some (.lst xs)):SqL K H a xs:=.inl (.inl h)
theorem SqT.of{K:PySem.W.Frag}(h:H a=some (.tup xs)):SqT K H a xs:=.inl (.inl h)
theorem Inv.list(I:Inv X pins Z H s)(h:SqL X.K H a xs):∃its:List Value,Vals xs its/\PlainL s.heap a its.toArray/\xs.length<=sizeLine:=by
 rcases h with h | ⟨o,its,n,hk,hc,hd,hs,hz,r⟩
 ·obtain⟨z,its,n,r,e⟩:=h.ok I.hok
  exact⟨its,r,⟨_,n,e,rfl,rfl,rfl⟩,z⟩
 ·refine⟨its.toList,r,⟨o,n,I.kIn a o hk,hc,hd,by simpa using hs⟩,?_⟩
  have e:=r.length;simp only[Array.length_toList] at e;omega
theorem Inv.tuple(I:Inv X pins Z H s)(h:SqT X.K H a xs):∃its:List Value,Vals xs its/\IsTup s.heap a its.toArray/\xs.length<=sizeLine:=by
 rcases h with h | ⟨o,its,n,hk,hc,hs,hz,r⟩
 ·obtain⟨z,its,r,p⟩:=h.ok I.hok
  exact⟨its,r,p,z⟩
 ·refine⟨its.toList,r,⟨o,I.kIn a o hk,hc,n,by simpa using hs⟩,?_⟩
  have e:=r.length;simp only[Array.length_toList] at e;omega
theorem Inv.list_inj(I:Inv X pins Z H s)(h:SqL X.K H a xs)(h':SqL X.K H a ys):xs=ys:=by
 obtain⟨its,r,⟨o,n,e,_,_,d⟩,_⟩:=I.list h
 obtain⟨its',r',⟨o',n',e',_,_,d'⟩,_⟩:=I.list h'
 rw[e] at e';cases e'
 rw[d] at d'
 injection d' with d1 _
 have:its=its':=by simpa using congrArg Array.toList d1
 subst this
 exact r.inj r'
theorem Inv.tuple_inj(I:Inv X pins Z H s)(h:SqT X.K H a xs)(h':SqT X.K H a ys):xs=ys:=by
 obtain⟨its,r,⟨o,e,_,n,d⟩,_⟩:=I.tuple h
 obtain⟨its',r',⟨o',e',_,n',d'⟩,_⟩:=I.tuple h'
 rw[e] at e';cases e'
 rw[d] at d'
 injection d' with d1 _
 have:its=its':=by simpa using congrArg Array.toList d1
 subst this
 exact r.inj r'
end
abbrev Cx.wish(X:Cx)(E:Value->Shared->Prop):Cx:={ X with xe:=E }
abbrev Cx.nox(X:Cx):Cx:=X.wish fun _ _=>False
theorem Cx.Ok.wish{X:Cx}(ok:X.Ok)(E:Value->Shared->Prop):(X.wish E).Ok:=
 ⟨ok.mod,ok.kind,ok.glob,ok.blt,ok.above,ok.inj,ok.has,ok.cab,ok.hd,ok.frames,ok.stk,ok.exf,ok.bs,ok.bsz,ok.noex,ok.exfs,ok.funs,ok.frf⟩
theorem Cx.Ok.unwish{X:Cx}{E:Value->Shared->Prop}(ok:(X.wish E).Ok):X.Ok:=
 ⟨ok.mod,ok.kind,ok.glob,ok.blt,ok.above,ok.inj,ok.has,ok.cab,ok.hd,ok.frames,ok.stk,ok.exf,ok.bs,ok.bsz,ok.noex,ok.exfs,ok.funs,ok.frf⟩
section
variable {X:Cx} {pins:List (Addr×Obj)} {Z:St} {H:Hp} {s:Shared} {E:Value->Shared->Prop}
theorem Inv.wish(I:Inv X pins Z H s)(E:Value->Shared->Prop):Inv (X.wish E) pins Z H s:=⟨I.ok.wish E,I.os,I.bare,I.base,I.loc,I.cell,I.free,I.freeC,I.pin,I.hok,I.len⟩
theorem Inv.unwish(I:Inv (X.wish E) pins Z H s):Inv X pins Z H s:=⟨I.ok.unwish,I.os,I.bare,I.base,I.loc,I.cell,I.free,I.freeC,I.pin,I.hok,I.len⟩
theorem SP.unwish{D:Wu}{f:Flow}{s':Shared}(h:SP (X.wish E) pins D f s'):SP X pins D f s':=by
 cases f with
 | next=>obtain⟨Z',H',I,q⟩:=h;exact⟨Z',H',I.unwish,q⟩
 | brk=>obtain⟨Z',H',I,q⟩:=h;exact⟨Z',H',I.unwish,q⟩
 | cont=>obtain⟨Z',H',I,q⟩:=h;exact⟨Z',H',I.unwish,q⟩
 | ret u=>obtain⟨v,Z',H',I,r,q⟩:=h;exact⟨v,Z',H',I.unwish,r,q⟩
theorem PSs.nox{st:List Stmt}{t:TS}(h:PSs X.nox st t):PSs X st t:=fun pins s Z H D I hw=>
 wpAny_mono (h pins s Z H D (I.wish _) hw) (fun _ _ q=>q.unwish) fun _ _ z=>False.elim z
end
section
variable {X:Cx} {st:Stmt} {rest:List Stmt} {t u:TS} {e:Expr} {te:TE} {pos:Pos}
def Ig:TS:=fun D Z H=>D.nx Z H
def GO(t u:TS):TS:=fun D Z H=>t { D with nx:=u D } Z H
theorem KP:PSs X [] Ig:=fun _ _ Z H _ I h=>wpAny_execs_nil ⟨Z,H,I,h⟩
theorem Vd(h1:PS X st t)(h2:PSs X rest u):PSs X (st::rest) (GO t u):=by
 intro pins s Z H D I h
 refine wpAny_execs_cons (Ya (h1 pins s Z H { D with nx:=u D } I h) fun f s1 q=>?_)
 cases f with
 | next=>
  obtain⟨Z',H',I',q⟩:=q
  exact h2 pins s1 Z' H' D I' q
 | ret v=>exact q
 | brk=>exact q
 | cont=>exact q
theorem TY(h1:PS X st t):PSs X [st] t:=by
 intro pins s Z H D I h
 refine wpAny_execs_cons (Ya (h1 pins s Z H D I h) fun f s1 q=>?_)
 cases f with
 | next=>exact wpAny_execs_nil q
 | ret v=>exact q
 | brk=>exact q
 | cont=>exact q
theorem Inv.quiet{pins:List (Addr×Obj)}{Z:St}{H:Hp}{s:Shared}(I:Inv X pins Z H s):interactive X.env=false:=by simp[interactive,I.ok.kind]
def Q0(te:TE):TS:=fun D Z H=>te Z H fun _ H1=>D.nx Z H1
theorem Xz(he:PE X e te)(hs:swapsWith e none pos.line X.env=pure false:=by rfl):PS X (.Expr e pos) (Q0 te):=by
 intro pins s Z H D I h
 exact wpAny_Expr_any (Ya (he pins s Z H _ I h) fun v s1 ⟨x,H1,I1,r1,q1⟩=>⟨Z,H1,I1,q1⟩) I.quiet hs
def Ef(te:TE):TS:=fun D Z H=>te Z H D.rt
theorem P6(he:PE X e te):PS X (.Return (some e) pos) (Ef te):=by
 intro pins s Z H D I h
 exact wpAny_Return_some (Ya (he pins s Z H _ I h) fun v s1 ⟨x,H1,I1,r1,q1⟩=>⟨x,Z,H1,I1,r1,q1⟩)
def Eg(c:TT)(t u:TS):TS:=fun D Z H=>c Z H fun b H1=>if b=true then t D Z H1 else u D Z H1
theorem Ih{c:Expr}{a b:List Stmt}{tc:TT}(hc:PT X c tc)(ha:PSs X a t)(hb:PSs X b u):PS X (.If c a b pos) (Eg tc t u):=by
 intro pins s Z H D I h
 refine wpAny_If (Ya (hc pins s Z H _ I h) fun d s1 ⟨H1,I1,q1⟩=>?_)
 cases d with
 | true=>exact ha pins s1 Z H1 D I1 q1
 | false=>exact hb pins s1 Z H1 D I1 q1
end
abbrev TG:=V->St->Hp->(St->Hp->Prop)->Prop
abbrev Ii:=List V->St->Hp->(St->Hp->Prop)->Prop
def PG(X:Cx)(target:Expr)(t:TG):Prop:=
 ∀(pins:List (Addr×Obj))(s:Shared)(Z:St)(H:Hp)(v:V)(u:Value)(Q:St->Hp->Prop),Inv X pins Z H s->RelV v u->t v Z H Q->
  wpAny (model X.prog X.w) X.A (assign target X.env u) (fun _ s'=>∃Z' H',Inv X pins Z' H' s'/\Q Z' H') X.xe s
def F2(X:Cx)(ts:List Expr)(t:Ii):Prop:=
 ∀(pins:List (Addr×Obj))(s:Shared)(Z:St)(H:Hp)(vs:List V)(us:List Value)(Q:St->Hp->Prop),Inv X pins Z H s->Vals vs us->t vs Z H Q->
  wpAny (model X.prog X.w) X.A (assignInOrder ((assignEach ts X.env).map (·.2)) us) (fun _ s'=>∃Z' H',Inv X pins Z' H' s'/\Q Z' H') X.xe s
abbrev Hk:=V->V->V->Hp->(Hp->Prop)->Prop
def GP(X:Cx)(t:Hk):Prop:=
 ∀(pins:List (Addr×Obj))(s:Shared)(Z:St)(H:Hp)(o i v:V)(ov iv u:Value)(Q:Hp->Prop),Inv X pins Z H s->RelV o ov->RelV i iv->RelV v u->t o i v H Q->
  wpAny (model X.prog X.w) X.A (setItem ov iv u) (fun _ s'=>∃H',Inv X pins Z H' s'/\Q H') X.xe s
abbrev F3:=V->V->Hp->VK->Prop
def EH(X:Cx)(op:Operator)(t:F3):Prop:=
 ∀(pins:List (Addr×Obj))(s:Shared)(Z:St)(H:Hp)(x y:V)(v u:Value)(Q:VK),Inv X pins Z H s->RelV x v->RelV y u->t x y H Q->
  wpAny (model X.prog X.w) X.A (inplaceOp op v u) (EP X pins Z Q) X.xe s
section
variable {X:Cx} {pos:Pos}
def TC(i:Nat):TG:=fun v Z H Q=>Q (Z.set i (some v)) H
theorem Zo{i:Nat}{x:Str}(hN:X.N.Nodup)(hi:X.N[i]?=some x)(hx:Gx X.env.scope x)(hf:X.fn x=true\/X.env.scope.names.lookup x=some .local:=by first | exact .inl rfl | exact .inr rfl | assumption):PG X (.Name x pos) (TC i):=by
 intro pins s Z H v u Q I r h
 exact wpAny_assign_Name (Wt I hN hi hx r (fun s' I'=>⟨_,H,I',h⟩) hf)
def GQ:Ii:=fun vs Z H Q=>vs=[]/\Q Z H
def Ij(t:TG)(u:Ii):Ii:=fun vs Z H Q=>∃v r,vs=v::r/\t v Z H fun Z' H'=>u r Z' H' Q
theorem Y1:F2 X [] GQ:=by
 intro pins s Z H vs us Q I r h
 obtain⟨e,h⟩:=h
 subst e;cases r
 exact assignInOrder_nil ⟨Z,H,I,h⟩
theorem Zu{e:Expr}{es:List Expr}{t:TG}{u:Ii}(h1:PG X e t)(h2:F2 X es u)
  (hs:(assignEach (e::es) X.env).map (·.2)=assign e X.env::(assignEach es X.env).map (·.2):=by rfl):F2 X (e::es) (Ij t u):=by
 intro pins s Z H vs us Q I r h
 obtain⟨v,vr,e1,h⟩:=h
 subst e1
 cases r with
 | cons r rr=>
  rw[hs]
  refine assignInOrder_cons (Ya (h1 pins s Z H _ _ _ I r h) fun _ s1 ⟨Z1,H1,I1,q1⟩=>?_)
  exact h2 pins s1 Z1 H1 _ _ Q I1 rr q1
def GR(K:PySem.W.Frag)(n:Nat)(t:Ii):TG:=fun v Z H Q=>∃a xs,v = .ref a/\SqT K H a xs/\xs.length=n/\t xs Z H Q
theorem XH{es:List Expr}{k:Nat}{t:Ii}{n:Nat}(hc:X.calm=true)(h:F2 X es t)
  (hn:(assignEach es X.env).length=n:=by rfl) (hst:(assignEach es X.env).findIdx? (·.1)=none:=by rfl):PG X (.Tuple es k pos) (GR X.K n t):=by
 intro pins s Z H v u Q I r hw
 obtain⟨a,xs,e1,hq,hl,hw⟩:=hw
 subst e1;cases r
 obtain⟨its,rv,ht,hz⟩:=I.tuple hq
 refine assign_Tuple_tuple (I.ok.hd hc) ht (by simp[hn,<-hl,rv.length]) hst fun h' hx=>?_
 have I1:Inv X pins Z H { s with heap:=h' }:=I.kept (t':=s.toks) fun b o e=>hx b o (Nat.ne_of_lt (Heap.lt_size e)) e
 exact h pins _ Z H xs _ Q I1 (by simpa using rv) hw
def GS(to ti:TE)(t:Hk):TG:=fun v Z H Q=>to Z H fun o H1=>ti Z H1 fun i H2=>t o i v H2 fun H3=>Q Z H3
theorem Ve{o i:Expr}{to ti:TE}{t:Hk}(ho:PE X o to)(hi:PE X i ti)(hs:GP X t)
  (ha:∀v,assign (.Subscript o i pos) X.env v=(do
   let ov <-holding [v] (eval o X.env)
   let iv <-holding [v,ov] (eval i X.env)
   standAt pos
   holding [v,ov,iv] (setItem ov iv v)
   release [v,ov,iv] []):=by intro _;rfl):PG X (.Subscript o i pos) (GS to ti t):=by
 intro pins s Z H v u Q I r h;rw[ha]
 refine wpAny_bind (wpAny_holding (Ya (ho pins s Z H _ I h) fun ov s1 ⟨x,H1,I1,r1,q1⟩=>?_))
 refine wpAny_bind (wpAny_holding (Ya (hi pins s1 Z H1 _ I1 q1) fun iv s2 ⟨y,H2,I2,r2,q2⟩=>?_))
 refine wpAny_bind (wpAny_standAt (wpAny_bind (wpAny_holding (Ya (hs pins s2 Z H2 x y v ov iv u _ I2 r1 r2 r q2) fun _ s3 ⟨H3,I3,q3⟩=>?_))))
 exact wpAny_release ⟨Z,H3,I3,q3⟩
def P7(te:TE)(g:TG):TS:=fun D Z H=>te Z H fun x H1=>g x Z H1 D.nx
theorem Wn{tg e:Expr}{te:TE}{g:TG}(he:PE X e te)(hg:PG X tg g)(hs:swapsWithSole [tg] e pos.line X.env=pure false:=by rfl)(hw:swappedStores [tg] e X.env=pure none:=by rfl)
  (h1:(assignEach [tg] X.env).map (·.2)=[assign tg X.env]:=by rfl):PS X (.Assign [tg] e pos) (P7 te g):=by
 intro pins s Z H D I h
 refine wpAny_Assign_stores (Ya (he pins s Z H _ I h) fun v s1 ⟨x,H1,I1,r1,q1⟩=>?_) hs hw
 rw[h1]
 exact Ya (hg pins s1 Z H1 x v _ I1 r1 q1) fun _ s2 q=>q
theorem Hl{i:Nat}{x:Str}{e:Expr}{te:TE}{pos':Pos}(hN:X.N.Nodup)(hi:X.N[i]?=some x)(hx:Gx X.env.scope x)(he:PE X e te)(hs:swapsWith e (some (.Name x pos')) pos.line X.env=pure false:=by rfl)(hf:X.fn x=true\/X.env.scope.names.lookup x=some .local:=by first | exact .inl rfl | exact .inr rfl | assumption) :
  PS X (.Assign [.Name x pos'] e pos) (P7 te (TC i)):=by
 intro pins s Z H D I h
 refine wpAny_Assign_Name (Ya (he pins s Z H _ I h) fun v s1 ⟨y,H1,I1,r1,q1⟩=>?_) hs
 exact Wt I1 hN hi hx r1 (fun s2 I2=>⟨_,H1,I2,q1⟩) hf
def GU(i:Nat)(te:TE)(ti:F3):TS:=fun D Z H=>∃x,Z[i]?=some (some x)/\te Z H fun y H1=>ti x y H1 fun z H2=>D.nx (Z.set i (some z)) H2
theorem Hm{i:Nat}{x:Str}{e:Expr}{te:TE}{op:Operator}{ti:F3}{pos':Pos}(hN:X.N.Nodup)(hi:X.N[i]?=some x)(hx:Gx X.env.scope x)(he:PE X e te)(ho:EH X op ti)(hf:X.fn x=true\/X.env.scope.names.lookup x=some .local:=by first | exact .inl rfl | exact .inr rfl | assumption) :
  PS X (.AugAssign (.Name x pos') op e pos) (GU i te ti):=by
 intro pins s Z H D I h
 obtain⟨v,e1,h⟩:=h
 obtain⟨m,hn,hl⟩:=I.loc
 have vis:F1 X.env.scope x:=by rcases hx with k | k;exact .inl k;exact .inr (.inl k)
 obtain⟨u,r,l⟩:=hl i x v hi e1 vis
 refine wpAny_AugAssign_Name ?_
 have go:wpAny (model X.prog X.w) X.A (eval e X.env) (fun w s₂=>wpAny (model X.prog X.w) X.A (inplaceOp op u w) (fun r s₃=>wpAny (model X.prog X.w) X.A (storeName X.env x r) (fun _=>SP X pins D .next) X.xe s₃) X.xe s₂) X.xe s:=by
  refine Ya (he pins s Z H _ I h) fun w s1 ⟨y,H1,I1,r1,q1⟩=>?_
  refine Ya (ho pins s1 Z H1 v y u w _ I1 r r1 q1) fun z s2 ⟨zv,H2,I2,r2,q2⟩=>?_
  exact Wt I2 hN hi hx r2 (fun s3 I3=>⟨_,H2,I3,q2⟩) hf
 rcases l with⟨hk,hm⟩ | ⟨hk,c,hc,hcell⟩
 ·exact wpAny_loadName_local I.ok.kind hk hn hm go
 ·rcases hk with hk | hk
  ·exact wpAny_loadName_cell I.ok.kind hk hc hcell go
  ·rcases hx with k | k
   ·have:X.env.scope.names.lookup x=some .free:=hk
    rw[k] at this;cases this
   ·have:X.env.scope.names.lookup x=some .free:=hk
    rw[k] at this;cases this
def EI(f:Int->Int->Int):F3:=fun x y H Q=>∃i j,x = .int i/\y = .int j/\Q (.int (f i j)) H
theorem Hn:EH X .Add (EI fun i j=>i+j):=by
 intro pins s Z H x y v u Q I r1 r2 h
 obtain⟨i,j,e1,e2,q⟩:=h
 subst e1;subst e2
 obtain⟨t,rfl⟩:=r1
 obtain⟨t',rfl⟩:=r2
 exact iadd_int ⟨.int _,H,I.tok _,⟨_,rfl⟩,q⟩
end
section
variable {X:Cx} {pos:Pos}
def Ho(c:TT)(tb:TS):TS:=fun D Z H=>∃W:Nat->St->Hp->Prop,(∃m,W m Z H)/\∀m Z H,W m Z H->
 c Z H fun b H1=>if b=true then ∃N:St->Hp->Prop,(∀Z' H',N Z' H'->∃m',m'<m/\W m' Z' H')/\tb { D with nx:=N,ct:=N,bk:=D.nx } Z H1 else D.nx Z H1
theorem Lc{c:Expr}{body:List Stmt}{tc:TT}{tb:TS}(hp:PassesOwn (model X.prog X.w) X.A X.env X.xe)(hc:PT X c tc)(hb:PSs X body tb):PS X (.While c body [] pos) (Ho tc tb):=by
 intro pins s Z H D I h
 obtain⟨W,⟨m0,w0⟩,turn⟩:=h
 refine wpAny_While (codeAny_whileLoop (fun n s'=>∃Z' H',Inv X pins Z' H' s'/\W n Z' H') ?_ m0 ⟨Z,H,I,w0⟩)
 rintro n s1 ⟨Z1,H1,I1,w1⟩
 refine wpAny_passesOwn hp (Ya (hc pins s1 Z1 H1 _ I1 (turn n Z1 H1 w1)) fun b s2 ⟨H2,I2,q2⟩=>?_)
 cases b with
 | true=>
  obtain⟨N,hN,q2⟩:=q2
  rw[if_pos rfl]
  refine wpAny_passesOwn hp (Ya (hb pins s2 Z1 H2 _ I2 q2) fun f s3 q3=>?_)
  cases f with
  | next=>
   obtain⟨Z3,H3,I3,n3⟩:=q3
   obtain⟨m',hm,w3⟩:=hN Z3 H3 n3
   exact⟨m',hm,Z3,H3,I3,w3⟩
  | cont=>
   obtain⟨Z3,H3,I3,n3⟩:=q3
   obtain⟨m',hm,w3⟩:=hN Z3 H3 n3
   exact⟨m',hm,Z3,H3,I3,w3⟩
  | brk=>exact q3
  | ret v=>exact q3
 | false=>
  rw[if_neg Bool.false_ne_true]
  exact wpAny_execs_nil ⟨Z1,H2,I2,q2⟩
end
structure It where
 go:Nat->Hp->Prop
 yld:Nat->Hp->V->Hp->Prop
 stop:Nat->Hp->Prop
def TU(X:Cx)(pins:List (Addr×Obj))(H:Hp)(b:Addr):Prop:=
 H b=none/\b≠X.env.locals/\b∉X.fs/\(b∈X.ex\/X.s₀.heap.objs.size<=b)/\(∀x c,X.env.cells.lookup x=some c->c≠b)/\∀p∈X.pn++pins,p.1≠b
theorem Inv.fpOk{X:Cx}{pins:List (Addr×Obj)}{Z:St}{H H':Hp}{s:Shared}{b:Addr}(I:Inv X pins Z H s)(hb:s.heap.objs.size<=b)(hn:H' b=none):TU X pins H' b:=by
 refine⟨hn,Nat.ne_of_gt (Nat.lt_of_lt_of_le I.lt hb),I.nofs hb,.inr (Nat.le_trans I.sz hb),fun x c e z=>?_,fun p hp z=>?_⟩
 ·obtain⟨v,q⟩:=I.cell x c e
  exact absurd (Nat.lt_of_lt_of_le q.lt (by rw[z];exact hb)) (Nat.lt_irrefl _)
 ·exact absurd (Nat.lt_of_lt_of_le (Heap.lt_size (I.pin p hp).1) (by rw[z];exact hb)) (Nat.lt_irrefl _)
structure N3(P:Program)(w:World)(K:PySem.W.Frag)(tg:Expr)(J:It)(fp:List Addr)(it:Addr)(tn:Nat->Heap->Prop):Prop where
 mem:it∈fp
 obj:∀i h,tn i h->∀b∈fp,∃o,h.get? b=some o/\∀v,o.data≠.cell v
 keep:∀i h h',tn i h->(∀b∈fp,∀o,h.get? b=some o->h'.get? b=some o)->tn i h'
 item:∀(X:Cx),X.prog=P->X.w=w->X.K=K->X.calm=true->∀(i:Nat)(pins:List (Addr×Obj))(s:Shared)(Z:St)(H:Hp)(E:Value->Shared->Prop),Inv X pins Z H s->(∀b∈fp,TU X pins H b)->tn i s.heap->J.go i H->
  wpAny (model P w) X.A (pyNext (.ref it)) (fun r s1=>∃u,r=some u/\
   wpAny (model P w) X.A (letOwnedTupleGo tg (.ref it) u) (fun _ s2=>∃x H',Inv X pins Z H' s2/\RelV x u/\J.yld i H x H'/\tn (i+1) s2.heap/\∀b∈fp,H' b=none) E s1) E s
 done:∀(X:Cx),X.prog=P->X.w=w->X.K=K->X.calm=true->∀(i:Nat)(pins:List (Addr×Obj))(s:Shared)(Z:St)(H:Hp)(E:Value->Shared->Prop),Inv X pins Z H s->(∀b∈fp,TU X pins H b)->tn i s.heap->J.stop i H->
  wpAny (model P w) X.A (pyNext (.ref it)) (fun r s1=>r=none/\Inv X pins Z H s1) E s
 self:∀(A:Around)(i:Nat)(s:Shared)(Q:Value->Shared->Prop)(E:Value->Shared->Prop),tn i s.heap->Q (.ref it) s->wpAny (model P w) A (pyIter (.ref it)) Q E s
abbrev TI:=St->Hp->(It->Hp->Prop)->Prop
def Eh(X:Cx)(pins:List (Addr×Obj))(Z:St)(tg:Expr)(R:It->Hp->Prop)(itv:Value)(s2:Shared):Prop:=
 ∃(it:Addr) (fp:List Addr) (tn:Nat->Heap->Prop) (J:It) (H':Hp),itv = .ref it/\Inv X pins Z H' s2/\N3 X.prog X.w X.K tg J fp it tn/\tn 0 s2.heap/\(∀b∈fp,TU X pins H' b)/\R J H'
def PI(X:Cx)(tg iter:Expr)(wi:TI):Prop:=
 ∀(pins:List (Addr×Obj))(s:Shared)(Z:St)(H:Hp)(R:It->Hp->Prop),Inv X pins Z H s->wi Z H R->
  wpAny (model X.prog X.w) X.A (eval iter X.env) (fun v s1=>wpAny (model X.prog X.w) X.A (pyIter v) (Eh X pins Z tg R) X.xe s1) X.xe s
theorem Ld{M:Model}{A:Around}{E:Value->Shared->Prop}{s:Shared}{tg:Expr}{it:Addr}{u:Value}{o:Obj}{n:String}{vs:Array Value}{Q:Unit->Shared->Prop}(ho:s.heap.get? it=some o)(hc:o.cls = .type n)(hd:o.data = .fields vs)
    (hn:["enumerate","zip","dict_itemiterator","dict_reverseitemiterator","odict_iterator","itertools.zip_longest","itertools.pairwise"].contains n=false) (hQ:Q () s):wpAny M A (letOwnedTupleGo tg (.ref it) u) Q E s:=by
  unfold letOwnedTupleGo
  cases tg<;>first
    | exact wpAny_pure hQ
    | (cases u<;>first
        | exact wpAny_pure hQ
        | (refine wpAny_bind (wpAny_load ho ?_)
           rw[hc,hd]
           show wpAny M A (if(["enumerate","zip","dict_itemiterator","dict_reverseitemiterator","odict_iterator","itertools.zip_longest","itertools.pairwise"].contains n&&vs[0]?==some (rawInt _))=true then _ else _) Q E s
           rw[if_neg (by intro h;rw[hn,Bool.false_and] at h;cases h)]
           exact wpAny_pure hQ))
def Ei(K:PySem.W.Frag)(a:Addr):It:=
 ⟨fun i H=>∃xs x,SqL K H a xs/\xs[i]?=some x,fun i H x H'=>H'=H/\∀xs,SqL K H a xs->xs[i]?=some x,fun i H=>∃xs,SqL K H a xs/\xs.length<=i⟩
def GV(lo:Int)(n:Nat):It:=⟨fun i _=>i<n,fun i H x H'=>H'=H/\x = .int (lo+i),fun i _=>n<=i⟩
theorem N4{P:Program}{w:World}{K:PySem.W.Frag}{tg:Expr}(a it:Addr):N3 P w K tg (Ei K a) [it] it (fun i h=>h.IsListIter it a i) where
 mem:=by simp
 obj:=fun i h st b hb=>by
  have e:b=it:=by simpa using hb
  subst e
  obtain⟨o,e,c,d⟩:=st
  exact⟨o,e,fun v z=>by rw[d] at z;cases z⟩
 keep:=fun i h h' st k=>st.at fun o e=>k it (by simp) o e
 item:=by
  intro X hP hw hK hc i pins s Z H E I hf st hg
  subst hP hw hK
  obtain⟨xs,x,hq,hx⟩:=hg
  obtain⟨its,rv,p,hz⟩:=I.list hq
  obtain⟨u,hu,ru⟩:=rv.get hx
  obtain⟨f0,f1,f2,f3,f4,f5⟩:=hf it (by simp)
  refine wpAny_pyNext_list_item st p.isList (x:=u) (by simpa using hu) fun h' st' sb=>?_
  have I1:Inv X pins Z H { s with heap:=h' }:=I.turned (t':=s.toks) (fun b o hb e=>(sb.2 b hb).trans e) f0 f1 f3 f4 f5
  obtain⟨o,e,c,d⟩:=id st'
  exact⟨u,rfl,Ld (s:={ s with heap:=h' }) e c d (by decide) ⟨x,H,I1,ru,⟨rfl,fun ys hy=>by rw[I.list_inj hy hq];exact hx⟩,st',fun b hb=>(hf b hb).1⟩⟩
 done:=by
  intro X hP hw hK hc i pins s Z H E I hf st hg
  subst hP hw hK
  obtain⟨xs,hq,hx⟩:=hg
  obtain⟨its,rv,p,hz⟩:=I.list hq
  obtain⟨f0,f1,f2,f3,f4,f5⟩:=hf it (by simp)
  have hl:=rv.length
  exact wpAny_pyNext_list_end (I.ok.hd hc) st p.isList (by simp;omega) fun h' eb=>⟨rfl,I.turned (t':=s.toks) (fun b o hb e=>eb b o hb e) f0 f1 f3 f4 f5⟩
 self:=fun _ _ _ _ _ st h=>wpAny_pyIter_listiter st h
theorem P8{P:Program}{w:World}{K:PySem.W.Frag}{tg:Expr}(it:Addr)(lo:Int)(n:Nat):N3 P w K tg (GV lo n) [it] it (fun i h=>IsRangeIter h it (lo+(i:Nat)*1) ((n:Int)-(i:Nat)) 1) where
 mem:=by simp
 obj:=fun i h st b hb=>by
  have e:b=it:=by simpa using hb
  subst e
  exact⟨_,st,fun v z=>by
   have z':Data.fields _=Data.cell v:=z
   cases z'⟩
 keep:=fun i h h' st k=>k it (by simp) _ st
 item:=by
  intro X hP hw hK hc i pins s Z H E I hf st hg
  subst hP hw hK
  obtain⟨f0,f1,f2,f3,f4,f5⟩:=hf it (by simp)
  have W:=Walks.range (prog:=X.prog) (w:=X.w) (I.ok.hd hc) it lo 1 n
  refine W.item i s _ _ hg st fun v h' tk hv st' kk=>?_
  obtain⟨t,rfl⟩:=hv
  have I1:Inv X pins Z H { s with heap:=h',toks:=tk }:=I.turned (fun b o hb e=>kk b o (by simpa using hb) e) f0 f1 f3 f4 f5
  refine⟨_,rfl,Ld (s:={ s with heap:=h',toks:=tk }) (n:="range_iterator") st' rfl rfl (by decide) ⟨.int (lo+i),H,I1,⟨t,?_⟩,⟨rfl,rfl⟩,st',fun b hb=>(hf b hb).1⟩⟩
  rw[Int.mul_one]
 done:=by
  intro X hP hw hK hc i pins s Z H E I hf st hg
  subst hP hw hK
  obtain⟨f0,f1,f2,f3,f4,f5⟩:=hf it (by simp)
  exact wpAny_pyNext_range_end (I.ok.hd hc) st (by have:n<=i:=hg;omega) fun h' eb=>⟨rfl,I.turned (t':=s.toks) (fun b o hb e=>eb b o hb e) f0 f1 f3 f4 f5⟩
 self:=fun _ _ _ _ _ st h=>wpAny_pyIter_rangeiter st h
section
variable {X:Cx} {tg:Expr}
def GW(K:PySem.W.Frag)(tl:TE):TI:=fun Z H R=>tl Z H fun x H1=>∃a,x = .ref a/\(∃xs,SqL K H1 a xs)/\R (Ei K a) H1
theorem KQ{l:Expr}{tl:TE}(hl:PE X l tl):PI X tg l (GW X.K tl):=by
 intro pins s Z H R I h
 refine Ya (hl pins s Z H _ I h) fun v s1 ⟨x,H1,I1,r1,q1⟩=>?_
 obtain⟨a,e,⟨xs,hq⟩,q⟩:=q1
 subst e;cases r1
 obtain⟨its,rv,p,hz⟩:=I1.list hq
 refine wpAny_pyIter_list p.isList ?_
 refine⟨s1.heap.objs.size,[s1.heap.objs.size],_,_,H1,rfl,I1.kept (t':=s1.toks) fun b o e=>Heap.get?_push_of_some _ e,N4 a _,⟨_,Heap.get?_push_size _ rfl,rfl,rfl⟩,fun b hb=>?_,q⟩
 have e:b=s1.heap.objs.size:=by simpa using hb
 subst e
 exact I1.fpOk (Nat.le_refl _) (I1.hok.fresh (Nat.le_refl _))
theorem Q1{pins:List (Addr×Obj)}{Z:St}{H:Hp}{s:Shared}{R:It->Hp->Prop}{E:Value->Shared->Prop}{lo hi:Int}{t u v:Tok}{tk:Nat}(I:Inv X pins Z H s)(h1 : -(2^62)<=lo)(h2:lo<2^62)(h3 : -(2^62)<=hi)(h4:hi<2^62)
  (q:R (GV lo (hi-lo).toNat) H):wpAny (model X.prog X.w) X.A (pyIter (.ref s.heap.objs.size)) (Eh X pins Z tg R) E { s with heap:=s.heap.push { cls:=.type "range",data:=.fields #[.int lo t,.int hi u,.int 1 v] },toks:=tk }:=by
 refine wpAny_pyIter_range (IsRange.new ..) (small_one h1 h2 h3 h4) ?_
 have I1:Inv X pins Z H { s with heap:=s.heap.push { cls:=.type "range",data:=.fields #[.int lo t,.int hi u,.int 1 v] },toks:=tk }:=I.kept fun b o e=>Heap.get?_push_of_some _ e
 refine⟨(s.heap.push { cls:=.type "range",data:=.fields #[.int lo t,.int hi u,.int 1 v] }).objs.size,[(s.heap.push { cls:=.type "range",data:=.fields #[.int lo t,.int hi u,.int 1 v] }).objs.size],_,_,H,rfl,
  I1.kept (t':=tk) fun b o e=>Heap.get?_push_of_some _ e,P8 _ lo (hi-lo).toNat,?_,fun b hb=>?_,q⟩
 ·have e1:lo+((0:Nat):Int)*1=lo:=by simp
  have e2:(((hi-lo).toNat:Nat):Int)-((0:Nat):Int)=Builtin.Range.rangeSize lo hi 1:=by rw[rangeSize_one];split<;>omega
  show IsRangeIter _ _ (lo+((0:Nat):Int)*1) ((((hi-lo).toNat:Nat):Int)-((0:Nat):Int)) 1
  rw[e1,e2]
  exact Heap.get?_push_size _ rfl
 ·have e:b=(s.heap.push { cls:=.type "range",data:=.fields #[.int lo t,.int hi u,.int 1 v] }).objs.size:=by simpa using hb
  subst e
  exact I1.fpOk (Nat.le_refl _) (I1.hok.fresh (Nat.le_refl _))
def GX(ta:TA):TI:=fun Z H R=>ta Z H fun vs H1=>∃j:Int,vs=[.int j]/\-(2^62)<=j/\j<2^62/\R (GV 0 j.toNat) H1
def GY(ta:TA):TI:=fun Z H R=>ta Z H fun vs H1=>∃i j:Int,vs=[.int i,.int j]/\(-(2^62)<=i/\i<2^62/\-(2^62)<=j/\j<2^62)/\R (GV i (j-i).toNat) H1
theorem N5{a:Expr}{ta:TA}{p pos:Pos}(hg:Gl X "range")(hm:X.mg "range" = none)(ha:PA X [a] ta)(hs:starEach [a] X.env=[(false,eval a X.env)]:=by rfl):PI X tg (.Call (.Name "range" p) [a] [] pos) (GX ta):=by
 intro pins s Z H R I h
 refine Call_ (Ub I hg hm boot_range (PyProof.Rows.callWith_type1 (Ya (ha pos pins s Z H _ I h) fun us s1 ⟨vs,H1,I1,r1,q1⟩=>?_) hs rfl))
 obtain⟨j,e,q1,q2,q⟩:=q1
 subst e
 cases r1 with
 | cons r rr=>
  cases rr
  obtain⟨t,rfl⟩:=r
  exact call_range_1 (Q1 I1 (by omega) (by omega) q1 q2 (by simpa using q))
theorem N6{a b:Expr}{ta:TA}{p pos:Pos}(hg:Gl X "range")(hm:X.mg "range" = none)(ha:PA X [a,b] ta)(hs:starEach [a,b] X.env=[(false,eval a X.env),(false,eval b X.env)]:=by rfl)(hs2:starEach [b] X.env=[(false,eval b X.env)]:=by rfl) :
  PI X tg (.Call (.Name "range" p) [a,b] [] pos) (GY ta):=by
 intro pins s Z H R I h
 refine Call_ (Ub I hg hm boot_range (PyProof.Rows.callWith_type1 (Ya (ha pos pins s Z H _ I h) fun us s1 ⟨vs,H1,I1,r1,q1⟩=>?_) (by rw[hs,hs2]) (by rw[hs2];rfl)))
 obtain⟨i,j,e,⟨q1,q2,q3,q4⟩,q⟩:=q1
 subst e
 cases r1 with
 | cons r rr=>
  cases rr with
  | cons r' rr=>
   cases rr
   obtain⟨t,rfl⟩:=r
   obtain⟨t',rfl⟩:=r'
   exact call_range_2 (Q1 I1 q1 q2 q3 q4 q)
def KR(wi:TI)(g:TG)(tb:TS):TS:=fun D Z H=>wi Z H fun J H1=>∃W:Nat->Nat->St->Hp->Prop,(∃m,W 0 m Z H1)/\∀i m Z H,W i m Z H->
 (J.stop i H/\D.nx Z H)\/(J.go i H/\∃N:St->Hp->Prop,(∀Z' H',N Z' H'->∃m',m'<m/\W (i+1) m' Z' H')/\∀x H',J.yld i H x H'->g x Z H' fun Z2 H2=>tb { D with nx:=N,ct:=N,bk:=D.nx } Z2 H2)
def U1(fp:List Addr)(h:Heap):List (Addr×Obj):=fp.filterMap fun b=>(h.get? b).map fun o=>(b,o)
theorem WH{fp:List Addr}{h:Heap}{b:Addr}{o:Obj}(hb:b∈fp)(e:h.get? b=some o):(b,o)∈U1 fp h:=List.mem_filterMap.mpr ⟨b,hb,by rw[e];rfl⟩
theorem N7{fp:List Addr}{h:Heap}{p:Addr×Obj}(hp:p∈U1 fp h):p.1∈fp/\h.get? p.1=some p.2:=by
 obtain⟨b,hb,e⟩:=List.mem_filterMap.mp hp
 cases q:h.get? b with
 | none=>rw[q] at e;cases e
 | some o=>
  rw[q] at e
  have e':(b,o)=p:=Option.some.inj e
  subst e'
  exact⟨hb,q⟩
theorem Inv.pinned{pins:List (Addr×Obj)}{Z:St}{H:Hp}{s:Shared}{fp:List Addr}(I:Inv X pins Z H s)(hf:∀b∈fp,TU X pins H b)(ho:∀b∈fp,∃o,s.heap.get? b=some o/\∀v,o.data≠.cell v):Inv X (pins++U1 fp s.heap) Z H s:=
 I.pins_of fun p hp=>(List.mem_append.mp hp).elim (fun z=>I.pin p (List.mem_append_right _ z)) fun z=>by
  obtain⟨hb,e⟩:=N7 z
  obtain⟨f0,f1,f2,_⟩:=hf p.1 hb
  obtain⟨o,e',d⟩:=ho p.1 hb
  rw[e] at e';cases e'
  exact⟨e,f0,f1,f2,d⟩
theorem Inv.unpinned{pins pl:List (Addr×Obj)}{Z:St}{H:Hp}{s:Shared}(I:Inv X (pins++pl) Z H s):Inv X pins Z H s:=I.pins_of fun p hp=>I.pin p (List.mem_append_right _ (List.mem_append_left _ hp))
theorem Se{iter:Expr}{body:List Stmt}{wi:TI}{g:TG}{tb:TS}{pos:Pos}(hp:PassesOwn (model X.prog X.w) X.A X.env X.xe)(hc:X.calm=true)(hi:PI X tg iter wi)(hg:PG X tg g)(hb:PSs X body tb)
  (hs:∀x,foldedSetIterable iter X.env x=pure x:=by intro _;rfl):PS X (.For tg iter body [] pos) (KR wi g tb):=by
 intro pins s Z H D I h
 refine wpAny_For (Ya (hi pins s Z H _ I h) fun v s1 h1=>Ya h1 fun itv s2 h2=>?_) hs
 obtain⟨it,fp,tn,J,H2,e,I2,T,st2,f2,W,⟨m0,w0⟩,turn⟩:=h2
 subst e
 -- what stays true of the iterator's objects through the loop
 have stat:∀{H':Hp},(∀b∈fp,H' b=none)->∀b∈fp,TU X pins H' b:=fun hn b hb=>⟨hn b hb,(f2 b hb).2⟩
 refine codeAny_forLoop_any (fun n s'=>∃i Z' H',Inv X pins Z' H' s'/\tn i s'.heap/\(∀b∈fp,H' b=none)/\W i n Z' H') ?_ m0 ⟨0,Z,H2,I2,st2,fun b hb=>(f2 b hb).1,w0⟩
 rintro n s3 ⟨i,Z3,H3,I3,st3,fr3,w3⟩
 rcases turn i n Z3 H3 w3 with⟨stop,qn⟩ | ⟨go,N,hN,step⟩
 ·refine wpAny_passesOwn hp (Ya (T.done X rfl rfl rfl hc i pins s3 Z3 H3 X.xe I3 (stat fr3) st3 stop) fun r s4 ⟨hr,I4⟩=>?_)
  subst hr
  exact wpAny_execs_nil ⟨Z3,H3,I4,qn⟩
 ·refine wpAny_passesOwn hp (Ya (T.item X rfl rfl rfl hc i pins s3 Z3 H3 X.xe I3 (stat fr3) st3 go) fun r s4 ⟨u,hr,h4⟩=>?_)
  subst hr
  refine wpAny_passesOwn hp (Ya h4 fun _ s5 ⟨x,H5,I5,r5,y5,st5,fr5⟩=>?_)
  have I5':=I5.pinned (stat fr5) (T.obj _ _ st5)
  refine wpAny_passesOwn hp (Ya (hg _ s5 Z3 H5 x u _ I5' r5 (step x H5 y5)) fun _ s6 ⟨Z6,H6,I6,q6⟩=>?_)
  refine wpAny_passesOwn hp (Ya (hb _ s6 Z6 H6 _ I6 q6) fun f s7 q7=>?_)
  have again:∀{Z7:St}{H7:Hp},Inv X (pins++U1 fp s5.heap) Z7 H7 s7->N Z7 H7->∃m,m<n/\∃i Z' H',Inv X pins Z' H' s7/\tn i s7.heap/\(∀b∈fp,H' b=none)/\W i m Z' H':=fun{Z7 H7} I7 n7=>by
   obtain⟨m',hm,w7⟩:=hN Z7 H7 n7
   refine⟨m',hm,i+1,Z7,H7,I7.unpinned,T.keep _ _ _ st5 fun b hb o e=>(I7.pin (b,o) (List.mem_append_right _ (List.mem_append_right _ (WH hb e)))).1,fun b hb=>?_,w7⟩
   obtain⟨o,e,d⟩:=T.obj _ _ st5 b hb
   exact(I7.pin (b,o) (List.mem_append_right _ (List.mem_append_right _ (WH hb e)))).2.1
  cases f with
  | next=>obtain⟨Z7,H7,I7,n7⟩:=q7;exact again I7 n7
  | cont=>obtain⟨Z7,H7,I7,n7⟩:=q7;exact again I7 n7
  | brk=>obtain⟨Z7,H7,I7,q7⟩:=q7;exact⟨Z7,H7,I7.unpinned,q7⟩
  | ret v=>obtain⟨x7,Z7,H7,I7,r7,q7⟩:=q7;exact⟨x7,Z7,H7,I7.unpinned,r7,q7⟩
end
abbrev R2:=V->V->Hp->VK->Prop
def WI(X:Cx)(f:Value->Value->Sem Value)(r:R2):Prop:=
 ∀(pins:List (Addr×Obj))(s:Shared)(Z:St)(H:Hp)(x y:V)(v u:Value)(Q:VK),Inv X pins Z H s->RelV x v->RelV y u->r x y H Q->
  wpAny (model X.prog X.w) X.A (f v u) (EP X pins Z Q) X.xe s
def Ej(X:Cx)(f:Value->Sem Value)(r:V->Hp->VK->Prop):Prop:=
 ∀(pins:List (Addr×Obj))(s:Shared)(Z:St)(H:Hp)(x:V)(v:Value)(Q:VK),Inv X pins Z H s->RelV x v->r x H Q->
  wpAny (model X.prog X.w) X.A (f v) (EP X pins Z Q) X.xe s
def X1(X:Cx)(f:Value)(r:List V->Hp->VK->Prop):Prop:=
 ∀(pins:List (Addr×Obj))(s:Shared)(Z:St)(H:Hp)(xs:List V)(us:List Value)(Q:VK),Inv X pins Z H s->Vals xs us->r xs H Q->
  wpAny (model X.prog X.w) X.A (call f us) (EP X pins Z Q) X.xe s
def Ek(X:Cx)(r:V->Hp->(Bool->Hp->Prop)->Prop):Prop:=
 ∀(pins:List (Addr×Obj))(s:Shared)(Z:St)(H:Hp)(x:V)(v:Value)(Q:Bool->Hp->Prop),Inv X pins Z H s->RelV x v->r x H Q->
  wpAny (model X.prog X.w) X.A (truthy v) (TP X pins Z Q) X.xe s
def Hq(r:R2)(ta tb:TE):TE:=fun Z H Q=>ta Z H fun x H1=>tb Z H1 fun y H2=>r x y H2 Q
def EM(r:V->Hp->VK->Prop)(ta:TE):TE:=fun Z H Q=>ta Z H fun x H1=>r x H1 Q
def rI(C:Int->Int->Prop)(g:Int->Int->V):R2:=fun x y H Q=>∃i j,x = .int i/\y = .int j/\C i j/\Q (g i j) H
def KC(g:Int->Int->V):R2:=fun x y H Q=>∃i j,x = .int i/\y = .int j/\Q (g i j) H
def rU(g:Int->V):V->Hp->VK->Prop:=fun x H Q=>∃i,x = .int i/\Q (g i) H
section
variable {X:Cx} {a b c:Expr} {ta tb tc:TE} {pos:Pos}
theorem Hr(ha:PE X a ta)(hb:PE X b tb){pins:List (Addr×Obj)}{s:Shared}{Z:St}{H:Hp}{R:V->V->Hp->Prop}(I:Inv X pins Z H s)
  (h:ta Z H fun x H1=>tb Z H1 fun y H2=>R x y H2) {Q:Value->Shared->Prop} {f:Value->Value->Sem Value}
  (hf:∀v u s2 x y H2,Inv X pins Z H2 s2->RelV x v->RelV y u->R x y H2->wpAny (model X.prog X.w) X.A (f v u) Q X.xe s2) :
  wpAny (model X.prog X.w) X.A (eval a X.env) (fun v s₁=>wpAny (model X.prog X.w) X.A (eval b X.env) (fun u s₂=>wpAny (model X.prog X.w) X.A (f v u) Q X.xe s₂) X.xe s₁) X.xe s:=by
 refine Ya (ha pins s Z H _ I h) fun v s1 ⟨x,H1,I1,r1,q1⟩=>?_
 refine Ya (hb pins s1 Z H1 _ I1 q1) fun u s2 ⟨y,H2,I2,r2,q2⟩=>?_
 exact hf v u s2 x y H2 I2 r1 r2 q2
theorem Lf{op:Operator}{r:R2}(ho:WI X (binaryOp op) r)(ha:PE X a ta)(hb:PE X b tb):PE X (.BinOp a op b pos) (Hq r ta tb):=by
 intro pins s Z H Q I h
 exact wpAny_BinOp (Hr ha hb I h fun v u s2 x y H2 I2 rx ry q=>ho pins s2 Z H2 x y v u Q I2 rx ry q)
theorem GZ{op:UnaryOp}{r:V->Hp->VK->Prop}(ho:Ej X (unaryOp op) r)(ha:PE X a ta):PE X (.UnaryOp op a pos) (EM r ta):=by
 intro pins s Z H Q I h
 exact UnaryOp_ (Ya (ha pins s Z H _ I h) fun v s1 ⟨x,H1,I1,r1,q1⟩=>ho pins s1 Z H1 x v Q I1 r1 q1)
theorem F4{f:Value->Value->Sem Value}{C:Int->Int->Prop}{g:Int->Int->Int}
  (rule:∀(i j:Int)(t u:Tok)(s:Shared)(Q:Value->Shared->Prop)(E:Value->Shared->Prop),C i j->Q (.int (g i j) s.toks) { s with toks:=s.toks+1 }->wpAny (model X.prog X.w) X.A (f (.int i t) (.int j u)) Q E s) :
  WI X f (rI C fun i j=>.int (g i j)):=by
 intro pins s Z H x y v u Q I rx ry h
 obtain⟨i,j,rfl,rfl,hc,q⟩:=h
 obtain⟨t,rfl⟩:=rx
 obtain⟨t',rfl⟩:=ry
 exact rule i j t t' s _ _ hc ⟨.int (g i j),H,I.tok _,⟨_,rfl⟩,q⟩
theorem G0{f:Value->Value->Sem Value}{g:Int->Int->Int}
  (rule:∀(i j:Int)(t u:Tok)(s:Shared)(Q:Value->Shared->Prop)(E:Value->Shared->Prop),Q (.int (g i j) s.toks) { s with toks:=s.toks+1 }->wpAny (model X.prog X.w) X.A (f (.int i t) (.int j u)) Q E s) :
  WI X f (KC fun i j=>.int (g i j)):=by
 intro pins s Z H x y v u Q I rx ry h
 obtain⟨i,j,rfl,rfl,q⟩:=h
 obtain⟨t,rfl⟩:=rx
 obtain⟨t',rfl⟩:=ry
 exact rule i j t t' s _ _ ⟨.int (g i j),H,I.tok _,⟨_,rfl⟩,q⟩
theorem KS{f:Value->Value->Sem Value}{g:Int->Int->Bool}
  (rule:∀(i j:Int)(t u:Tok)(s:Shared)(Q:Value->Shared->Prop)(E:Value->Shared->Prop),Q (.bool (g i j)) s->wpAny (model X.prog X.w) X.A (f (.int i t) (.int j u)) Q E s) :
  WI X f (KC fun i j=>.bl (g i j)):=by
 intro pins s Z H x y v u Q I rx ry h
 obtain⟨i,j,rfl,rfl,q⟩:=h
 obtain⟨t,rfl⟩:=rx
 obtain⟨t',rfl⟩:=ry
 exact rule i j t t' s _ _ ⟨.bl (g i j),H,I,rfl,q⟩
def U2(i j:Int):Prop:=0<j/\j<1073741824
def Ik(i j:Int):Prop:=j≠0/\j.natAbs<1073741824
def Q3(i j:Int):Prop:=0<=j/\j<=1000000/\i.natAbs<2^64
def CMul(i j:Int):Prop:=(-(2^64)<i/\i<2^64)\/(-(2^64)<j/\j<2^64)
theorem CMul.ok{i j:Int}(h:CMul i j):IntMulOk i j:=by
 rcases h with⟨h1,h2⟩ | ⟨h1,h2⟩
 ·exact .of_left (intBits_le_64 h1 h2)
 ·exact .of_right (intBits_le_64 h1 h2)
theorem Hs:WI X (binaryOp .Add) (KC fun i j=>.int (i+j)):=G0 fun _ _ _ _ _ _ _ q=>add_int q
theorem Ht:WI X (binaryOp .Sub) (KC fun i j=>.int (i-j)):=G0 fun _ _ _ _ _ _ _ q=>sub_int q
theorem Hu:WI X (binaryOp .Mult) (rI CMul fun i j=>.int (i*j)):=F4 fun _ _ _ _ _ _ _ hc q=>mul_int q hc.ok
theorem KU:WI X (binaryOp .FloorDiv) (rI U2 fun i j=>.int (i/j)):=F4 fun i j _ _ _ _ _ hc q=>by
 have h1:(0:Int)<j:=hc.1
 have h2:j<1073741824:=hc.2
 exact floordiv_int (by omega) (by rw[Int.fdiv_eq_ediv_of_nonneg i (by omega)];exact q) (.inl (PyProof.noPylong_small (by omega)))
theorem Hv:WI X (binaryOp .Mod) (rI (fun _ j=>0<j) fun i j=>.int (i%j)):=F4 fun i j _ _ _ _ _ hc q=>by
 have h1:(0:Int)<j:=hc
 exact mod_int' (by omega) (by rw[Int.fmod_eq_emod_of_nonneg i (by omega)];exact q)
theorem Hw:WI X (binaryOp .Pow) (rI Q3 fun i j=>.int (i^j.toNat)):=F4 fun _ _ _ _ _ _ _ hc q=>pow_int_small hc.1 hc.2.1 hc.2.2 q
theorem EN{f:Value->Sem Value}{g:Int->Int}
  (rule:∀(i:Int)(t:Tok)(s:Shared)(Q:Value->Shared->Prop)(E:Value->Shared->Prop),Q (.int (g i) s.toks) { s with toks:=s.toks+1 }->wpAny (model X.prog X.w) X.A (f (.int i t)) Q E s) :
  Ej X f (rU fun i=>.int (g i)):=by
 intro pins s Z H x v Q I rx h
 obtain⟨i,rfl,q⟩:=h
 obtain⟨t,rfl⟩:=rx
 exact rule i t s _ _ ⟨.int (g i),H,I.tok _,⟨_,rfl⟩,q⟩
theorem Hy:Ej X (unaryOp .USub) (rU fun i=>.int (-i)):=EN fun _ _ _ _ _ q=>neg_int q
end
section
variable {X:Cx} {a b c:Expr} {ta tb tc:TE} {pos:Pos}
theorem O5:WI X (compareOp .Lt) (KC fun i j=>.bl (decide (i<j))):=KS fun _ _ _ _ _ _ _ q=>lt_int q
theorem Vf:WI X (compareOp .LtE) (KC fun i j=>.bl (decide (i<=j))):=KS fun _ _ _ _ _ _ _ q=>le_int q
theorem G1:WI X (compareOp .Gt) (KC fun i j=>.bl (decide (j<i))):=KS fun _ _ _ _ _ _ _ q=>gt_int q
theorem G3:WI X (compareOp .GtE) (KC fun i j=>.bl (decide (j<=i))):=KS fun _ _ _ _ _ _ _ q=>ge_int q
theorem Uc(b:Expr){op:CmpOp}(h:op≠.In:=by decide)(h2:op≠.NotIn:=by decide):behindInMarks op b=false:=by
 have e1:(op==CmpOp.In)=false:=by cases op<;>first | rfl | exact absurd rfl h
 have e2:(op==CmpOp.NotIn)=false:=by cases op<;>first | rfl | exact absurd rfl h2
 cases b<;>simp[behindInMarks,e1,e2]
theorem KW{op:CmpOp}{r:R2}(ho:WI X (compareOp op) r)(ha:PE X a ta)(hb:PE X b tb)(hm:behindInMarks op b=false):PE X (.Compare a [op] [b] pos) (Hq r ta tb):=by
 intro pins s Z H Q I h
 exact wpAny_Compare1 (Hr ha hb I h fun v u s2 x y H2 I2 rx ry q=>ho pins s2 Z H2 x y v u Q I2 rx ry q) hm
def Rw(t:TE):TT:=fun Z H Q=>t Z H fun x H'=>∃k,x = .bl k/\Q k H'
theorem KY{op:CmpOp}{r:R2}(ho:WI X (compareOp op) r)(ha:PE X a ta)(hb:PE X b tb)(hm:behindInMarks op b=false):PT X (.Compare a [op] [b] pos) (Rw (Hq r ta tb)):=by
 intro pins s Z H Q I h
 refine wpAny_isTrue_Compare1 (Ya (ha pins s Z H _ I h) fun v s1 ⟨x,H1,I1,r1,q1⟩=>Ya (hb pins s1 Z H1 _ I1 q1) fun u s2 ⟨y,H2,I2,r2,q2⟩=>
  Ya (ho pins s2 Z H2 x y v u _ I2 r1 r2 q2) fun c s3 ⟨z,H3,I3,r3,k,e,q3⟩=>?_) hm
 subst e;cases r3
 exact wpAny_truthy_bool ⟨H3,I3,q3⟩
def P9(r r':R2)(ta tb tc:TE):TE:=fun Z H Q=>ta Z H fun x H1=>tb Z H1 fun y H2=>r x y H2 fun z H3=>∃k,z = .bl k/\
 (if k=true then tc Z H3 fun w' H4=>r' y w' H4 Q else Q (.bl false) H3)
theorem Lg{op op':CmpOp}{r r':R2}(ho:WI X (compareOp op) r)(ho':WI X (compareOp op') r')(ha:PE X a ta)(hb:PE X b tb)(hc:PE X c tc)
  (hm:lastMarks [op,op'] [b,c]=false:=by with_unfolding_all rfl):PE X (.Compare a [op,op'] [b,c] pos) (P9 r r' ta tb tc):=by
 intro pins s Z H Q I h
 refine Compare_chain (Ya (ha pins s Z H _ I h) fun v s1 ⟨x,H1,I1,r1,q1⟩=>chain_link (Ya (hb pins s1 Z H1 _ I1 q1) fun u s2 ⟨y,H2,I2,r2,q2⟩=>
  Ya (ho pins s2 Z H2 x y v u _ I2 r1 r2 q2) fun d s3 ⟨z,H3,I3,r3,k,e,q3⟩=>?_)) hm
 subst e;cases r3
 refine wpAny_truthy_bool ?_
 cases k with
 | false=>exact ite_ff ⟨.bl false,H3,I3,rfl,q3⟩
 | true=>exact ite_tt (chain_last (Ya (hc pins s3 Z H3 _ I3 q3) fun w' s4 ⟨z',H4,I4,r4,q4⟩=>ho' pins s4 Z H4 y z' u w' Q I4 r2 r4 q4))
theorem Lh{op op':CmpOp}{r r':R2}(ho:WI X (compareOp op) r)(ho':WI X (compareOp op') r')(ha:PE X a ta)(hb:PE X b tb)(hc:PE X c tc)
  (hm:lastMarks [op,op'] [b,c]=false:=by with_unfolding_all rfl):PT X (.Compare a [op,op'] [b,c] pos) (Rw (P9 r r' ta tb tc)):=by
 intro pins s Z H Q I h
 refine isTrue_chain (Ya (ha pins s Z H _ I h) fun v s1 ⟨x,H1,I1,r1,q1⟩=>test_link (Ya (hb pins s1 Z H1 _ I1 q1) fun u s2 ⟨y,H2,I2,r2,q2⟩=>
  Ya (ho pins s2 Z H2 x y v u _ I2 r1 r2 q2) fun d s3 ⟨z,H3,I3,r3,k,e,q3⟩=>?_)) hm
 subst e;cases r3
 refine wpAny_truthy_bool ?_
 cases k with
 | false=>
  obtain⟨k',e',q'⟩:=q3
  cases e'
  exact ite_ff ⟨H3,I3,q'⟩
 | true=>
  refine ite_tt (test_last (Ya (hc pins s3 Z H3 _ I3 q3) fun w' s4 ⟨z',H4,I4,r4,q4⟩=>Ya (ho' pins s4 Z H4 y z' u w' _ I4 r2 r4 q4) fun d' s5 ⟨z2,H5,I5,r5,k2,e2,q5⟩=>?_))
  subst e2;cases r5
  exact wpAny_truthy_bool ⟨H5,I5,q5⟩
def El(K:PySem.W.Frag)(x:V)(H:Hp)(k:Bool):Prop:=
 match x with
 | .non=>k=false
 | .bl b=>k=b
 | .int i=>k=(i != 0)
 | .str y=>y.length<=sizeLine/\k=((y.length:Int) != 0)
 | .byt y=>y.size<=sizeLine/\k=((y.size:Int) != 0)
 | .ref p=>(∃xs,SqL K H p xs/\k = !xs.isEmpty)\/(∃xs,SqT K H p xs/\k = !xs.isEmpty)\/∃kvs,H p=some (.dK kvs)/\k = !kvs.isEmpty
 | _=>False
theorem Oa{κ:Type}{kvs:List (κ×V)}{vs:List (κ×Value)}(r:KV kvs vs):(!vs.isEmpty) = !kvs.isEmpty:=by
 cases r<;>rfl
theorem Sf{xs:List V}{its:List Value}(r:Vals xs its):(!its.toArray.isEmpty) = !xs.isEmpty:=by
 cases r<;>simp
theorem U3:(sizeLine:Nat)<2^63:=by rw[sizeLine_eq];decide
theorem tru_ok:Ek X (fun x H Q=>∃k,El X.K x H k/\Q k H):=by
 intro pins s Z H x v Q I rx h
 obtain⟨k,e,q⟩:=h
 have hl:=U3
 have hs:sizeLine=16777216:=sizeLine_eq
 cases x with
 | non=>
  cases rx
  have e':k=false:=e
  subst e'
  exact truthy_none ⟨H,I,q⟩
 | bl b=>
  cases rx
  have e':k=b:=e
  subst e'
  exact wpAny_truthy_bool ⟨H,I,q⟩
 | int i=>
  obtain⟨t,rfl⟩:=rx
  have e':k=(i != 0):=e
  subst e'
  exact PySem.P.truthy_int ⟨H,I,q⟩
 | str y=>
  obtain⟨t,rfl⟩:=rx
  obtain⟨hy,e'⟩:y.length<=sizeLine/\k=((y.length:Int) != 0):=e
  subst e'
  exact PySem.P.truthy_str (by omega) ⟨H,I.tok _,q⟩
 | byt y=>
  obtain⟨t,rfl⟩:=rx
  obtain⟨hy,e'⟩:y.size<=sizeLine/\k=((y.size:Int) != 0):=e
  subst e'
  exact PySem.W.truthy_bytes (by omega) ⟨H,I.tok _,q⟩
 | ref p=>
  cases rx
  have e':(∃xs,SqL X.K H p xs/\k = !xs.isEmpty)\/(∃xs,SqT X.K H p xs/\k = !xs.isEmpty)\/∃kvs,H p=some (.dK kvs)/\k = !kvs.isEmpty:=e
  rcases e' with⟨xs,hx,e'⟩ | ⟨xs,hx,e'⟩ | ⟨kvs,hx,e'⟩
  ·subst e'
   obtain⟨its,r,pl,hz⟩:=I.list hx
   have hlen:=r.length
   exact wpAny_truthy_list pl.isList (by simp only[List.size_toArray];omega) ⟨H,I.tok _,by rw[Sf r];exact q⟩
  ·subst e'
   obtain⟨its,r,pl,hz⟩:=I.tuple hx
   have hlen:=r.length
   exact truthy_tuple pl (by simp only[List.size_toArray];omega) ⟨H,I.tok _,by rw[Sf r];exact q⟩
  ·subst e'
   obtain⟨hz,hS,vs,r,m⟩:kvs.length<=sizeLine/\(p==sysModules)=false/\∃vs,KV kvs vs/\s.heap.DictOf (YB X.prog X.w) p vs:=I.hok p _ hx
   have hlen:kvs.length=vs.length:=Paired.length r
   exact wpAny_truthy_dict hS m (by omega) ⟨H,I.tok _,by rw[Oa r];exact q⟩
 | _=>exact(show False from e).elim
theorem Ut{x:V}{us:List Value}(r:Vals [x] us):∃u,us=[u]/\RelV x u:=by
 cases r with
 | cons r1 r2=>cases r2;exact⟨_,rfl,r1⟩
theorem O6{x y:V}{us:List Value}(r:Vals [x,y] us):∃u w',us=[u,w']/\RelV x u/\RelV y w':=by
 cases r with
 | cons r1 r2=>
  cases r2 with
  | cons r3 r4=>cases r4;exact⟨_,_,rfl,r1,r3⟩
theorem N8(hc:X.calm=true):X1 X (.builtin "max") (fun xs H Q=>∃i j,xs=[.int i,.int j]/\Q (.int (if j>i then j else i)) H):=by
 intro pins s Z H xs us Q I r h
 obtain⟨i,j,rfl,q⟩:=h
 obtain⟨u,w',rfl,⟨t,rfl⟩,⟨t',rfl⟩⟩:=O6 r
 refine max_two_ints (I.ok.hd hc) fun h' tk k=>⟨_,H,I.kept k,?_,q⟩
 by_cases hj:j>i
 ·rw[if_pos hj,if_pos hj];exact⟨_,rfl⟩
 ·rw[if_neg hj,if_neg hj];exact⟨_,rfl⟩
theorem U4(hc:X.calm=true):X1 X (.builtin "min") (fun xs H Q=>∃i j,xs=[.int i,.int j]/\Q (.int (if j<i then j else i)) H):=by
 intro pins s Z H xs us Q I r h
 obtain⟨i,j,rfl,q⟩:=h
 obtain⟨u,w',rfl,⟨t,rfl⟩,⟨t',rfl⟩⟩:=O6 r
 refine min_two_ints (I.ok.hd hc) fun h' tk k=>⟨_,H,I.kept k,?_,q⟩
 by_cases hj:j<i
 ·rw[if_pos hj,if_pos hj];exact⟨_,rfl⟩
 ·rw[if_neg hj,if_neg hj];exact⟨_,rfl⟩
theorem N9:X1 X (.type "int") (fun xs H Q=>(∃i,xs=[.int i]/\Q (.int i) H)\/∃k,xs=[.bl k]/\Q (.int (if k then 1 else 0)) H):=by
 intro pins s Z H xs us Q I r h
 rcases h with⟨i,rfl,q⟩ | ⟨k,rfl,q⟩
 ·obtain⟨u,rfl,t,rfl⟩:=Ut r
  exact call_int_int ⟨.int i,H,I,⟨_,rfl⟩,q⟩
 ·obtain⟨u,rfl,r1⟩:=Ut r
  cases r1
  exact call_int_bool ⟨.int (if k then 1 else 0),H,I.tok _,⟨_,rfl⟩,q⟩
def G4(K:PySem.W.Frag)(x:V)(H:Hp)(n:Nat):Prop:=
 match x with
 | .str y=>y.length<=sizeLine/\n=y.length
 | .byt y=>y.size<=sizeLine/\n=y.size
 | .ref p=>(∃xs,SqL K H p xs/\n=xs.length)\/∃xs,SqT K H p xs/\n=xs.length
 | _=>False
theorem YN:X1 X (.builtin "len") (fun xs H Q=>∃x n,xs=[x]/\G4 X.K x H n/\Q (.int n) H):=by
 intro pins s Z H xs us Q I r h
 obtain⟨x,n,rfl,e,q⟩:=h
 obtain⟨u,rfl,rx⟩:=Ut r
 have hl:=U3
 have hs:sizeLine=16777216:=sizeLine_eq
 cases x with
 | str y=>
  obtain⟨t,rfl⟩:=rx
  obtain⟨hy,e'⟩:y.length<=sizeLine/\n=y.length:=e
  subst e'
  exact len_str (by omega) ⟨.int _,H,I.tok _,⟨_,rfl⟩,q⟩
 | byt y=>
  obtain⟨t,rfl⟩:=rx
  obtain⟨hy,e'⟩:y.size<=sizeLine/\n=y.size:=e
  subst e'
  exact PySem.W.len_bytes (by omega) ⟨.int _,H,I.tok _,⟨_,rfl⟩,q⟩
 | ref p=>
  cases rx
  have e':(∃xs,SqL X.K H p xs/\n=xs.length)\/∃xs,SqT X.K H p xs/\n=xs.length:=e
  rcases e' with⟨xs,hx,e'⟩ | ⟨xs,hx,e'⟩
  ·subst e'
   obtain⟨its,r',pl,hz⟩:=I.list hx
   have hlen:=r'.length
   exact Calls.call_len_list pl.isList (by simp only[List.size_toArray];omega) ⟨.int xs.length,H,I.tok _,⟨_,by simp only[List.size_toArray];rw[hlen]⟩,q⟩
  ·subst e'
   obtain⟨its,r',pl,hz⟩:=I.tuple hx
   have hlen:=r'.length
   exact len_tuple pl (by simp only[List.size_toArray];omega) ⟨.int xs.length,H,I.tok _,⟨_,by simp only[List.size_toArray];rw[hlen]⟩,q⟩
 | _=>exact(show False from e).elim
end
structure ObjM(h:Heap)(x dx C:Addr)(mA:Str->Option Value):Prop where
 obj:h.get? x=some (PySem.W.instObj C dx)
 ns:h.Ns1 dx mA
 ne:dx≠x
theorem Ma{h:Heap}{dx:Addr}{mA:Str->Option Value}(n:h.Ns1 dx mA):∃od,h.get? dx=some od/\∀name,PySem.W.lookIn name od=some (mA name):=by
 obtain⟨o,es,ep,ho,hd,hk,_,hm⟩:=n
 refine⟨o,ho,fun name=>?_⟩
 have e:=hm name;unfold nsFind findBy at e;rw[<-Array.find?_toList] at e;unfold PySem.W.lookIn;rw[hd]
 dsimp only
 split
 ·rename_i y q
  rw[q] at e
  exact congrArg some e
 ·rename_i q
  rw[q] at e
  have a:es.toList.any (·.refKey)=false:=by
   rw[List.any_eq_false];intro y hy
   obtain⟨z,t,hkey⟩:=hk y (Array.mem_toList_iff.mp hy)
   simp[DictEntry.refKey,hkey]
  have a':¬es.toList.any (·.refKey)=true:=by rw[a];exact Bool.false_ne_true
  rw[if_neg a']
  exact congrArg some e
theorem ObjM.look{h:Heap}{x dx C:Addr}{mA:Str->Option Value}(I:ObjM h x dx C mA):∃od,PySem.W.InstAt h x (PySem.W.instObj C dx) C (some od)/\∀name,PySem.W.lookIn name od=some (mA name):=
 let⟨od,ho,hl⟩:=Ma I.ns
 ⟨od,⟨I.obj,rfl,rfl,ho⟩,hl⟩
theorem RelO.some_of{v:V}{o:Option Value}(r:RelO (some v) o):∃u,o=some u/\RelV v u:=by
 cases o with
 | none=>exact(show False from r).elim
 | some u=>exact⟨u,rfl,r⟩
section
variable {P:Program} {w:World} {H H':Hp} {h h':Heap} {a C dx:Addr} {fs fs':List (Str×V)}
theorem KZ(hok:HOk P w H h)(e:H a=some (.ins C dx fs)):∃mA,ObjM h a dx C mA/\(∀f,RelO (fs.lookup f) (mA f))/\PySem.Within mA (fs.map (·.1))/\fs.length<=1000/\H dx=some (.own a):=by
 obtain⟨d,z,ne,ob,mA,n,r,q⟩:=(show ObjOk P w H h a (.ins C dx fs) from hok a _ e)
 exact⟨mA,⟨ob,n,ne⟩,r,q,z,d⟩
end
structure Cls(K:PySem.W.Frag)(C:Addr):Prop where
 pg:PySem.W.plainGet K C Str.empty=true
 hd:PySem.W.hasDictIn K C=true
 po:PySem.W.plainOver K C=true
 sa:PySem.W.findIn K (.ref C) "__setattr__" = some (some (.builtin "object.__setattr__"))
theorem Cls.get{K:PySem.W.Frag}{C:Addr}(c:Cls K C)(f:Str):PySem.W.plainGet K C f=true:=c.pg
section
variable {X:Cx} {pins:List (Addr×Obj)} {Z:St} {H:Hp} {s:Shared} {a C dx:Addr} {fs:List (Str×V)} {f:Str} {v:V} {A:Around} {E:Value->Shared->Prop}
theorem K0{prog:Program}{w:World}{env:Env}{e:Expr}{f:Str}{pos:Pos}{s:Shared}{Q:Value->Shared->Prop}(hb:attributeBase e f env (eval e env)=eval e env)
  (h:wpAny (model prog w) A (eval e env) (fun o s₁=>wpAny (model prog w) A (getAttr o f true) Q E s₁) E s):wpAny (model prog w) A (eval (.Attribute e f pos) env) Q E s:=
 Attribute_any_ h (by rw[arm_eval_Attribute,hb])
end
section
variable {X:Cx} {pins:List (Addr×Obj)} {Z:St} {H:Hp} {s:Shared} {A:Around} {E:Value->Shared->Prop} {Q:Value->Shared->Prop} {c:Value} {b:Bool}
inductive TyOf(K:PySem.W.Frag)(H:Hp):V->Value->Prop where
 | non:TyOf K H .non (.type "NoneType")
 | bl (x:Bool):TyOf K H (.bl x) (.type "bool")
 | int (i:Int):TyOf K H (.int i) (.type "int")
 | str (x:Str):TyOf K H (.str x) (.type "str")
 | flt (x:UInt64):TyOf K H (.flt x) (.type "float")
 | lst {a:Addr} {xs:List V} (e:H a=some (.lst xs)):TyOf K H (.ref a) (.type "list")
 | frz {a:Addr} {o:Obj} {xs:List V} (e:H a=some (.frz o (.lst xs))):TyOf K H (.ref a) (.type "list")
 | tup {a:Addr} {xs:List V} (e:H a=some (.tup xs)):TyOf K H (.ref a) (.type "tuple")
 | dK {a:Addr} {kvs:List (Ys×V)} (e:H a=some (.dK kvs)):TyOf K H (.ref a) (.type "dict")
 | dT {a:Addr} {kvs:List (List Ys×V)} (e:H a=some (.dT kvs)):TyOf K H (.ref a) (.type "dict")
 | ins {a C dx:Addr} {fs:List (Str×V)} (e:H a=some (.ins C dx fs)) (cl:Cls K C) (ha:PySem.W.findIn K (.ref C) "__class__" = some (some (.builtin "object.__class__")))
   (hn:PySem.W.specialIn K (.builtin "object.__class__") "__get__" = some (some (.builtin "getset_descriptor.__get__"))) (htk:PySem.W.takesIn K (.builtin "object.__class__")=some true)
   (hm:PySem.W.mroIn K C (.type "object")=some true):TyOf K H (.ref a) (.ref C)
theorem Mb{x:V}{u t:Value}(I:Inv X pins Z H s)(rx:RelV x u)(ty:TyOf X.K H x t)(e:PySem.W.kitOne X.K t c=some b)(h:∀tk,Q (.bool b) { s with toks:=tk }) :
  wpAny (model X.prog X.w) A (call (.builtin "isinstance") [u,c]) Q E s:=by
 cases ty with
 | non=>cases (show u=Value.none from rx);exact PySem.W.kia_one PySem.W.kitx_none I.kIn True.intro e (fun z=>nomatch z) h
 | bl y=>cases (show u=Value.bool y from rx);exact PySem.W.kia_one PySem.W.kitx_bool I.kIn True.intro e (fun z=>nomatch z) h
 | int i=>obtain⟨t,q⟩:=(show ∃t,u=Value.int i t from rx);cases q;exact PySem.W.kia_one PySem.W.kitx_int I.kIn True.intro e (fun z=>nomatch z) h
 | str y=>obtain⟨t,q⟩:=(show ∃t,u=Value.str y t from rx);cases q;exact PySem.W.kia_one PySem.W.kitx_str I.kIn True.intro e (fun z=>nomatch z) h
 | flt y=>obtain⟨t,q⟩:=(show ∃t,u=Value.float y t from rx);cases q;exact PySem.W.kia_one PySem.W.kitx_float I.kIn True.intro e (fun z=>nomatch z) h
 | @lst a xs ea=>
  cases (show u=Value.ref a from rx)
  obtain⟨_,_,n,_,h1⟩:=(show ObjOk X.prog X.w H s.heap a (.lst xs) from I.hok a _ ea)
  exact PySem.W.kia_one PySem.W.kitx_list I.kIn ⟨_,h1,rfl⟩ e (fun z=>nomatch z) h
 | @frz a ob xs ea=>
  cases (show u=Value.ref a from rx)
  obtain⟨_,_,_,n,_,h1⟩:=(show ObjOk X.prog X.w H s.heap a (.frz ob (.lst xs)) from I.hok a _ ea)
  exact PySem.W.kia_one PySem.W.kitx_list I.kIn ⟨_,h1,rfl⟩ e (fun z=>nomatch z) h
 | @tup a xs ea=>
  cases (show u=Value.ref a from rx)
  obtain⟨_,_,_,p⟩:=(show ObjOk X.prog X.w H s.heap a (.tup xs) from I.hok a _ ea)
  obtain⟨o,h1,h2,_⟩:=p
  exact PySem.W.kia_one PySem.W.kitx_tuple I.kIn ⟨o,h1,h2⟩ e (fun z=>nomatch z) h
 | @dK a kvs ea=>
  cases (show u=Value.ref a from rx)
  obtain⟨_,_,vs,_,p⟩:=(show ObjOk X.prog X.w H s.heap a (.dK kvs) from I.hok a _ ea)
  obtain⟨o,es,ep,h1,h2,_⟩:=p
  exact PySem.W.kia_one PySem.W.kitx_dict I.kIn ⟨o,h1,h2.1⟩ e (fun z=>nomatch z) h
 | @dT a kvs ea=>
  cases (show u=Value.ref a from rx)
  obtain⟨_,_,xs,_,o,es,ep,h1,h2,_⟩:=(show ObjOk X.prog X.w H s.heap a (.dT kvs) from I.hok a _ ea)
  exact PySem.W.kia_one PySem.W.kitx_dict I.kIn ⟨o,h1,h2.1⟩ e (fun z=>nomatch z) h
 | @ins a C dx fs ea cl ha hn htk hm=>
  cases (show u=Value.ref a from rx)
  obtain⟨mA,O,_⟩:=KZ I.hok ea
  obtain⟨od,J,_⟩:=O.look
  exact PySem.W.kia_one (PySem.W.kitx_own (cl.get _) cl.hd ha hn htk hm) I.kIn J e (fun z=>nomatch z) h
end
structure Room(k:Nat)(A:Around):Prop where
 hd:A.handled=none
 dp:A.depth+3*k+5<recursionLimit
 un:A.units+16*k+200<cLine
 gd:A.guards=some []
theorem Room.mono{j k:Nat}{A:Around}(r:Room k A)(h:j<=k):Room j A:=⟨r.hd,by have:=r.dp;omega,by have:=r.un;omega,r.gd⟩
theorem Room.deeper{k:Nat}{A:Around}(r:Room (k+1) A)(env:Env):Room k (A.deeper env):=
 ⟨r.hd,by have:=r.dp;show A.depth+1+3*k+5<_;omega,by have:=r.un;show A.units+3+16*k+200<_;omega,r.gd⟩
theorem Ob{A:Around}{C:Addr}{us:List Value}{kw:List (Str×Value)}:(A.under (.builtin "type.__call__" ⟨.ref C::us,kw⟩)).depth=A.depth+1:=by
 first | rfl | simp[Around.under,Code.weight,Code.isCreation,Code.isGuard,Code.isCaller,Code.frames,Code.isFrame,guardIds]
theorem Oc{A:Around}{C:Addr}{us:List Value}{kw:List (Str×Value)}:(A.under (.builtin "type.__call__" ⟨.ref C::us,kw⟩)).units=A.units+1:=by
 first | rfl | simp[Around.under,Code.cUnits,Code.frames,Code.isFrame]
theorem Room.make{k:Nat}{A:Around}(r:Room (k+1) A)(C:Addr)(us:List Value)(kw:List (Str×Value)):Room k (A.under (.builtin "type.__call__" ⟨.ref C::us,kw⟩)):=
 ⟨r.hd,by have:=r.dp;rw[Ob];omega,by have:=r.un;rw[Oc];omega,by first | exact r.gd | (simpa [Around.under,pushGuards,Code.guards,Code.isGuard,guardIds] using r.gd)⟩
theorem Room.depth{k:Nat}{A:Around}(r:Room k A):A.depth<recursionLimit:=by have:=r.dp;omega
theorem Room.units{k:Nat}{A:Around}(r:Room k A):A.units+64<cLine:=by have:=r.un;omega
def Od:TA:=fun _ H Q=>Q [] H
def V3(ta:TE)(tr:TA):TA:=fun Z H Q=>ta Z H fun x H1=>tr Z H1 fun xs H2=>Q (x::xs) H2
section
variable {X:Cx} {e:Expr} {es:List Expr} {te:TE} {t:TA} {pos:Pos}
theorem Y9:PA X [] Od:=fun _ _ _ _ H Q I h=>Calls.spliced_nil ⟨[],H,I,.nil,h⟩
theorem Yb(ha:PE X e te)(hr:PA X es t)(hs:starEach (e::es) X.env=(false,eval e X.env)::starEach es X.env:=by rfl):PA X (e::es) (V3 te t):=by
 intro pos pins s Z H Q I h;rw[hs]
 show wpAny _ _ (spliced ((false,eval e X.env)::backTo pos (starEach es X.env))) _ _ s
 refine Calls.spliced_cons (Ya (ha pins s Z H _ I h) fun u s1 ⟨x,H1,I1,r1,q1⟩=>?_)
 exact Ya (hr pos pins s1 Z H1 _ I1 q1) fun us s2 ⟨xs,H2,I2,r2,q2⟩=>⟨x::xs,H2,I2,.cons r1 r2,q2⟩
def Em(t:TA):TE:=fun Z H Q=>t Z H fun xs H1=>xs.length<=sizeLine/\∀p,H1 p=none->Q (.ref p) (upd H1 p (.tup xs))
def G5(t:TA):TE:=fun Z H Q=>t Z H fun xs H1=>xs.length<=sizeLine/\∀p,H1 p=none->Q (.ref p) (upd H1 p (.lst xs))
theorem Li{x1}(h:PA X es t):PE X (.Tuple es x1 pos) (Em t):=by
 intro pins s Z H Q I hq
 refine wpAny_Tuple_spliced (Ya (h pos pins s Z H _ I hq) fun us s1 ⟨xs,H1,I1,r,z,q⟩=>⟨by rw[<-r.length];exact z,?_⟩)
 have hf:H1 s1.heap.objs.size=none:=I1.hok.fresh (Nat.le_refl _)
 refine⟨.ref s1.heap.objs.size,upd H1 s1.heap.objs.size (.tup xs),I1.laid (t':=s1.toks) (fun b u e=>Heap.get?_push_of_some _ e) (Nat.le_refl _) ?_,rfl,q _ hf⟩
 exact⟨z,us,r,⟨_,Heap.get?_push_size _ rfl,rfl,_,rfl⟩⟩
theorem Oe(h:PA X es t):PE X (.List es pos) (G5 t):=by
 intro pins s Z H Q I hq
 refine wpAny_List_spliced (Ya (h pos pins s Z H _ I hq) fun us s1 ⟨xs,H1,I1,r,z,q⟩=>⟨by rw[<-r.length];exact z,?_⟩)
 have hf:H1 s1.heap.objs.size=none:=I1.hok.fresh (Nat.le_refl _)
 refine⟨.ref s1.heap.objs.size,upd H1 s1.heap.objs.size (.lst xs),I1.laid (t':=s1.toks) (fun b u e=>Heap.get?_push_of_some _ e) (Nat.le_refl _) ?_,rfl,q _ hf⟩
 exact⟨z,us,0,r,Heap.get?_push_size _ rfl⟩
end
abbrev Sp:=List V->Hp->VK->XK->Prop
abbrev Lj:=List Env->Hp->Shared->XK->Value->Shared->Prop
structure Env0(P:Program)(w:World)(K:PySem.W.Frag)(mg:Str->Option Value)(base:Heap)(A:Around)(outer:List Env)(s:Shared)(H:Hp):Prop where
 frames:A.frames=some outer
 mod:Mod K mg base
 bs:∀b o,base.get? b=some o->s.heap.get? b=some o/\H b=none
 bsz:base.objs.size<=s.heap.objs.size
 funs:s.heap.FunFrames base outer
 frf:∀b∈P0 outer,H b=none
 hok:HOk P w H s.heap
 bare:AllBare s.gens
def CE(outer:List Env)(P:Program)(w:World)(H:Hp)(s:Shared)(Q:VK)(u:Value)(s':Shared):Prop:=
 ∃v H',s'.os=s.os/\AllBare s'.gens/\Un (P0 outer) [] H H' s.heap s'.heap/\HOk P w H' s'.heap/\RelV v u/\Q v H'
def CR(CX:Lj)(outer:List Env)(P:Program)(w:World)(H:Hp)(s:Shared)(Q:VK)(E:XK)(r:Result)(s':Shared):Prop:=
 match r with
 | .ok (.ret u)=>CE outer P w H s Q u s'
 | .ok _=>False
 | .error e=>CX outer H s E e s'
structure Vg(P:Program)(w:World)(K:PySem.W.Frag)(mg:Str->Option Value)(base:Heap)(CX:Lj)(k:Nat)(f:Addr)(fd:FuncData)(ps:List Str)(sp:Sp):Prop where
 len:∀vs H Q E,sp vs H Q E->vs.length=ps.length
 run:∀(A:Around)(outer:List Env)(s:Shared)(H:Hp)(args:Args)(us:List Value)(vs:List V)(Q:VK)(E:XK),Room k A->Env0 P w K mg base A outer s H->BindsTo s fd args (ps.zip us)->Vals vs us->sp vs H Q E->
  codeAny (model P w) A (.call (.ref f) args) (CR CX outer P w H s Q E) s
theorem Env0.make{P:Program}{w:World}{K:PySem.W.Frag}{mg:Str->Option Value}{base:Heap}{A:Around}{outer:List Env}{s:Shared}{H:Hp}(e:Env0 P w K mg base A outer s H)(C:Addr)(us:List Value)(kw:List (Str×Value)) :
  Env0 P w K mg base (A.under (.builtin "type.__call__" ⟨.ref C::us,kw⟩)) outer s H:=⟨by first | exact e.frames | (simpa [Around.under,Code.envs,Code.isFrame,pushEnvs] using e.frames),e.mod,e.bs,e.bsz,e.funs,e.frf,e.hok,e.bare⟩
section
variable {X:Cx} {pins:List (Addr×Obj)} {Z:St} {H:Hp} {s s':Shared}
theorem Inv.env0(I:Inv X pins Z H s):Env0 X.prog X.w X.K X.mg X.base X.A X.stack s H:=
 ⟨I.ok.frames,I.ok.mod,I.bs,Nat.le_trans I.ok.bsz I.sz,I.stack,I.stkFree,I.hok,I.bare⟩
theorem Inv.after{Q:VK}{u:Value}(I:Inv X pins Z H s)(h:CE X.stack X.prog X.w H s Q u s'):EP X pins Z Q u s':=by
 obtain⟨v,H',os,bare,un,hok,r,q⟩:=h
 obtain⟨hh,g,d,t,os'⟩:=s'
 obtain rfl:os'=s.os:=os
 exact⟨v,H',I.call (h':=hh) (g':=g) (d':=d) (t':=t) (ch:=[]) un hok bare (fun b z=>absurd z (by simp)),r,q⟩
end
def Il(sp:Sp)(dvs:List V)(E:XK)(t:TA):TE:=fun Z H Q=>t Z H fun vs H1=>sp (vs++dvs) H1 Q E
def Binds(K:PySem.W.Frag)(fd:FuncData)(ps:List Str)(ds:List Value):Prop:=
 ∀(s:Shared)(us:List Value),K.In s.heap->(us++ds).length=ps.length->BindsTo s fd ⟨us,[]⟩ (ps.zip (us++ds))
theorem Binds.all{K:PySem.W.Frag}{fd:FuncData}{ps:List Str}(h:∀us:List Value,us.length=ps.length->bindArgs fd ⟨us,[]⟩=pure (ps.zip us)):Binds K fd ps []:=fun s us _ hl=>by
 rw[List.append_nil] at hl ⊢
 exact .of_eq (h us hl)
def Of(CX:Lj)(X:Cx)(E:XK):Prop:=∀(pins:List (Addr×Obj))(Z:St)(H:Hp)(s:Shared)(e:Value)(s':Shared),Inv X pins Z H s->CX X.stack H s E e s'->X.xe e s'
section
variable {X:Cx} {CX:Lj} {k:Nat} {f C:Addr} {fd:FuncData} {ps:List Str} {sp:Sp} {dvs:List V} {ds:List Value} {E:XK} {x m:Str} {p pos apos:Pos} {e o:Expr} {es:List Expr} {ta:TE} {t:TA}
theorem Hz{pins:List (Addr×Obj)}{Z:St}{H:Hp}{s:Shared}{Q:VK}{us:List Value}{vs:List V}(F:Vg X.prog X.w X.K X.mg X.base CX k f fd ps sp)(hr:Room k X.A)(hb:Binds X.K fd ps ds)(hd:Vals dvs ds)(hx:Of CX X E)
  (I:Inv X pins Z H s) (r:Vals vs us) (h:sp (vs++dvs) H Q E):wpAny (model X.prog X.w) X.A (call (.ref f) us) (EP X pins Z Q) X.xe s:=by
 have r2:Vals (vs++dvs) (us++ds):=r.append hd
 have hl:(us++ds).length=ps.length:=by rw[<-r2.length];exact F.len _ _ _ _ h
 refine wpAny_call (codeAny_mono (F.run X.A X.stack s H ⟨us,[]⟩ (us++ds) (vs++dvs) Q E hr I.env0 (hb s us I.kIn hl) r2 h) fun r s' hq=>?_)
 cases r with
 | error e=>exact hx pins Z H s e s' I hq
 | ok fl=>
  cases fl with
  | ret u=>exact I.after hq
  | next=>exact False.elim hq
  | brk=>exact False.elim hq
  | cont=>exact False.elim hq
theorem K1(F:Vg X.prog X.w X.K X.mg X.base CX k f fd ps sp)(hr:Room k X.A)(hg:Gl X x)(hm:X.mg x=some (.ref f))(hk:PySem.W.keepIn X.K (.ref f)=true)(hb:Binds X.K fd ps ds)(hd:Vals dvs ds)(hx:Of CX X E)
  (ha:PA X (e::es) t) (hdb:(x==("__debug__" : Str))=false:=by decide) (he:starEach (e::es) X.env=(false,eval e X.env)::starEach es X.env:=by rfl) (hpl:(backTo pos (starEach es X.env)).any (·.1)=false:=by rfl) :
  PE X (.Call (.Name x p) (e::es) [] pos) (Il sp dvs E t):=by
 intro pins s Z H Q I h
 refine wpAny_Call_Name_kw (WG I hg hm ?_ hdb)
 refine PySem.W.callWith_K (h₀:=X.base) I.ok.mod.kin hk (Ya (ha pos pins s Z H _ I h) fun us s1 ⟨vs,H1,I1,r,q⟩=>⟨I1.kIn,?_⟩) he hpl
 exact Hz F hr hb hd hx I1 r q
end
structure ZU(N P:List Str)(sc:Scope):Prop where
 kind:sc.kind = .function
 co:sc.isCoroutine=false
 gen:sc.isGenerator=false
 nd:N.Nodup
 pre:N.take P.length=P
 par:∀x∈P,sc.names.lookup x=some .local\/sc.names.lookup x=some .cell
 nofree:∀y∈sc.names,y.2≠.free
theorem Rx{kindOf:Str->Option NameKind}{x:Str}:∀{binds:List (Str×Value)}{m:Str->Option Value},(∀v,(x,v)∉binds)->bindL kindOf binds m x=m x
 | [],_,_=>rfl
 | (n,v)::r,m,h=>by
  unfold bindL;rw[Rx fun w hw=>h w (List.mem_cons_of_mem _ hw)]
  split
  ·have:x≠n:=by rintro rfl;exact h v List.mem_cons_self
   simp[this]
  ·rfl
theorem Ry{kindOf:Str->Option NameKind}{x:Str}:∀{binds:List (Str×Value)}{m:Str->Option Value},(∀v,(x,v)∉binds)->bindC kindOf binds m x=m x
 | [],_,_=>rfl
 | (n,v)::r,m,h=>by
  unfold bindC;rw[Ry fun w hw=>h w (List.mem_cons_of_mem _ hw)]
  split
  ·rfl
  ·have:x≠n:=by rintro rfl;exact h v List.mem_cons_self
   simp[this]
theorem Rz{kindOf:Str->Option NameKind}{x:Str}{v:Value}:∀{P:List Str}{vs:List Value}{i:Nat}{m:Str->Option Value},P.Nodup->P[i]?=some x->vs[i]?=some v->kindOf x=some .local->
  bindL kindOf (P.zip vs) m x=some v
 | [],_,_,_,_,h,_,_=>by simp at h
 | _::_,[],_,_,_,_,h,_=>by simp at h
 | p::P,w::vs,0,m,nd,h1,h2,hk=>by
  simp at h1 h2;subst h1;subst h2
  show bindL kindOf ((p,w)::P.zip vs) m p=_
  unfold bindL;rw[Rx fun v hv=>(List.nodup_cons.mp nd).1 (List.of_mem_zip hv).1,if_pos hk]
  simp
 | p::P,w::vs,i+1,m,nd,h1,h2,hk=>by
  show bindL kindOf ((p,w)::P.zip vs) m x=_
  unfold bindL
  exact Rz (i:=i) (List.nodup_cons.mp nd).2 (by simpa using h1) (by simpa using h2) hk
theorem RA{kindOf:Str->Option NameKind}{x:Str}{v:Value}:∀{P:List Str}{vs:List Value}{i:Nat}{m:Str->Option Value},P.Nodup->P[i]?=some x->vs[i]?=some v->kindOf x≠some .local->
  bindC kindOf (P.zip vs) m x=some v
 | [],_,_,_,_,h,_,_=>by simp at h
 | _::_,[],_,_,_,_,h,_=>by simp at h
 | p::P,w::vs,0,m,nd,h1,h2,hk=>by
  simp at h1 h2;subst h1;subst h2
  show bindC kindOf ((p,w)::P.zip vs) m p=_
  unfold bindC;rw[Ry fun v hv=>(List.nodup_cons.mp nd).1 (List.of_mem_zip hv).1,if_neg hk]
  simp
 | p::P,w::vs,i+1,m,nd,h1,h2,hk=>by
  show bindC kindOf ((p,w)::P.zip vs) m x=_
  unfold bindC
  exact RA (i:=i) (List.nodup_cons.mp nd).2 (by simpa using h1) (by simpa using h2) hk
def start(N:List Str)(vs:List V):St:=vs.map some++List.replicate (N.length-vs.length) none
def U5(CX:Lj)(P:Program)(w:World)(K:PySem.W.Frag)(mg:Str->Option Value)(base:Heap)(N:List Str)(qual:Str)(scope:Scope)(f:Addr)(cd:Value)(A:Around)(outer:List Env)(s:Shared)(H:Hp)(E:XK):Cx where
 prog:=P
 w:=w
 K:=K
 mg:=mg
 base:=base
 A:=A.deeper (envOfC qual scope s.heap.objs.size f cd)
 N:=N
 s₀:=s
 H₀:=H
 env:=envOfC qual scope s.heap.objs.size f cd
 outer:=outer
 stack:=envOfC qual scope s.heap.objs.size f cd::outer
 ex:=[]
 calm:=true
 fn:=fun _=>true
 pn:=[]
 xe:=fun e s'=>wpAny (model P w) (A.deeper (envOfC qual scope s.heap.objs.size f cd)) (leaving (envOfC qual scope s.heap.objs.size f cd) e) (fun _ s''=>CX outer H s E e s'') (fun e' s''=>CX outer H s E e' s'') s'
theorem Q4{sc:Scope}{n:Nat}{x:Str}(h:sc.names.lookup x=some .cell):∃c,(cellsFrom n sc.names []).lookup x=some c:=by
 have q:=PySem.W.cellsFrom_some sc.names n [] (.inl h)
 exact Option.isSome_iff_exists.mp q
theorem Mc{CX:Lj}{P:Program}{w:World}{K:PySem.W.Frag}{mg:Str->Option Value}{base:Heap}{N ps:List Str}{qual:Str}{scope:Scope}{f:Addr}{cd:Value}{A:Around}{outer:List Env}{s s1:Shared}{H:Hp}{E:XK}{us:List Value}{vs:List V}
  (S:ZU N ps scope) (hd:A.handled=none) (e0:Env0 P w K mg base A outer s H) (hl:vs.length=ps.length) (r:Vals vs us)
  (x:InCallC s s.heap.objs.size (bindL (envOfC qual scope s.heap.objs.size f cd).kindOf (ps.zip us) fun _=>none) (cellsFrom (s.heap.objs.size+1) scope.names []) (bindC (envOfC qual scope s.heap.objs.size f cd).kindOf (ps.zip us) fun _=>none) s1) :
  Inv (U5 CX P w K mg base N qual scope f cd A outer s H E) [] (start N vs) H s1:=by
 have hpl:ps.length<=N.length:=by have:=congrArg List.length S.pre;rw[List.length_take] at this;omega
 obtain⟨h1,tk,rfl,hk⟩:=x.done
 have noA:∀b:Addr,b∉(U5 CX P w K mg base N qual scope f cd A outer s H E).ex:=fun b z=>absurd (show b∈([]:List Addr) from z) (by simp)
 refine⟨⟨e0.mod,S.kind,rfl,rfl,Nat.le_refl _,fun y z c h1 h2=>?_,fun y hy=>?_,fun y c _ h=>?_,fun _=>hd,Around.frames_deeper e0.frames,.inr ⟨rfl,rfl⟩,fun b z=>absurd z (noA b),e0.bs,e0.bsz,fun b _ _=>noA b,fun b z=>absurd z (noA b),e0.funs,e0.frf⟩,
  rfl,e0.bare,Un.kept hk,⟨_,x.toInCall.ns,fun i y v h1 h2 h3=>?_⟩,fun y c h=>⟨_,x.cell y c h⟩,e0.hok.fresh (Nat.le_refl _),fun y c h=>?_,fun p hp=>absurd (show p∈([]:List (Addr×Obj)) from hp) (by simp),e0.hok.kept hk,?_⟩
 ·exact name_of_addr x.apart (PySem.mem_of_lookup h1) (PySem.mem_of_lookup h2)
 ·have hy:scope.names.lookup y=some .cell\/scope.names.lookup y=some .free:=hy
  rcases hy with hy | hy
  ·exact Q4 hy
  ·exact absurd rfl (S.nofree _ (PySem.mem_of_lookup hy))
 ·exact Nat.le_of_lt (x.above y c (PySem.mem_of_lookup h))
 ·have hi:i<vs.length:=by
   unfold start at h2
   by_cases hi:i<vs.length
   ·exact hi
   ·rw[List.getElem?_append_right (by simpa using hi)] at h2
    rw[List.getElem?_replicate] at h2
    split at h2<;>cases h2
  have ha:vs[i]?=some v:=by
   unfold start at h2;rw[List.getElem?_append_left (by simpa using hi),List.getElem?_map] at h2
   cases e:vs[i]? with
   | none=>rw[e] at h2;cases h2
   | some a=>rw[e] at h2;cases h2;rfl
  obtain⟨u,hu,rv⟩:=r.get ha
  have hp:ps[i]?=some y:=by
   rw[<-S.pre,List.getElem?_take_of_lt (by omega)];exact h1
  have ndP:ps.Nodup:=by rw[<-S.pre];exact S.nd.sublist (List.take_sublist _ _)
  refine⟨u,rv,?_⟩
  rcases S.par y (List.mem_of_getElem? hp) with k | k
  ·exact .inl ⟨k,Rz ndP hp hu k⟩
  ·obtain⟨c,e⟩:=Q4 (n:=s.heap.objs.size+1) k
   refine .inr ⟨.inl k,c,e,?_⟩
   have q:=x.cell y c e
   rw[RA ndP hp hu (by show scope.names.lookup y≠_;rw[k];decide)] at q
   exact q
 ·exact e0.hok.fresh (Nat.le_of_lt (x.above y c (PySem.mem_of_lookup h)))
 ·unfold start
  show _=N.length
  rw[List.length_append,List.length_map,List.length_replicate];omega
theorem Im{CX:Lj}{P:Program}{w:World}{K:PySem.W.Frag}{mg:Str->Option Value}{base:Heap}{k:Nat}{f:Addr}{name qual:Str}{params:Arguments}{body:List Stmt}{scope:Scope}{dV kV doc pm cdv ct oc:Value}{an od:Option Addr}
  {osl:Array (Option Value)} {N ps:List Str} {sp:Sp} (lk:K.lookup f=some ⟨oc,od,.func (PySem.W.fnOf name qual params body scope dV kV doc pm an cdv ct),osl⟩) (hcd:PySem.W.codeIn K cdv qual=true) (S:ZU N ps scope)
  (len:∀vs H Q E,sp vs H Q E->vs.length=ps.length)
  (hbody:∀(A:Around)(outer:List Env)(s:Shared)(H:Hp)(vs:List V)(Q:VK)(E:XK),Room k (A.deeper (envOfC qual scope s.heap.objs.size f cdv))->sp vs H Q E->
   ∃t,PSs (U5 CX P w K mg base N qual scope f cdv A outer s H E) body t/\t { nx:=fun _ H'=>Q .non H',rt:=Q } (start N vs) H) :
  Vg P w K mg base CX (k+1) f (PySem.W.fnOf name qual params body scope dV kV doc pm an cdv ct) ps sp:=by
 refine⟨len,fun A outer s H args us vs Q E hr e0 hb r hsp=>?_⟩
 have hl:=len _ _ _ _ hsp
 have KX:K.In s.heap:=e0.mod.kin.keeps fun b o e=>(e0.bs b o e).1
 have lim:s.heap.NoLimit:=e0.mod.nolimit.keeps fun b o e=>(e0.bs b o e).1
 have hkind:∀y∈ps.zip us,scope.names.lookup y.1=some .local\/(scope.names.lookup y.1=some .cell/\((cellsFrom (s.heap.objs.size+1) scope.names []).lookup y.1).isSome=true):=fun⟨n,v⟩ hy=>by
  rcases S.par n (List.of_mem_zip hy).1 with q | q
  ·exact .inl q
  ·exact .inr ⟨q,PySem.W.cellsFrom_some _ _ _ (.inl q)⟩
 refine codeAny_call_function hr.depth (KX _ _ lk) rfl S.co S.gen rfl (PySem.W.codeRec_of KX hcd) (hb _ _ _ _ ?_)
 refine wpAny_newFunctionEnv_cells S.kind hkind fun env he s1 x=>?_
 subst he
 refine⟨lim.keeps x.toInCall.keep,codeAny_func ?_⟩
 obtain⟨t,ht,hq⟩:=hbody A outer s H vs Q E (hr.deeper _) hsp
 have I:Inv (U5 CX P w K mg base N qual scope f cdv A outer s H E) [] (start N vs) H s1:=Mc S hr.hd e0 hl r x
 refine wpAny_mono (ht [] s1 (start N vs) H _ I hq) (fun fl s' hs=>?_) fun e s' hs=>hs
 have fin:∀{Z':St}{H':Hp}{v:V}{u:Value},Inv (U5 CX P w K mg base N qual scope f cdv A outer s H E) [] Z' H' s'->RelV v u->Q v H'->CE outer P w H s Q u s':=
  fun{Z' H' v u} J rv q=>⟨v,H',J.os,J.bare,J.base,J.hok,rv,q⟩
 cases fl with
 | ret u=>
  obtain⟨v,Z',H',J,rv,q⟩:=hs
  exact fin J rv q
 | next=>
  obtain⟨Z',H',J,q⟩:=hs
  exact fin (v:=V.non) (u:=Value.none) J rfl q
 | brk=>
  obtain⟨_,_,_,q⟩:=hs
  exact False.elim q
 | cont=>
  obtain⟨_,_,_,q⟩:=hs
  exact False.elim q
section
variable {X:Cx} {x:Str} {p pos:Pos} {e:Expr} {es:List Expr} {t:TA} {id T:String} {r:List V->Hp->VK->Prop}
def F5(r:List V->Hp->VK->Prop)(t:TA):TE:=fun Z H Q=>t Z H fun vs H1=>r vs H1 Q
theorem Sg(hc:X1 X (.builtin id) r)(hg:Gl X x)(hm:X.mg x=none)(hv:bootBuiltins x=some (.builtin id))(ha:PA X (e::es) t)(hn:x≠"__name__":=by decide)(hdb:(x==("__debug__" : Str))=false:=by decide)
  (he:starEach (e::es) X.env=(false,eval e X.env)::starEach es X.env:=by rfl) (hpl:(backTo pos (starEach es X.env)).any (·.1)=false:=by rfl):PE X (.Call (.Name x p) (e::es) [] pos) (F5 r t):=by
 intro pins s Z H Q I h
 refine wpAny_Call_Name_kw (Ub I hg hm hv ?_ hn hdb)
 exact PyProof.Rows.callWith_builtin1 (Ya (ha pos pins s Z H _ I h) fun us s1 ⟨vs,H1,I1,r1,q1⟩=>hc pins s1 Z H1 vs us Q I1 r1 q1) he hpl
theorem RD(hc:X1 X (.type T) r)(hg:Gl X x)(hm:X.mg x=none)(hv:bootBuiltins x=some (.type T))(ha:PA X (e::es) t)(hn:x≠"__name__":=by decide)(hdb:(x==("__debug__" : Str))=false:=by decide)
  (he:starEach (e::es) X.env=(false,eval e X.env)::starEach es X.env:=by rfl) (hpl:(backTo pos (starEach es X.env)).any (·.1)=false:=by rfl):PE X (.Call (.Name x p) (e::es) [] pos) (F5 r t):=by
 intro pins s Z H Q I h
 refine wpAny_Call_Name_kw (Ub I hg hm hv ?_ hn hdb)
 exact PyProof.Rows.callWith_type1 (Ya (ha pos pins s Z H _ I h) fun us s1 ⟨vs,H1,I1,r1,q1⟩=>hc pins s1 Z H1 vs us Q I1 r1 q1) he hpl
end
end L2
namespace HT
open PySem PyProof.Rows
section
variable {prog:Program} {w:World} {A:Around} {E:Value->Shared->Prop} {s:Shared}
def sIx(n d:Nat):Option Int->Nat
 | none=>d
 | some v=>if v<0 then(v+(n:Int)).toNat else min v.toNat n
theorem sIx_nat(n d k:Nat):sIx n d (some (k:Int))=min k n:=by
 show(if(k:Int)<0 then((k:Int)+(n:Int)).toNat else min (k:Int).toNat n)=min k n
 rw[if_neg (by omega),Int.toNat_natCast]
end
end HT
namespace L2
open PySem PySem.Spec PyProof.Rows
abbrev TO:=St->Hp->(Option Int->Hp->Prop)->Prop
def PO(X:Cx)(e:Option Expr)(t:TO):Prop:=
 ∀(pins:List (Addr×Obj))(s:Shared)(Z:St)(H:Hp)(Q:Option Int->Hp->Prop),Inv X pins Z H s->t Z H Q->
  wpAny (model X.prog X.w) X.A (evalPart e X.env) (fun u s'=>∃o H',Inv X pins Z H' s'/\IsPart u o/\Q o H') X.xe s
def K2:TO:=fun _ H Q=>Q none H
def G6(t:TE):TO:=fun Z H Q=>t Z H fun x H1=>∃i,x = .int i/\Q (some i) H1
theorem Og{ns:List Int}:∀{us:List Value},Vals (ns.map V.int) us->IntsAre us ns:=by
 induction ns with
 | nil=>intro us r;rw[List.map_nil] at r;cases r;exact .nil
 | cons n ns ih=>
  intro us r;rw[List.map_cons] at r
  cases r with
  | cons r1 r2=>
   obtain⟨t,e⟩:=r1
   subst e
   exact .cons n t (ih r2)
section
variable {X:Cx} {e:Expr} {te:TE} {lo hi:Option Expr} {tl th:TO} {pos p2:Pos}
theorem K3:PO X none K2:=by
 intro pins s Z H Q I h;rw[evalPart_none]
 exact wpAny_pure ⟨none,H,I,.none,h⟩
theorem K4(h:PE X e te):PO X (some e) (G6 te):=by
 intro pins s Z H Q I hw;rw[evalPart_some]
 refine Ya (h pins s Z H _ I hw) fun u s1 ⟨x,H1,I1,r1,q1⟩=>?_
 obtain⟨i,rfl,q⟩:=q1
 obtain⟨t,rfl⟩:=r1
 exact⟨some i,H1,I1,.int i t,q⟩
def EJ(X:Cx)(r:V->Option Int->Option Int->Hp->VK->Prop):Prop:=
 ∀(pins:List (Addr×Obj))(s:Shared)(Z:St)(H:Hp)(x:V)(v vl vu:Value)(lo hi:Option Int)(sl:Addr)(Q:VK),Inv X pins Z H s->RelV x v->s.heap.IsSliceOf sl vl vu .none->IsPart vl lo->IsPart vu hi->r x lo hi H Q->
  ∃T id,typeLookup (.type T) "__getitem__" = pure (some (.builtin id))/\s.TypeIs v T/\wpAny (model X.prog X.w) X.A (getItem v (.ref sl)) (EP X pins Z Q) X.xe s
def EO(r:V->Option Int->Option Int->Hp->VK->Prop)(te:TE)(tl th:TO):TE:=fun Z H Q=>te Z H fun x H1=>tl Z H1 fun l H2=>th Z H2 fun u H3=>r x l u H3 Q
theorem Lk{r:V->Option Int->Option Int->Hp->VK->Prop}(hr:EJ X r)(he:PE X e te)(hl:PO X lo tl)(hu:PO X hi th):PE X (.Subscript e (.Slice lo hi none p2) pos) (EO r te tl th):=by
 intro pins s Z H Q I h
 refine Subscript_ (Ya (he pins s Z H _ I h) fun v s1 ⟨x,H1,I1,r1,q1⟩=>?_)
 refine wpAny_Slice (Ya (hl pins s1 Z H1 _ I1 q1) fun vl s2 ⟨l,H2,I2,pl,q2⟩=>Ya (hu pins s2 Z H2 _ I2 q2) fun vu s3 ⟨u,H3,I3,pu,q3⟩=>?_)
 rw[evalPart_none]
 refine wpAny_pure ?_
 have I4:Inv X pins Z H3 { s3 with heap:=s3.heap.push { cls:=.type "slice",data:=.fields #[vl,vu,.none] } }:=I3.kept (t':=s3.toks) fun b ob q=>Heap.get?_push_of_some _ q
 obtain⟨T,id,hT,ht,hg⟩:=hr pins { s3 with heap:=s3.heap.push { cls:=.type "slice",data:=.fields #[vl,vu,.none] } } Z H3 x v vl vu l u s3.heap.objs.size Q I4 r1 (Heap.IsSliceOf.new ..) pl pu q3
 show wpAny (model X.prog X.w) X.A (subscriptTail e (.Slice lo hi none p2) v (.ref s3.heap.objs.size)) (EP X pins Z Q) X.xe { s3 with heap:=s3.heap.push { cls:=.type "slice",data:=.fields #[vl,vu,.none] } }
 exact tail_any (ops:=[.ref s3.heap.objs.size,v]) ht hT hg (by with_unfolding_all rfl)
def Md(xs:List V)(lo hi:Option Int):List V:=(xs.drop (HT.sIx xs.length 0 lo)).take (HT.sIx xs.length xs.length hi-HT.sIx xs.length 0 lo)
theorem Q5(xs:List V)(lo hi:Option Int):(Md xs lo hi).length<=xs.length:=by
 unfold Md;rw[List.length_take,List.length_drop];omega
end
def O7(n:Nat)(i:Int):Option Nat:=if 0<=i then(if i<n then some i.toNat else none) else if -(n:Int)<=i then some (i+n).toNat else none
def Wv{α:Type}(xs:List α)(i:Int):Option α:=(O7 xs.length i).bind fun j=>xs[j]?
theorem O8{n:Nat}{i:Int}{j:Nat}(h:O7 n i=some j):seqIndex? i n=some j/\j<n/\-(n:Int)<=i/\i<n:=by
 unfold O7 at h
 by_cases h0:0<=i
 ·rw[if_pos h0] at h
  by_cases h1:i<n
  ·rw[if_pos h1] at h
   have e:i.toNat=j:=Option.some.inj h
   exact⟨by rw[seqIndex_of h0 h1,e],by omega,by omega,h1⟩
  ·rw[if_neg h1] at h;cases h
 ·rw[if_neg h0] at h
  by_cases h1 : -(n:Int)<=i
  ·rw[if_pos h1] at h
   have e:(i+n).toNat=j:=Option.some.inj h
   exact⟨by rw[seqIndex_neg (by omega) h1,e],by omega,h1,by omega⟩
  ·rw[if_neg h1] at h;cases h
theorem Qa{α:Type}{xs:List α}{i:Int}{v:α}(h:Wv xs i=some v):∃j,seqIndex? i xs.length=some j/\xs[j]?=some v/\j<xs.length/\-(xs.length:Int)<=i/\i<xs.length:=by
 unfold Wv at h
 cases e:O7 xs.length i with
 | none=>rw[e] at h;cases h
 | some j=>
  rw[e] at h
  obtain⟨h1,h2,h3,h4⟩:=O8 e
  exact⟨j,h1,h,h2,h3,h4⟩
theorem WK{α:Type}{xs:List α}{j:Nat}{v:α}(h:xs[j]?=some v):Wv xs (j:Int)=some v:=by
 have hj:j<xs.length:=(List.getElem?_eq_some_iff.mp h).1
 have e:O7 xs.length (j:Int)=some j:=by
  unfold O7
  rw[if_pos (by omega),if_pos (by omega)];simp
 unfold Wv;rw[e];exact h
def Qb(b:Expr):Prop:=∀o i,subscripted b false o i=operate [o,i] (getItem o i)
def IxR(X:Cx)(r:R2):Prop:=
 ∀(value slice:Expr)(pins:List (Addr×Obj))(s:Shared)(Z:St)(H:Hp)(x y:V)(v u:Value)(Q:VK),Inv X pins Z H s->RelV x v->RelV y u->r x y H Q->
  subscripted slice false v u=operate [v,u] (getItem v u)->wpAny (model X.prog X.w) X.A (subscriptTail value slice v u) (EP X pins Z Q) X.xe s
def En(X:Cx)(id:String)(r:V->List V->Hp->VK->Prop):Prop:=
 ∀(pins:List (Addr×Obj))(s:Shared)(Z:St)(H:Hp)(x:V)(xs:List V)(v:Value)(us:List Value)(Q:VK),Inv X pins Z H s->RelV x v->Vals xs us->r x xs H Q->
  wpAny (model X.prog X.w) X.A (call (.builtin id) (v::us)) (EP X pins Z Q) X.xe s
section
variable {X:Cx} {a b:Expr} {ta tb:TE} {pos:Pos}
theorem IxR.or{r r':R2}(h:IxR X r)(h':IxR X r'):IxR X (fun x y H Q=>r x y H Q\/r' x y H Q):=by
 intro value slice pins s Z H x y v u Q I rx ry q hs
 rcases q with q | q
 ·exact h value slice pins s Z H x y v u Q I rx ry q hs
 ·exact h' value slice pins s Z H x y v u Q I rx ry q hs
theorem V4{r:R2}(hr:IxR X r)(ha:PE X a ta)(hb:PE X b tb)(hs:Qb b):PE X (.Subscript a b pos) (Hq r ta tb):=by
 intro pins s Z H Q I h
 exact Subscript_ (Hr ha hb I h fun v u s2 x y H2 I2 rx ry q=>hr a b pins s2 Z H2 x y v u Q I2 rx ry q (hs _ _))
def K5(K:PySem.W.Frag):R2:=fun x y H Q=>∃p xs i v,x = .ref p/\y = .int i/\SqL K H p xs/\Wv xs i=some v/\Q v H
def G7(K:PySem.W.Frag):R2:=fun x y H Q=>∃p xs i v,x = .ref p/\y = .int i/\SqT K H p xs/\Wv xs i=some v/\Q v H
def G8:R2:=fun x y H Q=>∃z i c,x = .str z/\y = .int i/\z.length<=sizeLine/\Wv z.cps.toList i=some c/\Q (.str ⟨#[c]⟩) H
theorem ix_list:IxR X (K5 X.K):=by
 intro value slice pins s Z H x y v u Q I rx ry h hs
 obtain⟨p,xs,i,z,rfl,rfl,hq,he,q⟩:=h
 cases rx
 obtain⟨t,rfl⟩:=ry
 obtain⟨its,r,pl,hz⟩:=I.list hq
 obtain⟨j,h1,h2,h3,h4,h5⟩:=Qa he
 obtain⟨w,ew,rw'⟩:=r.get h2
 have hl:=r.length;have hn:=U3
 have fin:EP X pins Z Q w s:=⟨z,H,I,rw',q⟩
 by_cases h0:0<=i
 ·have hj:i.toNat=j:=by
   rw[seqIndex_of h0 h5] at h1
   exact Option.some.inj h1
  exact item_listR pl.isList h0 (by omega) (by rw[hj];simpa using ew) fin hs
 ·have hj:(i+(its.toArray.size:Int)).toNat=j:=by
   rw[seqIndex_neg (by omega) h4] at h1;rw[List.size_toArray,<-hl]
   exact Option.some.inj h1
  exact subscriptTail_builtinR (x:=w) pl.isList.typeIs slot_list_getitem.lookup
   (wpAny_getItem_list_neg (Q:=fun r s'=>r=w/\EP X pins Z Q r s') pl.isList (by omega) (by rw[List.size_toArray]<;>omega) (by omega) (by rw[hj];simpa using ew) ⟨rfl,fin⟩) hs
theorem ix_tup:IxR X (G7 X.K):=by
 intro value slice pins s Z H x y v u Q I rx ry h hs
 obtain⟨p,xs,i,z,rfl,rfl,hq,he,q⟩:=h
 cases rx
 obtain⟨t,rfl⟩:=ry
 obtain⟨its,r,pl,hz⟩:=I.tuple hq
 obtain⟨j,h1,h2,h3,h4,h5⟩:=Qa he
 obtain⟨w,ew,rw'⟩:=r.get h2
 have hl:=r.length;have hn:=U3
 have fin:EP X pins Z Q w s:=⟨z,H,I,rw',q⟩
 exact subscriptTail_builtinR (x:=w) pl.typeIs slot_tuple_getitem.lookup
  (getItem_tuple (j:=j) (Q:=fun r s'=>r=w/\EP X pins Z Q r s') pl (by omega) (by omega) (by rw[List.size_toArray,<-hl];exact h1) (by simpa using ew) ⟨rfl,fin⟩) hs
theorem HA:IxR X G8:=by
 intro value slice pins s Z H x y v u Q I rx ry h hs
 obtain⟨z,i,c,rfl,rfl,hz,he,q⟩:=h
 obtain⟨t,rfl⟩:=rx
 obtain⟨t',rfl⟩:=ry
 obtain⟨j,h1,h2,h3,h4,h5⟩:=Qa he
 have hl:z.cps.toList.length=z.length:=by simp[Str.length]
 rw[hl] at h1 h4 h5
 have hn:=U3
 exact tail_any (typeIs_str s z t) slot_str_getitem.lookup (getItem_str (c:=c) (by
  have e1:decide (i < -(2^63:Int))=false:=decide_eq_false (by omega)
  have e2:decide (i ≥ 2^63)=false:=decide_eq_false (by omega)
  rw[e1,e2,Bool.or_false]) (by rw[h1];simpa using h2) ⟨.str ⟨#[c]⟩,H,I.tok _,⟨_,rfl⟩,q⟩) hs
def EK(K:PySem.W.Frag):R2:=fun x y H Q=>K5 K x y H Q\/G7 K x y H Q\/G8 x y H Q
theorem HB:IxR X (EK X.K):=ix_list.or (ix_tup.or HA)
theorem Oh(its:List Value)(n j:Nat)(u:Value):Obj.mapSeq (·.setIfInBounds j u) { cls:=.type "list",data:=.seq its.toArray n }={ cls:=.type "list",data:=.seq (its.set j u).toArray n }:=by
 simp[Obj.mapSeq]
theorem Inv.lst{pins:List (Addr×Obj)}{Z:St}{H:Hp}{s:Shared}{p:Addr}{xs:List V}(I:Inv X pins Z H s)(h:H p=some (.lst xs)) :
  ∃(its:List Value) (n:Nat),Vals xs its/\s.heap.get? p=some { cls:=.type "list",data:=.seq its.toArray n }/\xs.length<=sizeLine:=by
 obtain⟨z,its,n,r,e⟩:=I.hok p _ h
 exact⟨its,n,r,e,z⟩
theorem Inv.lstUpd{pins:List (Addr×Obj)}{Z:St}{H:Hp}{s:Shared}{p:Addr}{xs ys:List V}{its its':List Value}{n n':Nat}{f:Obj->Obj}(I:Inv X pins Z H s)(h:H p=some (.lst xs))
  (ho:s.heap.get? p=some { cls:=.type "list",data:=.seq its.toArray n }) (hf:f { cls:=.type "list",data:=.seq its.toArray n }={ cls:=.type "list",data:=.seq its'.toArray n' }) (r:Vals ys its') (hz:ys.length<=sizeLine) (t:Nat) :
  Inv X pins Z (upd H p (.lst ys)) { s with heap:=s.heap.update p f,toks:=t }:=by
 have e:(s.heap.update p f).get? p=some { cls:=.type "list",data:=.seq its'.toArray n' }:=by
  rw[Heap.get?_update_self f ho (by rw[hf]<;>rfl),hf]
 refine I.write (x:=p) (e:=p) (by rw[h];trivial) (.inl rfl) (fun b u hb q=>(Heap.get?_update_other _ _ (Ne.symm hb)).trans q) ⟨_,e⟩ ?_
 exact⟨hz,its',n',r,e⟩
def Io:V->V->V->Hp->(Hp->Prop)->Prop:=fun o i v H Q=>∃p xs k j,o = .ref p/\i = .int k/\H p=some (.lst xs)/\O7 xs.length k=some j/\Q (upd H p (.lst (xs.set j v)))
theorem XB:GP X Io:=by
 intro pins s Z H o i v ov iv u Q I ro ri rv h
 obtain⟨p,xs,k,j,rfl,rfl,hp,hj,q⟩:=h
 cases ro
 obtain⟨t,rfl⟩:=ri
 obtain⟨its,n,r,ho,hz⟩:=I.lst hp
 obtain⟨h1,h2,h3,h4⟩:=O8 hj
 have hl:=r.length;have hn:=U3
 have I':Inv X pins Z (upd H p (.lst (xs.set j v))) { s with heap:=s.heap.update p (Obj.mapSeq (·.setIfInBounds j u)) }:=
  I.lstUpd hp ho (Oh its n j u) (r.set rv j) (by rw[List.length_set];exact hz) s.toks
 by_cases h0:0<=k
 ·have hk:k.toNat=j:=by
   rw[seqIndex_of h0 h4] at h1
   exact Option.some.inj h1
  exact PySem.W.ki_setAt ho h0 (by omega) (by rw[List.size_toArray,<-hl];exact h4) (by rw[hk];exact⟨_,I',q⟩)
 ·have hk:(k+(its.toArray.size:Int)).toNat=j:=by
   rw[seqIndex_neg (by omega) h3] at h1;rw[List.size_toArray,<-hl]
   exact Option.some.inj h1
  exact PySem.W.ki_setBack ho (by omega) (by rw[List.size_toArray,<-hl];exact h3) (by omega) (by rw[hk];exact⟨_,I',q⟩)
theorem Qc(lo hi:Option Int)(n:Nat):(sliceBounds lo hi none n).1=((HT.sIx n 0 lo:Nat):Int)/\(sliceBounds lo hi none n).2.1=((HT.sIx n n hi:Nat):Int)/\(sliceBounds lo hi none n).2.2=1:=by
 refine⟨?_,?_,rfl⟩
 ·cases lo with
  | none=>simp[sliceBounds,HT.sIx]
  | some i=>
   simp only[sliceBounds,HT.sIx,Option.getD_none,show(1:Int)>0 by decide,if_true]
   by_cases h:i<0
   ·simp only[h,if_true]<;>omega
   ·simp only[h,if_false]<;>omega
 ·cases hi with
  | none=>simp[sliceBounds,HT.sIx]
  | some i=>
   simp only[sliceBounds,HT.sIx,Option.getD_none,show(1:Int)>0 by decide,if_true]
   by_cases h:i<0
   ·simp only[h,if_true]<;>omega
   ·simp only[h,if_false]<;>omega
theorem Ro(its:List Value)(lo hi:Option Int):slicePick its.toArray lo hi none=((its.drop (HT.sIx its.length 0 lo)).take (HT.sIx its.length its.length hi-HT.sIx its.length 0 lo)).toArray:=by
 obtain⟨h1,h2,h3⟩:=Qc lo hi its.toArray.size
 unfold slicePick;rw[h1,h2,h3]
 simp only[sliceRange_one,pick_run,List.size_toArray]<;>rfl
def Eo(K:PySem.W.Frag):V->Option Int->Option Int->Hp->VK->Prop:=fun x lo hi H Q=>∃a xs,x = .ref a/\SqL K H a xs/\∀p,H p=none->Q (.ref p) (upd H p (.lst (Md xs lo hi)))
theorem K6:EJ X (Eo X.K):=by
 intro pins s Z H x v vl vu lo hi sl Q I rx hs pl pu h
 obtain⟨a,xs,rfl,hx,q⟩:=h
 cases rx
 obtain⟨its,r,ht,hz⟩:=I.list hx
 have hlen:=r.length
 refine⟨"list",_,slot_list_getitem.lookup,ht.isList.typeIs,?_⟩
 refine wpAny_getItem_list_slice ht.isList hs pl pu .none (by simp) ?_ (by rw[List.size_toArray]<;>omega)
 rw[Ro,<-hlen]
 refine⟨.ref s.heap.objs.size,_,I.laid (t':=s.toks) (o:=.lst (Md xs lo hi)) (fun b ob q=>Heap.get?_push_of_some _ q) (Nat.le_refl _) ?_,rfl,q _ (I.hok.fresh (Nat.le_refl _))⟩
 exact⟨Nat.le_trans (Q5 xs lo hi) hz,_,0,(r.drop (HT.sIx xs.length 0 lo)).take (HT.sIx xs.length xs.length hi-HT.sIx xs.length 0 lo),Heap.get?_push_size _ rfl⟩
theorem WL:X1 X (.type "list") (fun xs H Q=>∃p ys,xs=[.ref p]/\(SqL X.K H p ys\/SqT X.K H p ys)/\∀l,H l=none->Q (.ref l) (upd H l (.lst ys))):=by
 intro pins s Z H xs us Q I r h
 obtain⟨p,ys,rfl,hq,q⟩:=h
 obtain⟨u,rfl,rx⟩:=Ut r
 cases rx
 have fin:∀(its:List Value),Vals ys its->ys.length<=sizeLine->∀(h':Heap)(c':Nat),(∀b o',s.heap.get? b=some o'->h'.get? b=some o')->
   h'.get? s.heap.objs.size=some { cls:=.type "list",dict:=none,data:=.seq its.toArray c',slots:=#[] }->EP X pins Z Q (.ref s.heap.objs.size) { s with heap:=h' }:=fun its r' hz h' c' kp e=>
  ⟨.ref s.heap.objs.size,_,I.laid (t':=s.toks) kp (Nat.le_refl _) (show ObjOk X.prog X.w _ h' _ (.lst ys) from⟨hz,its,c',r',e⟩),rfl,q _ (I.hok.fresh (Nat.le_refl _))⟩
 rcases hq with hq | hq
 ·obtain⟨its,r',pl,hz⟩:=I.list hq
  have hlen:=r'.length
  obtain⟨o,ho,hc,n,hd⟩:=pl.isList
  exact call_list_seq p (.inl rfl) ho hc hd (fun h' c' kp e=>fin its r' hz h' c' kp e) (by simp only[List.size_toArray]<;>omega)
 ·obtain⟨its,r',pl,hz⟩:=I.tuple hq
  have hlen:=r'.length
  obtain⟨o,ho,hc,n,hd⟩:=pl
  exact call_list_seq p (.inr rfl) ho hc hd (fun h' c' kp e=>fin its r' hz h' c' kp e) (by simp only[List.size_toArray]<;>omega)
theorem Yf:X1 X (.type "tuple") (fun xs H Q=>∃p ys,xs=[.ref p]/\((SqL X.K H p ys/\∀l,H l=none->Q (.ref l) (upd H l (.tup ys)))\/(SqT X.K H p ys/\Q (.ref p) H))):=by
 intro pins s Z H xs us Q I r h
 obtain⟨p,ys,rfl,h⟩:=h
 obtain⟨u,rfl,rx⟩:=Ut r
 cases rx
 rcases h with⟨hq,q⟩ | ⟨hq,q⟩
 ·obtain⟨its,r',pl,hz⟩:=I.list hq
  have hlen:=r'.length
  refine call_tuple_list pl.isList (fun h' kp=>?_) (by simp only[List.size_toArray]<;>omega)
  have I1:Inv X pins Z H { s with heap:=h' }:=I.kept (t':=s.toks) kp
  have I2:Inv X pins Z (upd H h'.objs.size (.tup ys)) { s with heap:=h'.push { cls:=.type "tuple",data:=.seq its.toArray } }:=
   I1.laid (t':=s.toks) (fun b o e=>Heap.get?_push_of_some _ e) (Nat.le_refl _) (show ObjOk X.prog X.w _ _ _ (.tup ys) from⟨hz,its,r',IsTup.new _ _⟩)
  exact⟨.ref h'.objs.size,_,I2,rfl,q _ (I1.hok.fresh (Nat.le_refl _))⟩
 ·obtain⟨its,r',pl,hz⟩:=I.tuple hq
  exact call_tuple_same pl ⟨.ref p,H,I,rfl,q⟩
def Ep(K:PySem.W.Frag)(T:String)(x:V)(H:Hp):Prop:=match x with
 | .str _=>T = "str"
 | .int _=>T = "int"
 | .ref p=>(T = "list"/\∃xs,SqL K H p xs)\/(T = "tuple"/\∃o,K.lookup p=some o/\o.cls = .type "tuple"/\o.dict=none)\/
   (T = "dict"/\((∃kvs,H p=some (.dK kvs))\/∃kvs,H p=some (.dT kvs)))\/(T = "set"/\∃S n,H p=some (.set S n))
 | _=>False
theorem HC{pins:List (Addr×Obj)}{Z:St}{H:Hp}{s:Shared}{T:String}{x:V}{v:Value}(I:Inv X pins Z H s)(r:RelV x v)(ty:Ep X.K T x H) :
  s.TypeIs v T/\∀a,v = .ref a->∃ob,s.heap.get? a=some ob/\ob.dict=none:=by
 cases x with
 | str z=>
  obtain⟨t,rfl⟩:=r
  cases (show T = "str" from ty)
  exact⟨typeIs_str s z t,fun _ e=>nomatch e⟩
 | int i=>
  obtain⟨t,rfl⟩:=r
  cases (show T = "int" from ty)
  exact⟨typeIs_int s i t,fun _ e=>nomatch e⟩
 | ref p=>
  cases r
  rcases ty with⟨rfl,xs,hq⟩ | ⟨rfl,o,hk,hc,hd⟩ | ⟨rfl,hk⟩ | ⟨rfl,S,n,hk⟩
  ·obtain⟨its,_,pl,_⟩:=I.list hq
   refine⟨pl.isList.typeIs,fun a e=>?_⟩
   cases e
   obtain⟨o,n,e,c,hd,_⟩:=pl
   exact⟨o,e,hd⟩
  ·refine⟨⟨o,I.kIn p o hk,hc⟩,fun a e=>?_⟩
   cases e
   exact⟨o,I.kIn _ o hk,hd⟩
  ·have z:∃o,s.heap.get? p=some o/\o.ExactDict:=by
    rcases hk with⟨kvs,hk⟩ | ⟨kvs,hk⟩
    ·obtain⟨_,_,_,_,o,_,_,e,ex,_⟩:=I.hok p _ hk
     exact⟨o,e,ex⟩
    ·obtain⟨_,_,_,_,o,_,_,e,ex,_⟩:=I.hok p _ hk
     exact⟨o,e,ex⟩
   obtain⟨o,e,ex⟩:=z
   refine⟨⟨o,e,ex.1⟩,fun a e2=>?_⟩
   cases e2
   exact⟨o,e,ex.2.1⟩
  ·obtain⟨o,_,_,_,e,ex,_⟩:=I.hok p _ hk
   refine⟨⟨o,e,ex.1⟩,fun a e2=>?_⟩
   cases e2
   exact⟨o,e,ex.2.1⟩
 | _=>exact False.elim ty
def F6(K:PySem.W.Frag)(T:String)(r:V->List V->Hp->VK->Prop)(to:TE)(t:TA):TE:=fun Z H Q=>to Z H fun x H1=>Ep K T x H1/\t Z H1 fun xs H2=>r x xs H2 Q
variable {o e:Expr} {es:List Expr} {to:TE} {t:TA} {name:Str} {apos cpos:Pos} {T id:String} {r:V->List V->Hp->VK->Prop}
theorem Uu(pa:PlainAttrs T)(slot:Slot T name id)(hty:typeOf (.builtin id)=pure (.type "method_descriptor"))(hm:En X id r)(ho:PE X o to)(ha:PA X (e::es) t)
  (hbase:attributeBase o name X.env (eval o X.env)=eval o X.env:=by rfl)
  (hfew:((backTo cpos (starEach (e::es) X.env)).all (fun x=>!x.1)&&(backToKw cpos (keywordEach [] X.env)).all (fun x=>x.1.isSome)
   &&decide ((e::es).length+([]:List Keyword).length+(if([]:List Keyword).isEmpty then 0 else 1)<30))=true:=by rfl)
  (hline:(apos.endLine==cpos.line)=true:=by rfl) (hs:starEach (e::es) X.env=(false,eval e X.env)::starEach es X.env:=by rfl) (hplain:(backTo cpos (starEach es X.env)).any (·.1)=false:=by rfl) :
  PE X (.Call (.Attribute o name apos) (e::es) [] cpos) (F6 X.K T r to t):=by
 intro pins s Z H Q I h
 refine wpAny_Call_method_late hbase hfew hline rfl (Ya (ho pins s Z H _ I h) fun v s1 ⟨x,H1,I1,r1,ty,q1⟩=>?_)
 obtain⟨h1,h2⟩:=HC I1 r1 ty
 refine⟨T,id,pa,slot,hty,h1,h2,?_⟩
 have hA:=ha cpos pins s1 Z H1 _ I1 q1
 rw[hs] at hA ⊢
 refine Calls.callWith_builtin (by show(false || (backTo cpos (starEach es X.env)).any (·.1))=false;rw[hplain]<;>rfl) (Calls.evalArgs_plain ?_)
 exact Ya hA fun us s2 ⟨vs,H2,I2,r2,q2⟩=>hm pins s2 Z H2 x vs v us Q I2 r1 r2 q2
end
def Er(X:Cx)(id:String)(r:V->List V->Hp->VK->Prop):Prop:=
 ∀(pins:List (Addr×Obj))(s:Shared)(Z:St)(H:Hp)(x:V)(xs:List V)(v:Value)(us:List Value)(Q:VK),Inv X pins Z H s->RelV x v->Vals xs us->r x xs H Q->
  wpAny (model X.prog X.w) X.A (call (.builtin id) (v::us)) (EP X pins Z Q) X.xe s
theorem Vals.one:∀{x:V}{us:List Value},Vals [x] us->∃u,us=[u]/\RelV x u
 | _,_,.cons r .nil=>⟨_,rfl,r⟩
theorem Vals.two:∀{x y:V}{us:List Value},Vals [x,y] us->∃u v,us=[u,v]/\RelV x u/\RelV y v
 | _,_,_,.cons r (.cons q .nil)=>⟨_,_,rfl,r,q⟩
theorem Vals.dropLast{xs:List V}{us:List Value}(h:Vals xs us):Vals xs.dropLast us.dropLast:=by
 induction h with
 | nil=>exact .nil
 | cons r t ih=>
  cases t with
  | nil=>exact .nil
  | cons q t'=>exact .cons r ih
theorem Vals.rep{xs:List V}{us:List Value}(h:Vals xs us):∀k:Nat,Vals (List.replicate k xs).flatten (List.replicate k us).flatten
 | 0=>.nil
 | k+1=>by
  rw[List.replicate_succ,List.replicate_succ,List.flatten_cons,List.flatten_cons]
  exact Vals.append h (Vals.rep h k)
theorem RE(its:List Value):∀(k:Nat)(acc:List Value),
  List.foldl (fun x1 x2=>x1++x2) acc.toArray (List.replicate k its.toArray)=(acc++(List.replicate k its).flatten).toArray
 | 0,acc=>by simp
 | k+1,acc=>by
  have e:acc.toArray++its.toArray=(acc++its).toArray:=by simp
  have e2:(acc++its)++(List.replicate k its).flatten=acc++(List.replicate (k+1) its).flatten:=by
   rw[List.replicate_succ,List.flatten_cons,List.append_assoc]
  rw[<-e2,<-RE its k (acc++its),<-e,List.replicate_succ,List.foldl_cons]
section
variable {X:Cx} {pins:List (Addr×Obj)} {Z:St} {H:Hp} {s:Shared} {l b:Addr} {xs ys zs:List V}
theorem Inv.lset{its its':List Value}{n:Nat}{f:Array Value->Array Value}{t':Nat}(I:Inv X pins Z H s)(hH:H l=some (.lst xs))
  (e:s.heap.get? l=some { cls:=.type "list",data:=.seq its.toArray n }) (hf:f its.toArray=its'.toArray) (hv:Vals ys its') (hz:ys.length<=sizeLine) :
  Inv X pins Z (upd H l (.lst ys)) { s with heap:=s.heap.update l (Obj.mapSeq f),toks:=t' }:=by
 have q:=PySem.IsL.update e f;rw[hf] at q
 refine I.write (x:=l) (e:=l) (by rw[hH];exact trivial) (.inl rfl) (fun b' u hb hu=>(Heap.get?_update_other s.heap (Obj.mapSeq f) (Ne.symm hb)).trans hu) ⟨_,q⟩ ?_
 exact⟨hz,its',_,hv,q⟩
theorem Inv.lnew{its:List Value}{t':Nat}(I:Inv X pins Z H s)(hv:Vals ys its)(hz:ys.length<=sizeLine) :
  Inv X pins Z (upd H s.heap.objs.size (.lst ys)) { s with heap:=s.heap.push { cls:=.type "list",data:=.seq its.toArray },toks:=t' }:=
 I.laid (fun _ _ q=>Heap.get?_push_of_some _ q) (Nat.le_refl _) ⟨hz,its,0,hv,Heap.get?_push_size _ rfl⟩
theorem Inv.fresh(I:Inv X pins Z H s):H s.heap.objs.size=none:=I.hok.fresh (Nat.le_refl _)
theorem Inv.lstM(I:Inv X pins Z H s)(hH:H l=some (.lst xs)):xs.length<=sizeLine/\∃(its:List Value) (n:Nat),Vals xs its/\xs.length=its.length/\s.heap.get? l=some { cls:=.type "list",data:=.seq its.toArray n }:=by
 obtain⟨z,its,n,r,e⟩:=I.hok l _ hH
 exact⟨z,its,n,r,r.length,e⟩
theorem Q6{n:Nat}(h:n<=sizeLine):Builtin.List.listTooLong n=false:=by
 unfold Builtin.List.listTooLong
 exact decide_eq_false (by omega)
end
section
variable {X:Cx}
def O9:V->List V->Hp->VK->Prop:=fun x vs H Q=>∃l xs y,x = .ref l/\vs=[y]/\H l=some (.lst xs)/\xs.length<sizeLine/\Q .non (upd H l (.lst (xs++[y])))
theorem Ww:Er X "list.append" O9:=by
 intro pins s Z H x vs v us Q I rx rv h
 obtain⟨l,xs,y,rfl,rfl,hH,hz,q⟩:=h
 cases rx
 obtain⟨u,rfl,ru⟩:=rv.one
 obtain⟨z,its,n,r,hl,e⟩:=I.lstM hH
 refine call_meets F.slot_list_append ⟨_,e,rfl⟩ F.entry_list_append (F.args_list_append_2 _ _) (PySem.list_append l its.toArray n u (by rw[List.size_toArray];omega)) ⟨e,?_⟩
 refine⟨.non,_,I.lset (its':=its++[u]) hH e (by simp) (r.append (.cons ru .nil)) ?_,rfl,q⟩
 rw[List.length_append,List.length_singleton];omega
def Na:V->List V->Hp->VK->Prop:=fun x vs H Q=>∃l b xs zs,x = .ref l/\vs=[.ref b]/\H l=some (.lst xs)/\H b=some (.lst zs)/\xs.length+zs.length<=sizeLine/\Q .non (upd H l (.lst (xs++zs)))
theorem Me:Er X "list.extend" Na:=by
 intro pins s Z H x vs v us Q I rx rv h
 obtain⟨l,b,xs,zs,rfl,rfl,hH,hB,hz,q⟩:=h
 cases rx
 obtain⟨u,rfl,ru⟩:=rv.one
 cases ru
 obtain⟨z,its,n,r,hl,e⟩:=I.lstM hH
 obtain⟨z2,its2,n2,r2,hl2,e2⟩:=I.lstM hB
 have hsz:its.toArray.size+its2.toArray.size<=sizeLine:=by rw[List.size_toArray,List.size_toArray];omega
 have hlong:¬(!its.toArray.isEmpty&&Builtin.List.listTooLong (its.toArray.size+its2.toArray.size))=true:=by
  rw[Q6 hsz,Bool.and_false];exact Bool.false_ne_true
 refine call_meets F.slot_list_extend ⟨_,e,rfl⟩ F.entry_list_extend (F.args_list_extend_2 _ _)
  (AutoSeq1.list_extend_list_list_0 l its.toArray n b its2.toArray n2 hlong (by rw[List.size_toArray];omega) (by omega)) ⟨e,e2,?_⟩
 refine⟨.non,_,I.lset (its':=its++its2) hH e (by simp) (r.append r2) ?_,rfl,q⟩
 rw[List.length_append];omega
def Es:R2:=fun x y H Q=>∃l b xs zs,x = .ref l/\y = .ref b/\H l=some (.lst xs)/\H b=some (.lst zs)/\xs.length+zs.length<=sizeLine/\∀p,H p=none->Q (.ref p) (upd H p (.lst (xs++zs)))
theorem HD:WI X (binaryOp .Add) Es:=by
 intro pins s Z H x y v u Q I rx ry h
 obtain⟨l,b,xs,zs,rfl,rfl,hH,hB,hz,q⟩:=h
 cases rx;cases ry
 obtain⟨z,its,n,r,hl,e⟩:=I.lstM hH
 obtain⟨z2,its2,n2,r2,hl2,e2⟩:=I.lstM hB
 refine PySem.P.add_list e e2 ?_ (by rw[List.size_toArray,List.size_toArray];omega)
 have ea:its.toArray++its2.toArray=(its++its2).toArray:=by simp
 rw[ea]
 exact⟨.ref _,_,I.lnew (t':=s.toks) (r.append r2) (by rw[List.length_append];omega),rfl,q _ I.fresh⟩
def Et:R2:=fun x y H Q=>∃l k xs,x = .ref l/\y = .int k/\H l=some (.lst xs)/\-(2^63)<=k/\k<2^63/\xs.length*k.toNat<=sizeLine/\
 ∀p,H p=none->Q (.ref p) (upd H p (.lst (List.replicate k.toNat xs).flatten))
theorem K7{α:Type}(xs:List α)(k:Nat):(List.replicate k xs).flatten.length=k*xs.length:=by
 induction k with
 | zero=>simp
 | succ k ih=>rw[List.replicate_succ,List.flatten_cons,List.length_append,ih,Nat.succ_mul,Nat.add_comm]
theorem HE:WI X (binaryOp .Mult) Et:=by
 intro pins s Z H x y v u Q I rx ry h
 obtain⟨l,k,xs,rfl,rfl,hH,h1,h2,hz,q⟩:=h
 cases rx
 obtain⟨t,rfl⟩:=ry
 obtain⟨z,its,n,r,hl,e⟩:=I.lstM hH
 have hlen:its.toArray.size*k.toNat<=sizeLine:=by rw[List.size_toArray,<-hl];exact hz
 have hcap:¬its.toArray.size*k.toNat>(2^63-1)/8:=by
  have:(sizeLine:Nat)<=(2^63-1)/8:=by decide
  omega
 have hfit:¬(!Builtin.List.listFitsIndex k)=true:=by
  rw[fitsIndex_both h1 h2];exact Bool.false_ne_true
 have hlong:¬Builtin.List.listTooLong (its.toArray.size*k.toNat)=true:=by
  rw[Q6 hlen];exact Bool.false_ne_true
 have hnew:List.foldl (fun x1 x2=>x1++x2) #[] (List.replicate (if its.toArray.isEmpty=true then 0 else k.toNat) its.toArray)=(List.replicate k.toNat its).flatten.toArray:=by
  have f0:∀m:Nat,List.foldl (fun x1 x2=>x1++x2) #[] (List.replicate m its.toArray)=(List.replicate m its).flatten.toArray:=fun m=>by
   have:=RE its m []
   rw[List.nil_append] at this;exact this
  rw[f0]
  cases its with
  | nil=>simp
  | cons a r'=>rw[if_neg (by simp)]
 refine wpAny_binaryOp_repeat_ref (T:="list") (U:="int") (by decide) ⟨_,e,rfl⟩ (fun s'=>typeIs_int s' k t) noFill_list_mul F.fills_int_mul F.slot_int_rmul repeat_list F.slot_int_index.lookup
  (call_meets F.slot_int_rmul (typeIs_int s k t) F.entry_int_rmul (F.args_int_rmul_2 _ _) (int___rmul___int_list k t l its.toArray n)
   ⟨e,rfl,⟨_,e,rfl⟩,call_meets F.slot_list_mul ⟨_,e,rfl⟩ F.entry_list_mul (F.args_list_mul_2 _ _) (AutoListH.list___mul___list_int_3 l its.toArray n k t hfit hcap hlong) ⟨e,?_⟩⟩)
 rw[hnew]
 exact⟨.ref _,_,I.lnew (t':=s.toks) (r.rep k.toNat) (by rw[K7,Nat.mul_comm];exact hz),rfl,q _ I.fresh⟩
end
end L2
namespace Att
open PySem PySem.W PySem.Calls PyProof.Rows
theorem TV{P:Params}{h:Heap}:∀(ns:List Int)(vs:List Value),WellAll P h vs (ns.map WData.int)->IntsAre vs ns:=by
 intro ns
 induction ns with
 | nil=>
  intro vs w;rw[List.map_nil] at w;cases w;exact .nil
 | cons n ns ih=>
  intro vs w;rw[List.map_cons] at w
  cases w with
  | cons a b=>
   cases a
   exact .cons _ _ (ih _ b)
theorem Mf{l:OpenLaw}{n:Nat}(hn:l.most=some n){P:Params}{h:Heap}{args:List WData}{vals:List Value}
  (hpre:l.row.toRowW.claim.pre args=true) (hwl:WellAll P h vals args) :
  ∃a vs ns,vals=[Value.ref a]/\args=[WData.list (ns.map WData.int)]/\h.get? a=some { cls:=.type "list",data:=.seq vs.toArray }/\IntsAre vs ns/\ns.length<=n:=by
 have hsh:WShape.hasAll [] args [.list .int]=true:=(pre_splitW hpre).1
 have hc:l.pre.holds [] { args:=args }=true:=(pre_splitW hpre).2
 obtain⟨d,r,rfl,h1,h2⟩:=hasAllW_cons hsh
 obtain rfl:=hasAllW_nil h2
 obtain⟨xs,rfl,h3⟩:=hasW_list h1
 obtain⟨ns,rfl⟩:=items_int h3
 have hlen:ns.length<=n:=by
  unfold OpenLaw.pre at hc
  have h4:(WTm.not (.lt (.lit (.int (n:Int))) (.len (.arg 0)))).holds [] { args:=[.list (ns.map .int)] }=true:=by
   have h4:=(holds_andW hc).1
   rw[hn] at h4;exact h4
  have h5:=condW_of h4 (w_not (w_lt w_lit (w_len_list (w_arg rfl))))
  rw[List.length_map] at h5
  refine Nat.le_of_not_lt fun q=>?_
  have q':(n:Int)<((ns.length:Nat):Int):=by omega
  first
   | (rw[decide_eq_true q'] at h5;exact absurd h5 (by decide))
   | (simp at h5;omega)
 cases hwl with
 | cons w1 w2=>
  cases w2
  cases w1 with
  | list ho hall=>exact⟨_,_,ns,rfl,rfl,ho,TV ns _ hall,hlen⟩
theorem Mg(l:OpenLaw)(args:List WData):l.row.toRowW.claim.post args (.bool true) args=true:=
 postW_of (r:=l.row.toRowW) (X:=(true==true))
  (show WShape.has [] (.bool true) .bool=true by first | rfl | decide | simp[WShape.has,WShape.arms,WShape.armsAll])
  (show(WTm.eq .res (.lit (.bool true))).value [] { args:=args,res:=some (.bool true),after:=args }=some (.bool (true==true)) from w_eq_bool (w_res rfl) w_lit) rfl
theorem attach_call{l:OpenLaw}{n:Nat}{q:Program}{loose:List Str}{XP:(Str->Option Value)->Heap->Prop}{YP:World->Heap->Prop}{d:DefRec}
  (hn:l.most=some n) (hdf:d.params.defaults=[])
  (call:∀(w:World)(s₀ s₁:Shared)(mg mb:Str->Option Value)(fa:Addr)(o:Obj)(pm cd doc:Value)(a:Addr)(vs:List Value)(ns:List Int),
   Ground q loose [] XP w s₀ mg mb s₁.heap->YP w s₁.heap->
   s₁.heap.get? fa=some o->o.data = .func (docDef d.name d.params d.body d.scope pm cd doc)->s₁.heap.CodeRec cd d.name->mg d.name=some (.ref fa)->
   s₁.heap.get? a=some { cls:=.type "list",data:=.seq vs.toArray }->IntsAre vs ns->ns.length<=n->s₁.gens = #[]->
   codeAny (model l.prog w) callerA (.call (.ref fa) ⟨[.ref a],[]⟩) (fun r s'=>r = .ok (.ret (.bool true))/\OldK s₁.heap s'.heap/\s'.os=s₁.os/\AllBare s'.gens) s₁) :
  WalkO q loose XP YP l.row.toRowW d [] (fun f vs=>PySem.call f vs):=by
 intro w s₀ s₁ mg mb G Y fa o pm cd doc dV kV ho hd hcd hD hmg hg args vals as hpre hlay hrd hwl hlo
 obtain rfl:dV = .none:=Dflts.none hD hdf
 obtain rfl:kV = .none:=Dflts.noKw hD
 obtain⟨a,vs,ns,rfl,rfl,hobj,hints,hlen⟩:=Mf hn hpre hwl
 refine enter_call (codeAny_mono (call w s₀ s₁ mg mb fa o pm cd doc a vs ns G Y ho (fd_plain hd) hcd hmg hobj hints hlen hg) fun r s' hq=>?_)
 obtain⟨rfl,h2,h3,h4⟩:=hq
 exact⟨.inl ⟨.bool true,.bool true,[],rfl,fun _=>rfl,.bool true,Mg l _,fun _=>⟨List.Pairwise.nil,fun _ hm=>(nomatch hm)⟩⟩,h2,h3,h4⟩
section
variable {prog:Program} {w:World} {A:Around} {E:Value->Shared->Prop} {s:Shared} {K:Frag}
def Sh(h:Heap):Heap:={ h with objs:=#[] }
theorem Ud(h:Heap)(b:Addr):(Sh h).get? b=none:=by
 cases e:(Sh h).get? b with
 | none=>rfl
 | some o=>exact absurd (Heap.lt_size e) (Nat.not_lt_zero _)
def Qd(h:Heap)(L d:Addr):List (Addr×Obj):=(List.range h.objs.size).filterMap fun a=>if a=L\/a=d then none else(h.get? a).map fun o=>(a,o)
theorem mem_ledger{h:Heap}{L d a:Addr}{o:Obj}:(a,o)∈Qd h L d↔a≠L/\a≠d/\h.get? a=some o:=by
 unfold Qd;rw[List.mem_filterMap];constructor
 ·rintro⟨b,_,e⟩
  split at e
  ·cases e
  ·rename_i hb
   obtain⟨o',ho,e'⟩:=Option.map_eq_some_iff.mp e
   cases e'
   exact⟨fun q=>hb (.inl q),fun q=>hb (.inr q),ho⟩
 ·rintro⟨n1,n2,ho⟩
  refine⟨a,List.mem_range.mpr (Heap.lt_size ho),?_⟩
  rw[if_neg (show ¬(a=L\/a=d) from fun q=>q.elim n1 n2),ho]<;>rfl
theorem Q7{h:Heap}{L d:Addr}{od:Obj}(hne:d≠L)(ho:h.get? d=some od):News (Sh h) L h ([]++(d,od)::Qd h L d):=by
 rintro⟨a,o⟩ hp
 rcases List.mem_cons.mp hp with e | hp
 ·cases e
  exact⟨ho,hne,Ud _ _⟩
 ·obtain⟨n1,n2,e⟩:=mem_ledger.mp hp
  exact⟨e,n1,Ud _ _⟩
theorem HF{h:Heap}{L:Addr}{m:Str->Option Value}(n:h.Ns L m):Fr (Sh h) L h m:=
 ⟨n,fun b o e=>(by rw[Ud] at e;cases e),Nat.zero_le _⟩
theorem RF{x C dx L:Addr}{ox:Obj}{m:Str->Option Value}{es es':List DictEntry}{n n':Nat}{name:Str}{v:Value}{Q:Unit->Shared->Prop}
  (X:K.In s.heap) (I:PySem.W.InstAt s.heap x ox C (some (dictOf es n))) (hd:ox.dict=some dx) (hL:s.heap.Ns L m) (hne:dx≠L)
  (hs:findIn K (.ref C) "__setattr__" = some (some (.builtin "object.__setattr__"))) (hp:plainOver K C=true) (ht:takerIn K C name=some none) (hh:hasDictIn K C=true) (hl:(getL name es).isSome=true)
  (e:(putL name (PyData.keyHash w.params name) (.str name (s.toks+1)) v es,putN name es n)=(es',n')) (hz:es'.length<=1000)
  (h:∀h':Heap,h'.Ns L m->h'.get? dx=some (dictOf es' n')->(∀b o,b≠dx->b≠L->s.heap.get? b=some o->h'.get? b=some o)->Q () { s with heap:=h',toks:=s.toks+2 }) :
  wpAny (model prog w) A (setAttr (.ref x) name v) Q E s:=by
 obtain⟨e1,e2⟩:=Prod.mk.inj e
 have hdx:s.heap.get? dx=some (dictOf es n):=by
  have:=I.dict
  rw[hd] at this;exact this
 refine set_plain X I hs (osa_dict (s:={ s with toks:=s.toks+1 }) (h₀:=Sh s.heap) (L:=L) (m:=m) (od:=dictOf es n) (od':=dictOf es' n') (es:=es') (n:=n') (pre:=[]) (post:=Qd s.heap L dx)
  (HF hL) (Q7 hne hdx) X I hd hp ht hh hl (fun _ q=>nomatch q) (fun⟨_,_⟩ q=>(mem_ledger.mp q).2.1) (by rw[putName_dict,e1,e2]) rfl hz fun h' F' N'=>?_)
 exact h h' F'.ns (N'.get (List.Mem.head _)) fun b o n1 n2 ho=>N'.get (List.Mem.tail _ (mem_ledger.mpr ⟨n2,n1,ho⟩))
end
end Att
namespace L2
open PySem PySem.Spec PyProof.Rows
section
variable {κ:Type} [DecidableEq κ]
def Vh(kvs:List (κ×V))(k:κ):Option V:=(kvs.find? fun kv=>decide (kv.1=k)).map (·.2)
def Wx(kvs:List (κ×V))(k:κ)(v:V):List (κ×V):=
 if(kvs.any fun kv=>decide (kv.1=k))=true then kvs.map (fun kv=>if kv.1=k then(kv.1,v) else kv) else kvs++[(k,v)]
theorem Uv{p:κ×V}{r:List (κ×V)}{k:κ}(e:p.1=k):Vh (p::r) k=some p.2:=by simp[Vh,List.find?_cons,e]
theorem Uw{p:κ×V}{r:List (κ×V)}{k:κ}(e:¬p.1=k):Vh (p::r) k=Vh r k:=by simp[Vh,List.find?_cons,e]
theorem Si(k:κ):∀kvs:List (κ×V),(kvs.any fun kv=>decide (kv.1=k))=(Vh kvs k).isSome
 | []=>rfl
 | p::r=>by
  rw[List.any_cons]
  by_cases e:p.1=k
  ·simp only[Uv e,decide_eq_true e,Bool.true_or,Option.isSome_some]
  ·rw[Uw e,decide_eq_false e,Bool.false_or];exact Si k r
theorem TF(kvs:List (κ×V))(k:κ)(v:V):(Wx kvs k v).length<=kvs.length+1:=by
 unfold Wx
 split
 ·rw[List.length_map];omega
 ·rw[List.length_append,List.length_cons,List.length_nil];omega
theorem Ll{kvs:List (κ×V)}{k:κ}(v:V)(h:Vh kvs k=none):Wx kvs k v=kvs++[(k,v)]:=by
 unfold Wx;rw[Si,h]
 exact if_neg (by decide)
theorem RelO.isSome_eq{o:Option V}{u:Option Value}(r:RelO o u):o.isSome=u.isSome:=by
 cases o with
 | none=>cases u with
  | none=>rfl
  | some _=>exact(show False from r).elim
 | some _=>cases u with
  | none=>exact(show False from r).elim
  | some _=>rfl
theorem KV.val{kvs:List (κ×V)}{vs:List (κ×Value)}(r:KV kvs vs)(k:κ):RelO (Vh kvs k) (valueAt vs k):=by
 unfold KV at r
 induction r with
 | nil=>exact True.intro
 | @cons p q ps qs h t ih=>
  obtain⟨h1,h2⟩:=h
  by_cases e:p.1=k
  ·have e':q.1=k:=h1.symm.trans e
   have b:valueAt (q::qs) k=some q.2:=by simp[valueAt,List.find?_cons,e']
   rw[Uv e,b];exact h2
  ·have e':¬q.1=k:=fun z=>e (h1.trans z)
   have b:valueAt (q::qs) k=valueAt qs k:=by simp[valueAt,List.find?_cons,e']
   rw[Uw e,b];exact ih
theorem KV.any{kvs:List (κ×V)}{vs:List (κ×Value)}(r:KV kvs vs)(k:κ):(kvs.any fun kv=>decide (kv.1=k))=vs.any fun kv=>decide (kv.1=k):=by
 unfold KV at r
 induction r with
 | nil=>rfl
 | cons h t ih=>rw[List.any_cons,List.any_cons,ih,h.1]
theorem KV.repl{kvs:List (κ×V)}{vs:List (κ×Value)}(r:KV kvs vs)(k:κ){y:V}{u:Value}(ry:RelV y u) :
  KV (kvs.map fun kv=>if kv.1=k then(kv.1,y) else kv) (vs.map fun kv=>if kv.1=k then(kv.1,u) else kv):=by
 unfold KV at r ⊢
 induction r with
 | nil=>exact .nil
 | @cons p q ps qs h t ih=>
  rw[List.map_cons,List.map_cons]
  refine .cons ?_ ih
  obtain⟨h1,h2⟩:=h
  by_cases e:p.1=k
  ·rw[if_pos e,if_pos (h1.symm.trans e)];exact⟨h1,ry⟩
  ·rw[if_neg e,if_neg (fun z=>e (h1.trans z))];exact⟨h1,h2⟩
theorem KV.put{kvs:List (κ×V)}{vs:List (κ×Value)}(r:KV kvs vs)(k:κ){y:V}{u:Value}(ry:RelV y u):KV (Wx kvs k y) (stored vs k u):=by
 unfold Wx stored;rw[r.any k]
 by_cases e:(vs.any fun kv=>decide (kv.1=k))=true
 ·rw[if_pos e,if_pos e];exact r.repl k ry
 ·rw[if_neg e,if_neg e];exact Paired.snoc r ⟨rfl,ry⟩
theorem KV.length{kvs:List (κ×V)}{vs:List (κ×Value)}(r:KV kvs vs):kvs.length=vs.length:=Paired.length r
end
theorem Nb{P:Program}{w:World}{k:Ys}{u:Value}(r:RelV (kV k) u):(YB P w).is k u=true:=by
 cases k with
 | inl i=>obtain⟨t,e⟩:=(show ∃t,u=Value.int i t from r);subst e;exact QY P w i t
 | inr x=>obtain⟨t,e⟩:=(show ∃t,u=Value.str x t from r);subst e;exact QZ P w x t
theorem RG{P:Program}{w:World}:∀{ks:List Ys}{us:List Value},Vals (ks.map kV) us->ItemsAre (YB P w) ks us
 | [],_,r=>by rw[List.map_nil] at r;cases r;exact .nil
 | k::ks,_,r=>by
  rw[List.map_cons] at r
  cases r with
  | cons h t=>exact .cons (Nb h) (RG t)
abbrev KT(H:Hp):List (List Ys×V)->List (List Ys×Addr×Value)->Prop:=Paired fun p q=>p.1=q.1/\H q.2.1=some (.tup (p.1.map kV))/\RelV p.2 q.2.2
theorem KT.val{H:Hp}{kvs:List (List Ys×V)}{xs:List (List Ys×Addr×Value)}(r:KT H kvs xs)(k:List Ys):RelO (Vh kvs k) ((atKey xs k).map (·.2)):=by
 induction r with
 | nil=>exact True.intro
 | @cons p q ps qs h t ih=>
  obtain⟨h1,_,h2⟩:=h
  by_cases e:p.1=k
  ·have e':q.1=k:=h1.symm.trans e
   have b:atKey (q::qs) k=some q.2:=by simp[atKey,List.find?_cons,e']
   rw[Uv e,b];exact h2
  ·have e':¬q.1=k:=fun z=>e (h1.trans z)
   have b:atKey (q::qs) k=atKey qs k:=by simp[atKey,List.find?_cons,e']
   rw[Uw e,b];exact ih
theorem KT.repl{H:Hp}{kvs:List (List Ys×V)}{xs:List (List Ys×Addr×Value)}(r:KT H kvs xs)(k:List Ys){y:V}{u:Value}(ry:RelV y u) :
  KT H (kvs.map fun kv=>if kv.1=k then(kv.1,y) else kv) (xs.map (putAt k u)):=by
 induction r with
 | nil=>exact .nil
 | @cons p q ps qs h t ih=>
  rw[List.map_cons,List.map_cons]
  refine .cons ?_ ih
  obtain⟨h1,h2,h3⟩:=h
  unfold putAt
  by_cases e:p.1=k
  ·rw[if_pos e,if_pos (h1.symm.trans e)];exact⟨h1,h2,ry⟩
  ·rw[if_neg e,if_neg (fun z=>e (h1.trans z))];exact⟨h1,h2,h3⟩
theorem KT.put{H:Hp}{kvs:List (List Ys×V)}{xs:List (List Ys×Addr×Value)}(r:KT H kvs xs)(k:List Ys){b:Addr}{y:V}{u:Value}(hb:H b=some (.tup (k.map kV)))(ry:RelV y u) :
  KT H (Wx kvs k y) (storedH xs k b u):=by
 have e:(kvs.any fun kv=>decide (kv.1=k))=(atKey xs k).isSome:=by
  rw[Si,(r.val k).isSome_eq,Option.isSome_map]
 unfold Wx storedH;rw[e]
 by_cases q:(atKey xs k).isSome=true
 ·rw[if_pos q,if_pos q];exact r.repl k ry
 ·rw[if_neg q,if_neg q];exact Paired.snoc r ⟨rfl,hb,ry⟩
theorem KT.keeps{H H':Hp}{kvs:List (List Ys×V)}{xs:List (List Ys×Addr×Value)}(r:KT H kvs xs)(ht:∀b ys,H b=some (.tup ys)->H' b=some (.tup ys)):KT H' kvs xs:=
 Paired.mapP r fun _ _ z=>⟨z.1,ht _ _ z.2.1,z.2.2⟩
section
variable {P:Program} {w:World} {H:Hp} {h:Heap} {a:Addr}
theorem Ip{u:HO}(ok:HOk P w H h)(e:Rd H a u):ObjOk P w H h a u:=e.ok ok
theorem Nc{kvs:List (Ys×V)}(ok:HOk P w H h)(e:Rd H a (.dK kvs)):kvs.length<=sizeLine/\(a==sysModules)=false/\∃vs,KV kvs vs/\h.DictOf (YB P w) a vs:=
 show ObjOk P w H h a (.dK kvs) from Ip ok e
theorem G9{kvs:List (Ys×V)}(ok:HOk P w H h)(e:H a=some (.dK kvs)):kvs.length<=sizeLine/\(a==sysModules)=false/\∃vs,KV kvs vs/\h.DictOf (YB P w) a vs:=Nc ok (.inl e)
theorem Qe{ks:List Ys}(ok:HOk P w H h)(e:H a=some (.tup (ks.map kV))):(tupleKind (YB P w)).is h ks a:=by
 obtain⟨_,its,r,o,h1,h2,n,h3⟩:=(show ObjOk P w H h a (.tup (ks.map kV)) from ok a _ e)
 exact⟨o,its.toArray,n,h1,h2,h3,by simpa using RG r⟩
theorem Nd{kvs:List (List Ys×V)}(ok:HOk P w H h)(e:Rd H a (.dT kvs)):kvs.length<=sizeLine/\(a==sysModules)=false/\
  ∃xs,KT H kvs xs/\h.DictOfH (tupleKind (YB P w)) a xs:=by
 obtain⟨z,y,xs,r,o,es,ep,h1,h2,h3,h4,h5⟩:=(show ObjOk P w H h a (.dT kvs) from Ip ok e)
 refine⟨z,y,xs,r,o,es,ep,h1,h2,h3,h4,fun x hx=>?_,h5⟩
 have all:∀{l:List (List Ys×V)}{m:List (List Ys×Addr×Value)},KT H l m->∀x∈m,(tupleKind (YB P w)).is h x.1 x.2.1:=by
  intro l m q
  induction q with
  | nil=>intro x hx;exact nomatch hx
  | @cons p q ps qs hq t ih=>
   intro x hx
   rcases List.mem_cons.mp hx with e | hx
   ·subst e
    exact Qe ok (by rw[<-hq.1];exact hq.2.1)
   ·exact ih x hx
 exact all r x hx
theorem Fb{kvs:List (List Ys×V)}(ok:HOk P w H h)(e:H a=some (.dT kvs)):kvs.length<=sizeLine/\(a==sysModules)=false/\
  ∃xs,KT H kvs xs/\h.DictOfH (tupleKind (YB P w)) a xs:=Nd ok (.inl e)
end
def Mh(H:Hp)(a:Addr)(y:V)(r:Option V):Prop:=
 (∃kvs k,Rd H a (.dK kvs)/\y=kV k/\r=Vh kvs k)\/∃kvs k b,Rd H a (.dT kvs)/\y = .ref b/\H b=some (.tup (k.map kV))/\r=Vh kvs k
def Fc(H:Hp)(a:Addr)(y v:V)(H':Hp):Prop:=
 (∃kvs k,H a=some (.dK kvs)/\y=kV k/\kvs.length<sizeLine/\H'=upd H a (.dK (Wx kvs k v)))\/
 ∃kvs k b,H a=some (.dT kvs)/\y = .ref b/\H b=some (.tup (k.map kV))/\kvs.length<sizeLine/\H'=upd H a (.dT (Wx kvs k v))
section
variable {X:Cx} {pins:List (Addr×Obj)} {Z:St} {H:Hp} {s:Shared} {a:Addr} {y v:V} {u r:Value} {o:Option V} {A:Around} {E:Value->Shared->Prop}
theorem Inv.big(I:Inv X pins Z H s):sysModules<s.heap.objs.size:=by
 have h:mainGlobals<s.heap.objs.size:=(I.mod.glob.keeps I.bk).lt
 exact Nat.lt_trans (by decide) h
theorem Mi{Q:Value->Shared->Prop}(hu:A.units+1<cLine)(I:Inv X pins Z H s)(g:Mh H a y (some v))(ry:RelV y u)(h:∀w' s',Inv X pins Z H s'->RelV v w'->Q w' s') :
  wpAny (model X.prog X.w) A (getItem (.ref a) u) Q E s:=by
 rcases g with⟨kvs,k,e,ey,l⟩ | ⟨kvs,k,b,e,ey,eb,l⟩
 ·subst ey
  obtain⟨z,hd,vs,rel,dd⟩:=Nc I.hok e
  obtain⟨w',hw,rw'⟩:=RelO.some_of (v:=v) (o:=valueAt vs k) (by rw[l];exact rel.val k)
  exact wpAny_getItem_of (Nb ry) dd.mapOf hw (h w' _ (I.tok _) rw')
 ·subst ey
  cases (show u=Value.ref b from ry)
  obtain⟨z,hd,xs,rel,dd⟩:=Nd I.hok e
  obtain⟨w',hw,rw'⟩:=RelO.some_of (v:=v) (o:=(atKey xs k).map (·.2)) (by rw[l];exact rel.val k)
  obtain⟨p,hp,hp2⟩:=Option.map_eq_some_iff.mp hw
  refine wpAny_getItem_heap (tupleKind_room_in1 hu) (Qe I.hok eb) dd hp ?_
  rw[hp2]
  exact h w' _ (I.tok _) rw'
theorem K8{Q:Value->Shared->Prop}(hu:A.units+1<cLine)(I:Inv X pins Z H s)(g:Mh H a y o)(ry:RelV y u)(h:∀s',Inv X pins Z H s'->Q (.bool (!o.isSome)) s') :
  wpAny (model X.prog X.w) A (compareOp .NotIn u (.ref a)) Q E s:=by
 rcases g with⟨kvs,k,e,ey,l⟩ | ⟨kvs,k,b,e,ey,eb,l⟩
 ·subst ey
  obtain⟨z,hd,vs,rel,dd⟩:=Nc I.hok e
  refine wpAny_notIn_of (Nb ry) hd dd.mapOf ?_
  rw[<-(rel.val k).isSome_eq,<-l]
  exact h _ (I.tok _)
 ·subst ey
  cases (show u=Value.ref b from ry)
  obtain⟨z,hd,xs,rel,dd⟩:=Nd I.hok e
  refine wpAny_notIn_heap (tupleKind_room_in1 hu) (Qe I.hok eb) hd dd ?_
  have q:=(rel.val k).isSome_eq
  rw[Option.isSome_map] at q;rw[<-q,<-l]
  exact h _ (I.tok _)
theorem Nf{h':Heap}{t':Nat}{ob:HO}(I:Inv X pins Z H s)(mu:Ws (H a))(hs:Heap.SameBut a s.heap h')(he:∃q,h'.get? a=some q)(new:ObjOk X.prog X.w (upd H a ob) h' a ob) :
  Inv X pins Z (upd H a ob) { s with heap:=h',toks:=t' }:=
 I.write (x:=a) (e:=a) mu (.inl rfl) (fun b q hb z=>(hs.2 b hb).trans z) he new
theorem HG{P:Program}{w:World}{H':Hp}{h':Heap}{kvs:List (Ys×V)}{vs:List (Ys×Value)}(z:kvs.length<=sizeLine)(hd:(a==sysModules)=false)(rel:KV kvs vs)(dd:h'.DictOf (YB P w) a vs) :
  ObjOk P w H' h' a (.dK kvs):=⟨z,hd,vs,rel,dd⟩
theorem Mj{H':Hp}{Q:Unit->Shared->Prop}(hu:A.units+1<cLine)(I:Inv X pins Z H s)(g:Fc H a y v H')(ry:RelV y u)(rv:RelV v r)(h:∀s',Inv X pins Z H' s'->Q () s') :
  wpAny (model X.prog X.w) A (setItem (.ref a) u r) Q E s:=by
 rcases g with⟨kvs,k,e,ey,l,eH⟩ | ⟨kvs,k,b,e,ey,eb,l,eH⟩
 ·subst ey eH
  obtain⟨z,hd,vs,rel,dd⟩:=G9 I.hok e
  have hz:vs.length<=sizeLine:=by rw[<-rel.length];exact z
  have hl:(Wx kvs k v).length<=sizeLine:=by have:=TF kvs k v;omega
  refine wpAny_setItem_pairs (hsz:=hz) (Nb ry) dd fun h' dd' hs=>h _ ?_
  have he:∃q,h'.get? a=some q:=let⟨q,_,_,hq,_⟩:=dd';⟨q,hq⟩
  exact Nf I (by rw[e];exact True.intro) hs he (HG hl hd (rel.put k rv) dd')
 ·subst ey eH
  cases (show u=Value.ref b from ry)
  obtain⟨z,hd,xs,rel,dd⟩:=Fb I.hok e
  have hz:xs.length<=sizeLine:=by rw[<-Paired.length rel];exact z
  have hl:(Wx kvs k v).length<=sizeLine:=by have:=TF kvs k v;omega
  refine wpAny_setItem_heap (hsz:=hz) (tupleKind_room_in1 hu) (Qe I.hok eb) dd fun h' dd' hs=>h _ ?_
  obtain⟨q,es,ep,hq,h2,h3,h4,_,h5⟩:=dd'
  refine Nf I (by rw[e];exact True.intro) hs ⟨q,hq⟩ ⟨hl,hd,_,(rel.put k eb rv).keeps fun c ys ec=>?_,q,es,ep,hq,h2,h3,h4,h5⟩
  rw[upd_ne (GG ec e (fun z=>nomatch z))];exact ec
end
def HH(i:Expr):Prop:=∀ov iv,subscripted i false ov iv=operate [ov,iv] (getItem ov iv)
theorem K9{prog:Program}{w:World}{A:Around}{E:Value->Shared->Prop}{s:Shared}{env:Env}{value slice:Expr}{pos:Pos}{T id:String}{Q:Value->Shared->Prop}
  (hl:typeLookup (.type T) "__getitem__" = pure (some (.builtin id))) (hs:HH slice)
  (h:wpAny (model prog w) A (eval value env) (fun o s₁=>wpAny (model prog w) A (eval slice env) (fun i s₂=>s₂.TypeIs o T/\wpAny (model prog w) A (getItem o i) Q E s₂) E s₁) E s) :
  wpAny (model prog w) A (eval (.Subscript value slice pos) env) Q E s:=by
 refine Subscript_ (wpAny_mono h (fun o s₁ h₁=>wpAny_mono h₁ (fun i s₂ h₂=>?_) fun _ _ x=>x) fun _ _ x=>x)
 obtain⟨hT,h₂⟩:=h₂
 unfold subscriptTail
 refine wpAny_bind ?_
 rw[getitemInPython_of_ne hT.not_modules]
 refine wpAny_bind (wpAny_specialOf hT hl ?_)
 have fin:wpAny (model prog w) A (subscripted slice false o i) (fun r s₃=>wpAny (model prog w) A (letTemporaryGo value o r >>= fun _=>pure r) Q E s₃) E s₂:=by
  rw[hs o i]
  exact wpAny_operating (wpAny_mono h₂ (fun r s₃ h₃=>wpAny_bind (wpAny_letTemporaryGo (wpAny_pure h₃))) fun _ _ x=>x)
 first
  | exact wpAny_pure (wpAny_bind fin)
  | exact wpAny_bind (wpAny_pure (wpAny_bind fin))
  | exact wpAny_bind fin
theorem Q8{X:Cx}{pins:List (Addr×Obj)}{Z:St}{H:Hp}{s:Shared}{a:Addr}{y:V}{o:Option V}(I:Inv X pins Z H s)(g:Mh H a y o):s.TypeIs (.ref a) "dict":=by
 rcases g with⟨kvs,k,e,_,_⟩ | ⟨kvs,k,b,e,_,_,_⟩
 ·obtain⟨_,_,vs,_,dd⟩:=Nc I.hok e
  exact dd.typeIs
 ·obtain⟨_,_,xs,_,dd⟩:=Nd I.hok e
  exact dd.typeIs
def Iq(td ty:TE):TE:=fun Z H Q=>td Z H fun x H1=>ty Z H1 fun y H2=>∃a v,x = .ref a/\Mh H2 a y (some v)/\Q v H2
def Ng(ty td:TE):TE:=fun Z H Q=>ty Z H fun y H1=>td Z H1 fun x H2=>∃a o,x = .ref a/\Mh H2 a y o/\Q (.bl (!o.isSome)) H2
def sDPut(td ty tv:TE):TS:=fun D Z H=>tv Z H fun v H1=>td Z H1 fun x H2=>ty Z H2 fun y H3=>∃a H4,x = .ref a/\Fc H3 a y v H4/\D.nx Z H4
section
variable {X:Cx} {o i e value:Expr} {pos pos' tpos:Pos} {td ty tv:TE}
theorem Ja(hu:X.A.units+1<cLine)(ho:PE X o td)(hi:PE X i ty)(hs:HH i):PE X (.Subscript o i pos) (Iq td ty):=by
 intro pins s Z H Q I h
 refine K9 PySem.F.slot_dict_getitem.lookup hs (Ya (ho pins s Z H _ I h) fun u s1 ⟨x,H1,I1,rx,q1⟩=>Ya (hi pins s1 Z H1 _ I1 q1) fun iv s2 ⟨y,H2,I2,ry,a,v,ex,g,q2⟩=>?_)
 subst ex
 obtain rfl:u=Value.ref a:=rx
 exact⟨Q8 I2 g,Mi hu I2 g ry fun w' s3 I3 rw'=>⟨v,H2,I3,rw',q2⟩⟩
theorem Mk(hu:X.A.units+1<cLine)(hi:PE X i ty)(ho:PE X o td):PC X .NotIn i o (Ng ty td):=by
 intro pins s Z H Q I h
 refine Ya (hi pins s Z H _ I h) fun iv s1 ⟨y,H1,I1,ry,q1⟩=>Ya (ho pins s1 Z H1 _ I1 q1) fun u s2 ⟨x,H2,I2,rx,a,ov,ex,g,q2⟩=>?_
 subst ex
 obtain rfl:u=Value.ref a:=rx
 exact K8 hu I2 g ry fun s3 I3=>⟨.bl (!ov.isSome),H2,I3,rfl,q2⟩
theorem Ux(hu:X.A.units+1<cLine)(ho:PE X o td)(hi:PE X i ty)(hv:PE X value tv)(hs:swapsWith value (some (.Subscript o i pos')) pos.line X.env=pure false) :
  PS X (.Assign [.Subscript o i pos'] value pos) (sDPut td ty tv):=by
 intro pins s Z H D I h
 refine wpAny_Assign_Subscript (Ya (hv pins s Z H _ I h) fun r s1 ⟨v,H1,I1,rv,q1⟩=>Ya (ho pins s1 Z H1 _ I1 q1) fun u s2 ⟨x,H2,I2,rx,q2⟩=>Ya (hi pins s2 Z H2 _ I2 q2) fun iv s3 ⟨y,H3,I3,ry,a,H4,ex,g,q3⟩=>?_) hs
 subst ex
 obtain rfl:u=Value.ref a:=rx
 exact Mj hu I3 g ry rv fun s4 I4=>⟨Z,H4,I4,q3⟩
end
theorem Lm{P:Program}{w:World}{H:Hp}(h:Heap)(hb:sysModules<h.objs.size):ObjOk P w H (h.push { cls:=.type "dict",data:=.dict #[] }) h.objs.size (.dT []):=
 ⟨Nat.zero_le _,beq_eq_false_iff_ne.mpr (Ne.symm (Nat.ne_of_lt hb)),[],.nil,_,#[],0,Heap.get?_push_size _ rfl,⟨rfl,rfl,rfl⟩,rfl,rfl,List.nodup_nil⟩
def HI:TE:=fun _ H Q=>∀p,H p=none->Q (.ref p) (upd H p (.dT []))
section
variable {X:Cx} {pos:Pos}
theorem Ln:PE X (.Dict [] [] pos) HI:=fun pins s Z H Q I h=>
 wpAny_Dict_empty ⟨.ref s.heap.objs.size,_,I.laid (a:=s.heap.objs.size) (o:=.dT []) (t':=s.toks) (fun _ _ q=>Heap.get?_push_of_some _ q) (Nat.le_refl _) (Lm s.heap I.big),rfl,h _ (I.hok.fresh (Nat.le_refl _))⟩
end
theorem RH:∀{vs:List Value}{ns:List Int},IntsAre vs ns->Vals (ns.map V.int) vs
 | _,_,.nil=>.nil
 | _,_,.cons n t h=>.cons ⟨t,rfl⟩ (RH h)
def Jb(H:Hp):Prop:=∀b,H b=none\/∃o xs,H b=some (.frz o (.lst xs))
theorem Lo{P:Program}{w:World}{K:PySem.W.Frag}{mg mb:Str->Option Value}{CX:Lj}{k:Nat}{fa a:Addr}{fd:FuncData}{x:Str}{sp:Sp}{s₁:Shared}{vs:List Value}{ns:List Int}
  (KX:K.In s₁.heap) (hns:s₁.heap.Ns mainGlobals mg) (hb:s₁.heap.Ns builtinsNs mb) (hbb:∀x:Str,x≠"__name__"->mb x=bootBuiltins x) (hlim:s₁.heap.NoLimit) (hg:s₁.gens = #[])
  (ha:s₁.heap.get? a=some { cls:=.type "list",data:=.seq vs.toArray }) (hi:IntsAre vs ns) (hl:ns.length<=sizeLine) (hr:Room k callerA)
  (F:∀base:Heap,K.In base->base.Ns mainGlobals mg->Vg P w K mg base CX k fa fd [x] sp) (hbind:∀(s:Shared)(u:Value),BindsTo s fd ⟨[u],[]⟩ [(x,u)])
  (hsp:∀H:Hp,Jb H->SqL K H a (ns.map V.int)->sp [.ref a] H (fun v _=>v = .bl true) fun _ _ _=>False)
  (hCX:∀H e s',CX [] H s₁ (fun _ _ _=>False) e s'->False) :
  codeAny (model P w) callerA (.call (.ref fa) ⟨[.ref a],[]⟩) (fun r s'=>r = .ok (.ret (.bool true))/\OldK s₁.heap s'.heap/\s'.os=s₁.os/\AllBare s'.gens) s₁:=by
 have rv:=RH hi;have lenV:=hi.length
 -- from an abstract heap in which nothing but the script may be tracked
 have core:∀H:Hp,Jb H->SqL K H a (ns.map V.int)->HOk P w H s₁.heap->(∀b,H b≠none->b=a)->(H a≠none->K.lookup a=none)->
   codeAny (model P w) callerA (.call (.ref fa) ⟨[.ref a],[]⟩) (fun r s'=>r = .ok (.ret (.bool true))/\OldK s₁.heap s'.heap/\s'.os=s₁.os/\AllBare s'.gens) s₁:=by
  intro H hO hS hok hA hK
  have base_of:∀{b:Addr}{o:Obj},s₁.heap.get? b=some o->H b=none->(R9 s₁.heap H).get? b=some o:=fun e n=>M9 e n
  have noA:∀{b:Addr}{o:Obj}{es:Array DictEntry}{ep:Nat},s₁.heap.get? b=some o->o.data = .dict es ep->H b=none:=fun{b o es ep} e d=>by
   cases q:H b with
   | none=>rfl
   | some u=>
    have e':b=a:=hA b (by rw[q];simp)
    subst e'
    rw[ha] at e;cases e
    have d':Data.seq vs.toArray _=Data.dict es ep:=d
    cases d'
  have nsK:∀{b:Addr}{m:Str->Option Value},s₁.heap.Ns b m->(R9 s₁.heap H).Ns b m:=fun{b m} ⟨o,es,ep,e,d,r⟩=>⟨o,es,ep,base_of e (noA e d),d,r⟩
  have hKb:K.In (R9 s₁.heap H):=fun b o e=>base_of (KX b o e) (by
   cases q:H b with
   | none=>rfl
   | some u=>
    have e':b=a:=hA b (by rw[q];simp)
    subst e'
    rw[hK (by rw[q];simp)] at e;cases e)
  have hM:Mod K mg (R9 s₁.heap H):=⟨hKb,nsK hns,⟨mb,nsK hb,hbb⟩,let⟨mc,h1,h2⟩:=hlim;⟨mc,nsK h1,h2⟩⟩
  have e0:Env0 P w K mg (R9 s₁.heap H) callerA [] s₁ H:=⟨rfl,hM,fun b o e=>KG e,Nat.le_of_eq (N1 _ _),trivial,fun b hb=>absurd (show b∈([]:List Addr) from hb) (by simp),hok,.of_eq hg⟩
  refine codeAny_mono ((F _ hKb (nsK hns)).run callerA [] s₁ H ⟨[.ref a],[]⟩ [.ref a] [.ref a] _ _ hr e0 (hbind s₁ (.ref a)) (.cons rfl .nil) (hsp H hO hS)) fun r s' h=>?_
  cases r with
  | error e=>exact(hCX H e s' h).elim
  | ok fl=>
   cases fl with
   | next=>exact False.elim h
   | brk=>exact False.elim h
   | cont=>exact False.elim h
   | ret u=>
    obtain⟨v,H',os,bare,un,hok',r',q⟩:=h
    have q':v = .bl true:=q
    subst q'
    obtain rfl:u=Value.bool true:=r'
    refine⟨rfl,OldK.of_keep fun b o e=>?_,os,bare⟩
    cases q:H b with
    | none=>exact un.keep b o e q (by intro z;exact absurd (show b∈([]:List Addr) from z) (by simp)) (by simp)
    | some u=>
     rcases hO b with z | ⟨ob,xs,z⟩
     ·rw[q] at z;cases z
     ·have z2:=un.frzs b ob _ z
      obtain⟨e1,_⟩:=hok b _ z
      obtain⟨e2,_⟩:=hok' b _ z2
      rw[e] at e1;cases e1;exact e2
 cases hk:K.lookup a with
 | some o=>
  -- the script is one of the module's own objects
  have e:=KX a o hk;rw[ha] at e;cases e
  refine core (fun _=>none) (fun _=>.inl rfl) (.inr ⟨_,vs.toArray,_,hk,rfl,rfl,rfl,by rw[List.size_toArray,lenV];exact hl,by simpa using rv⟩) (fun b u z=>by have z':(none:Option HO)=some u:=z;cases z') (fun b z=>absurd rfl z) fun z=>absurd rfl z
 | none=>
  refine core (fun b=>if b=a then some (.frz { cls:=.type "list",data:=.seq vs.toArray } (.lst (ns.map V.int))) else none) (fun b=>?_) (.inl (.inr ⟨{ cls:=.type "list",data:=.seq vs.toArray },if_pos rfl⟩)) (fun b u z=>?_) (fun b z=>?_) fun _=>hk
  ·by_cases hb:b=a
   ·exact .inr ⟨_,_,if_pos hb⟩
   ·exact .inl (if_neg hb)
  ·by_cases hb:b=a
   ·have z':=(if_pos hb).symm.trans z
    cases z'
    subst hb
    exact⟨ha,by rw[List.length_map];exact hl,vs,_,rv,ha⟩
   ·have z':=(if_neg hb).symm.trans z
    cases z'
  ·by_cases hb:b=a
   ·exact hb
   ·exact absurd (if_neg hb) z
theorem walk_of{l:PySem.W.OpenLaw}{n k:Nat}{q:Program}{loose:List Str}{XP:(Str->Option Value)->Heap->Prop}{YP:World->Heap->Prop}{d:DefRec}{K:Params->PySem.W.Frag}{CX:World->Lj}{sp:World->Sp}{x:Str}
  (hn:l.most=some n) (hn2:n<=sizeLine) (hdf:d.params.defaults=[]) (hr:Room k callerA)
  (hY:∀(w:World)(h:Heap),YP w h->(K w.params).In h)
  (F:∀(w:World)(mg:Str->Option Value)(fa:Addr)(h:Heap),(K w.params).In h->h.Ns mainGlobals mg->mg d.name=some (.ref fa)->
   ∃fd:FuncData,(∀(s:Shared)(u:Value),BindsTo s fd ⟨[u],[]⟩ [(x,u)])/\
    ∀base:Heap,(K w.params).In base->base.Ns mainGlobals mg->Vg l.prog w (K w.params) mg base (CX w) k fa fd [x] (sp w))
  (hsp:∀(w:World)(H:Hp)(a:Addr)(ns:List Int),ns.length<=n->Jb H->SqL (K w.params) H a (ns.map V.int)->sp w [.ref a] H (fun v _=>v = .bl true) fun _ _ _=>False)
  (hCX:∀(w:World)(H:Hp)(s:Shared)(e:Value)(s':Shared),CX w [] H s (fun _ _ _=>False) e s'->False) :
  PySem.W.WalkO q loose XP YP l.row.toRowW d [] (fun f vs=>PySem.call f vs):=by
 refine Att.attach_call hn hdf fun w s₀ s₁ mg mb fa o pm cd doc a vs ns G Y ho hd hcd hmg hobj hints hlen hg=>?_
 have KX:=hY w _ Y
 obtain⟨fd,hb,hF⟩:=F w mg fa _ KX G.T.g hmg
 exact Lo KX G.T.g G.T.b G.T.builtins G.T.nolimit hg hobj hints (Nat.le_trans hlen hn2) hr hF hb (fun H hO hS=>hsp w H a ns hlen hO hS) fun H e s'=>hCX w H s₁ e s'
def YT(s:Stmt):Arguments:=match s with
 | .FunctionDef _ a _ _ _ _ _ _ _ _=>a
 | _=>{ posonlyargs:=[],args:=[],vararg:=none,kwonlyargs:=[],kw_defaults:=[],kwarg:=none,defaults:=[] }
def Z7(s:Stmt):List Stmt:=match s with
 | .FunctionDef _ _ b _ _ _ _ _ _ _=>b
 | _=>[]
def Zl(s:Stmt):Scope:=match s with
 | .FunctionDef _ _ _ _ _ _ sc _ _ _=>sc
 | _=>{ kind:=.function,names:=[],isGenerator:=false,isCoroutine:=false }
abbrev QT:Lj:=fun _ _ _ _ _ _=>False
abbrev E0:XK:=fun _ _ _=>False
theorem Fe{X:Cx}:Of QT X E0:=fun _ _ _ _ _ _ _ h=>h.elim
structure Fun(K:PySem.W.Frag)(x qual:Str)(st:Stmt)(f:Addr)(fd:FuncData):Prop where
 ex:∃(oc:Value) (od:Option Addr) (kV doc pm:Value) (an:Option Addr) (cdv ct:Value) (osl:Array (Option Value)),
  fd=PySem.W.fnOf x qual (YT st) (Z7 st) (Zl st) .none kV doc pm an cdv ct/\K.lookup f=some ⟨oc,od,.func fd,osl⟩/\PySem.W.codeIn K cdv qual=true
 kp:PySem.W.keepIn K (.ref f)=true
section
variable {P:Program} {w:World} {K:PySem.W.Frag} {mg:Str->Option Value} {base:Heap}
theorem Fun.ok{x qual:Str}{st:Stmt}{f:Addr}{fd:FuncData}{N ps:List Str}{k:Nat}{sp:Sp}(F:Fun K x qual st f fd)(S:ZU N ps (Zl st))(len:∀vs H Q E,sp vs H Q E->vs.length=ps.length)
  (hbody:∀(cdv:Value)(A:Around)(outer:List Env)(s:Shared)(H:Hp)(vs:List V)(Q:VK)(E:XK),Room k (A.deeper (envOfC qual (Zl st) s.heap.objs.size f cdv))->sp vs H Q E->
   ∃t,PSs (U5 QT P w K mg base N qual (Zl st) f cdv A outer s H E).nox (Z7 st) t/\t { nx:=fun _ H'=>Q .non H',rt:=Q } (start N vs) H):Vg P w K mg base QT (k+1) f fd ps sp:=by
 obtain⟨oc,od,kV,doc,pm,an,cdv,ct,osl,rfl,lk,hcd⟩:=F.ex
 refine Im lk hcd S len fun A outer s H vs Q E hr hsp=>?_
 obtain⟨t,h,q⟩:=hbody cdv A outer s H vs Q E hr hsp
 exact⟨t,h.nox,q⟩
theorem Fun.binds{x qual:Str}{st:Stmt}{f:Addr}{fd:FuncData}{ps:List Str}(F:Fun K x qual st f fd)
  (h:∀(kV doc pm:Value)(an:Option Addr)(cdv ct:Value)(us:List Value),us.length=ps.length->bindArgs (PySem.W.fnOf x qual (YT st) (Z7 st) (Zl st) .none kV doc pm an cdv ct) ⟨us,[]⟩=pure (ps.zip us)):Binds K fd ps []:=by
 obtain⟨oc,od,kV,doc,pm,an,cdv,ct,osl,rfl,lk,hcd⟩:=F.ex
 exact .all (h kV doc pm an cdv ct)
theorem Oi{x qual:Str}{st:Stmt}{f:Addr}{oc:Value}{od an:Option Addr}{osl:Array (Option Value)}{kV doc pm cdv ct:Value}(l:K.lookup f=some ⟨oc,od,.func (PySem.W.fnOf x qual (YT st) (Z7 st) (Zl st) .none kV doc pm an cdv ct),osl⟩)
  (c:PySem.W.codeIn K cdv qual=true) (k:PySem.W.keepIn K (.ref f)=true):Fun K x qual st f (PySem.W.fnOf x qual (YT st) (Z7 st) (Zl st) .none kV doc pm an cdv ct):=⟨⟨oc,od,kV,doc,pm,an,cdv,ct,osl,rfl,l,c⟩,k⟩
end
theorem V5{A:Around}{k:Nat}(hr:Room k A):A.units+1<cLine:=Nat.lt_of_le_of_lt (Nat.add_le_add_left (by decide:1<=64) _) hr.units
section
variable {X:Cx}
theorem pv(i:Nat){x:Str}{pos:Pos}(hN:X.N[i]?=some x:=by rfl)(hv:F1 X.env.scope x:=by first | exact Or.inl rfl | exact Or.inr (Or.inl rfl) | exact Or.inr (Or.inr rfl))(hd:(x==("__debug__" : Str))=false:=by decide)
  (hcd:(x==("__classdict__" : Str))=false:=by decide):PE X (.Name x pos) (W8 i):=IY hN hv hd hcd
end
theorem Ff{A B:Prop}(h:B):if false=true then A else B:=by
 rw[if_neg Bool.false_ne_true];exact h
theorem Fg{A B:Prop}(h:A):if true=true then A else B:=by
 rw[if_pos rfl];exact h
def Same(H H':Hp):Prop:=∀b o,H b=some o->H' b=some o
theorem Same.refl(H:Hp):Same H H:=fun _ _ h=>h
theorem Same.trans{H H1 H2:Hp}(a:Same H H1)(b:Same H1 H2):Same H H2:=fun c o h=>b c o (a c o h)
theorem Same.free{H H':Hp}(e:Same H H'){l:Addr}(h:H' l=Option.none):H l=Option.none:=by
 cases q:H l with
 | none=>rfl
 | some o=>
  rw[e l o q] at h;cases h
section
variable {κ:Type} [DecidableEq κ]
theorem Qf:∀{l:List κ}{k:κ},l.Nodup->¬k∈l->(l++[k]).Nodup
 | [],k,_,_=>by simp
 | a::r,k,h,hk=>by
  obtain⟨h1,h2⟩:=List.nodup_cons.mp h
  show(a::(r++[k])).Nodup
  refine List.nodup_cons.mpr ⟨fun m=>?_,Qf h2 fun m=>hk (List.mem_cons.mpr (Or.inr m))⟩
  rcases List.mem_append.mp m with q | q
  ·exact h1 q
  ·exact hk (List.mem_cons.mpr (Or.inl (List.mem_singleton.mp q).symm))
end
end L2
set_option maxHeartbeats 4000000
namespace L2
open PySem PySem.Spec PyProof.Rows
def YY(cells:List (Str×Addr)):List (Str×NameKind)->List (Str×Addr)->List (Str×Addr)
 | [],acc=>acc
 | (n,k)::r,acc=>YY cells r (if(k==NameKind.free)=true then(n,(cells.lookup n).getD 0)::acc else acc)
theorem V6{env:Env}:∀(names:List (Str×NameKind))(acc:List (Str×Addr)),(∀y∈names,y.2 = .free->(env.cells.lookup y.1).isSome=true)->
  (forIn (m:=Sem) names acc fun(x:Str×NameKind) (cs:List (Str×Addr))=>
   match x with
   | (name,kind)=>if(kind==NameKind.free)=true then do
     let c <-cellOf env name
     pure (ForInStep.yield ((name,c)::cs))
    else pure (ForInStep.yield cs))=pure (YY env.cells names acc)
 | [],acc,_=>rfl
 | (n,k)::r,acc,h=>by
  rw[List.forIn_cons]
  have ih:=fun acc'=>V6 r acc' fun y hy=>h y (List.mem_cons_of_mem _ hy)
  cases hk:(k==NameKind.free) with
  | true=>
   have hs:=h (n,k) List.mem_cons_self (by simpa using hk)
   obtain⟨c,hc⟩:=Option.isSome_iff_exists.mp hs
   have hc:env.cells.lookup n=some c:=hc
   have e1:cellOf env n=pure c:=by unfold cellOf;rw[hc]
   dsimp only
   rw[hk,if_pos rfl,e1]
   refine Eq.trans (ih ((n,c)::acc)) ?_
   show _=pure (YY env.cells r (if(k==NameKind.free)=true then(n,(env.cells.lookup n).getD 0)::acc else acc))
   rw[if_pos hk,hc];rfl
  | false=>
   dsimp only
   rw[hk,if_neg Bool.false_ne_true]
   refine Eq.trans (ih acc) ?_
   show _=pure (YY env.cells r (if(k==NameKind.free)=true then(n,(env.cells.lookup n).getD 0)::acc else acc))
   rw[if_neg (by rw[hk];exact Bool.false_ne_true)]
theorem V7{scope:Scope}{env:Env}(h:∀y∈scope.names,y.2 = .free->(env.cells.lookup y.1).isSome=true):closureFor scope env=pure (YY env.cells scope.names []):=by
 have e:=V6 (env:=env) scope.names [] h
 unfold closureFor
 dsimp only
 rw[e];rfl
theorem U6{cells:List (Str×Addr)}{x:Str}{c:Addr}:∀(names:List (Str×NameKind))(acc:List (Str×Addr)),(∀y∈names,y.2 = .free->(cells.lookup y.1).isSome=true)->(acc.lookup x=some c->cells.lookup x=some c)->
  (YY cells names acc).lookup x=some c->cells.lookup x=some c
 | [],_,_,h,e=>h e
 | (n,k)::r,acc,hf,h,e=>by
  refine U6 r _ (fun y hy=>hf y (List.mem_cons_of_mem _ hy)) ?_ e
  intro q
  by_cases hk:(k==NameKind.free)=true
  ·rw[if_pos hk,List.lookup_cons] at q
   cases hx:x==n with
   | true=>
    rw[hx] at q
    have exn:x=n:=by simpa using hx
    obtain⟨d,hd⟩:=Option.isSome_iff_exists.mp (hf (n,k) List.mem_cons_self (by simpa using hk))
    have hd:cells.lookup n=some d:=hd
    rw[hd] at q
    rw[exn,hd];exact q
   | false=>rw[hx] at q;exact h q
  ·rw[if_neg hk] at q;exact h q
theorem Sj{cells:List (Str×Addr)}{x:Str}:∀(names:List (Str×NameKind))(acc:List (Str×Addr)),(acc.lookup x).isSome=true->((YY cells names acc).lookup x).isSome=true
 | [],_,h=>h
 | (n,k)::r,acc,h=>by
  refine Sj r _ ?_
  split
  ·rw[List.lookup_cons];split<;>simp_all
  ·exact h
theorem U7{cells:List (Str×Addr)}{x:Str}:∀(names:List (Str×NameKind))(acc:List (Str×Addr)),(x,NameKind.free)∈names->((YY cells names acc).lookup x).isSome=true
 | (n,k)::r,acc,h=>by
  rcases List.mem_cons.mp h with e | h
  ·cases e
   refine Sj r _ ?_
   rw[if_pos (by decide),List.lookup_cons]
   simp
  ·exact U7 r _ h
structure CompScope(N:List Str)(around scope:Scope)(own fr:List Str)(ix:List Nat):Prop where
 kind:scope.kind = .function
 nocell:∀y∈scope.names,y.2≠.cell
 names:∀y∈scope.names,y.2 = .local->scope.names.lookup y.1=some .local
 frees:∀y∈scope.names,y.2 = .free->(around.names.lookup y.1=some .cell\/around.names.lookup y.1=some .free)
 slots:fr.map some=ix.map (fun i=>N[i]?)
 outs:∀x∈fr,(x,NameKind.free)∈scope.names
 apart:∀x∈fr,scope.names.lookup x≠some .local
def ZC(X:Cx)(N':List Str)(scope:Scope)(cl:List (Str×Addr))(C:Addr)(s:Shared)(H:Hp)(ex:List Addr):Cx:=
 { X with N:=N',s₀:=s,H₀:=H,env:=compEnvC scope cl C X.env,outer:=X.stack,ex:=ex,fn:=fun _=>false,pn:=[],xe:=fun _ _=>False }
def Yn(n:Nat)(ix:List Nat)(Z:St):St:=List.replicate n none++ix.map (fun i=>(Z[i]?).join)
theorem XU{env:Env}{x:Str}:∀{names:List (Str×NameKind)}{k:NameKind},names.lookup x=some k->
  (names.map fun(n,k)=>if(k==NameKind.free&&env.scope.kind==.function&&env.kindOf n==some .cell) then(n,NameKind.cell) else(n,k)).lookup x =
   some (if(k==NameKind.free&&env.scope.kind==.function&&env.kindOf x==some .cell)=true then NameKind.cell else k)
 | [],_,h=>by simp at h
 | (n,k')::r,k,h=>by
  show List.lookup x ((if(k'==NameKind.free&&env.scope.kind==.function&&env.kindOf n==some .cell)=true then(n,NameKind.cell) else(n,k'))::_)=_
  cases hx:x==n with
  | true=>
   simp only[List.lookup_cons,hx] at h;cases h
   have e:x=n:=by simpa using hx
   subst e
   split
   ·simp[List.lookup_cons]
   ·simp[List.lookup_cons]
  | false=>
   simp only[List.lookup_cons,hx] at h
   split
   ·simp only[List.lookup_cons,hx];exact XU h
   ·simp only[List.lookup_cons,hx];exact XU h
theorem WM{env:Env}{x:Str}:∀{names:List (Str×NameKind)}{k':NameKind},
  (names.map fun(n,k)=>if(k==NameKind.free&&env.scope.kind==.function&&env.kindOf n==some .cell) then(n,NameKind.cell) else(n,k)).lookup x=some k'->∃k,names.lookup x=some k
 | [],_,h=>by simp at h
 | (n,k0)::r,k',h=>by
  have h:List.lookup x ((if(k0==NameKind.free&&env.scope.kind==.function&&env.kindOf n==some .cell)=true then(n,NameKind.cell) else(n,k0))::_)=some k':=h
  cases hx:x==n with
  | true=>exact⟨k0,by simp[List.lookup_cons,hx]⟩
  | false=>
   have:∃k,r.lookup x=some k:=by
    apply WM (env:=env) (k':=k')
    split at h<;>simpa [List.lookup_cons,hx] using h
   obtain⟨k,e⟩:=this
   exact⟨k,by simp[List.lookup_cons,hx,e]⟩
section
variable {X:Cx} {pins:List (Addr×Obj)} {Z:St} {H:Hp} {s:Shared} {own fr:List Str} {ix:List Nat} {scope:Scope}
theorem CompScope.clos(S:CompScope X.N X.env.scope scope own fr ix)(I:Inv X pins Z H s):∀y∈scope.names,y.2 = .free->(X.env.cells.lookup y.1).isSome=true:=fun y hy hf=>by
 obtain⟨c,e⟩:=I.ok.has y.1 (S.frees y hy hf)
 rw[e];rfl
end
theorem Qg{prog:Program}{w:World}{A:Around}{R:Result->Shared->Prop}{s:Shared}{elt target iter:Expr}{ifs:List Expr}{scope:Scope}{pos:Pos}{it acc:Value}{env:Env}(I:Nat->Shared->Prop)
  (turn:∀n s,I n s->wpAny (model prog w) A (pyNext it) (fun r s₁=>match r with
   | none=>R (.ok .next) s₁
   | some v=>wpAny (model prog w) A (letOwnedTupleGo target it v) (fun _ s₁'=>wpAny (model prog w) A (assign target env v) (fun _ s₂=>
     wpAny (model prog w) A (forIn ifs true fun c r=>if r=true then do let ok <-isTrue c env (eval c env);pure (ForInStep.yield ok) else pure (ForInStep.yield r)) (fun ok s₃=>
      if ok=true then wpAny (model prog w) A (eval elt env) (fun x s₄=>
       wpAny (model prog w) A (call (.builtin "list.append") [acc,x]) (fun _ s₅=>∃m,m<n/\I m s₅) (notedBy (model prog w) A env fun e s'=>R (.error e) s') s₄) (notedBy (model prog w) A env fun e s'=>R (.error e) s') s₃
      else ∃m,m<n/\I m s₃) (notedBy (model prog w) A env fun e s'=>R (.error e) s') s₂) (notedBy (model prog w) A env fun e s'=>R (.error e) s') s₁') (notedBy (model prog w) A env fun e s'=>R (.error e) s') s₁) (notedBy (model prog w) A env fun e s'=>R (.error e) s') s)
  (n:Nat) (h:I n s) :
  codeAny (model prog w) A (.compLoop (.ListComp elt [⟨target,iter,ifs,0⟩] scope pos) 0 it acc env) R s:=by
 refine codeAny_loop rfl I (fun n s hI=>?_) n h
 show wpAny _ A ((compTurn (.ListComp elt [⟨target,iter,ifs,0⟩] scope pos) 0 it acc env).onRaise (fun x=>do noteFrame x env;theTreesLotGoes x)) _ _ s
 refine wpAny_noted ?_
 rw[compTurn_list]
 refine wpAny_bind (wpAny_standAt (wpAny_bind (wpAny_mono (turn n s hI) (fun r s₁ h₁=>?_) fun _ _ h'=>h')))
 cases r with
 | none=>exact wpAny_pure h₁
 | some v=>
  refine wpAny_bind (wpAny_mono h₁ (fun _ s₁' h₁'=>?_) fun _ _ h'=>h')
  refine wpAny_bind (wpAny_mono h₁' (fun _ s₂ h₂=>wpAny_bind (wpAny_mono h₂ (fun ok s₃ h₃=>?_) fun _ _ h'=>h')) fun _ _ h'=>h')
  cases ok with
  | false=>exact wpAny_pure ⟨rfl,h₃⟩
  | true=>
   exact wpAny_bind (wpAny_bind (wpAny_mono h₃ (fun x s₄ h₄=>wpAny_bind (wpAny_mono h₄ (fun _ s₅ h₅=>wpAny_pure (wpAny_pure ⟨rfl,h₅⟩)) fun _ _ h'=>h')) fun _ _ h'=>h'))
def M6(X:Cx)(ifs:List Expr)(t:TT):Prop:=
 ∀(pins:List (Addr×Obj))(s:Shared)(Z:St)(H:Hp)(Q:Bool->Hp->Prop),Inv X pins Z H s->t Z H Q->
  wpAny (model X.prog X.w) X.A (forIn ifs true fun c r=>if r=true then do let ok <-isTrue c X.env (eval c X.env);pure (ForInStep.yield ok) else pure (ForInStep.yield r)) (TP X pins Z Q) X.xe s
def Fh:TT:=fun _ H Q=>Q true H
theorem Jc{X:Cx}:M6 X [] Fh:=fun _ _ _ H _ I h=>wpAny_tests_nil ⟨H,I,h⟩
theorem Jd{X:Cx}{c:Expr}{t:TT}(h:PT X c t):M6 X [c] t:=fun pins s Z H Q I hq=>wpAny_tests_one (h pins s Z H Q I hq)
def Fj(n:Nat)(ix:List Nat)(g:TG)(tt:TT)(te:TE)(Z:St)(Q:VK)(J:It)(H1:Hp):Prop:=
 ∃W:Nat->Nat->List V->Hp->Prop,(∃m,W 0 m [] H1)/\∀i m ys H,W i m ys H->ys.length<=sizeLine/\
  ((J.stop i H/\∀p,H p=none->Q (.ref p) (upd H p (.lst ys)))\/
   (J.go i H/\∃N:List V->Hp->Prop,(∀ys' H',N ys' H'->∃m',m'<m/\W (i+1) m' ys' H')/\
    ∀x H',J.yld i H x H'->g x (Yn n ix Z) H' fun Z2 H2=>Z2.drop n=(Yn n ix Z).drop n/\tt Z2 H2 fun b H3=>if b=true then te Z2 H3 fun y H4=>N (ys++[y]) H4 else N ys H3))
def Sk(n:Nat)(ix:List Nat)(wi:TI)(g:TG)(tt:TT)(te:TE):TE:=fun Z H Q=>wi Z H fun J H1=>Fj n ix g tt te Z Q J H1
theorem Ml{n:Nat}{ix:List Nat}{Z Z2:St}(hd:Z2.drop n=(Yn n ix Z).drop n):∀(i:Nat) v,(Yn n ix Z)[i]?=some (some v)->Z2[i]?=some (some v):=fun i v e=>by
 by_cases hi:i<n
 ·unfold Yn at e
  rw[List.getElem?_append_left (by simpa using hi),List.getElem?_replicate] at e
  rw[if_pos hi] at e;cases e
 ·have q:=congrArg (fun l=>l[i-n]?) hd
  simp only[List.getElem?_drop] at q;rw[show n+(i-n)=i by omega] at q
  rw[q];exact e
section
variable {X:Cx} {tg elt iter:Expr} {ifs:List Expr} {scope:Scope} {pos:Pos} {own fr:List Str} {ix:List Nat} {wi:TI} {g:TG} {tt:TT} {te:TE}
theorem Lp{pins:List (Addr×Obj)}{Z:St}{H2:Hp}{s2:Shared}{fp:List Addr}{h₁:Heap}{tk:Nat}{C:Addr}(S:CompScope X.N X.env.scope scope own fr ix)(I2:Inv X pins Z H2 s2)(f2:∀b∈fp,TU X pins H2 b)(hfp:∀b∈fp,b<s2.heap.objs.size)
  (hC:s2.heap.objs.size<=C) (hns:h₁.Ns C fun _=>none) (old:∀b o,s2.heap.get? b=some o->h₁.get? b=some o) :
  Inv (ZC X (own++fr) scope (YY X.env.cells scope.names []) C s2 H2 fp) [] (Yn own.length ix Z) H2 { s2 with heap:=h₁,toks:=tk }:=by
 have cs:=S.clos I2
 have sub:∀x c,(YY X.env.cells scope.names []).lookup x=some c->X.env.cells.lookup x=some c:=fun x c e=>U6 scope.names [] cs (fun h=>by simp at h) e
 have stk:=I2.stkSub
 have okk:(ZC X (own++fr) scope (YY X.env.cells scope.names []) C s2 H2 fp).Ok:=by
  refine⟨I2.ok.mod,S.kind,I2.ok.glob,I2.ok.blt,hC,fun x y c h1 h2=>I2.ok.inj x y c (sub x c h1) (sub y c h2),fun x hx=>?_,fun x c h _=>?_,I2.ok.hd,I2.ok.frames,.inl rfl,fun b hb=>⟨?_,fun x c e=>?_⟩,I2.bs,?_,fun b o e hb=>?_,fun b hb z=>?_,I2.stack,I2.stkFree⟩
  ·-- the cells of the block's free names
   have hx:(relabel scope X.env).names.lookup x=some .cell\/(relabel scope X.env).names.lookup x=some .free:=hx
   have key:(x,NameKind.free)∈scope.names:=by
    have:∃k',(relabel scope X.env).names.lookup x=some k'/\(k' = .cell\/k' = .free):=by
     rcases hx with h | h
     ·exact⟨_,h,.inl rfl⟩
     ·exact⟨_,h,.inr rfl⟩
    obtain⟨k',e,hk'⟩:=this
    obtain⟨k,e0⟩:=WM e
    have e1:=XU (env:=X.env) e0
    have e:(scope.names.map fun(n,k)=>if(k==NameKind.free&&X.env.scope.kind==.function&&X.env.kindOf n==some .cell) then(n,NameKind.cell) else(n,k)).lookup x=some k':=e
    rw[e1] at e;have m:=PySem.mem_of_lookup e0
    cases k with
    | free=>exact m
    | cell=>exact absurd rfl (S.nocell _ m)
    | _=>simp at e;subst e;rcases hk' with z | z<;>cases z
   exact Option.isSome_iff_exists.mp (U7 _ _ key)
  ·cases h
  ·-- fp differs from the frame
   exact Nat.ne_of_lt (Nat.lt_of_lt_of_le (hfp b hb) hC)
  ·exact(f2 b hb).2.2.2.2.1 x c (sub x c e)
  ·exact Nat.le_trans I2.ok.bsz I2.sz
  ·rcases(f2 b hb).2.2.2.1 with z | z
   ·exact I2.ok.noex b o e z
   ·exact absurd (Nat.lt_of_lt_of_le (Heap.lt_size (I2.ok.bs b o e).1) z) (Nat.lt_irrefl _)
  ·rcases List.mem_cons.mp (stk b z) with e | e
   ·exact(f2 b hb).2.1 e
   ·exact(f2 b hb).2.2.1 e
 have sl:fr.length=ix.length:=by simpa using congrArg List.length S.slots
 refine⟨okk,rfl,I2.bare,Un.kept old,⟨_,hns,fun i x v h1 h2 h3=>?_⟩,fun x c e=>?_,I2.hok.fresh hC,fun x c e=>I2.freeC x c (sub x c e),fun p hp=>absurd (show p∈([]:List (Addr×Obj)) from hp) (by simp),I2.hok.kept old,?_⟩
 ·-- a name of the def around
  have h1:(own++fr)[i]?=some x:=h1
  have hi:¬i<own.length:=fun hi=>by
   unfold Yn at h2;rw[List.getElem?_append_left (by simpa using hi),List.getElem?_replicate,if_pos hi] at h2;cases h2
  rw[List.getElem?_append_right (by omega)] at h1;unfold Yn at h2;rw[List.getElem?_append_right (by simpa using hi),List.length_replicate,List.getElem?_map] at h2
  cases ej:ix[i-own.length]? with
  | none=>rw[ej] at h2;cases h2
  | some j=>
   rw[ej] at h2
   have h2:(Z[j]?).join=some v:=by simpa using h2
   have h2:Z[j]?=some (some v):=by
    cases q:Z[j]? with
    | none=>rw[q] at h2;cases h2
    | some z=>rw[q] at h2;exact congrArg some h2
   have hN:X.N[j]?=some x:=by
    have q:=congrArg (fun l=>l[i-own.length]?) S.slots
    simp only[List.getElem?_map,h1,ej,Option.map_some] at q
    exact(Option.some.inj q).symm
   have hm:=S.outs x (List.mem_of_getElem? h1)
   have hk:=S.frees _ hm rfl
   have hk:X.env.scope.names.lookup x=some .cell\/X.env.scope.names.lookup x=some .free:=hk
   obtain⟨m,hn,hl⟩:=I2.loc
   obtain⟨u,r,l⟩:=hl j x v hN h2 (by rcases hk with k | k;exact .inr (.inl k);exact .inr (.inr k))
   refine⟨u,r,?_⟩
   rcases l with⟨k,_⟩ | ⟨_,c,hc,hcell⟩
   ·have k:X.env.scope.names.lookup x=some .local:=k
    rcases hk with q | q<;>rw[k] at q<;>cases q
   ·obtain⟨c',hc'⟩:=Option.isSome_iff_exists.mp (U7 (cells:=X.env.cells) _ [] hm)
    have ec:=sub x c' hc'
    rw[hc] at ec;cases ec
    refine .inr ⟨?_,c,hc',?_⟩
    ·have h3:(relabel scope X.env).names.lookup x=some .local\/(relabel scope X.env).names.lookup x=some .cell\/(relabel scope X.env).names.lookup x=some .free:=h3
     rcases h3 with h3 | h3
     ·obtain⟨k0,e0⟩:=WM h3
      have e1:=XU (env:=X.env) e0
      have h3:(scope.names.map fun(n,k)=>if(k==NameKind.free&&X.env.scope.kind==.function&&X.env.kindOf n==some .cell) then(n,NameKind.cell) else(n,k)).lookup x=some .local:=h3
      rw[e1] at h3
      have k0l:k0 = .local:=by
       cases k0<;>simp at h3 ⊢
       split at h3<;>cases h3
      subst k0l
      exact absurd e0 (S.apart x (List.mem_of_getElem? h1))
     ·exact h3
    ·obtain⟨o,ho,hd⟩:=hcell
     exact⟨o,old _ _ ho,hd⟩
 ·obtain⟨v,o,ho,hd⟩:=I2.cell x c (sub x c e)
  exact⟨v,o,old _ _ ho,hd⟩
 ·show(Yn own.length ix Z).length=(own++fr).length
  unfold Yn;rw[List.length_append,List.length_replicate,List.length_map,List.length_append,sl]
theorem Sl{pins:List (Addr×Obj)}{Z:St}{H2:Hp}{s2:Shared}{fp:List Addr}{it:Addr}{tn:Nat->Heap->Prop}{J:It}{Fin:List V->Hp->Prop}{RR:Value->Addr->Result->Shared->Prop}{E:Value->Shared->Prop}
  (hcalm:X.calm=true) (S:CompScope X.N X.env.scope scope own fr ix)
  (hg:∀cl C s H ex,PG (ZC X (own++fr) scope cl C s H ex) tg g) (ht:∀cl C s H ex,M6 (ZC X (own++fr) scope cl C s H ex) ifs tt) (he:∀cl C s H ex,PE (ZC X (own++fr) scope cl C s H ex) elt te)
  (I2:Inv X pins Z H2 s2) (T:N3 X.prog X.w X.K tg J fp it tn) (st2:tn 0 s2.heap) (f2:∀b∈fp,TU X pins H2 b)
  {W:Nat->Nat->List V->Hp->Prop} {m0:Nat} (w0:W 0 m0 [] H2)
  (turn:∀i m ys H,W i m ys H->ys.length<=sizeLine/\
   ((J.stop i H/\Fin ys H)\/
    (J.go i H/\∃N:List V->Hp->Prop,(∀ys' H',N ys' H'->∃m',m'<m/\W (i+1) m' ys' H')/\
     ∀x H',J.yld i H x H'->g x (Yn own.length ix Z) H' fun Z2 H2=>Z2.drop own.length=(Yn own.length ix Z).drop own.length/\tt Z2 H2 fun b H3=>if b=true then te Z2 H3 fun y H4=>N (ys++[y]) H4 else N ys H3)))
  (hRR:∀(D C:Addr)(oC:Obj)(m:Str->Option Value)(s':Shared)(H':Hp)(ys:List V),Inv X (pins++[(C,oC)]) Z (upd H' D (.lst ys)) s'->s'.heap.get? C=some oC->s'.heap.Ns C m->TU X pins (upd H' D (.lst ys)) C->H' D=none->Fin ys H'->RR (.ref D) C (.ok .next) s') :
  wpAny (model X.prog X.w) X.A (newList []) (fun acc s₃=>wpAny (model X.prog X.w) X.A (newFunctionEnv scope X.env.globals (YY X.env.cells scope.names []) [] X.env.qual none .none (some X.env)) (fun cenv s₄=>
   codeAny (model X.prog X.w) X.A (.compStart (.ListComp elt [⟨tg,iter,ifs,0⟩] scope pos) 0 (.ref it) acc { cenv with scope:=relabel scope X.env }) (RR acc cenv.locals) s₄) E s₃) E s2:=by
 have hfp:∀b∈fp,b<s2.heap.objs.size:=fun b hb=>by
  obtain⟨o,e,_⟩:=T.obj 0 s2.heap st2 b hb
  exact Heap.lt_size e
 refine wpAny_newObj_type (wpAny_newFunctionEnv S.nocell (by intro y hy;simp at hy) (fun h₁ hns₁ hsb₁=>?_) S.kind)
 dsimp only at hns₁ hsb₁ ⊢
 generalize hH2:s2.heap.push { cls:=.type "list",dict:=none,data:=.seq ([]:List Value).toArray }=G2 at hns₁ hsb₁ ⊢
 have hC:G2.objs.size=s2.heap.objs.size+1:=by rw[<-hH2,Heap.size_push]
 generalize hCC:G2.objs.size=C at hns₁ hsb₁ hC ⊢
 generalize hDD:s2.heap.objs.size=D at hC ⊢
 have hDC:D≠C:=by omega
 have below:∀b,b<s2.heap.objs.size->b≠C/\b≠D:=fun b hb=>by
  rw[hDD] at hb
  exact⟨Nat.ne_of_lt (by omega),Nat.ne_of_lt hb⟩
 have old:∀b o,s2.heap.get? b=some o->h₁.get? b=some o:=fun b o e=>hsb₁.extBut b o (below b (Heap.lt_size e)).1 (Heap.get?_push_of_some _ (hH2▸Heap.get?_push_of_some _ e))
 have hacc:h₁.get? D=some { cls:=.type "list",data:=.seq ([]:List Value).toArray 0 }:=by
  have e0:G2.get? D=some { cls:=.type "list",data:=.seq ([]:List Value).toArray 0 }:=by
   rw[<-hH2,<-hDD]
   exact Heap.get?_push_size _ rfl
  exact hsb₁.extBut _ _ hDC (Heap.get?_push_of_some _ e0)
 have hns₁':h₁.Ns C fun _=>none:=by simpa using hns₁
 have I0:=fun tk=>Lp (tk:=tk) S I2 f2 hfp (C:=C) (by omega) hns₁' old
 -- what stays true of the iterator's objects in the block
 have loop:∀s₃:Shared,s₃={ s2 with heap:=h₁,toks:=s2.toks+([]:List (Str×Value)).length }->
   codeAny (model X.prog X.w) X.A (.compLoop (.ListComp elt [⟨tg,iter,ifs,0⟩] scope pos) 0 (.ref it) (.ref D) (compEnvC scope (YY X.env.cells scope.names []) C X.env)) (RR (.ref D) C) s₃:=by
  rintro s₃ rfl
  generalize hY:ZC X (own++fr) scope (YY X.env.cells scope.names []) C s2 H2 fp=Y at I0
  have stat:∀{H':Hp}{pn:List (Addr×Obj)},(∀b∈fp,H' b=none)->(∀p∈pn,∀b∈fp,p.1≠b)->∀b∈fp,TU Y pn H' b:=fun{H' pn} hn hp b hb=>by
   subst hY
   refine⟨hn b hb,(below b (hfp b hb)).1,fun z=>?_,.inl hb,fun x c e=>?_,fun p hp'=>hp p hp' b hb⟩
   ·exact(I0 0).ok.exfs b hb z
   ·exact((I0 0).ok.exf b hb).2 x c e
  have dfp:∀b∈fp,D≠b:=fun b hb=>Ne.symm (below b (hfp b hb)).2
  have hcellD:∀x c,Y.env.cells.lookup x=some c->c≠D:=fun x c e z=>by
   subst hY
   have e:(YY X.env.cells scope.names []).lookup x=some c:=e
   have e':=U6 scope.names [] (S.clos I2) (fun h=>by simp at h) e
   obtain⟨v,q⟩:=I2.cell x c e'
   exact(below c q.lt).2 z
  have hfsD:D∉Y.fs:=fun z=>by
   subst hY
   obtain⟨_,o,ho,_⟩:=(I0 0).ok.funs.mem z
   have:=Heap.lt_size ho
   have:D<s2.heap.objs.size:=this
   omega
  have eL:Y.env.locals=C:=by subst hY;rfl
  have eS:Y.s₀=s2:=by subst hY;rfl
  have eP:Y.pn=[]:=by subst hY;rfl
  refine Qg (fun n s'=>∃i ys its nn H',Inv Y [] (Yn own.length ix Z) H' s'/\tn i s'.heap/\(∀b∈fp,H' b=none)/\s'.heap.get? D=some { cls:=.type "list",data:=.seq its nn }/\Vals ys its.toList/\H' D=none/\W i n ys H') ?_ m0
   ⟨0,[],#[],0,H2,I0 _,T.keep _ _ _ st2 fun b _ o e=>old b o e,fun b hb=>(f2 b hb).1,hacc,.nil,I2.hok.fresh (by omega),w0⟩
  rintro n s3 ⟨i,ys,its,nn,H3,I3,st3,fr3,oD,vD,nD,w3⟩
  obtain⟨hlen,cases3⟩:=turn i n ys H3 w3
  have hsize:its.size<=sizeLine:=by
   have:=vD.length
   simp only[Array.length_toList] at this;omega
  have pD:Inv Y [(D,{ cls:=.type "list",data:=.seq its nn })] (Yn own.length ix Z) H3 s3:=I3.pins_of fun p hp=>by
   rw[List.mem_singleton.mp hp]
   exact⟨oD,nD,by rw[eL];exact hDC,hfsD,fun v z=>by cases z⟩
  have YP:Y.prog=X.prog:=by subst hY;rfl
  have Yw:Y.w=X.w:=by subst hY;rfl
  have YK:Y.K=X.K:=by subst hY;rfl
  have YA:Y.A=X.A:=by subst hY;rfl
  have Yx:Y.xe=fun _ _=>False:=by subst hY;rfl
  have Ye:Y.env=compEnvC scope (YY X.env.cells scope.names []) C X.env:=by subst hY;rfl
  have ne1:∀p∈[((D,{ cls:=.type "list",data:=.seq its nn }):Addr×Obj)],∀b∈fp,p.1≠b:=fun p hp b hb=>by rw[List.mem_singleton.mp hp];exact dfp b hb
  rcases cases3 with⟨stop,qn⟩ | ⟨go,N,hN,step⟩
  ·have d:=T.done Y YP Yw YK (by subst hY;exact hcalm) i _ s3 _ H3 (notedBy (model X.prog X.w) X.A (compEnvC scope (YY X.env.cells scope.names []) C X.env) fun e s'=>RR (.ref D) C (.error e) s') pD (stat fr3 ne1) st3 stop
   rw[YA] at d
   refine Ya d fun r s4 ⟨hr,I4⟩=>?_
   subst hr
   show RR (.ref D) C (.ok .next) s4
   obtain⟨oD4,nD4,_⟩:=I4.pin (D,_) (by rw[eP];exact List.mem_cons_self)
   obtain⟨m,hn,_⟩:=I4.loc
   rw[eL] at hn
   obtain⟨oC,es,ep,hoC,hdC,hrest⟩:=id hn
   have hfreeC:H3 C=none:=by have:=I4.free;rw[eL] at this;exact this
   have un:Un (P0 X.stack) fp H2 H3 s2.heap s4.heap:=by
    have:=I4.base
    subst hY;exact this
   have lt2:∀b o,s2.heap.get? b=some o->b≠D:=fun b o e=>(below b (Heap.lt_size e)).2
   have un':Un (P0 X.stack) fp H2 (upd H3 D (.lst ys)) s2.heap s4.heap:=by
    refine⟨un.keep,un.slot,fun b o e n hx=>?_,un.there,fun b xs e=>?_,fun b o u e=>?_,fun b ps e=>?_⟩
    ·rw[upd_ne (lt2 b o e)];exact un.free b o e n hx
    ·have q:=un.tups b xs e
     rw[upd_ne (ZA q nD4)];exact q
    ·have q:=un.frzs b o u e
     rw[upd_ne (ZA q nD4)];exact q
    ·obtain⟨more,q⟩:=un.tbls b ps e
     exact⟨more,by rw[upd_ne (ZA q nD4)];exact q⟩
   have hok4:HOk X.prog X.w H3 s4.heap:=by
    have:=I4.hok
    rw[YP,Yw] at this;exact this
   have hok':HOk X.prog X.w (upd H3 D (.lst ys)) s4.heap:=fun b u q=>by
    by_cases hb:b=D
    ·subst hb
     rw[upd_same] at q;cases q
     exact⟨hlen,its.toList,nn,vD,by simpa using oD4⟩
    ·rw[upd_ne hb] at q
     exact(hok4 b u q).stay (fun c v _ z=>z) (fun c z=>by rw[upd_ne (ZA z nD4)];exact z) fun c xs z=>by rw[upd_ne (ZA z nD4)];exact z
   have os4:s4.os=s2.os:=by rw[I4.os,eS]
   have I5:Inv X pins Z (upd H3 D (.lst ys)) s4:=I2.call' os4 un' hok' I4.bare fun b hb=>⟨(f2 b hb).2.2.2.1,(f2 b hb).2.1,(f2 b hb).2.2.2.2.1,(f2 b hb).2.2.2.2.2⟩
   have CL:C≠X.env.locals:=fun z=>by
    exact(below _ I2.lt).1 z.symm
   have fpC:TU X pins (upd H3 D (.lst ys)) C:=I2.fpOk (by omega) (by rw[upd_ne (Ne.symm hDC)];exact hfreeC)
   refine hRR D C oC m s4 H3 ys (I5.pins_of fun p hp=>?_) hoC hn fpC nD4 qn
   rcases List.mem_append.mp hp with z | z
   ·exact I5.pin p (List.mem_append_right _ z)
   ·rw[List.mem_singleton.mp z]
    exact⟨hoC,fpC.1,fpC.2.1,fpC.2.2.1,fun v z=>by rw[hdC] at z;cases z⟩
  ·have d:=T.item Y YP Yw YK (by subst hY;exact hcalm) i _ s3 _ H3 (fun _ _=>False) pD (stat fr3 ne1) st3 go
   rw[YA] at d
   refine wpAny_mono d (fun r s4 ⟨u,hr,h4⟩=>?_) fun _ _ z=>z.elim
   subst hr
   refine wpAny_mono h4 (fun _ s5 ⟨x,H5,I5,r5,y5,st5,fr5⟩=>?_) fun _ _ z=>z.elim
   have I5':=I5.pinned (stat fr5 ne1) (T.obj _ _ st5)
   have hg':=hg (YY X.env.cells scope.names []) C s2 H2 fp
   have ht':=ht (YY X.env.cells scope.names []) C s2 H2 fp
   have he':=he (YY X.env.cells scope.names []) C s2 H2 fp
   rw[hY] at hg' ht' he'
   have a6:=hg' _ s5 _ H5 x u _ I5' r5 (step x H5 y5)
   rw[YP,Yw,YA,Ye,Yx] at a6
   refine wpAny_mono a6 (fun _ s6 ⟨Z6,H6,I6,dr,q6⟩=>?_) fun _ _ z=>z.elim
   have a7:=ht' _ s6 Z6 H6 _ I6 q6;rw[YP,Yw,YA,Ye,Yx] at a7
   refine wpAny_mono a7 (fun ok s7 ⟨H7,I7,q7⟩=>?_) fun _ _ z=>z.elim
   have back:∀{H8:Hp}{s8:Shared},Inv Y ([((D,{ cls:=.type "list",data:=.seq its nn }):Addr×Obj)]++U1 fp s5.heap) Z6 H8 s8->
     s8.heap.get? D=some { cls:=.type "list",data:=.seq its nn }/\H8 D=none/\tn (i+1) s8.heap/\(∀b∈fp,H8 b=none):=fun{H8 s8} I8=>by
    obtain⟨e1,e2,_⟩:=I8.pin (D,{ cls:=.type "list",data:=.seq its nn }) (by rw[eP];exact List.mem_cons_self)
    refine⟨e1,e2,T.keep _ _ _ st5 fun b hb o e=>(I8.pin (b,o) (by rw[eP];exact List.mem_cons_of_mem _ (WH hb e))).1,fun b hb=>?_⟩
    obtain⟨o,e,_⟩:=T.obj _ _ st5 b hb
    exact(I8.pin (b,o) (by rw[eP];exact List.mem_cons_of_mem _ (WH hb e))).2.1
   have unp:∀{H8:Hp}{s8:Shared},Inv Y ([((D,{ cls:=.type "list",data:=.seq its nn }):Addr×Obj)]++U1 fp s5.heap) Z6 H8 s8->Inv Y [] (Yn own.length ix Z) H8 s8:=fun{H8 s8} I8=>
    (I8.pins_of (pins':=[]) fun p hp=>absurd hp (by simp)).weak (by
     have e1:=(I0 0).len
     have e2:=I8.len
     rw[e1,e2]) (Ml dr)
   cases ok with
   | false=>
    rw[if_neg Bool.false_ne_true] at q7
    show ∃m,m<n/\_
    obtain⟨e1,e2,e3,e4⟩:=back I7
    obtain⟨m',hm,w7⟩:=hN _ _ q7
    exact⟨m',hm,i+1,ys,its,nn,H7,unp I7,e3,e4,e1,vD,e2,w7⟩
   | true=>
    rw[if_pos rfl] at q7
    show wpAny _ _ _ _ _ _
    have a8:=he' _ s7 Z6 H7 _ I7 q7;rw[YP,Yw,YA,Ye,Yx] at a8
    refine wpAny_mono a8 (fun yv s8 ⟨y,H8,I8,ry,q8⟩=>?_) fun _ _ z=>z.elim
    obtain⟨e1,e2,e3,e4⟩:=back I8
    obtain⟨m',hm,w8⟩:=hN _ _ q8
    refine append_at e1 (fun h9 hs9 hD9=>?_) hsize
    have I9:Inv Y [] (Yn own.length ix Z) H8 { s8 with heap:=h9 }:=(unp I8).turned (t':=s8.toks) (it:=D) (fun b o hb e=>hs9.extBut b o hb e) e2 (by rw[eL];exact hDC) (.inr (by rw[eS];omega)) hcellD (fun p hp=>absurd (show p∈([]:List (Addr×Obj)) by rw[eP] at hp;exact hp) (by simp))
    refine⟨m',hm,i+1,ys++[y],its.push yv,nn+1,H8,I9,T.keep _ _ _ e3 fun b hb o e=>hs9.extBut b o (Ne.symm (dfp b hb)) e,e4,hD9,?_,e2,w8⟩
    rw[Array.toList_push]
    exact vD.append (.cons ry .nil)
 exact codeAny_compStart_list (loop _ rfl) (T.self X.A 0 _ _ _ (T.keep _ _ _ st2 fun b _ o e=>old b o e) (loop _ rfl))
theorem Je(hcalm:X.calm=true)(hi:PI X tg iter wi)(S:CompScope X.N X.env.scope scope own fr ix)
  (hg:∀cl C s H ex,PG (ZC X (own++fr) scope cl C s H ex) tg g) (ht:∀cl C s H ex,M6 (ZC X (own++fr) scope cl C s H ex) ifs tt) (he:∀cl C s H ex,PE (ZC X (own++fr) scope cl C s H ex) elt te)
  (hs:∀x,foldedSetIterable iter X.env x=pure x:=by intro _;rfl):PE X (.ListComp elt [⟨tg,iter,ifs,0⟩] scope pos) (Sk own.length ix wi g tt te):=by
 intro pins s Z H Q I h;rw[eval_ListComp]
 refine wpAny_comprehension_free (use:=none) (cl:=YY X.env.cells scope.names []) rfl hs (V7 (S.clos I)) S.kind S.names (Ya (hi pins s Z H _ I h) fun v s1 h1=>Ya h1 fun itv s2 h2=>?_)
 obtain⟨it,fp,tn,J,H2,e,I2,T,st2,f2,W,⟨m0,w0⟩,turn⟩:=h2
 subst e
 refine Sl (Fin:=fun ys H=>∀p,H p=none->Q (.ref p) (upd H p (.lst ys))) (RR:=fun acc C=>compPost (model X.prog X.w) X.A X.xe none (EP X pins Z Q) acc C) hcalm S hg ht he I2 T st2 f2 w0 turn ?_
 intro D C oC m s' H' ys I5 hoC hn fpC nD fin
 refine⟨m,hn,fun h' hs'=>⟨.ref D,upd H' D (.lst ys),?_,rfl,fin D nD⟩⟩
 exact(I5.unpinned (pl:=[(C,oC)])).turned (t':=s'.toks) (it:=C) (fun b o hb e=>hs'.extBut b o hb e) fpC.1 fpC.2.1 fpC.2.2.2.1 fpC.2.2.2.2.1 fpC.2.2.2.2.2
theorem Jf{i:Nat}{y:Str}{py spos:Pos}(hN:X.N.Nodup)(hy:X.N[i]?=some y)(hloc:X.env.scope.names.lookup y=some .local)(hcalm:X.calm=true)(hi:PI X tg iter wi)(S:CompScope X.N X.env.scope scope own fr ix)
  (hg:∀cl C s H ex,PG (ZC X (own++fr) scope cl C s H ex) tg g) (ht:∀cl C s H ex,M6 (ZC X (own++fr) scope cl C s H ex) ifs tt) (he:∀cl C s H ex,PE (ZC X (own++fr) scope cl C s H ex) elt te)
  (hsw:swapsWith (.ListComp elt [⟨tg,iter,ifs,0⟩] scope pos) (some (.Name y py)) spos.line X.env=pure true:=by rfl)
  (hs:∀x,foldedSetIterable iter X.env x=pure x:=by intro _;rfl):PS X (.Assign [.Name y py] (.ListComp elt [⟨tg,iter,ifs,0⟩] scope pos) spos) (P7 (Sk own.length ix wi g tt te) (TC i)):=by
 intro pins s Z H D0 I h;rw[exec_Assign_Name_used _ _ _ _ hsw]
 refine wpAny_bind (wpAny_standAt (wpAny_bind ?_))
 show wpAny _ X.A (do let _ <-comprehension (.ListComp elt [⟨tg,iter,ifs,0⟩] scope pos) scope X.env _ (newList []) false (eval iter X.env) (some (assign (.Name y py) X.env))) _ _ s
 refine wpAny_bind (wpAny_mono (wpAny_comprehension_free (cl:=YY X.env.cells scope.names []) (use:=some (assign (.Name y py) X.env)) (Q:=fun _ s'=>SP X pins D0 .next s') (E:=X.xe) rfl hs (V7 (S.clos I)) S.kind S.names
  (Ya (hi pins s Z H _ I h) fun v s1 h1=>Ya h1 fun itv s2 h2=>?_)) (fun _ s' hq=>wpAny_pure (wpAny_pure hq)) fun _ _ e=>e)
 obtain⟨it,fp,tn,J,H2,e,I2,T,st2,f2,W,⟨m0,w0⟩,turn⟩:=h2
 subst e
 refine Sl (Fin:=fun ys H=>∀p,H p=none->TC i (.ref p) Z (upd H p (.lst ys)) D0.nx) (RR:=fun acc C=>compPost (model X.prog X.w) X.A X.xe (some (assign (.Name y py) X.env)) (fun _ s'=>SP X pins D0 .next s') acc C) hcalm S hg ht he I2 T st2 f2 w0 turn ?_
 intro D C oC m s' H' ys I5 hoC hn fpC nD fin
 show wpAny _ X.A (assign (.Name y py) X.env (.ref D)) _ _ _
 refine wpAny_assign_Name (Wt I5 hN hy (.inl hloc) (v:=.ref D) rfl (fun s6 I6=>?_) (.inr hloc))
 obtain⟨e6,_⟩:=I6.pin (C,oC) (List.mem_append_right _ (List.mem_append_right _ List.mem_cons_self))
 obtain⟨o',es,ep,ho',r'⟩:=hn
 rw[hoC] at ho';cases ho'
 refine⟨m,⟨oC,es,ep,e6,r'⟩,fun h' hs'=>⟨_,upd H' D (.lst ys),?_,fin D nD⟩⟩
 exact(I6.unpinned (pl:=[(C,oC)])).turned (t':=s6.toks) (it:=C) (fun b o hb e=>hs'.extBut b o hb e) fpC.1 fpC.2.1 fpC.2.2.2.1 fpC.2.2.2.2.1 fpC.2.2.2.2.2
end
open AutoSeq1 (wpAny_loadPart')
section
variable {prog:Program} {w:World} {A:Around} {E:Value->Shared->Prop} {s:Shared}
theorem Uy{it l:Addr}{i:Nat}{items}{x:Value}{Q:Value->Shared->Prop}(hit:s.heap.IsTupleIter it l i)
  (hl:s.heap.IsTuple l items) (hx:items[i]?=some x)
  (hQ:∀h',h'.IsTupleIter it l (i+1)->Heap.SameBut it s.heap h'->Q x { s with heap:=h' }) :
  wpAny (model prog w) A (Builtin.SmallTypes.nextOf (.ref it)) Q E s:=by
 obtain⟨o,ho,hc,hd⟩:=id hit
 obtain⟨ol,hol,_,nl,hdl⟩:=hl
 unfold Builtin.SmallTypes.nextOf
 refine wpAny_bind (wpAny_callSpecial?_slot (name:=Str.ofString "__next__") hit.typeIs F.slot_tuple_iterator_next
  (wpAny_call_entry F.slot_tuple_iterator_next hit.typeIs F.entry_tuple_iterator_next ?_ (F.args_tuple_iterator_next_1 _)))
 show wpAny _ _ (field (.ref it) 0 >>= _) _ _ s
 refine wpAny_bind (wpAny_field ho hd (x:=.ref l) rfl ?_)
 show wpAny _ _ (if(Value.ref l==Value.none)=true then _ else _) _ _ s
 rw[if_neg (show ¬((Value.ref l==Value.none)=true) from Bool.false_ne_true)]
 show wpAny _ _ (field (.ref it) 1 >>= _) _ _ s
 refine wpAny_bind (wpAny_field ho hd (x:=.int i 0) rfl ?_)
 show wpAny _ _ (seqItems? (.ref l) >>= _) _ _ s
 refine wpAny_bind (wpAny_seqItems hol hdl ?_)
 simp only[Int.toNat_natCast,hx]
 refine wpAny_bind (wpAny_setField ho hd (by simp) (wpAny_pure ⟨x,rfl,wpAny_pure (hQ _ ?_ (Heap.SameBut.update ..))⟩))
 exact⟨_,Heap.get?_update_self _ ho (Obj.isFreed_of_fields (Obj.data_mapFields hd _)),(Obj.cls_mapFields ..).trans hc,by
  rw[Obj.data_mapFields hd];simp[rawInt]⟩
theorem U8{it l:Addr}{i:Nat}{items}{Q:Value->Shared->Prop}(hh:A.handled=none)
  (hit:s.heap.IsTupleIter it l i) (hl:s.heap.IsTuple l items) (hx:items[i]?=none)
  (hE:∀h' e,Heap.ExtBut it s.heap h'->(∃o,h'.get? e=some o/\o.cls = .type "StopIteration")->E (.ref e) { s with heap:=h' }) :
  wpAny (model prog w) A (Builtin.SmallTypes.nextOf (.ref it)) Q E s:=by
 obtain⟨o,ho,hc,hd⟩:=id hit
 obtain⟨ol,hol,_,nl,hdl⟩:=hl
 unfold Builtin.SmallTypes.nextOf
 refine wpAny_bind (wpAny_callSpecial?_slot (name:=Str.ofString "__next__") hit.typeIs F.slot_tuple_iterator_next
  (wpAny_call_entry F.slot_tuple_iterator_next hit.typeIs F.entry_tuple_iterator_next ?_ (F.args_tuple_iterator_next_1 _)))
 show wpAny _ _ (field (.ref it) 0 >>= _) _ _ s
 refine wpAny_bind (wpAny_field ho hd (x:=.ref l) rfl ?_)
 show wpAny _ _ (if(Value.ref l==Value.none)=true then _ else _) _ _ s
 rw[if_neg (show ¬((Value.ref l==Value.none)=true) from Bool.false_ne_true)]
 show wpAny _ _ (field (.ref it) 1 >>= _) _ _ s
 refine wpAny_bind (wpAny_field ho hd (x:=.int i 0) rfl ?_)
 show wpAny _ _ (seqItems? (.ref l) >>= _) _ _ s
 refine wpAny_bind (wpAny_seqItems hol hdl ?_)
 simp only[Int.toNat_natCast,hx]
 refine wpAny_bind (wpAny_rule (wpAny_bind (wpAny_setField ho hd (by simp) ?_)))
 show wpAny _ _ (newExc (.type "StopIteration") [] >>= _) _ _ _
 refine wpAny_bind ?_
 simp only[newExc,newTuple]
 refine wpAny_bind (wpAny_newObj_type ?_ (by size_fits))
 refine wpAny_bind (m:=firstArgMember _ _) (wpAny_of_eq (a:=Value.none) (by first | rfl | (simp only[firstArgMember];rfl)) ?_)
 refine wpAny_newObj_type ?_ (by size_fits)
 simp only[raiseNew]
 refine wpAny_bind (wpAny_handled ?_)
 first | rw[show A.in1.handled=none from hh] | rw[hh]
 refine wpAny_bind (wpAny_pure (wpAny_throw ?_))
 exact hE _ _ (((Heap.SameBut.update ..).extBut.push _).push _) ⟨_,Heap.get?_push_size _ rfl,rfl⟩
end
def SeqB(b:Bool)(h:Heap)(a:Addr)(its:Array Value):Prop:=if b=true then h.IsList a its else h.IsTuple a its
def IterB(b:Bool)(h:Heap)(it a:Addr)(i:Nat):Prop:=if b=true then h.IsListIter it a i else h.IsTupleIter it a i
def Ir(b:Bool)(K:PySem.W.Frag)(H:Hp)(a:Addr)(xs:List V):Prop:=if b=true then SqL K H a xs else SqT K H a xs
def Sm(b:Bool)(a:Addr):Obj:={ cls:=.type (if b=true then "list_iterator" else "tuple_iterator"),data:=.fields #[.ref a,.int 0 0] }
theorem SeqB.at{b:Bool}{h h':Heap}{a:Addr}{its:Array Value}(x:SeqB b h a its)(k:∀o,h.get? a=some o->h'.get? a=some o):SeqB b h' a its:=by
 cases b with
 | true=>obtain⟨o,e,r⟩:=(show h.IsList a its from x);exact⟨o,k o e,r⟩
 | false=>obtain⟨o,e,r⟩:=(show h.IsTuple a its from x);exact⟨o,k o e,r⟩
theorem SeqB.has{b:Bool}{h:Heap}{a:Addr}{its:Array Value}(x:SeqB b h a its):∃o,h.get? a=some o:=by
 cases b with
 | true=>obtain⟨o,e,r⟩:=(show h.IsList a its from x);exact⟨o,e⟩
 | false=>obtain⟨o,e,r⟩:=(show h.IsTuple a its from x);exact⟨o,e⟩
theorem IterB.at{b:Bool}{h h':Heap}{it a:Addr}{i:Nat}(x:IterB b h it a i)(k:∀o,h.get? it=some o->h'.get? it=some o):IterB b h' it a i:=by
 cases b with
 | true=>obtain⟨o,e,r⟩:=(show h.IsListIter it a i from x);exact⟨o,k o e,r⟩
 | false=>obtain⟨o,e,r⟩:=(show h.IsTupleIter it a i from x);exact⟨o,k o e,r⟩
theorem IterB.has{b:Bool}{h:Heap}{it a:Addr}{i:Nat}(x:IterB b h it a i):∃o,h.get? it=some o/\∀v,o.data≠.cell v:=by
 cases b with
 | true=>obtain⟨o,e,_,d⟩:=(show h.IsListIter it a i from x);exact⟨o,e,fun v z=>by rw[d] at z;cases z⟩
 | false=>obtain⟨o,e,_,d⟩:=(show h.IsTupleIter it a i from x);exact⟨o,e,fun v z=>by rw[d] at z;cases z⟩
theorem IterB.new{b:Bool}{h:Heap}{it a:Addr}(e:h.get? it=some (Sm b a)):IterB b h it a 0:=by
 cases b with
 | true=>exact⟨_,e,rfl,rfl⟩
 | false=>exact⟨_,e,rfl,rfl⟩
section
variable {X:Cx} {pins:List (Addr×Obj)} {Z:St} {H:Hp} {s:Shared} {a:Addr} {xs ys:List V} {b:Bool}
theorem Inv.seqB(I:Inv X pins Z H s)(h:Ir b X.K H a xs):∃its:List Value,Vals xs its/\SeqB b s.heap a its.toArray/\xs.length<=sizeLine:=by
 cases b with
 | true=>
  obtain⟨its,r,p,z⟩:=I.list (show SqL X.K H a xs from h)
  exact⟨its,r,p.isList,z⟩
 | false=>
  obtain⟨its,r,p,z⟩:=I.tuple (show SqT X.K H a xs from h)
  exact⟨its,r,p,z⟩
theorem Inv.seqB_inj(I:Inv X pins Z H s)(h:Ir b X.K H a xs)(h':Ir b X.K H a ys):xs=ys:=by
 cases b with
 | true=>exact I.list_inj (show SqL X.K H a xs from h) (show SqL X.K H a ys from h')
 | false=>exact I.tuple_inj (show SqT X.K H a xs from h) (show SqT X.K H a ys from h')
end
theorem Draws.seq{prog:Program}{w:World}{A:Around}(b:Bool)(hh:A.handled=none)(it l:Addr)(hne:l≠it)(items:Array Value) :
  Draws prog w A it [it,l] items.size (fun i v=>items[i]?=some v) (fun i h=>IterB b h it l i/\SeqB b h l items) where
 live:=fun _ _ st=>let⟨o,ho,_⟩:=st.1.has;⟨o,ho⟩
 frame:=fun _ _ _ st hk=>⟨st.1.at fun o e=>hk it (by simp) o e,st.2.at fun o e=>hk l (by simp) o e⟩
 item:=fun i s Q E hi st hQ=>by
  cases b with
  | true=>
   refine wpAny_nextOf_list_item (show s.heap.IsListIter it l i from st.1) (show s.heap.IsList l items from st.2) (x:=items[i]) (by simp[hi]) fun h' hit' hs'=>?_
   exact hQ _ h' s.toks (by simp[hi]) ⟨hit',st.2.at fun o e=>hs'.extBut l o hne e⟩ hs'
  | false=>
   refine Uy (show s.heap.IsTupleIter it l i from st.1) (show s.heap.IsTuple l items from st.2) (x:=items[i]) (by simp[hi]) fun h' hit' hs'=>?_
   exact hQ _ h' s.toks (by simp[hi]) ⟨hit',st.2.at fun o e=>hs'.extBut l o hne e⟩ hs'
 done:=fun s Q E st hE=>by
  cases b with
  | true=>exact wpAny_nextOf_list_end hh (show s.heap.IsListIter it l _ from st.1) (show s.heap.IsList l items from st.2) (by simp) hE
  | false=>exact U8 hh (show s.heap.IsTupleIter it l _ from st.1) (show s.heap.IsTuple l items from st.2) (by simp) hE
theorem Vi{prog:Program}{w:World}{A:Around}{E:Value->Shared->Prop}{s:Shared}{b:Bool}{a:Addr}{its:Array Value}{Q:Value->Shared->Prop}(h:SeqB b s.heap a its)
  (hQ:Q (.ref s.heap.objs.size) { s with heap:=s.heap.push (Sm b a) }):wpAny (model prog w) A (pyIter (.ref a)) Q E s:=by
 cases b with
 | true=>exact wpAny_pyIter_list (show s.heap.IsList a its from h) hQ
 | false=>exact wpAny_pyIter_tuple (show s.heap.IsTuple a its from h) hQ
set_option maxHeartbeats 4000000 in
theorem Sn(b:Bool)(l:Addr)(items:Array Value) :
  Meets (Builtin.«enumerate.__new__» ⟨[.type "enumerate",.ref l],[]⟩) (fun _ R s=>SeqB b s.heap l items/\
   R (.ok (.ret (.ref (s.heap.push (Sm b l)).objs.size)))
    { s with heap:=(s.heap.push (Sm b l)).push { cls:=.type "enumerate",data:=.fields #[.none,.bool false,.ref s.heap.objs.size,rawInt 0,.none,.none] } }):=
 .of_wp fun prog w A R s h=>by
  obtain⟨hp,g,d,tk,os⟩:=s;obtain⟨hl,h⟩:=h
  have hsub:=sub_enumerate
  obtain⟨o,ho⟩:=hl.has
  have hL:SeqB b (Shared.heap ⟨hp,g,d,tk,os⟩) l items:=hl
  wp_walk using wpAny_loadPart' ho
  refine wpAny_stack_any fun st=>wpAny_pure ?_
  split
  ·rename_i c _ _ _ _ _
   cases (c==Value.type "enumerate")
   ·wp_walk using wpAny_loadPart' ho,Vi hL
    exact⟨_,rfl,h⟩
   ·wp_walk using wpAny_loadPart' ho,Vi hL
    exact⟨_,rfl,h⟩
  ·wp_walk using wpAny_loadPart' ho,Vi hL
   exact⟨_,rfl,h⟩
section
variable {prog:Program} {w:World} {A:Around} {E:Value->Shared->Prop} {s:Shared}
theorem Rp{b:Bool}{l:Addr}{items:Array Value}{Q:Value->Shared->Prop}(hL:SeqB b s.heap l items)
  (h:∀h',IsEnum h' (s.heap.objs.size+1) s.heap.objs.size 0 .none->IterB b h' s.heap.objs.size l 0->h'.objs.size=s.heap.objs.size+2->
   (∀b o,s.heap.get? b=some o->h'.get? b=some o)->Q (.ref (s.heap.objs.size+1)) { s with heap:=h' }) :
  wpAny (model prog w) A (call (.type "enumerate") [.ref l]) Q E s:=by
 refine callType_new F.called_enumerate (by decide) (F.typeCall_enumerate_1 _) (F.newCall_enumerate_1 _) (fun obj=>F.args_object_init_2 obj _) F.entry_enumerate_new
  (Sn b l items) ⟨hL,?_⟩
 have hz:(s.heap.push (Sm b l)).objs.size=s.heap.objs.size+1:=Heap.size_push ..
 show _/\_
 rw[hz]
 have he:IsEnum ((s.heap.push (Sm b l)).push
   { cls:=.type "enumerate",data:=.fields #[.none,.bool false,.ref s.heap.objs.size,rawInt 0,.none,.none] }) (s.heap.objs.size+1) s.heap.objs.size 0 .none:=by
  have:=Heap.get?_push_size (s.heap.push (Sm b l))
   (o:={ cls:=.type "enumerate",data:=.fields #[.none,.bool false,.ref s.heap.objs.size,rawInt 0,.none,.none] }) rfl
  rw[hz] at this;exact this
 refine⟨⟨_,he,rfl⟩,h _ he (IterB.new (Heap.get?_push_of_some _ (Heap.get?_push_size _ rfl))) (by rw[Heap.size_push,hz]) fun b o x=>Heap.get?_push_of_some _ (Heap.get?_push_of_some _ x)⟩
end
def EL(b:Bool)(K:PySem.W.Frag)(a:Addr):It:=
  ⟨fun i H=>∃xs x,Ir b K H a xs/\xs[i]?=some x,
   fun i H v H'=>∃p x,H p=none/\v = .ref p/\H'=upd H p (.tup [.int i,x])/\∀xs,Ir b K H a xs->xs[i]?=some x,
   fun i H=>∃xs,Ir b K H a xs/\xs.length=i⟩
theorem Mm{P:Program}{w:World}{K:PySem.W.Frag}{elts:List Expr}{k:Nat}{pos:Pos}(b:Bool)(a e it:Addr)(hei:e≠it) :
  N3 P w K (.Tuple elts k pos) (EL b K a) [e,it] e (fun i h=>(∃old,IsEnum h e it i old)/\IterB b h it a i) where
 mem:=by simp
 obj:=fun i h st c hc=>by
  rcases List.mem_cons.mp hc with rfl | hc
  ·obtain⟨⟨old,q⟩,_⟩:=st
   exact⟨_,q,fun v z=>by cases z⟩
  ·rw[List.mem_singleton.mp hc]
   exact st.2.has
 keep:=fun i h h' st kk=>⟨let⟨old,q⟩:=st.1;⟨old,kk e (by simp) _ q⟩,st.2.at fun o q=>kk it (by simp) o q⟩
 item:=by
  intro X hP hw hK hc i pins s Z H E I hf st hg
  subst hP hw hK
  obtain⟨xs,x,hq,hx⟩:=hg
  obtain⟨its,rv,p,hz⟩:=I.seqB hq
  obtain⟨u,hu,ru⟩:=rv.get hx
  obtain⟨⟨old,he⟩,hit⟩:=st
  have fe:=hf e (by simp)
  have fi:=hf it (by simp)
  obtain⟨oa,hoa⟩:=p.has
  have tra:H a=none->a<X.s₀.heap.objs.size\/True:=fun _=>.inr trivial
  -- the sequence is neither record
  have ne_of_fp:∀c,TU X pins H c->(∃oc,s.heap.get? c=some oc/\∃n vs,oc.cls = .type n/\oc.data = .fields vs)->a≠c:=fun c _ ⟨oc,hoc,n,vs,hn,hv⟩ z=>by
   subst z
   rw[hoa] at hoc;cases hoc
   cases b with
   | true=>obtain⟨o,e1,_,m,d⟩:=(show s.heap.IsList a its.toArray from p);rw[hoa] at e1;cases e1;rw[hv] at d;cases d
   | false=>obtain⟨o,e1,_,m,d⟩:=(show s.heap.IsTuple a its.toArray from p);rw[hoa] at e1;cases e1;rw[hv] at d;cases d
  have ae:a≠e:=ne_of_fp e fe ⟨_,he,_,_,rfl,rfl⟩
  have ai:a≠it:=ne_of_fp it fi (by
   cases b with
   | true=>obtain⟨o,e1,c1,d1⟩:=(show s.heap.IsListIter it a i from hit);exact⟨o,e1,_,_,c1,d1⟩
   | false=>obtain⟨o,e1,c1,d1⟩:=(show s.heap.IsTupleIter it a i from hit);exact⟨o,e1,_,_,c1,d1⟩)
  have D:=Draws.seq (prog:=X.prog) (w:=X.w) (A:=X.A.in1) b (I.ok.hd hc) it a ai its.toArray
  have hlt:i<its.toArray.size:=by
   have:=(List.getElem?_eq_some_iff.mp hu).1
   simpa using this
  refine wpAny_pyNext_enum_itemD D he ⟨hit,p⟩ hlt hei (by simp[hei,Ne.symm ae]) fun y h' tk hPy ho hs' hT hsz hk=>?_
  have ey:y=u:=by
   have q1:its.toArray[i]?=some y:=hPy
   have q2:its.toArray[i]?=some u:=by simpa using hu
   rw[q1] at q2;exact Option.some.inj q2
  subst ey
  refine⟨_,rfl,wpAny_letOwnedTupleGo_enum ho fun h2 he2 hs2=>?_⟩
  have hs2:Heap.SameBut e h' h2:=hs2
  have Tne:s.heap.objs.size≠e:=Nat.ne_of_gt (Heap.lt_size he)
  have hTn:H s.heap.objs.size=none:=I.hok.fresh (Nat.le_refl _)
  have kk:∀c o,c∉[e,it]->s.heap.get? c=some o->h2.get? c=some o:=fun c o hc' q=>hs2.extBut c o (fun z=>hc' (by simp[z])) (hk c o (fun z=>hc' (by simp[z])) (fun z=>hc' (by simp[z])) q)
  have hT2:h2.get? s.heap.objs.size=some { cls:=.type "tuple",data:=.seq #[.int i tk,y] }:=hs2.extBut _ _ Tne hT
  have hcs:∀c∈[e,it],(c∈X.ex\/X.s₀.heap.objs.size<=c)/\c≠X.env.locals/\(∀x d,X.env.cells.lookup x=some d->d≠c)/\∀p∈X.pn++pins,p.1≠c:=fun c hc'=>by
   have f:=hf c hc'
   exact⟨f.2.2.2.1,f.2.1,f.2.2.2.2.1,f.2.2.2.2.2⟩
  have nfp:∀c u',H c=some u'->c∉[e,it]:=fun c u' q hc'=>by rw[(hf c hc').1] at q;cases q
  have hok0:HOk X.prog X.w H h2:=fun c u' q=>(I.hok c u' q).stay (fun d v hd q'=>kk d v (by
    rcases hd with z | z
    ·rw[z];exact nfp c u' q
    ·exact nfp d _ z) q') (fun _ z=>z) fun _ _ z=>z
  have new:ObjOk X.prog X.w (upd H s.heap.objs.size (.tup [.int i,x])) h2 s.heap.objs.size (.tup [.int i,x]):=
   ⟨by show 2<=sizeLine;decide,[.int i tk,y],.cons ⟨tk,rfl⟩ (.cons ru .nil),⟨_,hT2,rfl,_,rfl⟩⟩
  have hok1:HOk X.prog X.w (upd H s.heap.objs.size (.tup [.int i,x])) h2:=fun c u' q=>by
   by_cases hb:c=s.heap.objs.size
   ·subst hb;rw[upd_same] at q;cases q;exact new
   ·rw[upd_ne hb] at q
    exact(hok0 c u' q).stay (fun d v _ q'=>q') (fun d z=>by rw[upd_ne (ZA z hTn)];exact z) fun d zs z=>by rw[upd_ne (ZA z hTn)];exact z
  have un:Un (P0 X.stack) [e,it] H (upd H s.heap.objs.size (.tup [.int i,x])) s.heap h2:=by
   refine⟨fun c o q _ _ hx'=>kk c o hx' q,fun c o q _ _ hx'=>⟨o.slots,kk c o hx' q⟩,fun c o q n _=>?_,fun c o q hx'=>⟨o,kk c o hx' q⟩,fun c zs q=>?_,fun c o zs q=>?_,fun c ps q=>⟨#[],?_⟩⟩
   ·rw[upd_ne (Nat.ne_of_lt (Heap.lt_size q))];exact n
   ·rw[upd_ne (ZA q hTn)];exact q
   ·rw[upd_ne (ZA q hTn)];exact q
   ·rw[upd_ne (ZA q hTn),q];simp
  have I2:Inv X pins Z (upd H s.heap.objs.size (.tup [.int i,x])) { s with heap:=h2,toks:=tk+1 }:=I.call (g':=s.gens) (d':=s.drawn) un hok1 I.bare hcs
  refine⟨.ref s.heap.objs.size,upd H s.heap.objs.size (.tup [.int i,x]),I2,rfl,⟨_,x,hTn,rfl,rfl,fun zs hzs=>by rw[I.seqB_inj hzs hq];exact hx⟩,⟨⟨y,by simpa using he2⟩,?_⟩,fun c hc'=>?_⟩
  ·exact hs'.1.at fun o q=>hs2.extBut it o (Ne.symm hei) q
  ·rw[upd_ne (Nat.ne_of_lt (by
    rcases List.mem_cons.mp hc' with rfl | hc'
    ·exact Heap.lt_size he
    ·rw[List.mem_singleton.mp hc'];obtain⟨o,q,_⟩:=hit.has;exact Heap.lt_size q))]
   exact(hf c hc').1
 done:=by
  intro X hP hw hK hc i pins s Z H E I hf st hg
  subst hP hw hK
  obtain⟨xs,hq,hx⟩:=hg
  obtain⟨its,rv,p,hz⟩:=I.seqB hq
  obtain⟨⟨old,he⟩,hit⟩:=st
  have fi:=hf it (by simp)
  obtain⟨oa,hoa⟩:=p.has
  have ai:a≠it:=fun z=>by
   subst z
   cases b with
   | true=>
    obtain⟨o,e1,_,m,d⟩:=(show s.heap.IsList a its.toArray from p)
    obtain⟨o',e2,_,d2⟩:=(show s.heap.IsListIter a a i from hit)
    rw[e1] at e2;cases e2;rw[d] at d2;cases d2
   | false=>
    obtain⟨o,e1,_,m,d⟩:=(show s.heap.IsTuple a its.toArray from p)
    obtain⟨o',e2,_,d2⟩:=(show s.heap.IsTupleIter a a i from hit)
    rw[e1] at e2;cases e2;rw[d] at d2;cases d2
  have D:=Draws.seq (prog:=X.prog) (w:=X.w) (A:=X.A.in1) b (I.ok.hd hc) it a ai its.toArray
  have hl:=rv.length
  have hi:i=its.toArray.size:=by simp;omega
  refine wpAny_pyNext_enum_endD D he (by rw[<-hi];exact⟨hit,p⟩) fun h' hx'=>⟨rfl,?_⟩
  obtain⟨f0,f1,f2,f3,f4,f5⟩:=fi
  exact I.turned (t':=s.toks) (fun c o hb q=>hx' c o hb q) f0 f1 f3 f4 f5
 self:=fun A i s Q E st hQ=>by
  obtain⟨⟨old,he⟩,_⟩:=st
  exact wpAny_pyIter_enum he hQ
end L2
namespace L2
open PySem PySem.Spec PyProof.Rows
section
variable {X:Cx}
def Fm(b:Bool)(K:PySem.W.Frag)(ta:TA):TI:=fun Z H R=>ta Z H fun vs H1=>∃a,vs=[.ref a]/\(∃xs,Ir b K H1 a xs)/\R (EL b K a) H1
theorem Jg{elts:List Expr}{k:Nat}{tpos:Pos}(b:Bool){a:Expr}{ta:TA}{p pos:Pos}(hg:Gl X "enumerate")(hm:X.mg "enumerate" = none)(ha:PA X [a] ta)(hs:starEach [a] X.env=[(false,eval a X.env)]:=by rfl) :
  PI X (.Tuple elts k tpos) (.Call (.Name "enumerate" p) [a] [] pos) (Fm b X.K ta):=by
 intro pins s Z H R I h
 refine Call_ (Ub I hg hm (by decide +kernel:bootBuiltins "enumerate" = some (.type "enumerate")) (PyProof.Rows.callWith_type1 (Ya (ha pos pins s Z H _ I h) fun us s1 ⟨vs,H1,I1,r1,q1⟩=>?_) hs rfl))
 obtain⟨a,e,⟨xs,hq⟩,q⟩:=q1
 subst e
 cases r1 with
 | cons r rr=>
  cases rr;cases r
  obtain⟨its,rv,hseq,hz⟩:=I1.seqB hq
  refine Rp hseq fun h' he hit hsz hk=>?_
  refine wpAny_pyIter_enum he ?_
  have I2:Inv X pins Z H1 { s1 with heap:=h' }:=I1.kept (t':=s1.toks) hk
  have ne:s1.heap.objs.size+1≠s1.heap.objs.size:=Nat.ne_of_gt (Nat.lt_succ_self _)
  refine⟨s1.heap.objs.size+1,[s1.heap.objs.size+1,s1.heap.objs.size],_,_,H1,rfl,I2,Mm b a (s1.heap.objs.size+1) s1.heap.objs.size ne,⟨⟨.none,he⟩,hit⟩,fun c hc=>?_,q⟩
  rcases List.mem_cons.mp hc with rfl | hc
  ·exact I1.fpOk (Nat.le_succ _) (I1.hok.fresh (Nat.le_succ _))
  ·rw[List.mem_singleton.mp hc]
   exact I1.fpOk (Nat.le_refl _) (I1.hok.fresh (Nat.le_refl _))
end
section
variable {prog:Program} {w:World} {A:Around} {E:Value->Shared->Prop} {s:Shared}
theorem Qh{d:Addr}{o:Obj}{es:Array DictEntry}{ep:Nat}{Q:Value->Shared->Prop}(hd:(d==sysModules)=false)(ho:s.heap.get? d=some o)(hc:o.ExactDict)(hdat:o.data = .dict es ep)
  (hQ:Q (.ref s.heap.objs.size) { s with heap:=s.heap.push { cls:=.type "dict_keyiterator",data:=.fields #[.ref d,.int 0 0,.int es.size 0,.int ep 0] } }) :
  wpAny (model prog w) A (pyIter (.ref d)) Q E s:=by
 have hT:s.TypeIs (.ref d) "dict":=⟨o,ho,hc.1⟩
 refine wpAny_pyIter_slot hT F.slot_dict_iter (wpAny_call_entry F.slot_dict_iter hT F.entry_dict_iter ?_ (F.args_dict_iter_1 _))
 unfold Builtin.«dict.__iter__»
 refine wpAny_bind ?_
 unfold Builtin.Dict.dictSlotNone
 refine wpAny_bind (wpAny_notOrdered_dict hT ?_)
 show wpAny _ _ (pure (Value.ref d)) _ _ s
 refine wpAny_pure ?_
 show wpAny _ _ (Builtin.Dict.showsAll d >>= _) _ _ s
 unfold Builtin.Dict.showsAll
 rw[if_neg (by rw[hd];exact Bool.false_ne_true)]
 refine wpAny_bind (wpAny_pure ?_)
 refine wpAny_bind (wpAny_dictEntries ho hdat ?_)
 refine wpAny_bind (wpAny_dictEpoch ho hdat ?_)
 refine wpAny_bind (wpAny_newObj_type (wpAny_pure ⟨_,rfl,"dict_keyiterator",_,⟨_,Heap.get?_push_size _ rfl,rfl⟩,F.slot_dict_keyiterator_next.lookup,?_⟩))
 simpa [rawInt] using hQ
theorem Uz{it d:Addr}{i ep:Nat}{od:Obj}{es:Array DictEntry}{e:DictEntry}{Q:Option Value->Shared->Prop}(hit:s.heap.IsKeyIter it d i es.size ep)
  (hod:s.heap.get? d=some od) (hdd:od.data = .dict es ep) (hx:es[i]?=some e)
  (hQ:∀h',h'.IsKeyIter it d (i+1) es.size ep->Heap.SameBut it s.heap h'->Q (some e.key) { s with heap:=h' }) :
  wpAny (model prog w) A (pyNext (.ref it)) Q E s:=by
 obtain⟨o,ho,hc,hd⟩:=id hit
 unfold pyNext
 refine wpAny_bind (wpAny_attempt (wpAny_callSpecial?_slot (name:=Str.ofString "__next__") hit.typeIs F.slot_dict_keyiterator_next
  (wpAny_call_entry F.slot_dict_keyiterator_next hit.typeIs F.entry_dict_keyiterator_next ?_ (F.args_dict_keyiterator_next_1 _))))
 refine wpAny_bind (wpAny_pure ?_)
 refine wpAny_bind ?_
 refine wpAny_bind ?_
 first | refine wpAny_bind (wpAny_typeNameOfWhole_keyiter hit.typeIs (wpAny_pure ?_)) | refine wpAny_bind (wpAny_typeNameOf_keyiter hit.typeIs (wpAny_pure ?_))
 refine wpAny_bind (wpAny_fieldsOf ho hd ?_)
 have hown:Builtin.Dict_items.ownsTuple "dict_keyiterator" = false:=by decide
 simp only[hown,Bool.false_eq_true,if_false]
 show wpAny _ _ (if(Value.ref d==Value.none)=true then _ else _) _ _ s
 rw[if_neg (show ¬((Value.ref d==Value.none)=true) from Bool.false_ne_true)]
 refine wpAny_bind (wpAny_pure ?_)
 refine wpAny_bind (wpAny_dictEntries hod hdd ?_)
 rw[if_neg (by simp)]
 refine wpAny_bind (wpAny_pure ?_)
 refine wpAny_bind (wpAny_dictEpoch hod hdd ?_)
 rw[if_neg (by simp)]
 refine wpAny_pure ?_
 obtain⟨hlt',he⟩:=Array.getElem?_eq_some_iff.mp hx
 subst he;simp only[show ¬((i:Int)<0) from by omega,if_false,Int.toNat_natCast,Array.getElem?_eq_getElem hlt']
 refine wpAny_bind ?_
 first | refine wpAny_bind (wpAny_typeNameOfWhole_keyiter hit.typeIs (wpAny_pure ?_)) | refine wpAny_bind (wpAny_typeNameOf_keyiter hit.typeIs (wpAny_pure ?_))
 refine wpAny_bind (wpAny_isOneOf_keyiter hit.typeIs ?_)
 show wpAny _ _ (setField (.ref it) 1 (rawInt ((i:Int)+1)) >>= _) _ _ s
 refine wpAny_bind (wpAny_setField ho hd (by simp) ?_)
 have hit':(s.heap.update it (Obj.mapFields (·.setIfInBounds 1 (rawInt ((i:Int)+1))))).IsKeyIter it d (i+1) es.size ep:=
  ⟨_,Heap.get?_update_self _ ho (Obj.isFreed_of_fields (Obj.data_mapFields hd _)),(Obj.cls_mapFields ..).trans hc,by rw[Obj.data_mapFields hd];simp[rawInt]⟩
 refine wpAny_bind (wpAny_holding ?_)
 refine wpAny_bind (wpAny_isOneOf_keyiter (s:={ s with heap:=s.heap.update it (Obj.mapFields (·.setIfInBounds 1 (rawInt ((i:Int)+1)))) }) hit'.typeIs ?_)
 show wpAny _ _ (pure es[i].key) _ _ _
 exact wpAny_pure (wpAny_pure ⟨_,rfl,wpAny_pure (hQ _ hit' (Heap.SameBut.update ..))⟩)
theorem U9{it d:Addr}{ep:Nat}{od:Obj}{es:Array DictEntry}{Q:Option Value->Shared->Prop}(hh:A.handled=none)(hit:s.heap.IsKeyIter it d es.size es.size ep)
  (hod:s.heap.get? d=some od) (hdd:od.data = .dict es ep)
  (hQ:∀h',Heap.ExtBut it s.heap h'->Q none { s with heap:=h' }):wpAny (model prog w) A (pyNext (.ref it)) Q E s:=by
 obtain⟨o,ho,hc,hd⟩:=id hit
 unfold pyNext
 refine wpAny_bind (wpAny_attempt (wpAny_callSpecial?_slot (name:=Str.ofString "__next__") hit.typeIs F.slot_dict_keyiterator_next
  (wpAny_call_entry F.slot_dict_keyiterator_next hit.typeIs F.entry_dict_keyiterator_next ?_ (F.args_dict_keyiterator_next_1 _))))
 refine wpAny_bind (wpAny_pure ?_)
 refine wpAny_bind ?_
 refine wpAny_bind ?_
 first | refine wpAny_bind (wpAny_typeNameOfWhole_keyiter hit.typeIs (wpAny_pure ?_)) | refine wpAny_bind (wpAny_typeNameOf_keyiter hit.typeIs (wpAny_pure ?_))
 refine wpAny_bind (wpAny_fieldsOf ho hd ?_)
 have hown:Builtin.Dict_items.ownsTuple "dict_keyiterator" = false:=by decide
 simp only[hown,Bool.false_eq_true,if_false]
 show wpAny _ _ (if(Value.ref d==Value.none)=true then _ else _) _ _ s
 rw[if_neg (show ¬((Value.ref d==Value.none)=true) from Bool.false_ne_true)]
 refine wpAny_bind (wpAny_pure ?_)
 refine wpAny_bind (wpAny_dictEntries hod hdd ?_)
 rw[if_neg (by simp)]
 refine wpAny_bind (wpAny_pure ?_)
 refine wpAny_bind (wpAny_dictEpoch hod hdd ?_)
 rw[if_neg (by simp)]
 refine wpAny_pure ?_
 simp only[show ¬((es.size:Int)<0) from by omega,if_false,Int.toNat_natCast,Array.getElem?_eq_none (Nat.le_refl es.size)]
 refine wpAny_bind ?_
 first | refine wpAny_bind (wpAny_typeNameOfWhole_keyiter hit.typeIs (wpAny_pure ?_)) | refine wpAny_bind (wpAny_typeNameOf_keyiter hit.typeIs (wpAny_pure ?_))
 show wpAny _ _ (setField (.ref it) 0 .none >>= _) _ _ s
 refine wpAny_bind (wpAny_setField ho hd (by simp) ?_)
 show wpAny _ _ (newExc (.type "StopIteration") [] >>= _) _ _ _
 refine wpAny_bind ?_
 simp only[newExc,newTuple]
 refine wpAny_bind (wpAny_newObj_type ?_ (by size_fits))
 refine wpAny_bind (m:=firstArgMember _ _) (wpAny_of_eq (a:=Value.none) (by first | rfl | (simp only[firstArgMember];rfl)) ?_)
 refine wpAny_newObj_type ?_ (by size_fits)
 simp only[raiseNew]
 refine wpAny_bind (wpAny_handled ?_)
 rw[show A.in1.handled=none from hh]
 refine wpAny_bind (wpAny_pure (wpAny_throw ?_))
 refine wpAny_bind (wpAny_isInstance (T:="StopIteration") (b:=true) ⟨_,Heap.get?_push_size _ rfl,rfl⟩ isSubtype_stop ?_)
 exact wpAny_pure (hQ _ (((Heap.SameBut.update ..).extBut.push _).push _))
end
def Jh(d:Addr)(o:Obj)(kvs:List (List Ys×V)):It:=
  ⟨fun i H=>H d=some (.frz o (.dT kvs))/\i<kvs.length,
   fun i H v H'=>H'=H/\∃b k y,kvs[i]?=some (k,y)/\v = .ref b/\H b=some (.tup (k.map kV)),
   fun i H=>H d=some (.frz o (.dT kvs))/\i=kvs.length⟩
theorem KT.get{H:Hp}:∀{kvs:List (List Ys×V)}{xs:List (List Ys×Addr×Value)}{i:Nat}{p:List Ys×V},KT H kvs xs->kvs[i]?=some p->∃q,xs[i]?=some q/\p.1=q.1/\H q.2.1=some (.tup (p.1.map kV))/\RelV p.2 q.2.2
 | _,_,_,_,.nil,e=>by simp at e
 | _,_,0,_,.cons r _,e=>by simp at e;subst e;exact⟨_,rfl,r⟩
 | _,_,i+1,p,.cons _ t,e=>by
  obtain⟨q,h1,h2⟩:=KT.get (i:=i) (p:=p) t (by simpa using e)
  exact⟨q,by simpa using h1,h2⟩
theorem Mn{P:Program}{w:World}{K:PySem.W.Frag}{tg:Expr}(d it:Addr)(o:Obj)(es:Array DictEntry)(ep:Nat)(kvs:List (List Ys×V))(ho:o.data = .dict es ep)(hlen:es.size=kvs.length) :
  N3 P w K tg (Jh d o kvs) [it] it (fun i h=>h.IsKeyIter it d i es.size ep) where
 mem:=by simp
 obj:=fun i h st b hb=>by
  rw[List.mem_singleton.mp hb]
  obtain⟨o,e,c,q⟩:=st
  exact⟨o,e,fun v z=>by rw[q] at z;cases z⟩
 keep:=fun i h h' st k=>by
  obtain⟨o,e,r⟩:=st
  exact⟨o,k it (by simp) o e,r⟩
 item:=by
  intro X hP hw hK hc i pins s Z H E I hf st hg
  subst hP hw hK
  obtain⟨hd,hi⟩:=hg
  obtain⟨e1,z,y,xs,r,o',es',ep',h1,h2,h3,h4,h5⟩:=(show ObjOk X.prog X.w H s.heap d (.frz o (.dT kvs)) from I.hok d _ hd)
  rw[e1] at h1;cases h1
  rw[ho] at h3;cases h3
  have hk:kvs[i]?=some kvs[i]:=List.getElem?_eq_getElem hi
  obtain⟨q,hq,eq,hb,rv⟩:=KT.get r hk
  have he:es[i]?=some (entryOfKey (tupleKind (YB X.prog X.w)) q):=by
   have:=congrArg (fun l=>l[i]?) h4
   simp only[List.getElem?_map,hq,Option.map_some] at this
   simpa using this
  obtain⟨f0,f1,f2,f3,f4,f5⟩:=hf it (by simp)
  refine Uz st e1 ho he fun h' st' sb=>?_
  have I1:Inv X pins Z H { s with heap:=h' }:=I.turned (t':=s.toks) (fun b o hb e=>(sb.2 b hb).trans e) f0 f1 f3 f4 f5
  obtain⟨o2,e2,c2,d2⟩:=id st'
  exact⟨_,rfl,Ld (s:={ s with heap:=h' }) e2 c2 d2 (by decide) ⟨.ref q.2.1,H,I1,rfl,⟨rfl,q.2.1,_,_,hk,rfl,hb⟩,st',fun b hb=>(hf b hb).1⟩⟩
 done:=by
  intro X hP hw hK hc i pins s Z H E I hf st hg
  subst hP hw hK
  obtain⟨hd,hi⟩:=hg
  obtain⟨e1,_⟩:=(show ObjOk X.prog X.w H s.heap d (.frz o (.dT kvs)) from I.hok d _ hd)
  obtain⟨f0,f1,f2,f3,f4,f5⟩:=hf it (by simp)
  rw[hi,<-hlen] at st
  exact U9 (I.ok.hd hc) st e1 ho fun h' eb=>⟨rfl,I.turned (t':=s.toks) (fun b o hb e=>eb b o hb e) f0 f1 f3 f4 f5⟩
 self:=fun A i s Q E st hQ=>by
  refine wpAny_pyIter_slot st.typeIs F.slot_dict_keyiterator_iter (wpAny_call_entry F.slot_dict_keyiterator_iter st.typeIs F.entry_dict_keyiterator_iter ?_ (F.args_dict_keyiterator_iter_1 _))
  show wpAny _ _ (ret (.ref it)) _ _ s
  exact wpAny_pure ⟨_,rfl,"dict_keyiterator",_,st.typeIs,F.slot_dict_keyiterator_next.lookup,hQ⟩
section
variable {X:Cx} {tg:Expr}
theorem Inv.freeze{pins:List (Addr×Obj)}{Z:St}{H:Hp}{s:Shared}{d:Addr}{kvs:List (List Ys×V)}{o:Obj}(I:Inv X pins Z H s)(hd:H d=some (.dT kvs))(ho:s.heap.get? d=some o) :
  Inv X pins Z (upd H d (.frz o (.dT kvs))) s:=by
 have ne:∀b u,H b=some u->(∀k,u≠.dT k)->b≠d:=fun b u q n z=>by rw[z,hd] at q;exact n _ (Option.some.inj q).symm
 have nn:∀b,H b=none->b≠d:=fun b q z=>by rw[z,hd] at q;cases q
 have un:Un X.fs [] H (upd H d (.frz o (.dT kvs))) s.heap s.heap:=
  ⟨fun b o q _ _ _=>q,fun b o q _ _ _=>⟨o.slots,q⟩,fun b o q n _=>by rw[upd_ne (nn b n)];exact n,fun b o q _=>⟨o,q⟩,
   fun b xs q=>by rw[upd_ne (ne b _ q fun _ z=>nomatch z)];exact q,fun b o u q=>by rw[upd_ne (ne b _ q fun _ z=>nomatch z)];exact q,fun b ps q=>⟨#[],by rw[upd_ne (ne b _ q fun _ z=>nomatch z),q];simp⟩⟩
 have hok:HOk X.prog X.w (upd H d (.frz o (.dT kvs))) s.heap:=fun b u q=>by
  have hown:∀c y,H c=some (.own y)->upd H d (.frz o (.dT kvs)) c=some (.own y):=fun c y z=>by rw[upd_ne (ne c _ z fun _ z=>nomatch z)];exact z
  have htup:∀c xs,H c=some (.tup xs)->upd H d (.frz o (.dT kvs)) c=some (.tup xs):=fun c y z=>by rw[upd_ne (ne c _ z fun _ z=>nomatch z)];exact z
  by_cases hb:b=d
  ·subst hb
   rw[upd_same] at q;cases q
   exact⟨ho,(I.hok b _ hd).stay (fun _ _ _ z=>z) (fun c z=>hown c _ z) htup⟩
  ·rw[upd_ne hb] at q
   exact(I.hok b u q).stay (fun _ _ _ z=>z) (fun c z=>hown c _ z) htup
 have:=I.un (t':=s.toks) un hok
 exact this
def Q9(tl:TE):TI:=fun Z H R=>tl Z H fun x H1=>∃d kvs,x = .ref d/\((H1 d=some (.dT kvs)/\∀o,R (Jh d o kvs) (upd H1 d (.frz o (.dT kvs))))\/∃o,H1 d=some (.frz o (.dT kvs))/\R (Jh d o kvs) H1)
theorem TZ{l:Expr}{tl:TE}(hl:PE X l tl):PI X tg l (Q9 tl):=by
 intro pins s Z H R I h
 refine Ya (hl pins s Z H _ I h) fun v s1 ⟨x,H1,I1,r1,q1⟩=>?_
 obtain⟨d,kvs,e,q⟩:=q1
 subst e;cases r1
 have core:∀(o:Obj)(H2:Hp),Inv X pins Z H2 s1->H2 d=some (.frz o (.dT kvs))->R (Jh d o kvs) H2->wpAny (model X.prog X.w) X.A (pyIter (.ref d)) (Eh X pins Z tg R) X.xe s1:=fun o H2 I2 e2 q2=>by
  obtain⟨e1,z,y,xs,r,o',es,ep,h1,h2,h3,h4,h5⟩:=(show ObjOk X.prog X.w H2 s1.heap d (.frz o (.dT kvs)) from I2.hok d _ e2)
  rw[e1] at h1;cases h1
  have hsz:es.size=kvs.length:=by
   have a1:=congrArg List.length h4;have a2:=Paired.length r;simp only[Array.length_toList,List.length_map] at a1;omega
  refine Qh y e1 h2 h3 ?_
  refine⟨s1.heap.objs.size,[s1.heap.objs.size],_,_,H2,rfl,I2.kept (t':=s1.toks) fun b o e=>Heap.get?_push_of_some _ e,Mn d _ o es ep kvs h3 hsz,⟨_,Heap.get?_push_size _ rfl,rfl,rfl⟩,fun b hb=>?_,q2⟩
  rw[List.mem_singleton.mp hb]
  exact I2.fpOk (Nat.le_refl _) (I2.hok.fresh (Nat.le_refl _))
 rcases q with⟨hd,q⟩ | ⟨o,hd,q⟩
 ·obtain⟨z,y,xs,r,o,es,ep,h1,h2,h3,h4,h5⟩:=(show ObjOk X.prog X.w H1 s1.heap d (.dT kvs) from I1.hok d _ hd)
  exact core o _ (I1.freeze hd h1) upd_same (q o)
 ·exact core o H1 I1 hd q
end
section
variable {X:Cx}
theorem TH:X1 X (.builtin "isinstance") (fun xs H Q=>∃x T t b,xs=[x,.ty T]/\TyOf X.K H x t/\PySem.W.kitOne X.K t (.type T)=some b/\Q (.bl b) H):=by
 intro pins s Z H xs us Q I r h
 obtain⟨x,T,t,b,rfl,ht,hk,q⟩:=h
 obtain⟨u,v,rfl,ru,rv⟩:=O6 r
 cases rv
 exact Mb I ru ht hk fun tk=>⟨.bl b,H,I.tok tk,rfl,q⟩
theorem Pa{K:PySem.W.Frag}:PySem.W.kitOne K (.type "int") (.type "int")=some true:=rfl
theorem Qi{K:PySem.W.Frag}:PySem.W.kitOne K (.type "int") (.type "bool")=some false:=by first | rfl | decide | (unfold PySem.W.kitOne;rw[if_neg (by decide)];first | rfl | decide | kernel_rfl)
theorem Pb{K:PySem.W.Frag}:PySem.W.kitOne K (.type "tuple") (.type "tuple")=some true:=rfl
theorem Rq{K:PySem.W.Frag}:PySem.W.kitOne K (.type "list") (.type "list")=some true:=rfl
theorem Pc{K:PySem.W.Frag}:PySem.W.kitOne K (.type "str") (.type "str")=some true:=rfl
def Nh:V->List V->Hp->VK->Prop:=fun x vs H Q=>∃l xs k y,x = .ref l/\vs=[.int k,y]/\H l=some (.lst xs)/\0<=k/\k<2^63/\xs.length<sizeLine/\Q .non (upd H l (.lst (xs.take k.toNat++y::xs.drop k.toNat)))
theorem Mo:Er X "list.insert" Nh:=by
 intro pins s Z H x vs v us Q I rx rv h
 obtain⟨l,xs,k,y,rfl,rfl,hH,h0,h1,hz,q⟩:=h
 cases rx
 obtain⟨u1,u2,rfl,r1,r2⟩:=rv.two
 obtain⟨t,rfl⟩:=r1
 obtain⟨z,its,n,r,hl,e⟩:=I.lstM hH
 have hfit:¬(!Builtin.List.listFitsIndex k)=true:=by
  rw[fitsIndex_both (by omega) h1];exact Bool.false_ne_true
 refine call_meets F.slot_list_insert ⟨_,e,rfl⟩ F.entry_list_insert (F.args_list_insert_3 _ _ _) (AutoListH.list_insert_list_int_val_1 l its.toArray n k t u2 hfit (by rw[List.size_toArray];omega)) ⟨e,?_⟩
 refine⟨.non,_,I.lset (its':=its.take k.toNat++u2::its.drop k.toNat) hH e ?_ ((r.take k.toNat).append (.cons r2 (r.drop k.toNat))) ?_,rfl,q⟩
 ·show(have j:=if k<0 then(k+((its.toArray.size:Nat):Int)).toNat else min k.toNat its.toArray.size;(its.toArray.extract 0 j).push u2++its.toArray.extract j)=_
  rw[if_neg (by omega)]
  dsimp only
  by_cases hle:k.toNat<=its.length
  ·rw[Nat.min_eq_left (by rw[List.size_toArray];exact hle)]
   simp
   rw[List.take_of_length_le (by rw[List.length_drop];exact Nat.le_refl _)]
  ·rw[Nat.min_eq_right (by rw[List.size_toArray];omega)]
   rw[List.take_of_length_le (by omega),List.drop_eq_nil_of_le (by omega)]
   simp
 ·rw[List.length_append,List.length_cons,List.length_take,List.length_drop]
  omega
end
def TK(H H':Hp):Prop:=∀b xs,H b=some (.tup xs)->H' b=some (.tup xs)
theorem Same.tk{H H':Hp}(s:Same H H'):TK H H':=fun b xs h=>s b _ h
theorem Same.new{H:Hp}{p:Addr}(h:H p=none)(o:HO):Same H (upd H p o):=fun b u q=>by rw[upd_ne (ZA q h)];exact q
class Rep(α:Type) where
 is:Hp->V->α->Prop
 keep:∀{H H':Hp}{v:V}{a:α},TK H H'->is H v a->is H' v a
 inj:∀{H:Hp}{v:V}{a a':α},is H v a->is H v a'->a=a'
 dep:Nat
 eqA:∀{X:Cx}{pins:List (Addr×Obj)}{Z:St}{H:Hp}{s:Shared}{v v':V}{a a':α}{u u':Value}{A:Around},Inv X pins Z H s->A.units+dep<cLine->is H v a->is H v' a'->RelV v u->RelV v' u'->
  ∃b,SeqAt.EqAt A s u u' b/\(b=true↔a=a')
instance:Rep Int where
 is:=fun _ v i=>v = .int i
 keep:=fun _ h=>h
 inj:=fun{H v a a'} h h'=>by subst h;exact V.int.inj h'
 dep:=0
 eqA:=fun{X pins Z H s v v' a a' u u' A} _ _ h h' r r'=>by
  subst h;subst h'
  obtain⟨t,rfl⟩:=r
  obtain⟨t',rfl⟩:=r'
  exact⟨_,SeqAt.EqAt.int_int a t a' t',by simp⟩
instance:Rep Bool where
 is:=fun _ v i=>v = .bl i
 keep:=fun _ h=>h
 inj:=fun{H v a a'} h h'=>by subst h;exact V.bl.inj h'
 dep:=0
 eqA:=fun{X pins Z H s v v' a a' u u' A} _ _ h h' r r'=>by
  subst h;subst h'
  cases r
  cases r'
  exact⟨_,SeqAt.EqAt.bool_bool a a',by simp⟩
instance:Rep Str where
 is:=fun _ v i=>v = .str i
 keep:=fun _ h=>h
 inj:=fun{H v a a'} h h'=>by subst h;exact V.str.inj h'
 dep:=0
 eqA:=fun{X pins Z H s v v' a a' u u' A} _ _ h h' r r'=>by
  subst h;subst h'
  obtain⟨t,rfl⟩:=r
  obtain⟨t',rfl⟩:=r'
  exact⟨_,SeqAt.EqAt.str_str a t a' t',by simp⟩
abbrev Items{α:Type}[Rep α](H:Hp):List V->List α->Prop:=Paired (Rep.is H)
section
variable {α:Type} [Rep α]
theorem Items.keep{H H':Hp}(k:TK H H'){xs:List V}{l:List α}(h:Items H xs l):Items H' xs l:=Paired.mapP h fun _ _ z=>Rep.keep k z
theorem Items.len{H:Hp}{xs:List V}{l:List α}(h:Items H xs l):xs.length=l.length:=Paired.length h
end
theorem Items.inj{α:Type}[Rep α]{H:Hp}:∀{xs:List V}{l m:List α},Items H xs l->Items H xs m->l=m
 | _,_,_,.nil,.nil=>rfl
 | _,_,_,.cons r t,.cons r' t'=>by rw[Rep.inj r r',Items.inj t t']
theorem Items.eqs{α:Type}[Rep α]{X:Cx}{pins:List (Addr×Obj)}{Z:St}{H:Hp}{s:Shared}{A:Around}(I:Inv X pins Z H s)(hu:A.units+Rep.dep α<cLine) :
  ∀{xs ys:List V}{l m:List α}{us ws:List Value},Items H xs l->Items H ys m->Vals xs us->Vals ys ws->
  ∃e:Nat->Bool,(∀j (h1:j<us.length) (h2:j<ws.length),SeqAt.EqAt A s us[j] ws[j] (e j))/\((List.range (min us.length ws.length)).all e=true↔l.take (min us.length ws.length)=m.take (min us.length ws.length))
 | _,_,_,_,_,_,.nil,_,.nil,_=>⟨fun _=>true,fun j h1=>by simp at h1,by simp⟩
 | _,_,_,_,_,_,.cons _ _,.nil,.cons _ _,.nil=>⟨fun _=>true,fun j h1 h2=>by simp at h2,by simp⟩
 | _,_,_,_,_,_,.cons r t,.cons r' t',.cons q v,.cons q' v'=>by
  obtain⟨b,hb,hb'⟩:=Rep.eqA I hu r r' q q'
  obtain⟨e,he,he'⟩:=Items.eqs I hu t t' v v'
  refine⟨fun j=>match j with | 0=>b | k+1=>e k,fun j h1 h2=>?_,?_⟩
  ·cases j with
   | zero=>exact hb
   | succ k=>exact he k (by simpa using h1) (by simpa using h2)
  ·simp only[List.length_cons,Nat.succ_min_succ,List.range_succ_eq_map,List.all_cons,List.all_map,Bool.and_eq_true,List.take_succ_cons,List.cons.injEq]
   exact and_congr hb' he'
theorem Items.same{α:Type}[Rep α]{H:Hp}{xs ys:List V}{l m:List α}{us ws:List Value}(h:Items H xs l)(h':Items H ys m)(r:Vals xs us)(r':Vals ys ws) :
  (l.take (min us.length ws.length)=m.take (min us.length ws.length)/\us.length=ws.length)↔l=m:=by
 have e1:=h.len;have e2:=h'.len;have e3:=r.length;have e4:=r'.length;constructor
 ·rintro⟨a,b⟩
  rw[List.take_of_length_le (by omega),List.take_of_length_le (by omega)] at a;exact a
 ·intro a
  subst a
  exact⟨rfl,by omega⟩
abbrev ER(α:Type):Type:=List α
def Fo{α:Type}[Rep α](H:Hp)(v:V)(l:List α):Prop:=∃p xs,v = .ref p/\H p=some (.tup xs)/\Items H xs l
instance {α:Type} [Rep α]:Rep (ER α) where
 is:=fun H v l=>Fo (α:=α) H v l
 keep:=fun{H H' v a} k h=>by
  obtain⟨p,xs,e,hp,it⟩:=h
  exact⟨p,xs,e,k p xs hp,it.keep k⟩
 inj:=fun{H v a a'} h h'=>by
  obtain⟨p,xs,e,hp,it⟩:=h
  obtain⟨p',xs',e',hp',it'⟩:=h'
  rw[e] at e';cases e'
  rw[hp] at hp';cases hp'
  exact Items.inj it it'
 dep:=Rep.dep α+2
 eqA:=fun{X pins Z H s v v' a a' u u' A} I hu h h' r r'=>by
  obtain⟨p,xs,rfl,hp,it⟩:=h
  obtain⟨p',xs',rfl,hp',it'⟩:=h'
  cases r
  cases r'
  obtain⟨us,rv,q,_⟩:=I.tuple (SqT.of hp)
  obtain⟨us',rv',q',_⟩:=I.tuple (SqT.of hp')
  by_cases e:p=p'
  ·subst e
   refine⟨true,SeqAt.EqAt.same _,?_⟩
   rw[hp] at hp';cases hp'
   have:a=a':=Items.inj it it'
   simp[this]
  ·obtain⟨f,hf,hf'⟩:=Items.eqs (A:=A.in1) I (by show A.units+1+Rep.dep α<cLine;omega) it it' rv rv'
   refine⟨_,SeqAt.EqAt.of_refs e (SeqAt.RcAt.tuples (e:=f) (show s.heap.IsTuple p us.toArray from q) (show s.heap.IsTuple p' us'.toArray from q') (by omega) (fun j h1 h2=>hf j (by simpa using h1) (by simpa using h2))),?_⟩
   simp only[List.size_toArray,Bool.and_eq_true,beq_iff_eq];rw[hf']
   exact Items.same it it' rv rv'
structure Def(K:PySem.W.Frag)(mg:Str->Option Value)(x:Str)(st:Stmt):Prop where
 ex:∃f fd,mg x=some (.ref f)/\Fun K x x st f fd
theorem def_mk{K:PySem.W.Frag}{h:Heap}{mg:Str->Option Value}{x:Str}{st:Stmt}{f:Addr}{oc:Value}{od an:Option Addr}{osl:Array (Option Value)}{kV doc pm cdv ct:Value}(X:K.In h)(G:h.Ns mainGlobals mg)
  (a:PySem.W.nsIn K mainGlobals x=some (some (.ref f))) (l:K.lookup f=some ⟨oc,od,.func (PySem.W.fnOf x x (YT st) (Z7 st) (Zl st) .none kV doc pm an cdv ct),osl⟩)
  (c:PySem.W.codeIn K cdv x=true) (k:PySem.W.keepIn K (.ref f)=true):Def K mg x st:=⟨f,_,PySem.W.mg_of X G a,Oi (st:=st) l c k⟩
structure Vj(P:Program)(w:World)(K:PySem.W.Frag)(mg:Str->Option Value)(base:Heap)(x:Str)(ps:List Str)(sp:Sp)(k:Nat):Prop where
 ex:∃f fd,mg x=some (.ref f)/\PySem.W.keepIn K (.ref f)=true/\Binds K fd ps []/\Vg P w K mg base QT k f fd ps sp
section
variable {P:Program} {w:World} {K:PySem.W.Frag} {mg:Str->Option Value} {base:Heap}
theorem Def.cal{x:Str}{st:Stmt}{N ps:List Str}{k:Nat}{sp:Sp}(D:Def K mg x st)(S:ZU N ps (Zl st))
  (hb:∀(kV doc pm:Value)(an:Option Addr)(cdv ct:Value)(us:List Value),us.length=ps.length->bindArgs (PySem.W.fnOf x x (YT st) (Z7 st) (Zl st) .none kV doc pm an cdv ct) ⟨us,[]⟩=pure (ps.zip us))
  (len:∀vs H Q E,sp vs H Q E->vs.length=ps.length)
  (hbody:∀(f:Addr)(cdv:Value)(A:Around)(outer:List Env)(s:Shared)(H:Hp)(vs:List V)(Q:VK)(E:XK),Room k (A.deeper (envOfC x (Zl st) s.heap.objs.size f cdv))->sp vs H Q E->
   ∃t,PSs (U5 QT P w K mg base N x (Zl st) f cdv A outer s H E).nox (Z7 st) t/\t { nx:=fun _ H'=>Q .non H',rt:=Q } (start N vs) H):Vj P w K mg base x ps sp (k+1):=by
 obtain⟨f,fd,hm,F⟩:=D.ex
 exact⟨f,fd,hm,F.kp,F.binds hb,F.ok S len fun cdv A outer s H vs Q E hr h=>hbody f cdv A outer s H vs Q E hr h⟩
end
section
variable {X:Cx} {x:Str} {ps:List Str} {sp:Sp} {k:Nat} {e:Expr} {es:List Expr} {t:TA} {p pos:Pos}
theorem HJ(C:Vj X.prog X.w X.K X.mg X.base x ps sp k)(hr:Room k X.A)(hg:Gl X x)(ha:PA X (e::es) t)
  (hdb:(x==("__debug__" : Str))=false:=by decide) (he:starEach (e::es) X.env=(false,eval e X.env)::starEach es X.env:=by rfl) (hpl:(backTo pos (starEach es X.env)).any (·.1)=false:=by rfl) :
  PE X (.Call (.Name x p) (e::es) [] pos) (Il sp [] E0 t):=by
 obtain⟨f,fd,a,b,c,d⟩:=C.ex
 exact K1 d hr hg a b c .nil Fe ha hdb he hpl
end
def Vk(N:List Str)(around scope:Scope)(own fr:List Str)(ix:List Nat):Bool:=
 (match scope.kind with | .function=>true | _=>false)&&scope.names.all (fun y=>y.2 != .cell)&&scope.names.all (fun y=>y.2 != .local || scope.names.lookup y.1==some .local)&&
 scope.names.all (fun y=>y.2 != .free || (around.names.lookup y.1==some .cell || around.names.lookup y.1==some .free))&&(fr.map some==ix.map (fun i=>N[i]?))&&
 fr.all (fun x=>scope.names.contains (x,NameKind.free))&&fr.all (fun x=>scope.names.lookup x != some .local)
theorem RI{N:List Str}{around scope:Scope}{own fr:List Str}{ix:List Nat}(h:Vk N around scope own fr ix=true):CompScope N around scope own fr ix:=by
 unfold Vk at h;simp only[Bool.and_eq_true] at h
 obtain⟨⟨⟨⟨⟨⟨h1,h2⟩,h3⟩,h4⟩,h5⟩,h6⟩,h7⟩:=h
 refine⟨?_,fun y hy=>?_,fun y hy e=>?_,fun y hy e=>?_,by simpa using h5,fun x hx=>?_,fun x hx=>?_⟩
 ·split at h1
  ·assumption
  ·cases h1
 ·simpa using List.all_eq_true.mp h2 y hy
 ·have:=List.all_eq_true.mp h3 y hy
  rw[e] at this
  simpa using this
 ·have:=List.all_eq_true.mp h4 y hy
  rw[e] at this
  simpa using this
 ·simpa using List.all_eq_true.mp h6 x hx
 ·simpa using List.all_eq_true.mp h7 x hx
section
variable {X:Cx} {tg elt iter:Expr} {ifs:List Expr} {scope:Scope} {pos:Pos} {wi:TI} {g:TG} {tt:TT} {te:TE}
theorem Pd(own fr:List Str)(ix:List Nat)(hcalm:X.calm=true)(hi:PI X tg iter wi)(S:Vk X.N X.env.scope scope own fr ix=true)
  (hg:∀cl C s H ex,PG (ZC X (own++fr) scope cl C s H ex) tg g) (ht:∀cl C s H ex,M6 (ZC X (own++fr) scope cl C s H ex) ifs tt) (he:∀cl C s H ex,PE (ZC X (own++fr) scope cl C s H ex) elt te)
  (hs:∀x,foldedSetIterable iter X.env x=pure x:=by intro _;rfl):PE X (.ListComp elt [⟨tg,iter,ifs,0⟩] scope pos) (Sk own.length ix wi g tt te):=
 Je hcalm hi (RI S) hg ht he hs
theorem Pe(own fr:List Str)(ix:List Nat){i:Nat}{y:Str}{py spos:Pos}(hN:X.N.Nodup)(hy:X.N[i]?=some y)(hloc:X.env.scope.names.lookup y=some .local)(hcalm:X.calm=true)(hi:PI X tg iter wi)(S:Vk X.N X.env.scope scope own fr ix=true)
  (hg:∀cl C s H ex,PG (ZC X (own++fr) scope cl C s H ex) tg g) (ht:∀cl C s H ex,M6 (ZC X (own++fr) scope cl C s H ex) ifs tt) (he:∀cl C s H ex,PE (ZC X (own++fr) scope cl C s H ex) elt te)
  (hsw:swapsWith (.ListComp elt [⟨tg,iter,ifs,0⟩] scope pos) (some (.Name y py)) spos.line X.env=pure true:=by rfl)
  (hs:∀x,foldedSetIterable iter X.env x=pure x:=by intro _;rfl):PS X (.Assign [.Name y py] (.ListComp elt [⟨tg,iter,ifs,0⟩] scope pos) spos) (P7 (Sk own.length ix wi g tt te) (TC i)):=
 Jf hN hy hloc hcalm hi (RI S) hg ht he hsw hs
end
structure P1(mg:Str->Option Value):Prop where
 «len» : mg "len" = none
 «sum» : mg "sum" = none
 «range» : mg "range" = none
 «enumerate» : mg "enumerate" = none
 «zip» : mg "zip" = none
 «tuple» : mg "tuple" = none
 «list» : mg "list" = none
 «all» : mg "all" = none
 «any» : mg "any" = none
 «isinstance» : mg "isinstance" = none
 «int» : mg "int" = none
 «bool» : mg "bool" = none
 «str» : mg "str" = none
 «min» : mg "min" = none
 «max» : mg "max" = none
 «sorted» : mg "sorted" = none
 «abs» : mg "abs" = none
 «ValueError» : mg "ValueError" = none
 «reversed» : mg "reversed" = none
abbrev Ji(g:TG)(tb:TS)(D:Wu)(Z:St)(J:It)(H:Hp):Prop:=
 ∃W:Nat->Nat->St->Hp->Prop,(∃m,W 0 m Z H)/\∀i m Z H,W i m Z H->
   (J.stop i H/\D.nx Z H)\/(J.go i H/\∃N:St->Hp->Prop,(∀Z' H',N Z' H'->∃m',m'<m/\W (i+1) m' Z' H')/\∀x H',J.yld i H x H'->g x Z H' fun Z2 H2=>tb { D with nx:=N,ct:=N,bk:=D.nx } Z2 H2)
def Yr(l:List Int)(i:Nat):Int:=l.getD i 0
def ZL(w:List (List Int))(i:Nat):List Int:=w.getD i []
theorem Pf{w:List (List Int)}{i:Nat}(h:i<w.length):w[i]?=some (ZL w i):=by
 unfold ZL
 rw[List.getD_eq_getElem?_getD,List.getElem?_eq_getElem h];rfl
def Xp(w:List (List Int))(i j:Nat):Int:=Yr (ZL w i) j
structure Pg(w:List (List Int)):Prop where
 pos:1<=w.length
 few:w.length<=7
 sq:∀i,i<w.length->(ZL w i).length=w.length
 lo:∀i j,i<w.length->j<w.length->0<=Xp w i j
 hi:∀i j,i<w.length->j<w.length->Xp w i j<=9
 sym:∀i j,i<w.length->j<w.length->Xp w i j=Xp w j i
 dia:∀i,i<w.length->Xp w i i=0
def HK(K:PySem.W.Frag):List V->Hp->VK->Prop:=fun xs H Q=>∃p ys,xs=[.ref p]/\((SqL K H p ys/\∀l,H l=none->Q (.ref l) (upd H l (.tup ys)))\/(SqT K H p ys/\Q (.ref p) H))
def Jj(K:PySem.W.Frag):List V->Hp->VK->Prop:=fun xs H Q=>∃p ys,xs=[.ref p]/\(SqL K H p ys\/SqT K H p ys)/\∀l,H l=none->Q (.ref l) (upd H l (.lst ys))
theorem Same.off{H Hc:Hp}{p:Addr}(s:Same H Hc)(n:Hc p=none):H p=none:=s.free n
abbrev ZP:=Nat×Nat×Int
def Mp(e:ZP):List Ys×V:=([.inl (e.1:Int),.inl (e.2.1:Int)],.int e.2.2)
def dE(ts:List ZP):List (List Ys×V):=ts.map Mp
structure DictOk(n:Nat)(ts:List ZP):Prop where
 ok:∀e∈ts,e.1<e.2.1/\e.2.1<n/\1<=e.2.2/\e.2.2<=9
 nd:(ts.map fun e=>(e.1,e.2.1)).Nodup
theorem Qj{a b a' b':Nat}(h:([Sum.inl (a:Int),Sum.inl (b:Int)]:List Ys)=[Sum.inl (a':Int),Sum.inl (b':Int)]):a=a'/\b=b':=by
 have h1:=(List.cons.inj h).1
 have h2:=(List.cons.inj (List.cons.inj h).2).1
 have e1:=Sum.inl.inj h1;have e2:=Sum.inl.inj h2;omega
theorem DictOk.nil(n:Nat):DictOk n []:=⟨fun _ h=>by simp at h,by simp⟩
theorem Jk{ts:List ZP}{a b:Nat}:(∀t,(a,b,t)∉ts)->Vh (dE ts) [.inl (a:Int),.inl (b:Int)]=none:=by
 intro h;unfold Vh dE;rw[Option.map_eq_none_iff,List.find?_eq_none];intro x hx
 obtain⟨e,he,rfl⟩:=List.mem_map.mp hx
 intro q;have q:=of_decide_eq_true q
 obtain⟨h1,h2⟩:=Qj q
 obtain⟨a',b',t⟩:=e
 simp only at h1 h2
 subst h1 h2
 exact h t he
theorem HL{n:Nat}{ts:List ZP}{a b:Nat}{t:Int}(ok:DictOk n ts)(hab:a<b)(hb:b<n)(h1:1<=t)(h9:t<=9) :
  ∃ts',Wx (dE ts) [.inl (a:Int),.inl (b:Int)] (.int t)=dE ts'/\DictOk n ts'/\ts'.length<=ts.length+1:=by
 by_cases hm:∃t',(a,b,t')∈ts
 ·-- it is there: replaced
  obtain⟨t',hm⟩:=hm
  refine⟨ts.map fun e=>if(e.1,e.2.1)=(a,b) then(e.1,e.2.1,t) else e,?_,⟨?_,?_⟩,by simp⟩
  ·unfold Wx
   rw[if_pos ?_]
   ·unfold dE
    rw[List.map_map,List.map_map]
    apply List.map_congr_left
    intro e _
    show(if(Mp e).1=_ then((Mp e).1,V.int t) else Mp e)=Mp (if(e.1,e.2.1)=(a,b) then(e.1,e.2.1,t) else e)
    by_cases q:(e.1,e.2.1)=(a,b)
    ·rw[if_pos q,if_pos ?_]
     ·rfl
     ·have:=Prod.mk.inj q
      show([.inl (e.1:Int),.inl (e.2.1:Int)]:List Ys)=_
      rw[this.1,this.2]
    ·rw[if_neg q,if_neg ?_]
     intro z
     obtain⟨h1,h2⟩:=Qj (show([.inl (e.1:Int),.inl (e.2.1:Int)]:List Ys)=_ from z)
     exact q (by rw[h1,h2])
   ·rw[List.any_eq_true]
    exact⟨Mp (a,b,t'),List.mem_map.mpr ⟨_,hm,rfl⟩,decide_eq_true rfl⟩
  ·intro e he
   obtain⟨e',he',rfl⟩:=List.mem_map.mp he
   have:=ok.ok e' he'
   by_cases q:(e'.1,e'.2.1)=(a,b)
   ·rw[if_pos q];exact⟨this.1,this.2.1,h1,h9⟩
   ·rw[if_neg q];exact this
  ·rw[List.map_map]
   have e:((fun e:ZP=>(e.1,e.2.1)) ∘ fun e:ZP=>if(e.1,e.2.1)=(a,b) then(e.1,e.2.1,t) else e)=fun e:ZP=>(e.1,e.2.1):=by
    funext e
    show((if(e.1,e.2.1)=(a,b) then((e.1,e.2.1,t):ZP) else e).1,(if(e.1,e.2.1)=(a,b) then((e.1,e.2.1,t):ZP) else e).2.1)=_
    by_cases q:(e.1,e.2.1)=(a,b)
    ·rw[if_pos q]
    ·rw[if_neg q]
   rw[e];exact ok.nd
 ·have hn:∀t',(a,b,t')∉ts:=fun t' h=>hm ⟨t',h⟩
  refine⟨ts++[(a,b,t)],?_,⟨?_,?_⟩,by simp⟩
  ·rw[Ll _ (Jk hn)]
   unfold dE
   rw[List.map_append];rfl
  ·intro e he
   rcases List.mem_append.mp he with q | q
   ·exact ok.ok e q
   ·rw[List.mem_singleton.mp q];exact⟨hab,hb,h1,h9⟩
  ·rw[List.map_append]
   refine Qf ok.nd ?_
   rw[List.mem_map]
   rintro⟨e,he,q⟩
   obtain⟨a',b',t'⟩:=e
   have:=Prod.mk.inj q
   simp only at this
   rw[this.1,this.2] at he
   exact hn t' he
def YL(M:List (List Int))(a b:Nat)(t:Int):List (List Int):=M.set a ((ZL M a).set b t)
def Zy(M:List (List Int))(e:ZP):List (List Int):=YL (YL M e.1 e.2.1 e.2.2) e.2.1 e.1 e.2.2
def Vc(n:Nat)(ts:List ZP):List (List Int):=ts.foldl Zy (List.replicate n (List.replicate n 0))
structure MatOk(n:Nat)(M:List (List Int)):Prop where
 len:M.length=n
 row:∀i,i<n->(ZL M i).length=n
 lo:∀i j,i<n->j<n->0<=Xp M i j
 hi:∀i j,i<n->j<n->Xp M i j<=9
 sym:∀i j,i<n->j<n->Xp M i j=Xp M j i
 dia:∀i,i<n->Xp M i i=0
theorem RJ{M:List (List Int)}{a i:Nat}{r:List Int}(ha:a<M.length):ZL (M.set a r) i=if a=i then r else ZL M i:=by
 unfold ZL;rw[List.getD_eq_getElem?_getD,List.getD_eq_getElem?_getD,List.getElem?_set]
 by_cases h:a=i
 ·subst h;simp[ha]
 ·simp[h]
theorem Ni{l:List Int}{b j:Nat}{t:Int}(hb:b<l.length):Yr (l.set b t) j=if b=j then t else Yr l j:=by
 unfold Yr;rw[List.getD_eq_getElem?_getD,List.getD_eq_getElem?_getD,List.getElem?_set]
 by_cases h:b=j
 ·subst h;simp[hb]
 ·simp[h]
theorem UA{n:Nat}{M:List (List Int)}{a b i j:Nat}{t:Int}(hl:M.length=n)(hr:∀i,i<n->(ZL M i).length=n)(ha:a<n)(hb:b<n):Xp (YL M a b t) i j=if a=i/\b=j then t else Xp M i j:=by
 show Yr (ZL (M.set a ((ZL M a).set b t)) i) j=_
 rw[RJ (by omega)]
 by_cases h:a=i
 ·subst h
  rw[if_pos rfl,Ni (by rw[hr a ha];exact hb)]
  by_cases q:b=j
  ·rw[if_pos q,if_pos ⟨rfl,q⟩]
  ·rw[if_neg q,if_neg (fun z=>q z.2)];rfl
 ·rw[if_neg h,if_neg (fun z=>h z.1)];rfl
theorem Xt{n:Nat}{M:List (List Int)}{a b:Nat}{t:Int}(hl:M.length=n)(hr:∀i,i<n->(ZL M i).length=n)(ha:a<n):(YL M a b t).length=n/\∀i,i<n->(ZL (YL M a b t) i).length=n:=by
 refine⟨by unfold YL;rw[List.length_set];exact hl,fun i hi=>?_⟩
 show(ZL (M.set a ((ZL M a).set b t)) i).length=n
 rw[RJ (by omega)]
 split
 ·rw[List.length_set];exact hr a ha
 ·exact hr i hi
theorem MatOk.step{n:Nat}{M:List (List Int)}{e:ZP}(ok:MatOk n M)(h:e.1<e.2.1/\e.2.1<n/\1<=e.2.2/\e.2.2<=9):MatOk n (Zy M e):=by
 obtain⟨a,b,t⟩:=e
 obtain⟨hab,hb,h1,h9⟩:=h
 simp only at hab hb h1 h9
 have ha:a<n:=by omega
 obtain⟨l1,r1⟩:=Xt (t:=t) (b:=b) ok.len ok.row ha
 obtain⟨l2,r2⟩:=Xt (t:=t) (b:=a) l1 r1 hb
 have E:∀i j,Xp (YL (YL M a b t) b a t) i j=if b=i/\a=j then t else if a=i/\b=j then t else Xp M i j:=fun i j=>by
  rw[UA l1 r1 hb ha,UA ok.len ok.row ha hb]
 refine⟨l2,r2,fun i j hi hj=>?_,fun i j hi hj=>?_,fun i j hi hj=>?_,fun i hi=>?_⟩
 ·show 0<=Xp (YL (YL M a b t) b a t) i j
  rw[E];split
  ·omega
  ·split
   ·omega
   ·exact ok.lo i j hi hj
 ·show Xp (YL (YL M a b t) b a t) i j<=9
  rw[E];split
  ·omega
  ·split
   ·omega
   ·exact ok.hi i j hi hj
 ·show Xp (YL (YL M a b t) b a t) i j=Xp (YL (YL M a b t) b a t) j i
  rw[E,E];have s:=ok.sym i j hi hj
  by_cases q1:b=i/\a=j
  ·rw[if_pos q1]
   obtain⟨rfl,rfl⟩:=q1
   rw[if_neg (by omega),if_pos ⟨rfl,rfl⟩]
  ·rw[if_neg q1]
   by_cases q2:a=i/\b=j
   ·rw[if_pos q2]
    obtain⟨rfl,rfl⟩:=q2
    rw[if_pos ⟨rfl,rfl⟩]
   ·rw[if_neg q2,if_neg (fun z=>q2 ⟨z.2,z.1⟩),if_neg (fun z=>q1 ⟨z.2,z.1⟩),s]
 ·show Xp (YL (YL M a b t) b a t) i i=0
  rw[E,if_neg (by omega),if_neg (by omega)]
  exact ok.dia i hi
theorem MatOk.zero(n:Nat):MatOk n (List.replicate n (List.replicate n 0)):=by
 have r:∀i,i<n->ZL (List.replicate n (List.replicate n (0:Int))) i=List.replicate n 0:=fun i hi=>by
  unfold ZL
  rw[List.getD_eq_getElem?_getD,List.getElem?_replicate,if_pos hi];rfl
 have z:∀i j,i<n->j<n->Xp (List.replicate n (List.replicate n (0:Int))) i j=0:=fun i j hi hj=>by
  show Yr (ZL _ i) j=0
  rw[r i hi];unfold Yr
  rw[List.getD_eq_getElem?_getD,List.getElem?_replicate,if_pos hj];rfl
 exact⟨by simp,fun i hi=>by rw[r i hi];simp,fun i j hi hj=>by rw[z i j hi hj];omega,fun i j hi hj=>by rw[z i j hi hj];omega,fun i j hi hj=>by rw[z i j hi hj,z j i hj hi],fun i hi=>z i i hi hi⟩
theorem X2{n:Nat}{ts:List ZP}(ok:DictOk n ts):MatOk n (Vc n ts):=by
 have gen:∀(l:List ZP)(M:List (List Int)),(∀e∈l,e.1<e.2.1/\e.2.1<n/\1<=e.2.2/\e.2.2<=9)->MatOk n M->MatOk n (l.foldl Zy M):=by
  intro l
  induction l with
  | nil=>intro M _ h;exact h
  | cons e r ih=>
   intro M h hM;rw[List.foldl_cons]
   exact ih _ (fun e' he'=>h e' (List.mem_cons_of_mem _ he')) (hM.step (h e List.mem_cons_self))
 exact gen ts _ ok.ok (MatOk.zero n)
theorem MatOk.web{n:Nat}{M:List (List Int)}(h:MatOk n M)(h1:1<=n)(h7:n<=7):Pg M:=by
 have e:=h.len;subst e
 exact⟨h1,h7,h.row,h.lo,h.hi,h.sym,h.dia⟩
theorem Lq{α:Type}(n:Nat)(x:α):(List.replicate n [x]).flatten=List.replicate n x:=by
 induction n with
 | zero=>rfl
 | succ n ih=>rw[List.replicate_succ,List.flatten_cons,ih];rfl
theorem WN{α β:Type}(f:β->α->β)(s:β){l:List α}{i:Nat}{x:α}(h:l[i]?=some x):(l.take (i+1)).foldl f s=f ((l.take i).foldl f s) x:=by
 rw[List.take_add_one,h]
 show List.foldl f s (l.take i++[x])=_
 rw[List.foldl_append];rfl
structure NamesOk(i:Nat)(l:List Int):Prop where
 len:l.length=i
 nd:l.Nodup
 lo:∀x∈l,0<=x
 hi:∀x∈l,x<i
theorem NamesOk.nil:NamesOk 0 []:=⟨rfl,List.nodup_nil,fun _ h=>by simp at h,fun _ h=>by simp at h⟩
theorem NamesOk.ins{i:Nat}{l:List Int}(h:NamesOk i l)(k:Nat):NamesOk (i+1) (l.take k++(i:Int)::l.drop k):=by
 have hp:(l.take k++(i:Int)::l.drop k).Perm ((i:Int)::l):=by
  have:=List.perm_middle (a:=(i:Int)) (l₁:=l.take k) (l₂:=l.drop k)
  rw[List.take_append_drop] at this;exact this
 refine⟨by rw[hp.length_eq,List.length_cons,h.len],?_,fun x hx=>?_,fun x hx=>?_⟩
 ·rw[hp.nodup_iff,List.nodup_cons]
  exact⟨fun hm=>by have:=h.hi _ hm;omega,h.nd⟩
 ·rcases List.mem_cons.mp (hp.mem_iff.mp hx) with e | e
  ·omega
  ·exact h.lo x e
 ·rcases List.mem_cons.mp (hp.mem_iff.mp hx) with e | e
  ·omega
  ·have:=h.hi x e;omega
theorem NamesOk.at{i:Nat}{l:List Int}(h:NamesOk i l){x:Nat}(hx:x<i):0<=Yr l x/\Yr l x<i:=by
 have e:Yr l x=l[x]'(by rw[h.len];exact hx):=by
  unfold Yr
  rw[List.getD_eq_getElem?_getD,List.getElem?_eq_getElem (by rw[h.len];exact hx)];rfl
 rw[e]
 exact⟨h.lo _ (List.getElem_mem _),h.hi _ (List.getElem_mem _)⟩
theorem NamesOk.ne{i:Nat}{l:List Int}(h:NamesOk i l){x y:Nat}(hx:x<i)(hy:y<i)(n:x≠y):Yr l x≠Yr l y:=by
 have ex:Yr l x=l[x]'(by rw[h.len];exact hx):=by
  unfold Yr
  rw[List.getD_eq_getElem?_getD,List.getElem?_eq_getElem (by rw[h.len];exact hx)];rfl
 have ey:Yr l y=l[y]'(by rw[h.len];exact hy):=by
  unfold Yr
  rw[List.getD_eq_getElem?_getD,List.getElem?_eq_getElem (by rw[h.len];exact hy)];rfl
 rw[ex,ey];intro e
 exact n ((List.getElem_inj h.nd).mp e)
theorem lt_size{n:Nat}(h:n<=10000):n<sizeLine:=Nat.lt_of_le_of_lt h (by decide)
end L2
namespace VL
open PySem PySem.Spec PyProof.Rows L2
variable {K:PySem.W.Frag}
def NsO(od:Obj)(f:Str)(u:Value):Prop:=∀(hp:Heap)(dx:Addr),hp.get? dx=some od->hp.Ns1 dx (fun n=>if n=f then some u else none)
def Wd(n:Str):Str:=if n = "NoWeb" then "place" else if n = "Apart" then "houses" else if n = "TooMany" then "most" else "total"
inductive PV where
 | non | bl (b:Bool) | int (i:Int) | str (x:Str) | ty (n:String) | exc (n:Str) | exf (n:Str) (l:PV)
 | tup (l:List PV) | lst (l:List PV) | cst (l:List PV)
 | dK (ks:List Ys) (vs:List PV) | dT (ks:List (List Ys)) (vs:List PV)
instance:Inhabited PV:=⟨.non⟩
mutual
/-- nothing in it can be changed -/
def ZS:PV->Bool
 | .tup l=>Zv l
 | .cst l=>Zv l
 | .lst _=>false
 | .dK _ _=>false
 | .dT _ _=>false
 | .non=>true
 | .bl _=>true
 | .int _=>true
 | .str _=>true
 | .ty _=>true
 | .exc _=>true
 | .exf _ _=>true
def Zv:List PV->Bool
 | []=>true
 | x::r=>ZS x&&Zv r
end
theorem XY:∀l:List PV,Zv l=l.all ZS
 | []=>rfl
 | x::r=>by rw[List.all_cons,<-XY r];rfl
def KL(K:PySem.W.Frag)(a:Addr)(xs:List V):Prop:=
 ∃(o:Obj) (its:Array Value) (n:Nat),K.lookup a=some o/\o.cls = .type "list"/\o.dict=none/\o.data = .seq its n/\its.size<=sizeLine/\Vals xs its.toList
def CsK(K:PySem.W.Frag)(H:Hp)(p:Addr)(xs:List V):Prop:=(∃o,H p=some (.frz o (.lst xs)))\/KL K p xs
theorem CsK.sq{K:PySem.W.Frag}{H:Hp}{p:Addr}{xs:List V}(h:CsK K H p xs):SqL K H p xs:=by
 rcases h with h | h
 ·exact .inl (.inr h)
 ·exact .inr h
mutual
/-- v is the tree l in the heap H;fp: the addresses of its lists and dicts -/
def Is(K:PySem.W.Frag)(H:Hp):PV->V->List Addr->Prop
 | .non,v,fp=>v = .non/\fp=[]
 | .bl b,v,fp=>v = .bl b/\fp=[]
 | .int i,v,fp=>v = .int i/\fp=[]
 | .str x,v,fp=>v = .str x/\fp=[]
 | .ty n,v,fp=>v = .ty n/\fp=[]
 | .exc n,v,fp=>(∃e o x C,v = .ref e/\H e=some (.frz o (.own x))/\o.cls = .ref C/\PySem.W.nsIn K mainGlobals n=some (some (.ref C))/\o.dict=none/\∃vs,o.data = .fields vs)/\fp=[]
 | .exf n l,v,fp=>(∃e o x C dx od u z,v = .ref e/\H e=some (.frz o (.own x))/\o.cls = .ref C/\PySem.W.nsIn K mainGlobals n=some (some (.ref C))/\o.dict=some dx/\(∃vs,o.data = .fields vs)/\H dx=some (.frz od (.own dx))/\NsO od (Wd n) u/\RelV z u/\Is K H l z [])/\fp=[]
 | .tup l,v,fp=>∃p xs,v = .ref p/\H p=some (.tup xs)/\Iss K H l xs fp
 | .lst l,v,fp=>∃p xs fq,v = .ref p/\H p=some (.lst xs)/\Iss K H l xs fq/\fp=p::fq
 | .cst l,v,fp=>∃p xs,v = .ref p/\CsK K H p xs/\Iss K H l xs fp
 | .dK ks l,v,fp=>∃p kvs fq,v = .ref p/\Rd H p (.dK kvs)/\kvs.map (·.1)=ks/\Iss K H l (kvs.map (·.2)) fq/\fp=p::fq
 | .dT ks l,v,fp=>∃p kvs fq,v = .ref p/\Rd H p (.dT kvs)/\kvs.map (·.1)=ks/\Iss K H l (kvs.map (·.2)) fq/\fp=p::fq
def Iss(K:PySem.W.Frag)(H:Hp):List PV->List V->List Addr->Prop
 | [],xs,fp=>xs=[]/\fp=[]
 | l::ls,xs,fp=>∃x r f1 f2,xs=x::r/\Is K H l x f1/\Iss K H ls r f2/\fp=f1++f2
end
def RdK(H H':Hp)(p:Addr):Prop:=(∀xs,H p=some (.lst xs)->H' p=some (.lst xs))/\(∀kvs,Rd H p (.dK kvs)->Rd H' p (.dK kvs))/\∀kvs,Rd H p (.dT kvs)->Rd H' p (.dT kvs)
theorem RdK.of{H H':Hp}{p:Addr}(h:∀o,H p=some o->H' p=some o):RdK H H' p:=by
 have r:∀u,Rd H p u->Rd H' p u:=fun u q=>by
  rcases q with q | ⟨o,q⟩
  ·exact .inl (h _ q)
  ·exact .inr ⟨o,h _ q⟩
 exact⟨fun _=>h _,fun _=>r _,fun _=>r _⟩
structure TK2(H H':Hp):Prop where
 tup:TK H H'
 frz:∀b o xs,H b=some (.frz o (.lst xs))->H' b=some (.frz o (.lst xs))
 exc:∀b o x,H b=some (.frz o (.own x))->H' b=some (.frz o (.own x))
theorem Same.tk2{H H':Hp}(s:Same H H'):TK2 H H':=⟨s.tk,fun b o xs h=>s b _ h,fun b o x h=>s b _ h⟩
theorem CsK.tr{K:PySem.W.Frag}{H H':Hp}(t:TK2 H H'){p:Addr}{xs:List V}(h:CsK K H p xs):CsK K H' p xs:=by
 rcases h with⟨o,h⟩ | h
 ·exact .inl ⟨o,t.frz p o xs h⟩
 ·exact .inr h
mutual
theorem Is.tr{H H':Hp}(ht:TK2 H H'):∀(l:PV)(v:V)(fp:List Addr),(∀p∈fp,RdK H H' p)->Is K H l v fp->Is K H' l v fp
 | .non,_,_,_,h=>by simpa only[Is] using h
 | .bl _,_,_,_,h=>by simpa only[Is] using h
 | .int _,_,_,_,h=>by simpa only[Is] using h
 | .str _,_,_,_,h=>by simpa only[Is] using h
 | .ty _,_,_,_,h=>by simpa only[Is] using h
 | .exc _,_,_,_,h=>by
  simp only[Is] at h ⊢
  obtain⟨⟨e,o,x,C,a,b,c⟩,d⟩:=h
  exact⟨⟨e,o,x,C,a,ht.exc e o x b,c⟩,d⟩
 | .exf _ l,_,_,_,h=>by
  simp only[Is] at h ⊢
  obtain⟨⟨e,o,x,C,dx,od,u,z,a,b,c1,c2,c3,c4,c5,c6,c7,c8⟩,d⟩:=h
  exact⟨⟨e,o,x,C,dx,od,u,z,a,ht.exc e o x b,c1,c2,c3,c4,ht.exc dx od dx c5,c6,c7,Is.tr ht l z [] (fun p hp=>by simp at hp) c8⟩,d⟩
 | .tup l,v,fp,hm,h=>by
  simp only[Is] at h ⊢
  obtain⟨p,xs,e,hp,hi⟩:=h
  exact⟨p,xs,e,ht.tup p xs hp,Iss.tr ht l xs fp hm hi⟩
 | .lst l,v,fp,hm,h=>by
  simp only[Is] at h ⊢
  obtain⟨p,xs,fq,e,hr,hi,rfl⟩:=h
  exact⟨p,xs,fq,e,(hm p List.mem_cons_self).1 _ hr,Iss.tr ht l xs fq (fun q hq=>hm q (List.mem_cons_of_mem _ hq)) hi,rfl⟩
 | .cst l,v,fp,hm,h=>by
  simp only[Is] at h ⊢
  obtain⟨p,xs,e,hr,hi⟩:=h
  exact⟨p,xs,e,hr.tr ht,Iss.tr ht l xs fp hm hi⟩
 | .dK ks l,v,fp,hm,h=>by
  simp only[Is] at h ⊢
  obtain⟨p,kvs,fq,e,hr,hk,hi,rfl⟩:=h
  exact⟨p,kvs,fq,e,(hm p List.mem_cons_self).2.1 _ hr,hk,Iss.tr ht l _ fq (fun q hq=>hm q (List.mem_cons_of_mem _ hq)) hi,rfl⟩
 | .dT ks l,v,fp,hm,h=>by
  simp only[Is] at h ⊢
  obtain⟨p,kvs,fq,e,hr,hk,hi,rfl⟩:=h
  exact⟨p,kvs,fq,e,(hm p List.mem_cons_self).2.2 _ hr,hk,Iss.tr ht l _ fq (fun q hq=>hm q (List.mem_cons_of_mem _ hq)) hi,rfl⟩
theorem Iss.tr{H H':Hp}(ht:TK2 H H'):∀(l:List PV)(xs:List V)(fp:List Addr),(∀p∈fp,RdK H H' p)->Iss K H l xs fp->Iss K H' l xs fp
 | [],_,_,_,h=>by simpa only[Iss] using h
 | l::ls,xs,fp,hm,h=>by
  simp only[Iss] at h ⊢
  obtain⟨x,r,f1,f2,e,h1,h2,rfl⟩:=h
  exact⟨x,r,f1,f2,e,Is.tr ht l x f1 (fun q hq=>hm q (List.mem_append_left _ hq)) h1,Iss.tr ht ls r f2 (fun q hq=>hm q (List.mem_append_right _ hq)) h2,rfl⟩
end
theorem Is.mono{H H':Hp}(s:Same H H'){l:PV}{v:V}{fp:List Addr}(h:Is K H l v fp):Is K H' l v fp:=Is.tr (Same.tk2 s) l v fp (fun p _=>RdK.of fun o q=>s p o q) h
theorem Iss.mono{H H':Hp}(s:Same H H'){l:List PV}{v:List V}{fp:List Addr}(h:Iss K H l v fp):Iss K H' l v fp:=Iss.tr (Same.tk2 s) l v fp (fun p _=>RdK.of fun o q=>s p o q) h
mutual
theorem Is.pure{H:Hp}:∀(l:PV)(v:V)(fp:List Addr),ZS l=true->Is K H l v fp->fp=[]
 | .non,_,_,_,h=>by simp only[Is] at h;exact h.2
 | .bl _,_,_,_,h=>by simp only[Is] at h;exact h.2
 | .int _,_,_,_,h=>by simp only[Is] at h;exact h.2
 | .str _,_,_,_,h=>by simp only[Is] at h;exact h.2
 | .ty _,_,_,_,h=>by simp only[Is] at h;exact h.2
 | .exc _,_,_,_,h=>by simp only[Is] at h;exact h.2
 | .exf _ _,_,_,_,h=>by simp only[Is] at h;exact h.2
 | .tup l,v,fp,hp,h=>by
  simp only[Is] at h
  obtain⟨p,xs,e,_,hi⟩:=h
  exact Iss.pure l xs fp (by simpa only[ZS] using hp) hi
 | .lst l,v,fp,hp,h=>by simp[ZS] at hp
 | .cst l,v,fp,hp,h=>by
  simp only[Is] at h
  obtain⟨p,xs,e,_,hi⟩:=h
  exact Iss.pure l xs fp (by simpa only[ZS] using hp) hi
 | .dK ks l,v,fp,hp,h=>by simp[ZS] at hp
 | .dT ks l,v,fp,hp,h=>by simp[ZS] at hp
theorem Iss.pure{H:Hp}:∀(l:List PV)(xs:List V)(fp:List Addr),Zv l=true->Iss K H l xs fp->fp=[]
 | [],_,_,_,h=>by simp only[Iss] at h;exact h.2
 | l::ls,xs,fp,hp,h=>by
  simp only[Iss] at h;simp only[Zv,Bool.and_eq_true] at hp
  obtain⟨x,r,f1,f2,e,h1,h2,rfl⟩:=h
  rw[Is.pure l x f1 hp.1 h1,Iss.pure ls r f2 hp.2 h2];rfl
end
section
variable {H H':Hp}
theorem Iss.len:∀{l:List PV}{xs:List V}{fp:List Addr},Iss K H l xs fp->xs.length=l.length
 | [],xs,fp,h=>by simp only[Iss] at h;rw[h.1];rfl
 | l::ls,xs,fp,h=>by
  simp only[Iss] at h
  obtain⟨x,r,f1,f2,rfl,_,h2,_⟩:=h
  rw[List.length_cons,List.length_cons,h2.len]
theorem Iss.get:∀{l:List PV}{xs:List V}{fp:List Addr}{i:Nat}{a:PV},Iss K H l xs fp->l[i]?=some a->∃x f1,xs[i]?=some x/\Is K H a x f1/\∀p∈f1,p∈fp
 | [],xs,fp,i,a,h,e=>by simp at e
 | l::ls,xs,fp,0,a,h,e=>by
  simp only[Iss] at h
  obtain⟨x,r,f1,f2,rfl,h1,_,rfl⟩:=h
  simp at e;subst e
  exact⟨x,f1,rfl,h1,fun p hp=>List.mem_append_left _ hp⟩
 | l::ls,xs,fp,i+1,a,h,e=>by
  simp only[Iss] at h
  obtain⟨x,r,f1,f2,rfl,_,h2,rfl⟩:=h
  obtain⟨y,g,h3,h4,h5⟩:=h2.get (i:=i) (a:=a) (by simpa using e)
  exact⟨y,g,by simpa using h3,h4,fun p hp=>List.mem_append_right _ (h5 p hp)⟩
theorem Iss.get'{l:List PV}{xs:List V}{fp:List Addr}{i:Nat}{x:V}(h:Iss K H l xs fp)(e:xs[i]?=some x):∃a f1,l[i]?=some a/\Is K H a x f1/\∀p∈f1,p∈fp:=by
 have hi:i<l.length:=by rw[<-h.len];exact(List.getElem?_eq_some_iff.mp e).1
 obtain⟨y,f1,h1,h2,h3⟩:=h.get (List.getElem?_eq_getElem hi)
 rw[e] at h1;cases h1
 exact⟨_,f1,List.getElem?_eq_getElem hi,h2,h3⟩
theorem Iss.nil:Iss K H [] [] []:=by simp[Iss]
theorem Iss.cons{l:PV}{ls:List PV}{x:V}{xs:List V}{f1 f2:List Addr}(h1:Is K H l x f1)(h2:Iss K H ls xs f2):Iss K H (l::ls) (x::xs) (f1++f2):=by
 simp only[Iss];exact⟨x,xs,f1,f2,rfl,h1,h2,rfl⟩
theorem Iss.inv{l:PV}{ls:List PV}{xs:List V}{fp:List Addr}(h:Iss K H (l::ls) xs fp):∃x r f1 f2,xs=x::r/\Is K H l x f1/\Iss K H ls r f2/\fp=f1++f2:=by
 simpa only[Iss] using h
theorem Iss.append:∀{l m:List PV}{xs ys:List V}{f1 f2:List Addr},Iss K H l xs f1->Iss K H m ys f2->Iss K H (l++m) (xs++ys) (f1++f2)
 | [],m,xs,ys,f1,f2,h,h'=>by
  simp only[Iss] at h
  rw[h.1,h.2];exact h'
 | l::ls,m,xs,ys,f1,f2,h,h'=>by
  obtain⟨x,r,g1,g2,rfl,a,b,rfl⟩:=h.inv
  rw[List.append_assoc]
  exact Iss.cons a (b.append h')
theorem Iss.one{l:PV}{x:V}{f:List Addr}(h:Is K H l x f):Iss K H [l] [x] f:=by
 have:=Iss.cons h (Iss.nil (H:=H))
 rwa [List.append_nil] at this
theorem Iss.take:∀{l:List PV}{xs:List V}{fp:List Addr}(n:Nat),Iss K H l xs fp->∃f1,Iss K H (l.take n) (xs.take n) f1/\∀p∈f1,p∈fp
 | l,xs,fp,0,h=>⟨[],by rw[List.take_zero,List.take_zero];exact Iss.nil,fun p hp=>by simp at hp⟩
 | [],xs,fp,n+1,h=>by
  simp only[Iss] at h;rw[h.1]
  exact⟨[],by rw[List.take_nil,List.take_nil];exact Iss.nil,fun p hp=>by simp at hp⟩
 | l::ls,xs,fp,n+1,h=>by
  obtain⟨x,r,f1,f2,rfl,h1,h2,rfl⟩:=h.inv
  obtain⟨f3,a,b⟩:=h2.take n
  refine⟨f1++f3,Iss.cons h1 a,fun p hp=>?_⟩
  rcases List.mem_append.mp hp with h | h
  ·exact List.mem_append_left _ h
  ·exact List.mem_append_right _ (b p h)
theorem Iss.drop:∀{l:List PV}{xs:List V}{fp:List Addr}(n:Nat),Iss K H l xs fp->∃f1,Iss K H (l.drop n) (xs.drop n) f1/\∀p∈f1,p∈fp
 | l,xs,fp,0,h=>⟨fp,h,fun p hp=>hp⟩
 | [],xs,fp,n+1,h=>by
  simp only[Iss] at h;rw[h.1]
  exact⟨[],by rw[List.drop_nil,List.drop_nil];exact Iss.nil,fun p hp=>by simp at hp⟩
 | l::ls,xs,fp,n+1,h=>by
  obtain⟨x,r,f1,f2,rfl,h1,h2,rfl⟩:=h.inv
  obtain⟨f3,a,b⟩:=h2.drop n
  exact⟨f3,a,fun p hp=>List.mem_append_right _ (b p hp)⟩
theorem Iss.setP:∀{l:List PV}{xs:List V}{a:PV}{x:V}(i:Nat),Zv l=true->ZS a=true->Iss K H l xs []->Is K H a x []->Iss K H (l.set i a) (xs.set i x) []
 | [],xs,a,x,i,_,_,h,_=>by
  simp only[Iss] at h
  rw[h.1];simp only[List.set_nil];exact Iss.nil
 | l::ls,xs,a,x,0,hp,_,h,ha=>by
  simp only[Zv,Bool.and_eq_true] at hp
  obtain⟨y,r,f1,f2,rfl,_,h2,e⟩:=h.inv
  have e2:=Iss.pure _ _ _ hp.2 h2;subst e2
  exact Iss.cons (f1:=[]) ha h2
 | l::ls,xs,a,x,i+1,hp,hq,h,ha=>by
  simp only[Zv,Bool.and_eq_true] at hp
  obtain⟨y,r,f1,f2,rfl,h1,h2,e⟩:=h.inv
  have e1:=Is.pure _ _ _ hp.1 h1;have e2:=Iss.pure _ _ _ hp.2 h2
  subst e1 e2
  exact Iss.cons (f1:=[]) h1 (Iss.setP i hp.2 hq h2 ha)
theorem Is.int_inv{i:Int}{v:V}{fp:List Addr}(h:Is K H (.int i) v fp):v = .int i/\fp=[]:=by simpa only[Is] using h
theorem Is.int(i:Int):Is K H (.int i) (.int i) []:=by simp[Is]
theorem Is.bl(i:Bool):Is K H (.bl i) (.bl i) []:=by simp[Is]
theorem Is.non:Is K H .non .non []:=by simp[Is]
theorem Is.str(x:Str):Is K H (.str x) (.str x) []:=by simp[Is]
theorem Is.ty(n:String):Is K H (.ty n) (.ty n) []:=by simp[Is]
theorem Is.bl_inv{i:Bool}{v:V}{fp:List Addr}(h:Is K H (.bl i) v fp):v = .bl i/\fp=[]:=by simpa only[Is] using h
theorem Is.str_inv{i:Str}{v:V}{fp:List Addr}(h:Is K H (.str i) v fp):v = .str i/\fp=[]:=by simpa only[Is] using h
theorem Is.non_inv{v:V}{fp:List Addr}(h:Is K H .non v fp):v = .non/\fp=[]:=by simpa only[Is] using h
theorem Is.ty_inv{n:String}{v:V}{fp:List Addr}(h:Is K H (.ty n) v fp):v = .ty n/\fp=[]:=by simpa only[Is] using h
theorem Is.tup_inv{l:List PV}{v:V}{fp:List Addr}(h:Is K H (.tup l) v fp):∃p xs,v = .ref p/\H p=some (.tup xs)/\Iss K H l xs fp:=by simpa only[Is] using h
theorem Is.tup{l:List PV}{p:Addr}{xs:List V}{fp:List Addr}(h:H p=some (.tup xs))(hi:Iss K H l xs fp):Is K H (.tup l) (.ref p) fp:=by simp only[Is];exact⟨p,xs,rfl,h,hi⟩
theorem Is.lst_inv{l:List PV}{v:V}{fp:List Addr}(h:Is K H (.lst l) v fp):∃p xs fq,v = .ref p/\H p=some (.lst xs)/\Iss K H l xs fq/\fp=p::fq:=by simpa only[Is] using h
theorem Is.lst{l:List PV}{p:Addr}{xs:List V}{fp:List Addr}(h:H p=some (.lst xs))(hi:Iss K H l xs fp):Is K H (.lst l) (.ref p) (p::fp):=by
 simp only[Is];exact⟨p,xs,fp,rfl,h,hi,rfl⟩
theorem Is.cst_inv{l:List PV}{v:V}{fp:List Addr}(h:Is K H (.cst l) v fp):∃p xs,v = .ref p/\CsK K H p xs/\Iss K H l xs fp:=by simpa only[Is] using h
theorem Is.cst{l:List PV}{p:Addr}{xs:List V}{fp:List Addr}(h:CsK K H p xs)(hi:Iss K H l xs fp):Is K H (.cst l) (.ref p) fp:=by
 simp only[Is];exact⟨p,xs,rfl,h,hi⟩
theorem Is.dT_inv{ks:List (List Ys)}{l:List PV}{v:V}{fp:List Addr}(h:Is K H (.dT ks l) v fp):∃p kvs fq,v = .ref p/\Rd H p (.dT kvs)/\kvs.map (·.1)=ks/\Iss K H l (kvs.map (·.2)) fq/\fp=p::fq:=by simpa only[Is] using h
theorem Is.dT{ks:List (List Ys)}{l:List PV}{p:Addr}{kvs:List (List Ys×V)}{fp:List Addr}(h:H p=some (.dT kvs))(hk:kvs.map (·.1)=ks)(hi:Iss K H l (kvs.map (·.2)) fp):Is K H (.dT ks l) (.ref p) (p::fp):=by
 simp only[Is];exact⟨p,kvs,fp,rfl,.inl h,hk,hi,rfl⟩
theorem Is.dK_inv{ks:List Ys}{l:List PV}{v:V}{fp:List Addr}(h:Is K H (.dK ks l) v fp):∃p kvs fq,v = .ref p/\Rd H p (.dK kvs)/\kvs.map (·.1)=ks/\Iss K H l (kvs.map (·.2)) fq/\fp=p::fq:=by simpa only[Is] using h
theorem Is.dK{ks:List Ys}{l:List PV}{p:Addr}{kvs:List (Ys×V)}{fp:List Addr}(h:H p=some (.dK kvs))(hk:kvs.map (·.1)=ks)(hi:Iss K H l (kvs.map (·.2)) fp):Is K H (.dK ks l) (.ref p) (p::fp):=by
 simp only[Is];exact⟨p,kvs,fp,rfl,.inl h,hk,hi,rfl⟩
end
abbrev iL(l:List Int):List PV:=l.map PV.int
theorem YE(l:List Int):Zv (iL l)=true:=by
 rw[XY,List.all_eq_true];intro x hx
 obtain⟨i,_,rfl⟩:=List.mem_map.mp hx
 rfl
theorem Iss.iL{H:Hp}:∀{l:List Int}{xs:List V}{fp:List Addr},Iss K H (VL.iL l) xs fp->xs=l.map V.int/\fp=[]
 | [],xs,fp,h=>by simpa only[VL.iL,List.map_nil,Iss] using h
 | i::l,xs,fp,h=>by
  obtain⟨x,r,f1,f2,rfl,h1,h2,rfl⟩:=Iss.inv (show Iss K H (PV.int i::VL.iL l) xs fp from h)
  obtain⟨rfl,rfl⟩:=h1.int_inv
  obtain⟨rfl,rfl⟩:=h2.iL
  exact⟨rfl,rfl⟩
theorem Iss.ofInts{H:Hp}:∀(l:List Int),Iss K H (VL.iL l) (l.map V.int) []
 | []=>Iss.nil
 | i::l=>Iss.cons (f1:=[]) (Is.int i) (Iss.ofInts l)
end VL
namespace VL
open PySem PySem.Spec PyProof.Rows L2
variable {K:PySem.W.Frag}
abbrev Us:=L2.St
abbrev ZE:=List (Option PV)
abbrev XE:=ZE->Option PV
structure EnvIs(K:PySem.W.Frag)(Rm:Addr->Prop)(H:Hp)(s:ZE)(Z:Us):Prop where
 is:∀(i:Nat) l,s[i]?=some (some l)->∃v fp,Z[i]?=some (some v)/\Is K H l v fp/\∀p∈fp,¬Rm p
theorem EnvIs.mono{Rm:Addr->Prop}{H H':Hp}{s:ZE}{Z:Us}(h:EnvIs K Rm H s Z)(e:Same H H'):EnvIs K Rm H' s Z:=⟨fun i l q=>by
 obtain⟨v,fp,a,b,c⟩:=h.is i l q
 exact⟨v,fp,a,b.mono e,c⟩⟩
theorem EnvIs.free{Rm:Addr->Prop}{H:Hp}{s:ZE}{Z:Us}(h:EnvIs K Rm H s Z):EnvIs K (fun _=>False) H s Z:=⟨fun i l q=>by
 obtain⟨v,fp,a,b,c⟩:=h.is i l q
 exact⟨v,fp,a,b,fun _ _ z=>z⟩⟩
theorem Same.mut{H H':Hp}(e:Same H H'){p:Addr}(h:Ws (H p)):Ws (H' p):=by
 cases q:H p with
 | none=>rw[q] at h;exact h.elim
 | some o=>rw[e p o q,<-q];exact h
theorem YU{H:Hp}{p:Addr}(h:Ws (H p)):H p≠none:=fun z=>by rw[z] at h;exact h
def tF(K:PySem.W.Frag)(f:XE):TE:=fun Z H Q=>∃(Rm:Addr->Prop) (s:ZE) (l:PV),(∀p,Rm p->Ws (H p))/\EnvIs K Rm H s Z/\f s=some l/\∀v H' fp,Same H H'->Is K H' l v fp->(∀p∈fp,¬Rm p)->Q v H'
def tM(K:PySem.W.Frag)(f:XE):TE:=fun Z H Q=>∃(s:ZE) (l:PV),EnvIs K (fun _=>False) H s Z/\f s=some l/\∀v H' fp,Same H H'->Is K H' l v fp->fp.Nodup->(∀p∈fp,H p=none/\Ws (H' p))->Q v H'
def VE(X:Cx)(e:Expr)(f:XE):Prop:=PE X e (tF X.K f)
def VM(X:Cx)(e:Expr)(f:XE):Prop:=PE X e (tM X.K f)
section
variable {X:Cx} {e:Expr} {f g:XE} {t t':TE}
theorem PE.imp(h:PE X e t)(i:∀Z H Q,t' Z H Q->t Z H Q):PE X e t':=fun pins s Z H Q I q=>h pins s Z H Q I (i Z H Q q)
theorem VM.ve(h:VM X e f):VE X e f:=PE.imp h fun Z H Q ⟨Rm,s,l,hd,env,e,k⟩=>
 ⟨s,l,env.free,e,fun v H' fp sm i _ n=>k v H' fp sm i fun p hp z=>YU (hd p z) (n p hp).1⟩
def eP(f:XE):XE:=fun s=>(f s).bind fun l=>if ZS l=true then some l else none
theorem Jl{s:ZE}{l:PV}(h:eP f s=some l):f s=some l/\ZS l=true:=by
 unfold eP at h
 cases q:f s with
 | none=>rw[q] at h;cases h
 | some a=>
  rw[q] at h;simp only[Option.bind_some] at h
  split at h
  ·cases h;exact⟨rfl,by assumption⟩
  ·cases h
theorem VE.pure(h:VE X e f):VM X e (eP f):=PE.imp h fun Z H Q ⟨s,l,env,e,k⟩=>by
 obtain⟨e1,e2⟩:=Jl e
 refine⟨fun _=>False,s,l,fun _ z=>z.elim,env,e1,fun v H' fp sm i n=>?_⟩
 have:=Is.pure l v fp e2 i
 subst this
 exact k v H' [] sm i List.nodup_nil fun p hp=>by simp at hp
end
def Za(i:Nat):XE:=fun s=>(s[i]?).join
def eC(l:PV):XE:=fun _=>some l
theorem Ta{i:Nat}{s:ZE}{l:PV}(h:Za i s=some l):s[i]?=some (some l):=by
 unfold Za at h
 cases q:s[i]? with
 | none=>rw[q] at h;cases h
 | some o=>rw[q] at h;cases o with
  | none=>cases h
  | some a=>cases h;rfl
section
variable {X:Cx} {pos:Pos}
theorem Zc{e:Expr}{i:Nat}(h:PE X e (W8 i)):VE X e (Za i):=PE.imp h fun Z H Q ⟨Rm,s,l,hd,env,e,k⟩=>by
 obtain⟨v,fp,a,b,c⟩:=env.is i l (Ta e)
 exact⟨v,a,k v H fp (Same.refl H) b c⟩
theorem Lr{e:Expr}{v:V}{l:PV}(h:PE X e (tC v))(hv:∀H,Is X.K H l v []):VE X e (eC l):=PE.imp h fun Z H Q ⟨Rm,s,l',hd,env,e,k⟩=>by
 cases e
 exact k v H [] (Same.refl H) (hv H) fun p hp=>by simp at hp
theorem Ze{i j}:VE X (.Constant (.int i) j pos) (eC (.int i)):=Lr IZ fun _=>Is.int i
theorem Nj{i j}:VE X (.Constant (.bool i) j pos) (eC (.bl i)):=Lr GH fun _=>Is.bl i
theorem So{j}:VE X (.Constant .none j pos) (eC .non):=Lr La fun _=>Is.non
end
def RB(K:PySem.W.Frag)(r:R2)(g:PV->PV->Option PV):Prop:=∀(H:Hp)(x y:V)(a b l:PV)(fa fb:List Addr),Is K H a x fa->Is K H b y fb->g a b=some l->∀Q:VK,
 (∀v H' fp,Same H H'->Is K H' l v fp->(∀p∈fp,p∈fa\/p∈fb\/H p=none)->Q v H')->r x y H Q
def Zh(g:PV->PV->Option PV)(a b:XE):XE:=fun s=>(a s).bind fun x=>(b s).bind fun y=>g x y
theorem Wy{g:PV->PV->Option PV}{a b:XE}{s:ZE}{l:PV}(h:Zh g a b s=some l):∃x y,a s=some x/\b s=some y/\g x y=some l:=by
 unfold Zh at h
 cases q:a s with
 | none=>rw[q] at h;cases h
 | some x=>cases q2:b s with
  | none=>rw[q,q2] at h;cases h
  | some y=>rw[q,q2] at h;exact⟨x,y,rfl,rfl,h⟩
section
variable {X:Cx} {a b:Expr} {fa fb:XE} {pos:Pos}
theorem Nk{r:R2}{g:PV->PV->Option PV}(hr:RB K r g):∀Z H Q,tF K (Zh g fa fb) Z H Q->Hq r (tF K fa) (tF K fb) Z H Q:=fun Z H Q ⟨Rm,s,l,hd,env,e,k⟩=>by
 obtain⟨x',y',ex,ey,e⟩:=Wy e
 refine⟨Rm,s,x',hd,env,ex,fun x H1 f1 s1 i1 n1=>⟨Rm,s,y',fun p hp=>Same.mut s1 (hd p hp),env.mono s1,ey,fun y H2 f2 s2 i2 n2=>?_⟩⟩
 refine hr H2 x y x' y' l f1 f2 (i1.mono s2) i2 e Q fun v H3 fp s3 i3 n3=>k v H3 fp (s1.trans (s2.trans s3)) i3 fun p hp z=>?_
 rcases n3 p hp with h | h | h
 ·exact n1 p h z
 ·exact n2 p h z
 ·exact YU (Same.mut (s1.trans s2) (hd p z)) h
theorem RK{op:Operator}{r:R2}{g:PV->PV->Option PV}(ho:WI X (binaryOp op) r)(hr:RB X.K r g)(ha:VE X a fa)(hb:VE X b fb):VE X (.BinOp a op b pos) (Zh g fa fb):=
 PE.imp (Lf ho ha hb) (Nk hr)
theorem HM{op:CmpOp}{r:R2}{g:PV->PV->Option PV}(ho:WI X (compareOp op) r)(hr:RB X.K r g)(ha:VE X a fa)(hb:VE X b fb)(hm:behindInMarks op b=false):VE X (.Compare a [op] [b] pos) (Zh g fa fb):=
 PE.imp (KW ho ha hb hm) (Nk hr)
theorem Fp{r:R2}{g:PV->PV->Option PV}(ho:IxR X r)(hr:RB X.K r g)(ha:VE X a fa)(hb:VE X b fb)(hs:Qb b):VE X (.Subscript a b pos) (Zh g fa fb):=
 PE.imp (V4 ho ha hb hs) (Nk hr)
end
def gI(g:Int->Int->Int):PV->PV->Option PV
 | .int i,.int j=>some (.int (g i j))
 | _,_=>none
def gB(g:Int->Int->Bool):PV->PV->Option PV
 | .int i,.int j=>some (.bl (g i j))
 | _,_=>none
def KD(C:Int->Int->Prop)[∀i j,Decidable (C i j)](g:Int->Int->Int):PV->PV->Option PV
 | .int i,.int j=>if C i j then some (.int (g i j)) else none
 | _,_=>none
theorem Nl{g:Int->Int->Int}{a b l:PV}(h:gI g a b=some l):∃i j,a = .int i/\b = .int j/\l = .int (g i j):=by
 unfold gI at h;split at h
 ·cases h;exact⟨_,_,rfl,rfl,rfl⟩
 ·cases h
theorem Jm{g:Int->Int->Bool}{a b l:PV}(h:gB g a b=some l):∃i j,a = .int i/\b = .int j/\l = .bl (g i j):=by
 unfold gB at h;split at h
 ·cases h;exact⟨_,_,rfl,rfl,rfl⟩
 ·cases h
theorem Ls{C:Int->Int->Prop}[∀i j,Decidable (C i j)]{g:Int->Int->Int}{a b l:PV}(h:KD C g a b=some l):∃i j,a = .int i/\b = .int j/\C i j/\l = .int (g i j):=by
 unfold KD at h;split at h
 ·split at h
  ·cases h;exact⟨_,_,rfl,rfl,by assumption,rfl⟩
  ·cases h
 ·cases h
theorem Fq(g:Int->Int->Int):RB K (KC fun i j=>.int (g i j)) (gI g):=fun H x y a b l fa fb ha hb e Q k=>by
 obtain⟨i,j,rfl,rfl,rfl⟩:=Nl e
 exact⟨i,j,ha.int_inv.1,hb.int_inv.1,k _ H [] (Same.refl H) (Is.int _) fun p hp=>by simp at hp⟩
theorem Vl(g:Int->Int->Bool):RB K (KC fun i j=>.bl (g i j)) (gB g):=fun H x y a b l fa fb ha hb e Q k=>by
 obtain⟨i,j,rfl,rfl,rfl⟩:=Jm e
 exact⟨i,j,ha.int_inv.1,hb.int_inv.1,k _ H [] (Same.refl H) (Is.bl _) fun p hp=>by simp at hp⟩
theorem Nm(C:Int->Int->Prop)[∀i j,Decidable (C i j)](g:Int->Int->Int):RB K (rI C fun i j=>.int (g i j)) (KD C g):=fun H x y a b l fa fb ha hb e Q k=>by
 obtain⟨i,j,rfl,rfl,c,rfl⟩:=Ls e
 exact⟨i,j,ha.int_inv.1,hb.int_inv.1,c,k _ H [] (Same.refl H) (Is.int _) fun p hp=>by simp at hp⟩
instance (i j:Int):Decidable (CMul i j):=by unfold CMul;infer_instance
instance (i j:Int):Decidable (U2 i j):=by unfold U2;infer_instance
instance (i j:Int):Decidable (Ik i j):=by unfold Ik;infer_instance
instance (i j:Int):Decidable (Q3 i j):=by unfold Q3;infer_instance
abbrev ZN:=gI (· + ·)
abbrev W9:=gI (· - ·)
abbrev V0:=KD CMul (· * ·)
abbrev Xa:=KD U2 (· / ·)
abbrev ZO:=KD (fun _ j=>0<j) (· % ·)
abbrev WO:=KD Q3 (fun i j=>i^j.toNat)
abbrev T1:=gB (fun i j=>decide (i<j))
abbrev TJ:=gB (fun i j=>decide (i<=j))
abbrev Mq:=gB (fun i j=>decide (j<i))
abbrev Eu:=gB (fun i j=>decide (j<=i))
section
variable {X:Cx} {a b:Expr} {fa fb:XE} {pos:Pos}
theorem YG(ha:VE X a fa)(hb:VE X b fb):VE X (.BinOp a .Add b pos) (Zh ZN fa fb):=RK Hs (Fq _) ha hb
theorem Ue(ha:VE X a fa)(hb:VE X b fb):VE X (.BinOp a .Sub b pos) (Zh W9 fa fb):=RK Ht (Fq _) ha hb
theorem Qk(ha:VE X a fa)(hb:VE X b fb):VE X (.BinOp a .Mult b pos) (Zh V0 fa fb):=RK Hu (Nm _ _) ha hb
theorem Xb(ha:VE X a fa)(hb:VE X b fb):VE X (.BinOp a .FloorDiv b pos) (Zh Xa fa fb):=RK KU (Nm _ _) ha hb
theorem Yp(ha:VE X a fa)(hb:VE X b fb):VE X (.BinOp a .Mod b pos) (Zh ZO fa fb):=RK Hv (Nm _ _) ha hb
theorem Ql(ha:VE X a fa)(hb:VE X b fb):VE X (.BinOp a .Pow b pos) (Zh WO fa fb):=RK Hw (Nm _ _) ha hb
end
def Z2:PV->PV->Option PV
 | .lst l,.int i=>Wv l i
 | .cst l,.int i=>Wv l i
 | .tup l,.int i=>Wv l i
 | .str z,.int i=>if z.length<=sizeLine then(Wv z.cps.toList i).map fun c=>.str ⟨#[c]⟩ else none
 | _,_=>none
theorem Oj{l:List PV}{xs:List V}{H:Hp}{fp:List Addr}{i:Int}{a:PV}(h:Iss K H l xs fp)(e:Wv l i=some a):∃x f1,Wv xs i=some x/\Is K H a x f1/\∀p∈f1,p∈fp:=by
 unfold Wv at e ⊢
 rw[h.len]
 cases q:O7 l.length i with
 | none=>rw[q] at e;cases e
 | some j=>rw[q] at e;exact h.get e
theorem Fs:RB K (EK K) Z2:=fun H x y a b l fa fb ha hb e Q k=>by
 unfold Z2 at e;split at e
 ·obtain⟨p,xs,fq,rfl,hp,hi,rfl⟩:=ha.lst_inv
  obtain⟨z,f1,h1,h2,h3⟩:=Oj hi e
  exact .inl ⟨p,xs,_,z,rfl,hb.int_inv.1,SqL.of hp,h1,k z H f1 (Same.refl H) h2 fun q hq=>.inl (List.mem_cons_of_mem _ (h3 q hq))⟩
 ·obtain⟨p,xs,rfl,hp,hi⟩:=ha.cst_inv
  obtain⟨z,f1,h1,h2,h3⟩:=Oj hi e
  exact .inl ⟨p,xs,_,z,rfl,hb.int_inv.1,hp.sq,h1,k z H f1 (Same.refl H) h2 fun q hq=>.inl (h3 q hq)⟩
 ·obtain⟨p,xs,rfl,hp,hi⟩:=ha.tup_inv
  obtain⟨z,f1,h1,h2,h3⟩:=Oj hi e
  exact .inr (.inl ⟨p,xs,_,z,rfl,hb.int_inv.1,SqT.of hp,h1,k z H f1 (Same.refl H) h2 fun q hq=>.inl (h3 q hq)⟩)
 ·split at e
  ·cases q:Wv _ _ with
   | none=>rw[q] at e;cases e
   | some c=>
    rw[q] at e;cases e
    exact .inr (.inr ⟨_,_,c,ha.str_inv.1,hb.int_inv.1,by assumption,q,k _ H [] (Same.refl H) (Is.str _) fun p hp=>by simp at hp⟩)
  ·cases e
 ·cases e
section
variable {X:Cx} {a b:Expr} {fa fb:XE} {pos:Pos}
theorem Zr(ha:VE X a fa)(hb:VE X b fb)(hs:Qb b:=by exact fun _ _=>rfl):VE X (.Subscript a b pos) (Zh Z2 fa fb):=Fp HB Fs ha hb hs
end
abbrev XT:=ZE->Option Bool
def QU(K:PySem.W.Frag)(f:XT):TT:=fun Z H Q=>∃(Rm:Addr->Prop) (s:ZE) (c:Bool),(∀p,Rm p->Ws (H p))/\EnvIs K Rm H s Z/\f s=some c/\∀H',Same H H'->Q c H'
def VT(X:Cx)(e:Expr)(f:XT):Prop:=PT X e (QU X.K f)
def VW(X:Cx)(e:Expr)(f:XT):Prop:=PW X e (QU X.K f)
section
variable {X:Cx} {e:Expr} {f:XT}
theorem PT.imp{t t':TT}(h:PT X e t)(i:∀Z H Q,t' Z H Q->t Z H Q):PT X e t':=fun pins s Z H Q I q=>h pins s Z H Q I (i Z H Q q)
theorem PW.imp{t t':TT}(h:PW X e t)(i:∀Z H Q,t' Z H Q->t Z H Q):PW X e t':=fun whole pins s Z H Q I q=>h whole pins s Z H Q I (i Z H Q q)
theorem VW.vt(h:VW X e f):VT X e f:=PW.pt h
end
def xB(f:XE):XT:=fun s=>match f s with | some (.bl c)=>some c | _=>none
theorem UB{f:XE}{s:ZE}{c:Bool}(h:xB f s=some c):f s=some (.bl c):=by
 unfold xB at h;split at h
 ·cases h;assumption
 ·cases h
section
variable {X:Cx} {a b c:Expr} {rest:List Expr} {fa fb:XE} {ga gb:XT} {pos:Pos}
theorem Tb(h:VE X a fa)(he:∀whole,isTrue a X.env whole=(do let v <-whole;standAt a.pos;holding [v] (truthy v)):=by intro _;rfl):VT X a (xB fa):=
 PT.imp (Hd h he) fun Z H Q ⟨Rm,s,c,hd,env,e,k⟩=>⟨Rm,s,.bl c,hd,env,UB e,fun v H' fp sm i n=>⟨c,i.bl_inv.1,k H' sm⟩⟩
theorem Sq:∀Z H Q,QU K (xB fa) Z H Q->Rw (tF K fa) Z H Q:=fun Z H Q ⟨Rm,s,c,hd,env,e,k⟩=>⟨Rm,s,.bl c,hd,env,UB e,fun v H' fp sm i n=>⟨c,i.bl_inv.1,k H' sm⟩⟩
theorem Ug{t t':TE}(i:∀Z H Q,t' Z H Q->t Z H Q):∀Z H Q,Rw t' Z H Q->Rw t Z H Q:=fun Z H Q h=>i Z H _ h
theorem Vm{op:CmpOp}{r:R2}{g:PV->PV->Option PV}(ho:WI X (compareOp op) r)(hr:RB X.K r g)(ha:VE X a fa)(hb:VE X b fb)(hm:behindInMarks op b=false):VT X (.Compare a [op] [b] pos) (xB (Zh g fa fb)):=
 PT.imp (KY ho ha hb hm) fun Z H Q h=>Ug (Nk hr) Z H Q (Sq Z H Q h)
theorem Sr(ha:VE X a fa)(hb:VE X b fb):VT X (.Compare a [.Lt] [b] pos) (xB (Zh T1 fa fb)):=Vm O5 (Vl _) ha hb (Uc _)
theorem Ft(ha:VE X a fa)(hb:VE X b fb):VT X (.Compare a [.LtE] [b] pos) (xB (Zh TJ fa fb)):=Vm Vf (Vl _) ha hb (Uc _)
theorem Nn(ha:VE X a fa)(hb:VE X b fb):VT X (.Compare a [.Gt] [b] pos) (xB (Zh Mq fa fb)):=Vm G1 (Vl _) ha hb (Uc _)
theorem Fu(ha:VE X a fa)(hb:VE X b fb):VT X (.Compare a [.GtE] [b] pos) (xB (Zh Eu fa fb)):=Vm G3 (Vl _) ha hb (Uc _)
def XW(a b:XT):XT:=fun s=>(a s).bind fun c=>if c=true then b s else some false
def Qm(a b:XT):XT:=fun s=>(a s).bind fun c=>if c=true then some true else b s
def Y3(a:XT):XT:=fun s=>(a s).map not
theorem Jn:∀Z H Q,QU K (XW ga gb) Z H Q->GJ (QU K ga) (QU K gb) Z H Q:=fun Z H Q ⟨Rm,s,c,hd,env,e,k⟩=>by
 unfold XW at e
 cases q:ga s with
 | none=>rw[q] at e;cases e
 | some d=>
  rw[q] at e
  refine⟨Rm,s,d,hd,env,q,fun H1 s1=>?_⟩
  cases d with
  | true=>
   simp only[Option.bind_some,if_true] at e;rw[if_pos rfl]
   exact⟨Rm,s,c,fun p hp=>Same.mut s1 (hd p hp),env.mono s1,e,fun H2 s2=>k H2 (s1.trans s2)⟩
  | false=>
   simp only[Option.bind_some,Bool.false_eq_true,if_false] at e;cases e;rw[if_neg Bool.false_ne_true]
   exact k H1 s1
theorem HN:∀Z H Q,QU K (Qm ga gb) Z H Q->EG (QU K ga) (QU K gb) Z H Q:=fun Z H Q ⟨Rm,s,c,hd,env,e,k⟩=>by
 unfold Qm at e
 cases q:ga s with
 | none=>rw[q] at e;cases e
 | some d=>
  rw[q] at e
  refine⟨Rm,s,d,hd,env,q,fun H1 s1=>?_⟩
  cases d with
  | true=>
   simp only[Option.bind_some,if_true] at e;cases e;rw[if_pos rfl]
   exact k H1 s1
  | false=>
   simp only[Option.bind_some,Bool.false_eq_true,if_false] at e;rw[if_neg Bool.false_ne_true]
   exact⟨Rm,s,c,fun p hp=>Same.mut s1 (hd p hp),env.mono s1,e,fun H2 s2=>k H2 (s1.trans s2)⟩
theorem We(ha:VT X a ga):VW X (.BoolOp .And [a] pos) ga:=KO ha
theorem Ol(ha:VT X a ga):VW X (.BoolOp .Or [a] pos) ga:=He ha
theorem Vn(ha:VT X a ga)(hb:VW X (.BoolOp .And (b::rest) pos) gb):VW X (.BoolOp .And (a::b::rest) pos) (XW ga gb):=PW.imp (Hf ha hb) Jn
theorem Ss(ha:VT X a ga)(hb:VW X (.BoolOp .Or (b::rest) pos) gb):VW X (.BoolOp .Or (a::b::rest) pos) (Qm ga gb):=PW.imp (GK ha hb) HN
theorem Wo(ha:VT X a ga):VT X (.UnaryOp .Not a pos) (Y3 ga):=PT.imp (Hg ha) fun Z H Q ⟨Rm,s,c,hd,env,e,k⟩=>by
 unfold Y3 at e
 cases q:ga s with
 | none=>rw[q] at e;cases e
 | some d=>rw[q] at e;cases e;exact⟨Rm,s,d,hd,env,q,k⟩
end
section
variable {X:Cx} {a b c:Expr} {rest:List Expr} {fa fb:XE} {gc:XT} {pos:Pos}
def Ph(a b:XE):XE:=fun s=>(xB a s).bind fun c=>if c=true then b s else some (.bl false)
def ES(a b:XE):XE:=fun s=>(xB a s).bind fun c=>if c=true then some (.bl true) else b s
def Jo(a:XE):XE:=fun s=>(xB a s).map fun c=>.bl !c
def ET(c:XT)(a b:XE):XE:=fun s=>(c s).bind fun k=>if k=true then a s else b s
theorem Om{op}(h:VE X a fa):VE X (.BoolOp op [a] pos) fa:=Hh h
theorem Oo(ha:VE X a fa)(hb:VE X (.BoolOp .And (b::rest) pos) fb):VE X (.BoolOp .And (a::b::rest) pos) (Ph fa fb):=PE.imp (Hi ha hb) fun Z H Q ⟨Rm,s,l,hd,env,e,k⟩=>by
 unfold Ph at e
 cases q:xB fa s with
 | none=>rw[q] at e;cases e
 | some d=>
  rw[q] at e
  refine⟨Rm,s,.bl d,hd,env,UB q,fun v H1 fp s1 i1 _=>⟨d,i1.bl_inv.1,?_⟩⟩
  cases d with
  | true=>
   simp only[Option.bind_some,if_true] at e;rw[if_pos rfl]
   exact⟨Rm,s,l,fun p hp=>Same.mut s1 (hd p hp),env.mono s1,e,fun v2 H2 fp2 s2 i2 n2=>k v2 H2 fp2 (s1.trans s2) i2 n2⟩
  | false=>
   simp only[Option.bind_some,Bool.false_eq_true,if_false] at e;cases e;rw[if_neg Bool.false_ne_true]
   exact k _ H1 [] s1 (Is.bl false) fun p hp=>by simp at hp
theorem HP(ha:VE X a fa):VE X (.UnaryOp .Not a pos) (Jo fa):=PE.imp (Hj ha) fun Z H Q ⟨Rm,s,l,hd,env,e,k⟩=>by
 unfold Jo at e
 cases q:xB fa s with
 | none=>rw[q] at e;cases e
 | some d=>
  rw[q] at e;cases e
  exact⟨Rm,s,.bl d,hd,env,UB q,fun v H1 fp s1 i1 _=>⟨d,i1.bl_inv.1,k _ H1 [] s1 (Is.bl _) fun p hp=>by simp at hp⟩⟩
end
section
variable {X:Cx} {a b c:Expr} {fa fb fc:XE} {pos:Pos}
def Lu(neg:Bool):PV->Option PV
 | .non=>some (.bl !neg)
 | _=>some (.bl neg)
def Tc:PV->Bool
 | .non=>true
 | _=>false
theorem Su{H:Hp}{l:PV}{v:V}{fp:List Addr}(i:Is K H l v fp):decide (v=V.non)=Tc l:=by
 cases l with
 | non=>rw[i.non_inv.1];rfl
 | bl b=>rw[i.bl_inv.1];rfl
 | int j=>rw[i.int_inv.1];rfl
 | str y=>rw[i.str_inv.1];rfl
 | ty n=>rw[i.ty_inv.1];rfl
 | exc C=>simp only[Is] at i;obtain⟨⟨e,o,x,C,rfl,_⟩,_⟩:=i;rfl
 | exf C l=>simp only[Is] at i;obtain⟨⟨e,o,x,C,dx,od,u,z,rfl,_⟩,_⟩:=i;rfl
 | lst l=>obtain⟨p,xs,fq,rfl,_⟩:=i.lst_inv;rfl
 | cst l=>obtain⟨p,xs,rfl,_⟩:=i.cst_inv;rfl
 | tup l=>obtain⟨p,xs,rfl,_⟩:=i.tup_inv;rfl
 | dK ks l=>obtain⟨p,xs,fq,rfl,_⟩:=i.dK_inv;rfl
 | dT ks l=>obtain⟨p,xs,fq,rfl,_⟩:=i.dT_inv;rfl
def X3(neg:Bool)(a:XE):XE:=fun s=>(a s).bind (Lu neg)
theorem Jp:∀Z H Q,tF K (X3 false fa) Z H Q->GI (tF K fa) Z H Q:=fun Z H Q ⟨Rm,s,l,hd,env,e,k⟩=>by
 unfold X3 at e
 cases q:fa s with
 | none=>rw[q] at e;cases e
 | some m=>
  rw[q] at e;simp only[Option.bind_some] at e
  refine⟨Rm,s,m,hd,env,q,fun v H1 fp s1 i1 _=>?_⟩
  show Q _ H1
  rw[Su i1]
  have:l = .bl (Tc m):=by cases m<;>cases e<;>rfl
  subst this
  exact k _ H1 [] s1 (Is.bl _) fun p hp=>by simp at hp
theorem Lv:∀Z H Q,tF K (X3 true fa) Z H Q->Ie (tF K fa) Z H Q:=fun Z H Q ⟨Rm,s,l,hd,env,e,k⟩=>by
 unfold X3 at e
 cases q:fa s with
 | none=>rw[q] at e;cases e
 | some m=>
  rw[q] at e;simp only[Option.bind_some] at e
  refine⟨Rm,s,m,hd,env,q,fun v H1 fp s1 i1 _=>?_⟩
  show Q _ H1
  rw[Su i1]
  have:l = .bl (!Tc m):=by cases m<;>cases e<;>rfl
  subst this
  exact k _ H1 [] s1 (Is.bl _) fun p hp=>by simp at hp
theorem Lw:∀Z H Q,QU K (xB fa) Z H Q->tB (tF K fa) Z H Q:=fun Z H Q ⟨Rm,s,c,hd,env,e,k⟩=>⟨Rm,s,.bl c,hd,env,UB e,fun v H' fp sm i n=>⟨c,i.bl_inv.1,k H' sm⟩⟩
theorem Qn{t t':TE}(i:∀Z H Q,t' Z H Q->t Z H Q):∀Z H Q,tB t' Z H Q->tB t Z H Q:=fun Z H Q h=>i Z H _ h
theorem Lx{j pos'}(ha:VE X a fa):VT X (.Compare a [.Is] [.Constant .none j pos'] pos) (xB (X3 false fa)):=PT.imp (P5 (Hb ha)) fun Z H Q h=>Qn Jp Z H Q (Lw Z H Q h)
theorem Qo{j pos'}(ha:VE X a fa):VT X (.Compare a [.IsNot] [.Constant .none j pos'] pos) (xB (X3 true fa)):=PT.imp (P5 (KN ha)) fun Z H Q h=>Qn Lv Z H Q (Lw Z H Q h)
def Va:PV->Option PV
 | .int i=>some (.int (-i))
 | _=>none
def Qp(g:PV->Option PV)(a:XE):XE:=fun s=>(a s).bind g
theorem Td(ha:VE X a fa):VE X (.UnaryOp .USub a pos) (Qp Va fa):=PE.imp (GZ Hy ha) fun Z H Q ⟨Rm,s,l,hd,env,e,k⟩=>by
 unfold Qp at e
 cases q:fa s with
 | none=>rw[q] at e;cases e
 | some m=>
  rw[q] at e;simp only[Option.bind_some] at e;unfold Va at e
  split at e
  ·cases e
   exact⟨Rm,s,_,hd,env,q,fun v H1 fp s1 i1 _=>⟨_,i1.int_inv.1,k _ H1 [] s1 (Is.int _) fun p hp=>by simp at hp⟩⟩
  ·cases e
end
end VL
namespace VL
open PySem PySem.Spec PyProof.Rows L2
variable {K:PySem.W.Frag}
def Wf:List XE->ZE->Option (List PV)
 | [],_=>some []
 | f::fs,s=>(f s).bind fun x=>(Wf fs s).map (x::·)
theorem Sv{f:XE}{fs:List XE}{s:ZE}{ls:List PV}(h:Wf (f::fs) s=some ls):∃x r,f s=some x/\Wf fs s=some r/\ls=x::r:=by
 unfold Wf at h
 cases q:f s with
 | none=>rw[q] at h;cases h
 | some x=>cases q2:Wf fs s with
  | none=>rw[q,q2] at h;cases h
  | some r=>rw[q,q2] at h;cases h;exact⟨x,r,rfl,rfl,rfl⟩
theorem WQ:∀{fs:List XE}{s:ZE}{ls:List PV},Wf fs s=some ls->ls.length=fs.length
 | [],_,_,h=>by cases h;rfl
 | f::fs,s,ls,h=>by
  obtain⟨x,r,_,h2,rfl⟩:=Sv h
  rw[List.length_cons,List.length_cons,WQ h2]
def Ew(K:PySem.W.Frag)(fs:List XE):TA:=fun Z H Q=>∃(Rm:Addr->Prop) (s:ZE) (ls:List PV),(∀p,Rm p->Ws (H p))/\EnvIs K Rm H s Z/\Wf fs s=some ls/\∀vs H' fp,Same H H'->Iss K H' ls vs fp->(∀p∈fp,¬Rm p)->Q vs H'
def EU(K:PySem.W.Frag)(fs:List XE):TA:=fun Z H Q=>∃(s:ZE) (ls:List PV),EnvIs K (fun _=>False) H s Z/\Wf fs s=some ls/\∀vs H' fp,Same H H'->Iss K H' ls vs fp->fp.Nodup->(∀p∈fp,H p=none/\Ws (H' p))->Q vs H'
def VA(X:Cx)(es:List Expr)(fs:List XE):Prop:=PA X es (Ew X.K fs)
def Fv(X:Cx)(es:List Expr)(fs:List XE):Prop:=PA X es (EU X.K fs)
section
variable {X:Cx} {e:Expr} {es:List Expr} {f:XE} {fs:List XE} {pos:Pos} {k:Nat}
theorem PA.imp{t t':TA}(h:PA X es t)(i:∀Z H Q,t' Z H Q->t Z H Q):PA X es t':=fun pos pins s Z H Q I q=>h pos pins s Z H Q I (i Z H Q q)
theorem Zi:VA X [] []:=PA.imp Y9 fun Z H Q ⟨Rm,s,ls,hd,env,e,k⟩=>by
 cases e
 exact k [] H [] (Same.refl H) Iss.nil fun p hp=>by simp at hp
theorem Zb(ha:VE X e f)(hr:VA X es fs)(hs:starEach (e::es) X.env=(false,eval e X.env)::starEach es X.env:=by rfl):VA X (e::es) (f::fs):=PA.imp (Yb ha hr hs) fun Z H Q ⟨Rm,s,ls,hd,env,e,k⟩=>by
 obtain⟨x',r',h1,h2,rfl⟩:=Sv e
 refine⟨Rm,s,x',hd,env,h1,fun x H1 f1 s1 i1 n1=>⟨Rm,s,r',fun p hp=>Same.mut s1 (hd p hp),env.mono s1,h2,fun xs H2 f2 s2 i2 n2=>?_⟩⟩
 refine k _ H2 (f1++f2) (s1.trans s2) (Iss.cons (i1.mono s2) i2) fun p hp=>?_
 rcases List.mem_append.mp hp with h | h
 ·exact n1 p h
 ·exact n2 p h
theorem XX:Fv X [] []:=PA.imp Y9 fun Z H Q ⟨s,ls,env,e,k⟩=>by
 cases e
 exact k [] H [] (Same.refl H) Iss.nil List.nodup_nil fun p hp=>by simp at hp
theorem YD(ha:VM X e f)(hr:Fv X es fs)(hs:starEach (e::es) X.env=(false,eval e X.env)::starEach es X.env:=by rfl):Fv X (e::es) (f::fs):=PA.imp (Yb ha hr hs) fun Z H Q ⟨s,ls,env,e,k⟩=>by
 obtain⟨x',r',h1,h2,rfl⟩:=Sv e
 refine⟨s,x',env,h1,fun x H1 f1 s1 i1 d1 n1=>⟨s,r',env.mono s1,h2,fun xs H2 f2 s2 i2 d2 n2=>?_⟩⟩
 refine k _ H2 (f1++f2) (s1.trans s2) (Iss.cons (i1.mono s2) i2) ?_ fun p hp=>?_
 ·refine List.nodup_append.mpr ⟨d1,d2,fun a ha b hb z=>?_⟩
  subst z
  exact YU (n1 a ha).2 (n2 a hb).1
 ·rcases List.mem_append.mp hp with h | h
  ·exact⟨(n1 p h).1,Same.mut s2 (n1 p h).2⟩
  ·exact⟨Same.off s1 (n2 p h).1,(n2 p h).2⟩
def ZJ(fs:List XE):XE:=fun s=>(Wf fs s).map .tup
def ZG(fs:List XE):XE:=fun s=>(Wf fs s).map .lst
theorem map_some{α β:Type}{o:Option α}{g:α->β}{b:β}(h:o.map g=some b):∃a,o=some a/\b=g a:=by
 cases o with
 | none=>cases h
 | some a=>cases h;exact⟨a,rfl,rfl⟩
theorem Z8(h:VA X es fs)(hl:fs.length<=1000:=by decide):VE X (.Tuple es k pos) (ZJ fs):=PE.imp (Li h) fun Z H Q ⟨Rm,s,l,hd,env,e,q⟩=>by
 obtain⟨ls,e1,rfl⟩:=map_some e
 refine⟨Rm,s,ls,hd,env,e1,fun vs H1 fp s1 i1 n1=>⟨?_,fun p hp=>?_⟩⟩
 ·rw[i1.len,WQ e1];exact Nat.le_of_lt (lt_size (by omega))
 ·exact q _ _ fp (s1.trans (Same.new hp _)) (Is.tup upd_same (i1.mono (Same.new hp _))) n1
theorem Ly(h:Fv X es fs)(hl:fs.length<=1000:=by decide):VM X (.Tuple es k pos) (ZJ fs):=PE.imp (Li h) fun Z H Q ⟨s,l,env,e,q⟩=>by
 obtain⟨ls,e1,rfl⟩:=map_some e
 refine⟨s,ls,env,e1,fun vs H1 fp s1 i1 d1 n1=>⟨?_,fun p hp=>?_⟩⟩
 ·rw[i1.len,WQ e1];exact Nat.le_of_lt (lt_size (by omega))
 ·exact q _ _ fp (s1.trans (Same.new hp _)) (Is.tup upd_same (i1.mono (Same.new hp _))) d1 fun a ha=>⟨(n1 a ha).1,Same.mut (Same.new hp _) (n1 a ha).2⟩
theorem Xu(h:VA X es fs)(hl:fs.length<=1000:=by decide):VE X (.List es pos) (ZG fs):=PE.imp (Oe h) fun Z H Q ⟨Rm,s,l,hd,env,e,q⟩=>by
 obtain⟨ls,e1,rfl⟩:=map_some e
 refine⟨Rm,s,ls,hd,env,e1,fun vs H1 fp s1 i1 n1=>⟨?_,fun p hp=>?_⟩⟩
 ·rw[i1.len,WQ e1];exact Nat.le_of_lt (lt_size (by omega))
 ·refine q _ _ (p::fp) (s1.trans (Same.new hp _)) (Is.lst upd_same (i1.mono (Same.new hp _))) fun a ha z=>?_
  rcases List.mem_cons.mp ha with rfl | ha
  ·exact YU (Same.mut s1 (hd a z)) hp
  ·exact n1 a ha z
theorem Uh(h:Fv X es fs)(hl:fs.length<=1000:=by decide):VM X (.List es pos) (ZG fs):=PE.imp (Oe h) fun Z H Q ⟨s,l,env,e,q⟩=>by
 obtain⟨ls,e1,rfl⟩:=map_some e
 refine⟨s,ls,env,e1,fun vs H1 fp s1 i1 d1 n1=>⟨?_,fun p hp=>?_⟩⟩
 ·rw[i1.len,WQ e1];exact Nat.le_of_lt (lt_size (by omega))
 ·refine q _ _ (p::fp) (s1.trans (Same.new hp _)) (Is.lst upd_same (i1.mono (Same.new hp _))) (List.nodup_cons.mpr ⟨fun z=>YU (n1 p z).2 hp,d1⟩) fun a ha=>?_
  rcases List.mem_cons.mp ha with rfl | ha
  ·exact⟨Same.off s1 hp,by rw[upd_same];exact True.intro⟩
  ·exact⟨(n1 a ha).1,Same.mut (Same.new hp _) (n1 a ha).2⟩
theorem UC:VM X (.Dict [] [] pos) (eC (.dT [] [])):=PE.imp Ln fun Z H Q ⟨s,l,env,e,q⟩ p hp=>by
 cases e
 exact q _ _ [p] (Same.new hp _) (Is.dT upd_same rfl Iss.nil) (by simp) fun a ha=>by
  rw[List.mem_singleton.mp ha]
  exact⟨hp,by rw[upd_same];exact True.intro⟩
end
def Wg(K:PySem.W.Frag)(D:List PV->Option PV)(n:Nat):Sp:=fun vs H Q _=>vs.length=n/\∃ls fp l,Iss K H ls vs fp/\D ls=some l/\∀v H' fq,Same H H'->Is K H' l v fq->fq.Nodup->(∀p∈fq,H p=none/\Ws (H' p))->Q v H'
def Zg(D:List PV->Option PV)(fs:List XE):XE:=fun s=>(Wf fs s).bind D
theorem Zd{α β:Type}{o:Option α}{g:α->Option β}{b:β}(h:o.bind g=some b):∃a,o=some a/\g a=some b:=by
 cases o with
 | none=>cases h
 | some a=>exact⟨a,rfl,h⟩
section
variable {X:Cx} {x:Str} {ps:List Str} {k:Nat} {e:Expr} {es:List Expr} {fs:List XE} {p pos:Pos}
theorem ZD{D:List PV->Option PV}{n:Nat}(C:Vj X.prog X.w X.K X.mg X.base x ps (Wg X.K D n) k)(hr:Room k X.A)(hg:Gl X x)(ha:VA X (e::es) fs)(hn:fs.length=n:=by rfl)
  (hdb:(x==("__debug__" : Str))=false:=by decide) (he:starEach (e::es) X.env=(false,eval e X.env)::starEach es X.env:=by rfl) (hpl:(backTo pos (starEach es X.env)).any (·.1)=false:=by rfl) :
  VM X (.Call (.Name x p) (e::es) [] pos) (Zg D fs):=PE.imp (HJ C hr hg ha hdb he hpl) fun Z H Q ⟨s,l,env,e,q⟩=>by
 obtain⟨ls,e1,e2⟩:=Zd e
 refine⟨fun _=>False,s,ls,fun _ z=>z.elim,env,e1,fun vs H1 fp s1 i1 n1=>?_⟩
 show Wg X.K D n (vs++[]) H1 Q E0
 rw[List.append_nil]
 exact⟨by rw[i1.len,WQ e1,hn],ls,fp,l,i1,e2,fun v H2 fq s2 i2 d2 n2=>q v H2 fq (s1.trans s2) i2 d2 fun a ha=>⟨Same.off s1 (n2 a ha).1,(n2 a ha).2⟩⟩
end
def RC(K:PySem.W.Frag)(r:List V->Hp->VK->Prop)(g:List PV->Option PV):Prop:=∀(H:Hp)(vs:List V)(ls:List PV)(l:PV)(fp:List Addr),Iss K H ls vs fp->g ls=some l->∀Q:VK,
 (∀v H' fq,Same H H'->Is K H' l v fq->(∀p∈fq,p∈fp\/H p=none)->Q v H')->r vs H Q
def Fw(K:PySem.W.Frag)(r:List V->Hp->VK->Prop)(g:List PV->Option PV):Prop:=∀(H:Hp)(vs:List V)(ls:List PV)(l:PV)(fp:List Addr),Iss K H ls vs fp->g ls=some l->∀Q:VK,
 (∀v H' fq,Same H H'->Is K H' l v fq->fq.Nodup->(∀p∈fq,H p=none/\Ws (H' p))->Q v H')->r vs H Q
theorem Iu{r:List V->Hp->VK->Prop}{g:List PV->Option PV}{fs:List XE}(hr:RC K r g):∀Z H Q,tF K (Zg g fs) Z H Q->F5 r (Ew K fs) Z H Q:=fun Z H Q ⟨Rm,s,l,hd,env,e,k⟩=>by
 obtain⟨ls,e1,e2⟩:=Zd e
 refine⟨Rm,s,ls,hd,env,e1,fun vs H1 fp s1 i1 n1=>hr H1 vs ls l fp i1 e2 Q fun v H2 fq s2 i2 n2=>k v H2 fq (s1.trans s2) i2 fun p hp z=>?_⟩
 rcases n2 p hp with h | h
 ·exact n1 p h z
 ·exact YU (Same.mut s1 (hd p z)) h
theorem Iv{r:List V->Hp->VK->Prop}{g:List PV->Option PV}{fs:List XE}(hr:Fw K r g):∀Z H Q,tM K (Zg g fs) Z H Q->F5 r (Ew K fs) Z H Q:=fun Z H Q ⟨s,l,env,e,k⟩=>by
 obtain⟨ls,e1,e2⟩:=Zd e
 exact⟨fun _=>False,s,ls,fun _ z=>z.elim,env,e1,fun vs H1 fp s1 i1 n1=>hr H1 vs ls l fp i1 e2 Q fun v H2 fq s2 i2 d2 n2=>k v H2 fq (s1.trans s2) i2 d2 fun p hp=>⟨Same.off s1 (n2 p hp).1,(n2 p hp).2⟩⟩
section
variable {X:Cx} {x:Str} {k:Nat} {e:Expr} {es:List Expr} {fs:List XE} {p pos:Pos} {id T:String} {r:List V->Hp->VK->Prop} {g:List PV->Option PV}
theorem Z3(hc:X1 X (.builtin id) r)(hr:RC X.K r g)(hg:Gl X x)(hm:X.mg x=none)(hv:bootBuiltins x=some (.builtin id))(ha:VA X (e::es) fs)(hn:x≠"__name__":=by decide)(hdb:(x==("__debug__" : Str))=false:=by decide)
  (he:starEach (e::es) X.env=(false,eval e X.env)::starEach es X.env:=by rfl) (hpl:(backTo pos (starEach es X.env)).any (·.1)=false:=by rfl):VE X (.Call (.Name x p) (e::es) [] pos) (Zg g fs):=
 PE.imp (Sg hc hg hm hv ha hn hdb he hpl) (Iu hr)
theorem Pj(hc:X1 X (.builtin id) r)(hr:Fw X.K r g)(hg:Gl X x)(hm:X.mg x=none)(hv:bootBuiltins x=some (.builtin id))(ha:VA X (e::es) fs)(hn:x≠"__name__":=by decide)(hdb:(x==("__debug__" : Str))=false:=by decide)
  (he:starEach (e::es) X.env=(false,eval e X.env)::starEach es X.env:=by rfl) (hpl:(backTo pos (starEach es X.env)).any (·.1)=false:=by rfl):VM X (.Call (.Name x p) (e::es) [] pos) (Zg g fs):=
 PE.imp (Sg hc hg hm hv ha hn hdb he hpl) (Iv hr)
theorem YV(hc:X1 X (.type T) r)(hr:RC X.K r g)(hg:Gl X x)(hm:X.mg x=none)(hv:bootBuiltins x=some (.type T))(ha:VA X (e::es) fs)(hn:x≠"__name__":=by decide)(hdb:(x==("__debug__" : Str))=false:=by decide)
  (he:starEach (e::es) X.env=(false,eval e X.env)::starEach es X.env:=by rfl) (hpl:(backTo pos (starEach es X.env)).any (·.1)=false:=by rfl):VE X (.Call (.Name x p) (e::es) [] pos) (Zg g fs):=
 PE.imp (RD hc hg hm hv ha hn hdb he hpl) (Iu hr)
theorem Te(hc:X1 X (.type T) r)(hr:Fw X.K r g)(hg:Gl X x)(hm:X.mg x=none)(hv:bootBuiltins x=some (.type T))(ha:VA X (e::es) fs)(hn:x≠"__name__":=by decide)(hdb:(x==("__debug__" : Str))=false:=by decide)
  (he:starEach (e::es) X.env=(false,eval e X.env)::starEach es X.env:=by rfl) (hpl:(backTo pos (starEach es X.env)).any (·.1)=false:=by rfl):VM X (.Call (.Name x p) (e::es) [] pos) (Zg g fs):=
 PE.imp (RD hc hg hm hv ha hn hdb he hpl) (Iv hr)
end
theorem Iss.one_inv{H:Hp}{l:PV}{vs:List V}{fp:List Addr}(h:Iss K H [l] vs fp):∃v,vs=[v]/\Is K H l v fp:=by
 obtain⟨x,r,f1,f2,rfl,a,b,rfl⟩:=h.inv
 simp only[Iss] at b
 rw[b.1,b.2,List.append_nil];exact⟨x,rfl,a⟩
theorem Iss.two_inv{H:Hp}{l m:PV}{vs:List V}{fp:List Addr}(h:Iss K H [l,m] vs fp):∃v w f1 f2,vs=[v,w]/\Is K H l v f1/\Is K H m w f2/\fp=f1++f2:=by
 obtain⟨x,r,f1,f2,rfl,a,b,rfl⟩:=h.inv
 obtain⟨y,rfl,c⟩:=b.one_inv
 exact⟨x,y,f1,f2,rfl,a,c,rfl⟩
def Oq:PV->Option (List PV)
 | .lst l=>some l
 | .cst l=>some l
 | .tup l=>some l
 | _=>none
theorem T2{H:Hp}{l:PV}{v:V}{fp:List Addr}{m:List PV}(h:Is K H l v fp)(e:Oq l=some m):∃p xs fq,v = .ref p/\(SqL K H p xs\/SqT K H p xs)/\Iss K H m xs fq/\∀q∈fq,q∈fp:=by
 cases l with
 | lst l=>
  cases e
  obtain⟨p,xs,fq,rfl,hp,hi,rfl⟩:=h.lst_inv
  exact⟨p,xs,fq,rfl,.inl (SqL.of hp),hi,fun q hq=>List.mem_cons_of_mem _ hq⟩
 | cst l=>
  cases e
  obtain⟨p,xs,rfl,hp,hi⟩:=h.cst_inv
  exact⟨p,xs,fp,rfl,.inl hp.sq,hi,fun q hq=>hq⟩
 | tup l=>
  cases e
  obtain⟨p,xs,rfl,hp,hi⟩:=h.tup_inv
  exact⟨p,xs,fp,rfl,.inr (SqT.of hp),hi,fun q hq=>hq⟩
 | _=>cases e
def YM:List PV->Option PV
 | [.str z]=>if z.length<=sizeLine then some (.int z.length) else none
 | [l]=>(Oq l).map fun m=>.int m.length
 | _=>none
theorem X4:RC K (fun xs H Q=>∃x n,xs=[x]/\G4 K x H n/\Q (.int n) H) YM:=fun H vs ls l fp h e Q k=>by
 unfold YM at e
 split at e
 ·split at e
  ·cases e
   obtain⟨v,rfl,i⟩:=h.one_inv
   exact⟨v,_,rfl,by rw[i.str_inv.1];exact⟨by assumption,rfl⟩,k _ H [] (Same.refl H) (Is.int _) fun p hp=>by simp at hp⟩
  ·cases e
 ·obtain⟨m,e1,rfl⟩:=map_some e
  obtain⟨v,rfl,i⟩:=h.one_inv
  obtain⟨p,xs,fq,rfl,hp,hi,_⟩:=T2 (K:=K) i e1
  refine⟨_,xs.length,rfl,?_,?_⟩
  ·rcases hp with hp | hp
   ·exact .inl ⟨xs,hp,rfl⟩
   ·exact .inr ⟨xs,hp,rfl⟩
  ·rw[hi.len]
   exact k _ H [] (Same.refl H) (Is.int _) fun p hp=>by simp at hp
 ·cases e
def Yq:List PV->Option PV
 | [l]=>(Oq l).map .tup
 | _=>none
theorem XC:RC K (HK K) Yq:=fun H vs ls l fp h e Q k=>by
 unfold Yq at e
 split at e
 ·obtain⟨m,e1,rfl⟩:=map_some e
  obtain⟨v,rfl,i⟩:=h.one_inv
  rename_i l0
  cases l0 with
  | tup l=>
   cases e1
   obtain⟨p,xs,rfl,hp,hi⟩:=id i.tup_inv
   exact⟨p,xs,rfl,.inr ⟨SqT.of hp,k _ H fp (Same.refl H) i fun a ha=>.inl ha⟩⟩
  | lst l=>
   cases e1
   obtain⟨p,xs,fq,rfl,hp,hi,rfl⟩:=i.lst_inv
   exact⟨p,xs,rfl,.inl ⟨SqL.of hp,fun q hq=>k _ _ fq (Same.new hq _) (Is.tup upd_same (hi.mono (Same.new hq _))) fun a ha=>.inl (List.mem_cons_of_mem _ ha)⟩⟩
  | cst l=>
   cases e1
   obtain⟨p,xs,rfl,hp,hi⟩:=i.cst_inv
   exact⟨p,xs,rfl,.inl ⟨hp.sq,fun q hq=>k _ _ fp (Same.new hq _) (Is.tup upd_same (hi.mono (Same.new hq _))) fun a ha=>.inl ha⟩⟩
  | _=>cases e1
 ·cases e
def YH:List PV->Option PV
 | [l]=>(Oq l).bind fun m=>if Zv m=true then some (.lst m) else none
 | _=>none
theorem Sw:Fw K (Jj K) YH:=fun H vs ls l fp h e Q k=>by
 unfold YH at e
 split at e
 ·obtain⟨m,e1,e2⟩:=Zd e
  split at e2
  ·cases e2
   obtain⟨v,rfl,i⟩:=h.one_inv
   obtain⟨p,xs,fq,rfl,hp,hi,hs⟩:=T2 (K:=K) i e1
   have:=Iss.pure _ _ _ (by assumption) hi
   subst this
   refine⟨p,xs,rfl,hp,fun q hq=>k _ _ [q] (Same.new hq _) (Is.lst upd_same (hi.mono (Same.new hq _))) (by simp) fun a ha=>?_⟩
   rw[List.mem_singleton.mp ha]
   exact⟨hq,by rw[upd_same];exact True.intro⟩
  ·cases e2
 ·cases e
def Xc:List PV->Option (List Int)
 | []=>some []
 | .int i::r=>(Xc r).map (i::·)
 | _=>none
theorem Y4:∀l:List Int,Xc (iL l)=some l
 | []=>rfl
 | i::r=>by show(Xc (iL r)).map (i::·)=_;rw[Y4 r];rfl
theorem Wh:∀{m:List PV}{l:List Int},Xc m=some l->m=iL l
 | [],l,h=>by cases h;rfl
 | .int i::r,l,h=>by
  obtain⟨a,e,rfl⟩:=map_some (show(Xc r).map (i::·)=some l from h)
  rw[Wh e];rfl
 | .non::_,_,h=>by cases h
 | .bl _::_,_,h=>by cases h
 | .str _::_,_,h=>by cases h
 | .ty _::_,_,h=>by cases h
 | .exc _::_,_,h=>by cases h
 | .exf _ _::_,_,h=>by cases h
 | .tup _::_,_,h=>by cases h
 | .lst _::_,_,h=>by cases h
 | .cst _::_,_,h=>by cases h
 | .dK _ _::_,_,h=>by cases h
 | .dT _ _::_,_,h=>by cases h
abbrev bL(l:List Bool):List PV:=l.map PV.bl
def UD:List PV->Option (List Bool)
 | []=>some []
 | .bl i::r=>(UD r).map (i::·)
 | _=>none
theorem WR:∀{m:List PV}{l:List Bool},UD m=some l->m=bL l
 | [],l,h=>by cases h;rfl
 | .bl i::r,l,h=>by
  obtain⟨a,e,rfl⟩:=map_some (show(UD r).map (i::·)=some l from h)
  rw[WR e];rfl
 | .non::_,_,h=>by cases h
 | .int _::_,_,h=>by cases h
 | .str _::_,_,h=>by cases h
 | .ty _::_,_,h=>by cases h
 | .exc _::_,_,h=>by cases h
 | .exf _ _::_,_,h=>by cases h
 | .tup _::_,_,h=>by cases h
 | .lst _::_,_,h=>by cases h
 | .cst _::_,_,h=>by cases h
 | .dK _ _::_,_,h=>by cases h
 | .dT _ _::_,_,h=>by cases h
theorem Iss.bL{H:Hp}:∀{l:List Bool}{xs:List V}{fp:List Addr},Iss K H (VL.bL l) xs fp->xs=l.map V.bl/\fp=[]
 | [],xs,fp,h=>by simpa only[VL.bL,List.map_nil,Iss] using h
 | i::l,xs,fp,h=>by
  obtain⟨x,r,f1,f2,rfl,h1,h2,rfl⟩:=Iss.inv (show Iss K H (PV.bl i::VL.bL l) xs fp from h)
  obtain⟨rfl,rfl⟩:=h1.bl_inv
  obtain⟨rfl,rfl⟩:=h2.bL
  exact⟨rfl,rfl⟩
def W6:List PV->Option PV
 | [.int i,.int j]=>some (.int (if j<i then j else i))
 | _=>none
def RL:List PV->Option PV
 | [.int i,.int j]=>some (.int (if j>i then j else i))
 | _=>none
def Pk:List PV->Option PV
 | [.int i]=>some (.int i)
 | [.bl c]=>some (.int (if c then 1 else 0))
 | _=>none
theorem Qq:RC K (fun xs H Q=>∃i j,xs=[.int i,.int j]/\Q (.int (if j<i then j else i)) H) W6:=fun H vs ls l fp h e Q k=>by
 unfold W6 at e
 split at e
 ·cases e
  obtain⟨v,w,f1,f2,rfl,a,b,rfl⟩:=h.two_inv
  exact⟨_,_,by rw[a.int_inv.1,b.int_inv.1],k _ H [] (Same.refl H) (Is.int _) fun p hp=>by simp at hp⟩
 ·cases e
theorem Jq:RC K (fun xs H Q=>∃i j,xs=[.int i,.int j]/\Q (.int (if j>i then j else i)) H) RL:=fun H vs ls l fp h e Q k=>by
 unfold RL at e
 split at e
 ·cases e
  obtain⟨v,w,f1,f2,rfl,a,b,rfl⟩:=h.two_inv
  exact⟨_,_,by rw[a.int_inv.1,b.int_inv.1],k _ H [] (Same.refl H) (Is.int _) fun p hp=>by simp at hp⟩
 ·cases e
theorem Jr:RC K (fun xs H Q=>(∃i,xs=[.int i]/\Q (.int i) H)\/∃k,xs=[.bl k]/\Q (.int (if k then 1 else 0)) H) Pk:=fun H vs ls l fp h e Q k=>by
 unfold Pk at e
 split at e
 ·cases e
  obtain⟨v,rfl,a⟩:=h.one_inv
  exact .inl ⟨_,by rw[a.int_inv.1],k _ H [] (Same.refl H) (Is.int _) fun p hp=>by simp at hp⟩
 ·cases e
  obtain⟨v,rfl,a⟩:=h.one_inv
  exact .inr ⟨_,by rw[a.bl_inv.1],k _ H [] (Same.refl H) (Is.int _) fun p hp=>by simp at hp⟩
 ·cases e
section
variable {X:Cx} {e:Expr} {es:List Expr} {fs:List XE} {p pos:Pos}
def TM:List PV->Option PV
 | [.int _,.ty "int"]=>some (.bl true)
 | [.int _,.ty "bool"]=>some (.bl false)
 | [.bl _,.ty "bool"]=>some (.bl true)
 | [.tup _,.ty "tuple"]=>some (.bl true)
 | [.lst _,.ty "list"]=>some (.bl true)
 | [.str _,.ty "str"]=>some (.bl true)
 | _=>none
theorem Rr:PySem.W.kitOne K (.type "bool") (.type "bool")=some true:=rfl
theorem Np:RC K (fun xs H Q=>∃x T t b,xs=[x,.ty T]/\TyOf K H x t/\PySem.W.kitOne K t (.type T)=some b/\Q (.bl b) H) TM:=fun H vs ls l fp h e Q k=>by
  have fin:∀b:Bool,l = .bl b->Q (.bl b) H:=fun b z=>by subst z;exact k _ H [] (Same.refl H) (Is.bl _) fun p hp=>by simp at hp
  unfold TM at e
  split at e<;>first
    | (cases e
       obtain⟨v,w,f1,f2,rfl,a,b,rfl⟩:=h.two_inv
       first
         | (obtain⟨rfl,_⟩:=a.int_inv;first
             | exact⟨_,_,_,_,by rw[b.ty_inv.1],TyOf.int _,Pa,fin _ rfl⟩
             | exact⟨_,_,_,_,by rw[b.ty_inv.1],TyOf.int _,Qi,fin _ rfl⟩)
         | (obtain⟨rfl,_⟩:=a.bl_inv;exact⟨_,_,_,_,by rw[b.ty_inv.1],TyOf.bl _,Rr,fin _ rfl⟩)
         | (obtain⟨rfl,_⟩:=a.str_inv;exact⟨_,_,_,_,by rw[b.ty_inv.1],TyOf.str _,Pc,fin _ rfl⟩)
         | (obtain⟨q,xs,rfl,hp,_⟩:=a.tup_inv;exact⟨_,_,_,_,by rw[b.ty_inv.1],TyOf.tup hp,Pb,fin _ rfl⟩)
         | (obtain⟨q,xs,fq,rfl,hp,_⟩:=a.lst_inv
            exact⟨_,_,_,_,by rw[b.ty_inv.1],TyOf.lst hp,Rq,fin _ rfl⟩))
    | cases e
theorem Iw{x:Str}{n:String}(hg:Gl X x)(hm:X.mg x=none)(hv:bootBuiltins x=some (.type n))(hn:x≠"__name__":=by decide)(hd:(x==("__debug__" : Str))=false:=by decide):VE X (.Name x pos) (eC (.ty n)):=
 Lr (KJ hg hm hv (v:=.ty n) rfl hn hd) fun _=>Is.ty n
end
end VL
namespace VL
open PySem PySem.Spec PyProof.Rows L2
variable {K:PySem.W.Frag}
open Classical in
noncomputable instance:DecidableEq PV:=fun a b=>propDecidable (a=b)
def Xd:Nat->PV->PV->Bool
 | _+1,.non,.non=>true
 | _+1,.bl _,.bl _=>true
 | _+1,.int _,.int _=>true
 | _+1,.str _,.str _=>true
 | n+1,.tup l,.tup m=>(l.zip m).all fun z=>Xd n z.1 z.2
 | n+1,.lst l,.lst m=>(l.zip m).all fun z=>Xd n z.1 z.2
 | _,_,_=>false
theorem UE{α β:Type}{p:α×β->Bool}{a:α}{b:β}{l:List α}{m:List β}(h:((a::l).zip (b::m)).all p=true):p (a,b)=true/\(l.zip m).all p=true:=by
 rw[List.zip_cons_cons,List.all_cons,Bool.and_eq_true] at h;exact h
theorem Iss.inj'{n:Nat}{H:Hp}(ih:∀a b v fa fb,Xd n a b=true->Is K H a v fa->Is K H b v fb->a=b):∀{l m:List PV}{xs:List V}{fa fb:List Addr},(l.zip m).all (fun z=>Xd n z.1 z.2)=true->Iss K H l xs fa->Iss K H m xs fb->l=m
 | [],m,xs,fa,fb,_,h,h'=>by
  simp only[Iss] at h
  rw[h.1] at h'
  have:=h'.len
  cases m with
  | nil=>rfl
  | cons _ _=>simp at this
 | a::l,m,xs,fa,fb,hc,h,h'=>by
  obtain⟨x,r,f1,f2,rfl,h1,h2,rfl⟩:=h.inv
  cases m with
  | nil=>have:=h'.len;simp at this
  | cons b m=>
   obtain⟨x',r',g1,g2,e,h3,h4,rfl⟩:=h'.inv
   cases e
   obtain⟨c1,c2⟩:=UE hc
   rw[ih a b x f1 g1 c1 h1 h3,Iss.inj' ih c2 h2 h4]
theorem Is.inj'{H:Hp}:∀(n:Nat)(a b:PV)(v:V)(fa fb:List Addr),Xd n a b=true->Is K H a v fa->Is K H b v fb->a=b
 | 0,a,b,v,fa,fb,hc,_,_=>by unfold Xd at hc;simp at hc
 | n+1,a,b,v,fa,fb,hc,ha,hb=>by
  cases a<;>cases b<;>first
   | (exfalso;revert hc;unfold Xd;simp;done)
   | skip
  ·rfl
  ·rw[ha.bl_inv.1] at hb;have:=hb.bl_inv.1;cases this;rfl
  ·rw[ha.int_inv.1] at hb;have:=hb.int_inv.1;cases this;rfl
  ·rw[ha.str_inv.1] at hb;have:=hb.str_inv.1;cases this;rfl
  ·obtain⟨p,xs,rfl,hp,hi⟩:=ha.tup_inv
   obtain⟨p',ys,e,hp',hi'⟩:=hb.tup_inv
   cases e
   rw[hp] at hp';cases hp'
   unfold Xd at hc;rw[Iss.inj' (Is.inj' n) hc hi hi']
  ·obtain⟨p,xs,fq,rfl,hp,hi,_⟩:=ha.lst_inv
   obtain⟨p',ys,fq',e,hp',hi',_⟩:=hb.lst_inv
   cases e
   rw[hp] at hp';cases hp'
   unfold Xd at hc;rw[Iss.inj' (Is.inj' n) hc hi hi']
section
variable {X:Cx} {pins:List (Addr×Obj)} {Z:Us} {H:Hp} {s:Shared} {A:Around}
theorem Ot{n:Nat}(ih:∀a b x y fa fb u w,Xd n a b=true->Is K H a x fa->Is K H b y fb->RelV x u->RelV y w->∃r,SeqAt.EqAt A s u w r/\(r=true↔a=b)) :
  ∀{l m:List PV}{xs ys:List V}{fa fb:List Addr}{us ws:List Value},(l.zip m).all (fun z=>Xd n z.1 z.2)=true->Iss K H l xs fa->Iss K H m ys fb->Vals xs us->Vals ys ws->
  ∃e:Nat->Bool,(∀j (h1:j<us.length) (h2:j<ws.length),SeqAt.EqAt A s us[j] ws[j] (e j))/\((List.range (min us.length ws.length)).all e=true↔l.take (min us.length ws.length)=m.take (min us.length ws.length))
 | [],m,xs,ys,fa,fb,us,ws,_,h,_,r,_=>by
  simp only[Iss] at h
  obtain⟨rfl,_⟩:=h
  cases r
  exact⟨fun _=>true,fun j h1=>by simp at h1,by simp⟩
 | a::l,[],xs,ys,fa,fb,us,ws,_,_,h,_,r=>by
  simp only[Iss] at h
  obtain⟨rfl,_⟩:=h
  cases r
  exact⟨fun _=>true,fun j h1 h2=>by simp at h2,by simp⟩
 | a::l,b::m,xs,ys,fa,fb,us,ws,hc,h,h',r,r'=>by
  obtain⟨x,xr,f1,f2,rfl,h1,h2,rfl⟩:=h.inv
  obtain⟨y,yr,g1,g2,rfl,h3,h4,rfl⟩:=h'.inv
  obtain⟨c1,c2⟩:=UE hc
  cases r with
  | cons q v=>cases r' with
   | cons q' v'=>
    obtain⟨t,ht,ht'⟩:=ih a b x y f1 g1 _ _ c1 h1 h3 q q'
    obtain⟨e,he,he'⟩:=Ot ih c2 h2 h4 v v'
    refine⟨fun j=>match j with | 0=>t | k+1=>e k,fun j h1 h2=>?_,?_⟩
    ·cases j with
     | zero=>exact ht
     | succ k=>exact he k (by simpa using h1) (by simpa using h2)
    ·simp only[List.length_cons,Nat.succ_min_succ,List.range_succ_eq_map,List.all_cons,List.all_map,Bool.and_eq_true,List.take_succ_cons,List.cons.injEq]
     exact and_congr ht' he'
theorem Iss.same'{l m:List PV}{xs ys:List V}{fa fb:List Addr}{us ws:List Value}(h:Iss K H l xs fa)(h':Iss K H m ys fb)(r:Vals xs us)(r':Vals ys ws) :
  (l.take (min us.length ws.length)=m.take (min us.length ws.length)/\us.length=ws.length)↔l=m:=by
 have e1:=h.len;have e2:=h'.len;have e3:=r.length;have e4:=r'.length;constructor
 ·rintro⟨a,b⟩
  rw[List.take_of_length_le (by omega),List.take_of_length_le (by omega)] at a;exact a
 ·intro a
  subst a
  exact⟨rfl,by omega⟩
def Iy(A:Around)(s:Shared)(u w:Value)(r:Bool):Prop:=SeqAt.RcAt A s u w r/\SeqAt.RcNeAt A s u w !r
theorem Sx(I:Inv X pins Z H s):∀(n:Nat)(A:Around)(a b:PV)(x y:V)(fa fb:List Addr)(u w:Value),A.units+2*n+2<cLine->Xd n a b=true->Is K H a x fa->Is K H b y fb->RelV x u->RelV y w->
  (∃r,SeqAt.EqAt A s u w r/\(r=true↔a=b))/\∃r,Iy A s u w r/\(r=true↔a=b)
 | 0,A,a,b,x,y,fa,fb,u,w,hu,hc,_,_,_,_=>by unfold Xd at hc;simp at hc
 | n+1,A,a,b,x,y,fa,fb,u,w,hu,hc,ha,hb,ru,rw'=>by
  cases a<;>cases b<;>first
   | (exfalso;revert hc;unfold Xd;simp;done)
   | skip
  ·rw[ha.non_inv.1] at ru;rw[hb.non_inv.1] at rw'
   cases ru;cases rw'
   exact⟨⟨true,SeqAt.EqAt.same _,by simp⟩,true,⟨SeqAt.RcAt.none_none,SeqAt.RcNeAt.none_none⟩,by simp⟩
  ·rw[ha.bl_inv.1] at ru;rw[hb.bl_inv.1] at rw'
   cases ru;cases rw'
   exact⟨⟨_,SeqAt.EqAt.bool_bool _ _,by simp⟩,_,⟨SeqAt.RcAt.bool_bool _ _,SeqAt.RcNeAt.bool_bool _ _⟩,by simp⟩
  ·rw[ha.int_inv.1] at ru;rw[hb.int_inv.1] at rw'
   obtain⟨t,rfl⟩:=ru
   obtain⟨t',rfl⟩:=rw'
   exact⟨⟨_,SeqAt.EqAt.int_int _ _ _ _,by simp⟩,_,⟨SeqAt.RcAt.int_int _ _ _ _,SeqAt.RcNeAt.int_int _ _ _ _⟩,by simp⟩
  ·rw[ha.str_inv.1] at ru;rw[hb.str_inv.1] at rw'
   obtain⟨t,rfl⟩:=ru
   obtain⟨t',rfl⟩:=rw'
   exact⟨⟨_,SeqAt.EqAt.str_str _ _ _ _,by simp⟩,_,⟨SeqAt.RcAt.str_str _ _ _ _,SeqAt.RcNeAt.str_str _ _ _ _⟩,by simp⟩
  ·rename_i l1 l2
   obtain⟨p,xs,rfl,hp,hi⟩:=id ha.tup_inv
   obtain⟨p',ys,rfl,hp',hi'⟩:=id hb.tup_inv
   cases ru
   cases rw'
   have hc':=hc
   unfold Xd at hc'
   obtain⟨us,rv,q,_⟩:=I.tuple (SqT.of hp)
   obtain⟨ws,rv',q',_⟩:=I.tuple (SqT.of hp')
   obtain⟨f,hf,hf'⟩:=Ot (A:=A.in1) (fun a b x y fa fb u w c i1 i2 r1 r2=>(Sx I n A.in1 a b x y fa fb u w (by show A.units+1+2*n+2<cLine;omega) c i1 i2 r1 r2).1) hc' hi hi' rv rv'
   have rc:=SeqAt.RcAt.tuples (A:=A) (e:=f) (show s.heap.IsTuple p us.toArray from q) (show s.heap.IsTuple p' ws.toArray from q') (by omega) (fun j h1 h2=>hf j (by simpa using h1) (by simpa using h2))
   have rn:=SeqAt.RcNeAt.tuples (A:=A) (e:=f) (show s.heap.IsTuple p us.toArray from q) (show s.heap.IsTuple p' ws.toArray from q') (by omega) (fun j h1 h2=>hf j (by simpa using h1) (by simpa using h2))
   have key:(((List.range (min us.toArray.size ws.toArray.size)).all f&&us.toArray.size==ws.toArray.size)=true)↔PV.tup l1=PV.tup l2:=by
    simp only[List.size_toArray,Bool.and_eq_true,beq_iff_eq,PV.tup.injEq];rw[hf']
    exact Iss.same' hi hi' rv rv'
   refine⟨?_,_,⟨rc,rn⟩,key⟩
   by_cases e:p=p'
   ·subst e
    exact⟨true,SeqAt.EqAt.same _,by simp[Is.inj' (n+1) _ _ _ _ _ hc ha hb]⟩
   ·exact⟨_,SeqAt.EqAt.of_refs e rc,key⟩
  ·rename_i l1 l2
   obtain⟨p,xs,fq,rfl,hp,hi,_⟩:=id ha.lst_inv
   obtain⟨p',ys,fq',rfl,hp',hi',_⟩:=id hb.lst_inv
   cases ru
   cases rw'
   have hc':=hc
   unfold Xd at hc'
   obtain⟨us,rv,q,_⟩:=I.list (SqL.of hp)
   obtain⟨ws,rv',q',_⟩:=I.list (SqL.of hp')
   obtain⟨f,hf,hf'⟩:=Ot (A:=A.in1) (fun a b x y fa fb u w c i1 i2 r1 r2=>(Sx I n A.in1 a b x y fa fb u w (by show A.units+1+2*n+2<cLine;omega) c i1 i2 r1 r2).1) hc' hi hi' rv rv'
   have fin:∃r,Iy A s (.ref p) (.ref p') r/\(r=true↔PV.lst l1=PV.lst l2):=by
    have key:=Iss.same' hi hi' rv rv'
    by_cases hsz:us.length=ws.length
    ·refine⟨_,⟨SeqAt.RcAt.lists (e:=f) q.isList q'.isList (by simpa using hsz) (by omega) (fun j h1 h2=>hf j (by simpa using h1) (by simpa using h2)),SeqAt.RcNeAt.lists (e:=f) q.isList q'.isList (by simpa using hsz) (by omega) (fun j h1 h2=>hf j (by simpa using h1) (by simpa using h2))⟩,?_⟩
     rw[hsz,Nat.min_self] at hf' key
     simp only[List.size_toArray,PV.lst.injEq];rw[hsz,hf',<-key]
     simp
    ·refine⟨false,⟨SeqAt.RcAt.lists_lengths q.isList q'.isList (by simpa using hsz) (by omega),SeqAt.RcNeAt.lists_lengths q.isList q'.isList (by simpa using hsz) (by omega)⟩,?_⟩
     rw[PV.lst.injEq,<-key];simp[hsz]
   obtain⟨r,hr,hk⟩:=fin
   refine⟨?_,r,hr,hk⟩
   by_cases e:p=p'
   ·subst e
    exact⟨true,SeqAt.EqAt.same _,by simp[Is.inj' (n+1) _ _ _ _ _ hc ha hb]⟩
   ·exact⟨r,SeqAt.EqAt.of_refs e hr.1,hk⟩
end
def HQ(K:PySem.W.Frag)(neg:Bool):R2:=fun x y H Q=>∃a b fa fb,Is K H a x fa/\Is K H b y fb/\Xd 8 a b=true/\∀r:Bool,(r=true↔a=b)->Q (.bl (if neg then !r else r)) H
section
variable {X:Cx}
theorem Lz(hu:X.A.units+64<cLine):WI X (compareOp .Eq) (HQ X.K false):=by
 intro pins s Z H x y v u Q I rx ry h
 obtain⟨a,b,fa,fb,ha,hb,hc,q⟩:=h
 obtain⟨_,r,hr,hk⟩:=Sx I 8 X.A a b x y fa fb v u (by omega) hc ha hb rx ry
 exact hr.1 X.prog X.w X.xe _ ⟨.bl r,H,I,rfl,q r hk⟩
theorem HR(hu:X.A.units+64<cLine):WI X (compareOp .NotEq) (HQ X.K true):=by
 intro pins s Z H x y v u Q I rx ry h
 obtain⟨a,b,fa,fb,ha,hb,hc,q⟩:=h
 obtain⟨_,r,hr,hk⟩:=Sx I 8 X.A a b x y fa fb v u (by omega) hc ha hb rx ry
 exact hr.2 X.prog X.w X.xe _ ⟨.bl !r,H,I,rfl,q r hk⟩
end
noncomputable def XA(neg:Bool):PV->PV->Option PV:=fun a b=>if Xd 8 a b=true then some (.bl (if neg then !decide (a=b) else decide (a=b))) else none
theorem Ou(neg:Bool):RB K (HQ K neg) (XA neg):=fun H x y a b l fa fb ha hb e Q k=>by
 unfold XA at e
 split at e
 ·cases e
  refine⟨a,b,fa,fb,ha,hb,by assumption,fun r hr=>?_⟩
  have:r=decide (a=b):=by
   cases r with
   | true=>exact(decide_eq_true (hr.mp rfl)).symm
   | false=>exact(decide_eq_false fun z=>Bool.false_ne_true (hr.mpr z)).symm
  subst this
  exact k _ H [] (Same.refl H) (Is.bl _) fun p hp=>by simp at hp
 ·cases e
def HS(K:PySem.W.Frag)(neg:Bool):R2:=fun x y H Q=>∃a b m fa fb,Is K H a x fa/\Is K H b y fb/\Oq b=some m/\(m.all fun z=>Xd 8 z a)=true/\∀r:Bool,(r=true↔a∈m)->Q (.bl (if neg then !r else r)) H
section
variable {X:Cx} {pins:List (Addr×Obj)} {Z:Us} {H:Hp} {s:Shared}
theorem T3{a:PV}{x:V}{fa:List Addr}{u:Value}{A:Around}(I:Inv X pins Z H s)(hu:A.units+18<cLine)(ha:Is K H a x fa)(rx:RelV x u):∀{m:List PV}{xs:List V}{fb:List Addr}{us:List Value},(m.all fun z=>Xd 8 z a)=true->Iss K H m xs fb->Vals xs us->
  ∃e:Value->Bool,(∀y∈us,SeqAt.EqAt A s y u (e y))/\(us.any e=true↔a∈m):=fun{m xs fb us} hc h r=>by
 -- each one's answer
 have each:∀y∈us,∃t:Bool,SeqAt.EqAt A s y u t/\(t=true↔∃b,b∈m/\b=a/\∃z f,Is K H b z f/\RelV z y):=fun y hy=>by
  obtain⟨j,hj,e⟩:=List.mem_iff_getElem.mp hy
  have hl:=r.length
  have hxj:xs[j]?=some xs[j]:=List.getElem?_eq_getElem (by omega)
  obtain⟨b,f,hb,ib,_⟩:=h.get' hxj
  obtain⟨w,hw,rw'⟩:=r.get hxj
  rw[List.getElem?_eq_getElem hj] at hw;cases hw
  rw[e] at rw'
  have hbm:b∈m:=List.mem_of_getElem? hb
  have cb:=List.all_eq_true.mp hc b hbm
  obtain⟨⟨t,ht,hk⟩,_⟩:=Sx I 8 A b a xs[j] x f fa y u (by omega) cb ib ha rw' rx
  refine⟨t,ht,hk.trans ⟨fun z=>⟨b,hbm,z,xs[j],f,ib,rw'⟩,fun⟨b',hb',e',z,f',i',r'⟩=>?_⟩⟩
  have ez:z=xs[j]:=r'.inj rw'
  subst ez;have cb':=List.all_eq_true.mp hc b' hb'
  subst e'
  exact Is.inj' 8 b b' _ _ _ cb ib i'
 classical
 refine⟨fun y=>if hy:y∈us then(each y hy).choose else false,fun y hy=>?_,?_⟩
 ·simp only[dif_pos hy];exact(each y hy).choose_spec.1
 ·rw[List.any_eq_true]
  constructor
  ·rintro⟨y,hy,e⟩
   rw[dif_pos hy] at e
   obtain⟨b,hb,rfl,_⟩:=(each y hy).choose_spec.2.mp e
   exact hb
  ·intro hm
   obtain⟨j,hj,e⟩:=List.mem_iff_getElem.mp hm
   obtain⟨z,f,hz,iz,_⟩:=h.get (List.getElem?_eq_getElem hj)
   obtain⟨y,hy,ry⟩:=r.get hz
   have hyu:y∈us:=List.mem_of_getElem? hy
   refine⟨y,hyu,?_⟩
   rw[dif_pos hyu]
   exact(each y hyu).choose_spec.2.mpr ⟨a,hm,rfl,z,f,e▸iz,ry⟩
end
section
variable {X:Cx}
theorem HU(hu:X.A.units+64<cLine):WI X (compareOp .In) (HS X.K false):=by
 intro pins s Z H x y v u Q I rx ry h
 obtain⟨a,b,m,fa,fb,ha,hb,hm,hc,q⟩:=h
 obtain⟨p,xs,fq,rfl,hp,hi,_⟩:=T2 (K:=X.K) hb hm
 cases ry
 rcases hp with hp | hp
 ·obtain⟨us,rv,t,_⟩:=I.list hp
  obtain⟨e,he,hk⟩:=T3 (A:=X.A.in1) I (by show X.A.units+1+18<cLine;omega) ha rx hc hi rv
  refine SeqAt.in_listAt e t.isList (fun w hw=>he w (by simpa using hw)) ⟨.bl _,H,I,rfl,?_⟩
  rw[show us.toArray.any e=us.any e by simp]
  exact q _ hk
 ·obtain⟨us,rv,t,_⟩:=I.tuple hp
  obtain⟨e,he,hk⟩:=T3 (A:=X.A.in1) I (by show X.A.units+1+18<cLine;omega) ha rx hc hi rv
  refine SeqAt.in_tupleAt e t (fun w hw=>he w (by simpa using hw)) ⟨.bl _,H,I,rfl,?_⟩
  rw[show us.toArray.any e=us.any e by simp]
  exact q _ hk
theorem Mr(hu:X.A.units+64<cLine):WI X (compareOp .NotIn) (HS X.K true):=by
 intro pins s Z H x y v u Q I rx ry h
 obtain⟨a,b,m,fa,fb,ha,hb,hm,hc,q⟩:=h
 obtain⟨p,xs,fq,rfl,hp,hi,_⟩:=T2 (K:=X.K) hb hm
 cases ry
 rcases hp with hp | hp
 ·obtain⟨us,rv,t,_⟩:=I.list hp
  obtain⟨e,he,hk⟩:=T3 (A:=X.A.in1) I (by show X.A.units+1+18<cLine;omega) ha rx hc hi rv
  refine SeqAt.notIn_listAt e t.isList (fun w hw=>he w (by simpa using hw)) ⟨.bl _,H,I,rfl,?_⟩
  rw[show us.toArray.any e=us.any e by simp]
  exact q _ hk
 ·obtain⟨us,rv,t,_⟩:=I.tuple hp
  obtain⟨e,he,hk⟩:=T3 (A:=X.A.in1) I (by show X.A.units+1+18<cLine;omega) ha rx hc hi rv
  refine SeqAt.notIn_tupleAt e t (fun w hw=>he w (by simpa using hw)) ⟨.bl _,H,I,rfl,?_⟩
  rw[show us.toArray.any e=us.any e by simp]
  exact q _ hk
end
noncomputable def V1(neg:Bool):PV->PV->Option PV:=fun a b=>(Oq b).bind fun m=>if(m.all fun z=>Xd 8 z a)=true then some (.bl (if neg then !decide (a∈m) else decide (a∈m))) else none
theorem LA(neg:Bool):RB K (HS K neg) (V1 neg):=fun H x y a b l fa fb ha hb e Q k=>by
 obtain⟨m,hm,e⟩:=Zd e
 split at e
 ·cases e
  refine⟨a,b,m,fa,fb,ha,hb,hm,by assumption,fun r hr=>?_⟩
  have:r=decide (a∈m):=by
   cases r with
   | true=>exact(decide_eq_true (hr.mp rfl)).symm
   | false=>exact(decide_eq_false fun z=>Bool.false_ne_true (hr.mpr z)).symm
  subst this
  exact k _ H [] (Same.refl H) (Is.bl _) fun p hp=>by simp at hp
 ·cases e
end VL
namespace VL
open PySem PySem.Spec PyProof.Rows L2
variable {K:PySem.W.Frag}
mutual
theorem Is.dom{H:Hp}:∀(l:PV)(v:V)(fp:List Addr),Is K H l v fp->∀p∈fp,H p≠none
 | .non,_,_,h=>by simp only[Is] at h;rw[h.2];simp
 | .bl _,_,_,h=>by simp only[Is] at h;rw[h.2];simp
 | .int _,_,_,h=>by simp only[Is] at h;rw[h.2];simp
 | .str _,_,_,h=>by simp only[Is] at h;rw[h.2];simp
 | .ty _,_,_,h=>by simp only[Is] at h;rw[h.2];simp
 | .exc _,_,_,h=>by simp only[Is] at h;rw[h.2];simp
 | .exf _ _,_,_,h=>by simp only[Is] at h;rw[h.2];simp
 | .tup l,v,fp,h=>by
  obtain⟨p,xs,_,_,hi⟩:=h.tup_inv
  exact Iss.dom l xs fp hi
 | .lst l,v,fp,h=>by
  obtain⟨p,xs,fq,_,hp,hi,rfl⟩:=h.lst_inv
  intro q hq
  rcases List.mem_cons.mp hq with rfl | hq
  ·rw[hp];simp
  ·exact Iss.dom l xs fq hi q hq
 | .cst l,v,fp,h=>by
  obtain⟨p,xs,_,_,hi⟩:=h.cst_inv
  exact Iss.dom l xs fp hi
 | .dK ks l,v,fp,h=>by
  obtain⟨p,kvs,fq,_,hp,_,hi,rfl⟩:=h.dK_inv
  intro q hq
  rcases List.mem_cons.mp hq with rfl | hq
  ·rcases hp with e | ⟨o,e⟩<;>rw[e]<;>simp
  ·exact Iss.dom l _ fq hi q hq
 | .dT ks l,v,fp,h=>by
  obtain⟨p,kvs,fq,_,hp,_,hi,rfl⟩:=h.dT_inv
  intro q hq
  rcases List.mem_cons.mp hq with rfl | hq
  ·rcases hp with e | ⟨o,e⟩<;>rw[e]<;>simp
  ·exact Iss.dom l _ fq hi q hq
theorem Iss.dom{H:Hp}:∀(l:List PV)(xs:List V)(fp:List Addr),Iss K H l xs fp->∀p∈fp,H p≠none
 | [],_,_,h=>by simp only[Iss] at h;rw[h.2];simp
 | l::ls,xs,fp,h=>by
  obtain⟨x,r,f1,f2,_,h1,h2,rfl⟩:=h.inv
  intro q hq
  rcases List.mem_append.mp hq with hq | hq
  ·exact Is.dom l x f1 h1 q hq
  ·exact Iss.dom ls r f2 h2 q hq
end
def Ab(Rm:Addr->Prop)(H H':Hp):Prop:=∀b o,H b=some o->¬Rm b->H' b=some o
theorem Same.ab{Rm:Addr->Prop}{H H':Hp}(s:Same H H'):Ab Rm H H':=fun b o h _=>s b o h
theorem Ab.tk{Rm:Addr->Prop}{H H':Hp}(a:Ab Rm H H')(hd:∀p,Rm p->Ws (H p)):TK2 H H':=⟨fun b xs h=>a b _ h fun z=>by
 have:=hd b z
 rw[h] at this;exact this,fun b o xs h=>a b _ h fun z=>by
 have:=hd b z
 rw[h] at this;exact this,fun b o x h=>a b _ h fun z=>by
 have:=hd b z
 rw[h] at this;exact this⟩
theorem Is.ab{Rm:Addr->Prop}{H H':Hp}(a:Ab Rm H H')(hd:∀p,Rm p->Ws (H p)){l:PV}{v:V}{fp:List Addr}(n:∀p∈fp,¬Rm p)(h:Is K H l v fp):Is K H' l v fp:=
 Is.tr (a.tk hd) l v fp (fun p hp=>RdK.of fun o q=>a p o q (n p hp)) h
structure Fx(K:PySem.W.Frag)(Rm:Addr->Prop)(H1:Hp)(J:It)(ls:List PV):Prop where
 stop:∀H',Ab Rm H1 H'->J.stop ls.length H'
 go:∀H' (i:Nat) l,Ab Rm H1 H'->ls[i]?=some l->J.go i H'
 yld:∀H' (i:Nat) l x H'',Ab Rm H1 H'->ls[i]?=some l->J.yld i H' x H''->Same H' H''/\∃fp,Is K H'' l x fp/\∀p∈fp,H1 p≠none/\¬Rm p
abbrev XL:=ZE->Option (List PV)
def iF(K:PySem.W.Frag)(f:XL):TI:=fun Z H R=>∃(Rm:Addr->Prop) (s:ZE) (ls:List PV),(∀p,Rm p->Ws (H p))/\EnvIs K Rm H s Z/\f s=some ls/\∀J H1,Same H H1->Fx K Rm H1 J ls->R J H1
def VI(X:Cx)(tg e:Expr)(f:XL):Prop:=PI X tg e (iF X.K f)
section
variable {X:Cx} {tg e:Expr} {es:List Expr}
theorem PI.imp{t t':TI}(h:PI X tg e t)(i:∀Z H R,t' Z H R->t Z H R):PI X tg e t':=fun pins s Z H R I q=>h pins s Z H R I (i Z H R q)
def Gy:PV->Option (List PV)
 | .lst m=>some m
 | .cst m=>some m
 | _=>none
def Vo(f:XE):XL:=fun s=>(f s).bind Gy
def xTup(f:XE):XL:=fun s=>match f s with | some (.tup m)=>some m | _=>none
theorem LB{a:PV}{m:List PV}(h:Gy a=some m):a = .lst m\/a = .cst m:=by
 unfold Gy at h;split at h
 ·cases h;exact .inl rfl
 ·cases h;exact .inr rfl
 ·cases h
theorem UG{f:XE}(h:VE X e f):VI X tg e (Vo f):=PI.imp (KQ h) fun Z H R ⟨Rm,s,ls,hd,env,e,k⟩=>by
 obtain⟨l,e1,e2⟩:=Zd e
 refine⟨Rm,s,l,hd,env,e1,fun v H1 fp s1 i1 n1=>?_⟩
 have hd1:∀p,Rm p->Ws (H1 p):=fun p hp=>Same.mut s1 (hd p hp)
 have main:∀a xs fq,v = .ref a->SqL X.K H1 a xs->(∀H',Ab Rm H1 H'->SqL X.K H' a xs)->Iss X.K H1 ls xs fq->(∀p∈fq,p∈fp)->∃a,v = .ref a/\(∃xs,SqL X.K H1 a xs)/\R (Ei X.K a) H1:=by
  rintro a xs fq rfl ha keep hi sub
  refine⟨a,rfl,⟨xs,ha⟩,k _ H1 s1 ⟨fun H' ab=>⟨xs,keep H' ab,by rw[hi.len];exact Nat.le_refl _⟩,fun H' i l ab hl=>?_,fun H' i l x H'' ab hl y=>?_⟩⟩
  ·obtain⟨x,f1,hx,_,_⟩:=hi.get hl
   exact⟨xs,x,keep H' ab,hx⟩
  ·obtain⟨rfl,y⟩:=y
   obtain⟨x',f1,hx,ix,sub'⟩:=hi.get hl
   have:=y xs (keep _ ab)
   rw[hx] at this;cases this
   have n1':∀p∈f1,¬Rm p:=fun p hp=>n1 p (sub p (sub' p hp))
   exact⟨Same.refl _,f1,ix.ab ab hd1 n1',fun p hp=>⟨Is.dom _ _ _ ix p hp,n1' p hp⟩⟩
 rcases LB e2 with rfl | rfl
 ·obtain⟨a,xs,fq,rfl,ha,hi,rfl⟩:=i1.lst_inv
  exact main a xs fq rfl (SqL.of ha) (fun H' ab=>SqL.of (ab a _ ha (n1 a List.mem_cons_self))) hi fun p hp=>List.mem_cons_of_mem _ hp
 ·obtain⟨a,xs,rfl,ha,hi⟩:=i1.cst_inv
  exact main a xs fp rfl ha.sq (fun H' ab=>(ha.tr (ab.tk hd1)).sq) hi fun p hp=>hp
def Yy(n:Nat):List PV:=(List.range n).map fun(i:Nat)=>PV.int (i:Int)
def Wq(lo:Int)(n:Nat):List PV:=(List.range n).map fun(i:Nat)=>PV.int (lo+(i:Int))
def ZY(fs:List XE):XL:=fun s=>match Wf fs s with | some [.int j]=>if -1000000<=j/\j<=1000000 then some (Yy j.toNat) else none | _=>none
def Xq(fs:List XE):XL:=fun s=>match Wf fs s with | some [.int i,.int j]=>if -1000000<=i/\i<=1000000/\-1000000<=j/\j<=1000000 then some (Wq i (j-i).toNat) else none | _=>none
theorem Nq{Rm:Addr->Prop}{H1:Hp}(lo:Int)(n:Nat):Fx K Rm H1 (GV lo n) (Wq lo n):=by
 refine⟨fun H' _=>by unfold Wq;rw[List.length_map,List.length_range];exact Nat.le_refl n,fun H' i l _ hl=>?_,fun H' i l x H'' _ hl y=>?_⟩
 ·have:=(List.getElem?_eq_some_iff.mp hl).1
  unfold Wq at this;rw[List.length_map,List.length_range] at this;exact this
 ·obtain⟨rfl,rfl⟩:=y
  have hi:=(List.getElem?_eq_some_iff.mp hl).1
  unfold Wq at hi hl;rw[List.length_map,List.length_range] at hi;rw[List.getElem?_map,List.getElem?_range hi] at hl;cases hl
  exact⟨Same.refl _,[],Is.int _,fun p hp=>by simp at hp⟩
theorem Js(n:Nat):Yy n=Wq 0 n:=by
 unfold Yy Wq
 apply List.map_congr_left
 intro i _;rw[Int.zero_add]
theorem YF{a:Expr}{fs:List XE}{p pos:Pos}(hg:Gl X "range")(hm:X.mg "range" = none)(ha:VA X [a] fs)(hs:starEach [a] X.env=[(false,eval a X.env)]:=by rfl):VI X tg (.Call (.Name "range" p) [a] [] pos) (ZY fs):=
 PI.imp (N5 hg hm ha hs) fun Z H R ⟨Rm,s,ls,hd,env,e,k⟩=>by
 unfold ZY at e
 split at e
 ·split at e
  ·cases e
   rename_i j he hb
   refine⟨Rm,s,_,hd,env,he,fun vs H1 fp s1 i1 _=>?_⟩
   obtain⟨v,rfl,i⟩:=i1.one_inv
   refine⟨j,by rw[i.int_inv.1],by omega,by omega,k _ H1 s1 ?_⟩
   rw[Js];exact Nq _ _
  ·cases e
 ·cases e
theorem Tf{a b:Expr}{fs:List XE}{p pos:Pos}(hg:Gl X "range")(hm:X.mg "range" = none)(ha:VA X [a,b] fs)(hs:starEach [a,b] X.env=[(false,eval a X.env),(false,eval b X.env)]:=by rfl)(hs2:starEach [b] X.env=[(false,eval b X.env)]:=by rfl):VI X tg (.Call (.Name "range" p) [a,b] [] pos) (Xq fs):=
 PI.imp (N6 hg hm ha hs hs2) fun Z H R ⟨Rm,s,ls,hd,env,e,k⟩=>by
 unfold Xq at e
 split at e
 ·split at e
  ·cases e
   rename_i i j he hb
   refine⟨Rm,s,_,hd,env,he,fun vs H1 fp s1 i1 _=>?_⟩
   obtain⟨v,w,f1,f2,rfl,iv,iw,_⟩:=i1.two_inv
   exact⟨i,j,by rw[iv.int_inv.1,iw.int_inv.1],⟨by omega,by omega,by omega,by omega⟩,k _ H1 s1 (Nq _ _)⟩
  ·cases e
 ·cases e
def YZ(m:List PV):List PV:=m.zipIdx.map fun z=>.tup [.int (z.2:Nat),z.1]
theorem RM{m:List PV}{i:Nat}{l:PV}(h:(YZ m)[i]?=some l):∃a,m[i]?=some a/\l = .tup [.int (i:Nat),a]:=by
 unfold YZ at h;rw[List.getElem?_map,List.getElem?_zipIdx] at h
 cases q:m[i]? with
 | none=>rw[q] at h;cases h
 | some a=>rw[q] at h;cases h;exact⟨a,rfl,by simp⟩
theorem RN(m:List PV):(YZ m).length=m.length:=by unfold YZ;rw[List.length_map,List.length_zipIdx]
def seqB:Bool->PV->Option (List PV)
 | true,.lst l=>some l
 | true,.cst l=>some l
 | false,.tup l=>some l
 | _,_=>none
theorem Jt{H:Hp}{b:Bool}{l:PV}{v:V}{fp:List Addr}{m:List PV}(h:Is K H l v fp)(e:seqB b l=some m):∃p xs fq,v = .ref p/\Iss K H m xs fq/\(∀q∈fq,q∈fp)/\∀(Rm:Addr->Prop) H',Ab Rm H H'->(∀p,Rm p->Ws (H p))->(∀p∈fp,¬Rm p)->Ir b K H' p xs:=by
 cases b with
 | true=>cases l with
  | lst l=>
   cases e
   obtain⟨p,xs,fq,rfl,hp,hi,rfl⟩:=h.lst_inv
   exact⟨p,xs,fq,rfl,hi,fun q hq=>List.mem_cons_of_mem _ hq,fun Rm H' ab _ n=>SqL.of (ab p _ hp (n p List.mem_cons_self))⟩
  | cst l=>
   cases e
   obtain⟨p,xs,rfl,hp,hi⟩:=h.cst_inv
   exact⟨p,xs,fp,rfl,hi,fun q hq=>hq,fun Rm H' ab hd _=>(hp.tr (ab.tk hd)).sq⟩
  | _=>cases e
 | false=>cases l with
  | tup l=>
   cases e
   obtain⟨p,xs,rfl,hp,hi⟩:=h.tup_inv
   exact⟨p,xs,fp,rfl,hi,fun q hq=>hq,fun Rm H' ab hd _=>SqT.of ((ab.tk hd).tup p xs hp)⟩
  | _=>cases e
def Xr(b:Bool)(fs:List XE):XL:=fun s=>match Wf fs s with | some [l]=>(seqB b l).map YZ | _=>none
theorem T4{elts:List Expr}{k:Nat}{tpos:Pos}(b:Bool){a:Expr}{fs:List XE}{p pos:Pos}(hg:Gl X "enumerate")(hm:X.mg "enumerate" = none)(ha:VA X [a] fs)(hs:starEach [a] X.env=[(false,eval a X.env)]:=by rfl) :
  VI X (.Tuple elts k tpos) (.Call (.Name "enumerate" p) [a] [] pos) (Xr b fs):=PI.imp (Jg b hg hm ha hs) fun Z H R ⟨Rm,s,ls,hd,env,e,k⟩=>by
 unfold Xr at e
 split at e
 ·rename_i l he
  obtain⟨m,e1,rfl⟩:=map_some e
  refine⟨Rm,s,_,hd,env,he,fun vs H1 fp s1 i1 n1=>?_⟩
  obtain⟨v,rfl,i⟩:=i1.one_inv
  have hd1:∀p,Rm p->Ws (H1 p):=fun p hp=>Same.mut s1 (hd p hp)
  obtain⟨a,xs,fq,rfl,hi,sub,keep⟩:=Jt (K:=X.K) i e1
  have kp:=fun H' ab=>keep Rm H' ab hd1 n1
  refine⟨a,rfl,⟨xs,kp H1 (Same.ab (Same.refl H1))⟩,k _ H1 s1 ⟨fun H' ab=>⟨xs,kp H' ab,by rw[RN,hi.len]⟩,fun H' i l ab hl=>?_,fun H' i l x H'' ab hl y=>?_⟩⟩
  ·obtain⟨c,hc,rfl⟩:=RM hl
   obtain⟨x,f1,hx,_,_⟩:=hi.get hc
   exact⟨xs,x,kp H' ab,hx⟩
  ·obtain⟨c,hc,rfl⟩:=RM hl
   obtain⟨x',f1,hx,ix,sb⟩:=hi.get hc
   obtain⟨q,z,hq,rfl,rfl,y⟩:=y
   have:=y xs (kp _ ab)
   rw[hx] at this;cases this
   have n1':∀p∈f1,¬Rm p:=fun p hp=>n1 p (sub p (sb p hp))
   refine⟨Same.new hq _,f1,Is.tup upd_same ?_,fun p hp=>⟨Is.dom _ _ _ ix p hp,n1' p hp⟩⟩
   exact Iss.cons (f1:=[]) (Is.int _) (Iss.one ((ix.ab ab hd1 n1').mono (Same.new hq _)))
 ·cases e
end
inductive Tgt where
 | one (i:Nat) | many (is:List Nat)
def Tgt.slots:Tgt->List Nat
 | .one i=>[i]
 | .many is=>is
def setAll:List Nat->List PV->ZE->ZE
 | i::is,l::ls,s=>setAll is ls (s.set i (some l))
 | _,_,s=>s
def YW:List Nat->List V->Us->Us
 | i::is,l::ls,s=>YW is ls (s.set i (some l))
 | _,_,s=>s
def XN:Tgt->PV->ZE->Option ZE
 | .one i,l,s=>some (s.set i (some l))
 | .many is,.tup ls,s=>if ls.length=is.length then some (setAll is ls s) else none
 | _,_,_=>none
def Ov:List Nat->Ii
 | []=>GQ
 | i::is=>Ij (TC i) (Ov is)
def gT(K:PySem.W.Frag):Tgt->TG
 | .one i=>TC i
 | .many is=>GR K is.length (Ov is)
theorem Sy:∀{is:List Nat}{vs:List V}{Z:Us}{H:Hp}{Q:Us->Hp->Prop},vs.length=is.length->Q (YW is vs Z) H->Ov is vs Z H Q
 | [],[],_,_,_,_,q=>⟨rfl,q⟩
 | [],_::_,_,_,_,h,_=>by simp at h
 | _::_,[],_,_,_,h,_=>by simp at h
 | i::is,v::vs,Z,H,Q,h,q=>⟨v,vs,rfl,Sy (is:=is) (vs:=vs) (by simpa using h) q⟩
theorem Sz{T:Tgt}{l:PV}{v:V}{fp:List Addr}{s s':ZE}{H:Hp}(h:Is K H l v fp)(e:XN T l s=some s') :
  ∃ls vs fs,s'=setAll T.slots ls s/\Iss K H ls vs fs/\ls.length=T.slots.length/\(∀p∈fs,p∈fp)/\∀Z (Q:Us->Hp->Prop),Q (YW T.slots vs Z) H->gT K T v Z H Q:=by
 cases T with
 | one i=>
  cases e
  exact⟨[l],[v],fp,rfl,Iss.one h,rfl,fun p hp=>hp,fun Z Q q=>q⟩
 | many is=>
  cases l with
  | tup ls=>
   have e:(if ls.length=is.length then some (VL.setAll is ls s) else none)=some s':=e
   split at e
   ·cases e
    obtain⟨p,xs,rfl,hp,hi⟩:=h.tup_inv
    exact⟨ls,xs,fp,rfl,hi,by assumption,fun p hp=>hp,fun Z Q q=>⟨p,xs,rfl,SqT.of hp,by rw[hi.len];assumption,Sy (by rw[hi.len];assumption) q⟩⟩
   ·cases e
  | _=>cases e
theorem WS:∀{is:List Nat}{vs:List V}{Z:Us}{n:Nat},(∀i∈is,i<n)->(YW is vs Z).drop n=Z.drop n
 | [],_,_,_,_=>rfl
 | _::_,[],_,_,_=>rfl
 | i::is,v::vs,Z,n,h=>by
  show(YW is vs (Z.set i (some v))).drop n=_
  rw[WS (fun j hj=>h j (List.mem_cons_of_mem _ hj))]
  have:=h i List.mem_cons_self
  rw[List.drop_set,if_pos this]
theorem EnvIs.set{Rm:Addr->Prop}{H:Hp}{s:ZE}{Z:Us}{i:Nat}{l:PV}{v:V}{fp:List Addr}(h:EnvIs K Rm H s Z)(hl:s.length=Z.length)(hi:Is K H l v fp)(n:∀p∈fp,¬Rm p):EnvIs K Rm H (s.set i (some l)) (Z.set i (some v)):=⟨fun j a e=>by
 rw[List.getElem?_set] at e
 by_cases hj:i=j
 ·subst hj
  rw[if_pos rfl] at e
  split at e
  ·cases e
   exact⟨v,fp,by rw[List.getElem?_set,if_pos rfl,if_pos (by omega)],hi,n⟩
  ·cases e
 ·rw[if_neg hj] at e
  obtain⟨w,f,h1,h2,h3⟩:=h.is j a e
  exact⟨w,f,by rw[List.getElem?_set,if_neg hj];exact h1,h2,h3⟩⟩
theorem EnvIs.setAll{Rm:Addr->Prop}{H:Hp}:∀{is:List Nat}{ls:List PV}{vs:List V}{fs:List Addr}{s:ZE}{Z:Us},EnvIs K Rm H s Z->s.length=Z.length->Iss K H ls vs fs->(∀p∈fs,¬Rm p)->EnvIs K Rm H (VL.setAll is ls s) (YW is vs Z)
 | [],_,_,_,_,_,h,_,_,_=>by unfold VL.setAll YW;exact h
 | i::is,[],vs,fs,s,Z,h,_,hi,_=>by
  simp only[Iss] at hi;rw[hi.1];exact h
 | i::is,l::ls,vs,fs,s,Z,h,hl,hi,n=>by
  obtain⟨x,r,f1,f2,rfl,h1,h2,rfl⟩:=hi.inv
  show EnvIs K Rm H (VL.setAll is ls (s.set i (some l))) (YW is r (Z.set i (some x)))
  exact EnvIs.setAll (h.set hl h1 fun p hp=>n p (List.mem_append_left _ hp)) (by rw[List.length_set,List.length_set];exact hl) h2 fun p hp=>n p (List.mem_append_right _ hp)
def Yc(n:Nat)(ix:List Nat)(s:ZE):ZE:=List.replicate n none++ix.map (fun i=>(s[i]?).join)
def X5(T:Tgt)(ft:XT)(fe:XE)(s0:ZE):List PV->Option (List PV)
 | []=>some []
 | l::r=>(XN T l s0).bind fun s1=>(ft s1).bind fun c=>if c=true then(fe s1).bind fun y=>(X5 T ft fe s0 r).map (y::·) else X5 T ft fe s0 r
def Z4(n:Nat)(ix:List Nat)(fi:XL)(T:Tgt)(ft:XT)(fe:XE):XE:=fun s=>(fi s).bind fun ls=>if ls.length<=10000 then(X5 T ft fe (Yc n ix s) ls).map .lst else none
def YO:XT:=fun _=>some true
theorem join_some{α:Type}{o:Option (Option α)}{a:α}(h:o.join=some a):o=some (some a):=by
 cases o with
 | none=>cases h
 | some b=>cases b with
  | none=>cases h
  | some c=>cases h;rfl
theorem EnvIs.comp{Rm:Addr->Prop}{H:Hp}{s:ZE}{Z:Us}{n:Nat}{ix:List Nat}(h:EnvIs K Rm H s Z):EnvIs K Rm H (Yc n ix s) (Yn n ix Z):=⟨fun i l e=>by
 unfold Yc at e;unfold Yn
 by_cases hi:i<n
 ·rw[List.getElem?_append_left (by simpa using hi),List.getElem?_replicate,if_pos hi] at e
  cases e
 ·rw[List.getElem?_append_right (by simpa using hi),List.length_replicate,List.getElem?_map] at e
  rw[List.getElem?_append_right (by simpa using hi),List.length_replicate,List.getElem?_map]
  cases q:ix[i-n]? with
  | none=>rw[q] at e;cases e
  | some j=>
   rw[q] at e
   have e:=join_some (Option.some.inj e)
   obtain⟨v,fp,a,b,c⟩:=h.is j l e
   exact⟨v,fp,by show some ((Z[j]?).join)=_;rw[a];rfl,b,c⟩⟩
theorem Pl(n:Nat)(ix:List Nat)(s:ZE)(Z:Us):(Yc n ix s).length=(Yn n ix Z).length:=by unfold Yc Yn;simp
theorem SA{T:Tgt}{ft:XT}{fe:XE}{s0:ZE}{l:PV}{r ys:List PV}(h:X5 T ft fe s0 (l::r)=some ys):∃s1 c,XN T l s0=some s1/\ft s1=some c/\((c=true/\∃y zs,fe s1=some y/\X5 T ft fe s0 r=some zs/\ys=y::zs)\/(c=false/\X5 T ft fe s0 r=some ys)):=by
 unfold X5 at h
 obtain⟨s1,e1,h⟩:=Zd h
 obtain⟨c,e2,h⟩:=Zd h
 refine⟨s1,c,e1,e2,?_⟩
 cases c with
 | true=>
  rw[if_pos rfl] at h
  obtain⟨y,e3,h⟩:=Zd h
  obtain⟨zs,e4,rfl⟩:=map_some h
  exact .inl ⟨rfl,y,zs,e3,e4,rfl⟩
 | false=>
  rw[if_neg Bool.false_ne_true] at h
  exact .inr ⟨rfl,h⟩
theorem UH{α:Type}{l:List α}{i:Nat}{a:α}{r:List α}(h:l.drop i=a::r):l[i]?=some a/\l.drop (i+1)=r:=by
 constructor
 ·have:=congrArg (fun z=>z[0]?) h
  simpa [List.getElem?_drop] using this
 ·rw[<-List.drop_drop,h];rfl
section
variable {n:Nat} {ix:List Nat} {fi:XL} {T:Tgt} {ft:XT} {fe:XE}
theorem Ju(hT:∀i∈T.slots,i<n):∀Z H Q,tF K (Z4 n ix fi T ft fe) Z H Q->Sk n ix (iF K fi) (gT K T) (QU K ft) (tF K fe) Z H Q:=fun Z H Q ⟨Rm,s,L,hd,env,e,k⟩=>by
 obtain⟨ls,e1,e⟩:=Zd e
 split at e
 case isFalse=>cases e
 rename_i hlen
 obtain⟨ys,e2,rfl⟩:=map_some e
 refine⟨Rm,s,ls,hd,env,e1,fun J H1 s1 jis=>?_⟩
 have hd1:∀p,Rm p->Ws (H1 p):=fun p hp=>Same.mut s1 (hd p hp)
 refine⟨fun i m vs Hc=>m=ls.length-i/\i<=ls.length/\Same H1 Hc/\∃dn rest fp,ys=dn++rest/\dn.length<=i/\X5 T ft fe (Yc n ix s) (ls.drop i)=some rest/\Iss K Hc dn vs fp/\∀p∈fp,¬Rm p,
  ⟨ls.length,by simp,Nat.zero_le _,Same.refl H1,[],ys,[],rfl,Nat.le_refl _,e2,Iss.nil,fun p hp=>by simp at hp⟩,?_⟩
 rintro i m vs Hc ⟨rfl,hi,sc,dn,rest,fp,rfl,hdl,ec,iv,nv⟩
 refine⟨by rw[iv.len];exact Nat.le_of_lt (lt_size (by omega)),?_⟩
 cases q:ls.drop i with
 | nil=>
  have hil:i=ls.length:=by
   have:=congrArg List.length q
   rw[List.length_drop] at this
   simp at this;omega
  subst hil;rw[q] at ec;cases ec
  refine .inl ⟨jis.stop Hc (Same.ab sc),fun p hp=>k _ _ (p::fp) (s1.trans (sc.trans (Same.new hp _))) ?_ fun a ha z=>?_⟩
  ·rw[List.append_nil]
   exact Is.lst upd_same (iv.mono (Same.new hp _))
  ·rcases List.mem_cons.mp ha with rfl | ha
   ·exact YU (Same.mut (s1.trans sc) (hd a z)) hp
   ·exact nv a ha z
 | cons l r=>
  obtain⟨hl,hr⟩:=UH q
  have hilt:i<ls.length:=(List.getElem?_eq_some_iff.mp hl).1
  rw[q] at ec
  obtain⟨sb,c,eb,et,alt⟩:=SA ec
  refine .inr ⟨jis.go Hc i l (Same.ab sc) hl,fun vs' H'=>Same H1 H'/\∃dn' rest' fp',dn++rest=dn'++rest'/\dn'.length<=i+1/\X5 T ft fe (Yc n ix s) (ls.drop (i+1))=some rest'/\Iss K H' dn' vs' fp'/\∀p∈fp',¬Rm p,
   fun vs' H' h'=>⟨ls.length-(i+1),by omega,rfl,hilt,h'.1,h'.2⟩,fun x H2 y=>?_⟩
  obtain⟨s2,fx,ix',nx⟩:=jis.yld Hc i l x H2 (Same.ab sc) hl y
  have hd2:∀p,Rm p->Ws (H2 p):=fun p hp=>Same.mut (sc.trans s2) (hd1 p hp)
  obtain⟨bl,bv,bf,rfl,bi,_,bsub,buse⟩:=Sz (K:=K) ix' eb
  have env2:EnvIs K Rm H2 (Yc n ix s) (Yn n ix Z):=(env.mono (s1.trans (sc.trans s2))).comp
  have env3:=env2.setAll (is:=T.slots) (Pl n ix s Z) bi fun p hp=>(nx p (bsub p hp)).2
  refine buse _ _ ⟨WS hT,Rm,_,c,hd2,env3,et,fun H3 s3=>?_⟩
  have hd3:∀p,Rm p->Ws (H3 p):=fun p hp=>Same.mut s3 (hd2 p hp)
  rcases alt with⟨rfl,y',zs,ey,ez,rfl⟩ | ⟨rfl,ez⟩
  ·refine Fg ?_
   refine⟨Rm,_,y',hd3,env3.mono s3,ey,fun v H4 f4 s4 i4 n4=>?_⟩
   refine⟨sc.trans (s2.trans (s3.trans s4)),dn++[y'],zs,fp++f4,by rw[List.append_assoc];rfl,by rw[List.length_append];simp;exact hdl,by rw[hr];exact ez,(iv.mono (s2.trans (s3.trans s4))).append (Iss.one i4),fun p hp=>?_⟩
   rcases List.mem_append.mp hp with h | h
   ·exact nv p h
   ·exact n4 p h
  ·refine Ff ?_
   exact⟨sc.trans (s2.trans s3),dn,rest,fp,rfl,Nat.le_succ_of_le hdl,by rw[hr];exact ez,iv.mono (s2.trans s3),nv⟩
theorem Qr(hT:∀i∈T.slots,i<n):∀Z H Q,tM K (Z4 n ix fi T ft fe) Z H Q->Sk n ix (iF K fi) (gT K T) (QU K ft) (tM K fe) Z H Q:=fun Z H Q ⟨s,L,env,e,k⟩=>by
 obtain⟨ls,e1,e⟩:=Zd e
 split at e
 case isFalse=>cases e
 rename_i hlen
 obtain⟨ys,e2,rfl⟩:=map_some e
 have hd:∀(H:Hp) p,(fun _=>False:Addr->Prop) p->Ws (H p):=fun _ _ z=>z.elim
 refine⟨fun _=>False,s,ls,hd H,env,e1,fun J H1 s1 jis=>?_⟩
 refine⟨fun i m vs Hc=>m=ls.length-i/\i<=ls.length/\Same H1 Hc/\∃dn rest fp,ys=dn++rest/\dn.length<=i/\X5 T ft fe (Yc n ix s) (ls.drop i)=some rest/\Iss K Hc dn vs fp/\fp.Nodup/\∀p∈fp,H1 p=none/\Ws (Hc p),
  ⟨ls.length,by simp,Nat.zero_le _,Same.refl H1,[],ys,[],rfl,Nat.le_refl _,e2,Iss.nil,List.nodup_nil,fun p hp=>by simp at hp⟩,?_⟩
 rintro i m vs Hc ⟨rfl,hi,sc,dn,rest,fp,rfl,hdl,ec,iv,dv,nv⟩
 refine⟨by rw[iv.len];exact Nat.le_of_lt (lt_size (by omega)),?_⟩
 cases q:ls.drop i with
 | nil=>
  have hil:i=ls.length:=by
   have:=congrArg List.length q
   rw[List.length_drop] at this
   simp at this;omega
  subst hil;rw[q] at ec;cases ec
  refine .inl ⟨jis.stop Hc (Same.ab sc),fun p hp=>k _ _ (p::fp) (s1.trans (sc.trans (Same.new hp _))) ?_ (List.nodup_cons.mpr ⟨fun z=>YU (nv p z).2 hp,dv⟩) fun a ha=>?_⟩
  ·rw[List.append_nil]
   exact Is.lst upd_same (iv.mono (Same.new hp _))
  ·rcases List.mem_cons.mp ha with rfl | ha
   ·exact⟨Same.off (s1.trans sc) hp,by rw[upd_same];exact True.intro⟩
   ·exact⟨Same.off s1 (nv a ha).1,Same.mut (Same.new hp _) (nv a ha).2⟩
 | cons l r=>
  obtain⟨hl,hr⟩:=UH q
  have hilt:i<ls.length:=(List.getElem?_eq_some_iff.mp hl).1
  rw[q] at ec
  obtain⟨sb,c,eb,et,alt⟩:=SA ec
  refine .inr ⟨jis.go Hc i l (Same.ab sc) hl,fun vs' H'=>Same H1 H'/\∃dn' rest' fp',dn++rest=dn'++rest'/\dn'.length<=i+1/\X5 T ft fe (Yc n ix s) (ls.drop (i+1))=some rest'/\Iss K H' dn' vs' fp'/\fp'.Nodup/\∀p∈fp',H1 p=none/\Ws (H' p),
   fun vs' H' h'=>⟨ls.length-(i+1),by omega,rfl,hilt,h'.1,h'.2⟩,fun x H2 y=>?_⟩
  obtain⟨s2,fx,ix',nx⟩:=jis.yld Hc i l x H2 (Same.ab sc) hl y
  obtain⟨bl,bv,bf,rfl,bi,_,bsub,buse⟩:=Sz (K:=K) ix' eb
  have env2:EnvIs K (fun _=>False) H2 (Yc n ix s) (Yn n ix Z):=(env.mono (s1.trans (sc.trans s2))).comp
  have env3:=env2.setAll (is:=T.slots) (Pl n ix s Z) bi fun p hp=>(nx p (bsub p hp)).2
  refine buse _ _ ⟨WS hT,fun _=>False,_,c,hd H2,env3,et,fun H3 s3=>?_⟩
  rcases alt with⟨rfl,y',zs,ey,ez,rfl⟩ | ⟨rfl,ez⟩
  ·refine Fg ?_
   refine⟨_,y',env3.mono s3,ey,fun v H4 f4 s4 i4 d4 n4=>?_⟩
   refine⟨sc.trans (s2.trans (s3.trans s4)),dn++[y'],zs,fp++f4,by rw[List.append_assoc];rfl,by rw[List.length_append];simp;exact hdl,by rw[hr];exact ez,(iv.mono (s2.trans (s3.trans s4))).append (Iss.one i4),List.nodup_append.mpr ⟨dv,d4,fun a ha b hb z=>?_⟩,fun p hp=>?_⟩
   ·subst z
    exact YU (Same.mut (s2.trans s3) (nv a ha).2) (n4 a hb).1
   ·rcases List.mem_append.mp hp with h | h
    ·exact⟨(nv p h).1,Same.mut (s2.trans (s3.trans s4)) (nv p h).2⟩
    ·exact⟨Same.off (sc.trans (s2.trans s3)) (n4 p h).1,(n4 p h).2⟩
  ·refine Ff ?_
   exact⟨sc.trans (s2.trans s3),dn,rest,fp,rfl,Nat.le_succ_of_le hdl,by rw[hr];exact ez,iv.mono (s2.trans s3),dv,fun p hp=>⟨(nv p hp).1,Same.mut (s2.trans s3) (nv p hp).2⟩⟩
end
def Gz(X:Cx)(ifs:List Expr)(f:XT):Prop:=M6 X ifs (QU X.K f)
section
variable {X:Cx} {tg elt iter c:Expr} {ifs:List Expr} {scope:Scope} {pos:Pos} {fi:XL} {T:Tgt} {ft:XT} {fe:XE}
theorem WT:Gz X [] YO:=fun pins s Z H Q I ⟨Rm,s',c,hd,env,e,k⟩=>by
 cases e
 exact Jc pins s Z H Q I (k H (Same.refl H))
theorem Jw(h:VT X c ft):Gz X [c] ft:=Jd h
theorem Qs(own fr:List Str)(ix:List Nat)(hcalm:X.calm=true)(hi:VI X tg iter fi)(S:Vk X.N X.env.scope scope own fr ix=true)
  (hg:∀cl C s H ex,PG (ZC X (own++fr) scope cl C s H ex) tg (gT X.K T)) (ht:∀cl C s H ex,Gz (ZC X (own++fr) scope cl C s H ex) ifs ft) (he:∀cl C s H ex,VE (ZC X (own++fr) scope cl C s H ex) elt fe)
  (hT:∀i∈T.slots,i<own.length:=by decide) (hs:∀x,foldedSetIterable iter X.env x=pure x:=by intro _;rfl):VE X (.ListComp elt [⟨tg,iter,ifs,0⟩] scope pos) (Z4 own.length ix fi T ft fe):=
 PE.imp (Pd own fr ix hcalm hi S hg (fun cl C s H ex=>(show M6 (ZC X (own++fr) scope cl C s H ex) ifs (QU X.K ft) from ht cl C s H ex)) (fun cl C s H ex=>(show PE (ZC X (own++fr) scope cl C s H ex) elt (tF X.K fe) from he cl C s H ex)) hs) (Ju hT)
theorem Jx(own fr:List Str)(ix:List Nat)(hcalm:X.calm=true)(hi:VI X tg iter fi)(S:Vk X.N X.env.scope scope own fr ix=true)
  (hg:∀cl C s H ex,PG (ZC X (own++fr) scope cl C s H ex) tg (gT X.K T)) (ht:∀cl C s H ex,Gz (ZC X (own++fr) scope cl C s H ex) ifs ft) (he:∀cl C s H ex,VM (ZC X (own++fr) scope cl C s H ex) elt fe)
  (hT:∀i∈T.slots,i<own.length:=by decide) (hs:∀x,foldedSetIterable iter X.env x=pure x:=by intro _;rfl):VM X (.ListComp elt [⟨tg,iter,ifs,0⟩] scope pos) (Z4 own.length ix fi T ft fe):=
 PE.imp (Pd own fr ix hcalm hi S hg (fun cl C s H ex=>(show M6 (ZC X (own++fr) scope cl C s H ex) ifs (QU X.K ft) from ht cl C s H ex)) (fun cl C s H ex=>(show PE (ZC X (own++fr) scope cl C s H ex) elt (tM X.K fe) from he cl C s H ex)) hs) (Qr hT)
end
def V2(xs:List PV)(lo hi:Option Int):List PV:=(xs.drop (HT.sIx xs.length 0 lo)).take (HT.sIx xs.length xs.length hi-HT.sIx xs.length 0 lo)
theorem Iss.cut{H:Hp}{l:List PV}{xs:List V}{fp:List Addr}(lo hi:Option Int)(h:Iss K H l xs fp):∃f1,Iss K H (V2 l lo hi) (Md xs lo hi) f1/\∀p∈f1,p∈fp:=by
 unfold V2 Md;rw[h.len]
 obtain⟨f1,a,b⟩:=h.drop (HT.sIx l.length 0 lo)
 obtain⟨f2,c,d⟩:=a.take (HT.sIx l.length l.length hi-HT.sIx l.length 0 lo)
 exact⟨f2,c,fun p hp=>b p (d p hp)⟩
abbrev XO:=ZE->Option (Option Int)
def EV(K:PySem.W.Frag)(f:XO):TO:=fun Z H Q=>∃(Rm:Addr->Prop) (s:ZE) (i:Option Int),(∀p,Rm p->Ws (H p))/\EnvIs K Rm H s Z/\f s=some i/\∀H',Same H H'->Q i H'
def VO(X:Cx)(e:Option Expr)(f:XO):Prop:=PO X e (EV X.K f)
def Tg:XO:=fun _=>some none
def V8(f:XE):XO:=fun s=>match f s with | some (.int i)=>some (some i) | _=>none
def Y8(x:PV)(lo hi:Option Int):Option PV:=match x with | .lst l=>some (.lst (V2 l lo hi)) | .cst l=>some (.lst (V2 l lo hi)) | _=>none
def U0(g:PV->Option Int->Option Int->Option PV)(a:XE)(lo hi:XO):XE:=fun s=>(a s).bind fun x=>(lo s).bind fun l=>(hi s).bind fun u=>g x l u
theorem Ms{l:List PV}(lo hi:Option Int)(h:Zv l=true):Zv (V2 l lo hi)=true:=by
 rw[XY,List.all_eq_true] at *
 intro x hx;unfold V2 at hx
 exact h x (List.mem_of_mem_drop (List.mem_of_mem_take hx))
section
variable {X:Cx} {e:Expr} {lo hi:Option Expr} {p2 pos:Pos} {fa:XE} {fl fh:XO}
theorem VF:VO X none Tg:=fun pins s Z H Q I ⟨Rm,s',i,hd,env,e,k⟩=>by
 cases e
 exact K3 pins s Z H Q I (k H (Same.refl H))
theorem Wi{e:Expr}(h:VE X e fa):VO X (some e) (V8 fa):=fun pins s Z H Q I ⟨Rm,s',i,hd,env,e,k⟩=>by
 unfold V8 at e
 split at e
 ·cases e
  rename_i j hj
  exact K4 h pins s Z H Q I ⟨Rm,s',.int j,hd,env,hj,fun v H' fp sm i n=>⟨j,i.int_inv.1,k H' sm⟩⟩
 ·cases e
theorem Xv(ha:VE X e fa)(hl:VO X lo fl)(hh:VO X hi fh):VE X (.Subscript e (.Slice lo hi none p2) pos) (U0 Y8 fa fl fh):=PE.imp (Lk K6 ha hl hh) fun Z H Q ⟨Rm,s,l,hd,env,e,k⟩=>by
 obtain⟨x,e1,e⟩:=Zd e
 obtain⟨a,e2,e⟩:=Zd e
 obtain⟨b,e3,e⟩:=Zd e
 refine⟨Rm,s,x,hd,env,e1,fun v H1 fp s1 i1 n1=>⟨Rm,s,a,fun p hp=>Same.mut s1 (hd p hp),env.mono s1,e2,fun H2 s2=>⟨Rm,s,b,fun p hp=>Same.mut (s1.trans s2) (hd p hp),env.mono (s1.trans s2),e3,fun H3 s3=>?_⟩⟩⟩
 cases x with
 | lst l=>
  cases e
  obtain⟨p,xs,fq,rfl,hp,hi,rfl⟩:=(i1.mono (s2.trans s3)).lst_inv
  obtain⟨f1,c,d⟩:=hi.cut a b
  refine⟨p,xs,rfl,SqL.of hp,fun q hq=>k _ _ (q::f1) (s1.trans (s2.trans (s3.trans (Same.new hq _)))) (Is.lst upd_same (c.mono (Same.new hq _))) fun r hr z=>?_⟩
  rcases List.mem_cons.mp hr with rfl | hr
  ·exact YU (Same.mut (s1.trans (s2.trans s3)) (hd r z)) hq
  ·exact n1 r (List.mem_cons_of_mem _ (d r hr)) z
 | cst l=>
  cases e
  obtain⟨p,xs,rfl,hp,hi⟩:=(i1.mono (s2.trans s3)).cst_inv
  obtain⟨f1,c,d⟩:=hi.cut a b
  refine⟨p,xs,rfl,hp.sq,fun q hq=>k _ _ (q::f1) (s1.trans (s2.trans (s3.trans (Same.new hq _)))) (Is.lst upd_same (c.mono (Same.new hq _))) fun r hr z=>?_⟩
  rcases List.mem_cons.mp hr with rfl | hr
  ·exact YU (Same.mut (s1.trans (s2.trans s3)) (hd r z)) hq
  ·exact n1 r (d r hr) z
 | _=>cases e
end
end VL
namespace VL
open PySem PySem.Spec PyProof.Rows L2
variable {K:PySem.W.Frag}
structure Rel(K:PySem.W.Frag)(O:List Nat)(H0:Hp)(fps:Nat->List Addr)(s:ZE)(Z:Us)(H:Hp):Prop where
 same:Same H0 H
 len:s.length=Z.length
 is:∀(i:Nat) l,s[i]?=some (some l)->∃v,Z[i]?=some (some v)/\Is K H l v (fps i)
 emp:∀(i:Nat),(∀l,s[i]?≠some (some l))->fps i=[]
 nd:∀i∈O,(fps i).Nodup
 own:∀i∈O,∀p∈fps i,H0 p=none/\Ws (H p)
 dis:∀i∈O,∀j,j≠i->∀p∈fps i,p∉fps j
def Ow(O:List Nat)(fps:Nat->List Addr)(p:Addr):Prop:=∃i∈O,p∈fps i
def ZK(O:List Nat)(s:ZE):ZE:=O.foldl (fun s i=>s.set i none) s
theorem SD:∀{O:List Nat}{s:ZE}{i:Nat}{l:PV},(ZK O s)[i]?=some (some l)->i∉O/\s[i]?=some (some l)
 | [],s,i,l,h=>⟨by simp,h⟩
 | o::O,s,i,l,h=>by
  obtain⟨h1,h2⟩:=SD (O:=O) (s:=s.set o none) h
  rw[List.getElem?_set] at h2
  by_cases e:o=i
  ·rw[if_pos e] at h2;split at h2<;>cases h2
  ·rw[if_neg e] at h2
   exact⟨by simp only[List.mem_cons,not_or];exact⟨fun z=>e z.symm,h1⟩,h2⟩
section
variable {O:List Nat} {H0 H H':Hp} {fps:Nat->List Addr} {s:ZE} {Z:Us}
theorem Rel.at(r:Rel K O H0 fps s Z H)(i:Nat){p:Addr}(hp:p∈fps i):∃l v,s[i]?=some (some l)/\Z[i]?=some (some v)/\Is K H l v (fps i):=by
 cases q:s[i]? with
 | none=>rw[r.emp i (fun l z=>by rw[q] at z;cases z)] at hp;simp at hp
 | some o=>cases o with
  | none=>rw[r.emp i (fun l z=>by rw[q] at z;cases z)] at hp;simp at hp
  | some l=>
   obtain⟨v,a,b⟩:=r.is i l q
   exact⟨l,v,rfl,a,b⟩
theorem Rel.dom(r:Rel K O H0 fps s Z H)(i:Nat):∀p∈fps i,H p≠none:=fun p hp=>by
 obtain⟨l,v,_,_,b⟩:=r.at i hp
 exact Is.dom _ _ _ b p hp
theorem Rel.env(r:Rel K O H0 fps s Z H):EnvIs K (fun _=>False) H s Z:=⟨fun i l e=>by
 obtain⟨v,a,b⟩:=r.is i l e
 exact⟨v,_,a,b,fun _ _ z=>z⟩⟩
theorem Rel.envO(r:Rel K O H0 fps s Z H):EnvIs K (Ow O fps) H (ZK O s) Z:=⟨fun i l e=>by
 obtain⟨n,e⟩:=SD e
 obtain⟨v,a,b⟩:=r.is i l e
 exact⟨v,_,a,b,fun p hp ⟨j,hj,hpj⟩=>r.dis j hj i (fun z=>n (z▸hj)) p hpj hp⟩⟩
theorem Rel.owMut(r:Rel K O H0 fps s Z H):∀p,Ow O fps p->Ws (H p):=fun p ⟨i,hi,hp⟩=>(r.own i hi p hp).2
theorem Rel.grow(r:Rel K O H0 fps s Z H)(e:Same H H'):Rel K O H0 fps s Z H':=
 ⟨r.same.trans e,r.len,fun i l q=>by obtain⟨v,a,b⟩:=r.is i l q;exact⟨v,a,b.mono e⟩,r.emp,r.nd,fun i hi p hp=>⟨(r.own i hi p hp).1,Same.mut e (r.own i hi p hp).2⟩,r.dis⟩
theorem Rel.less{F:Hp}(r:Rel K O F fps s Z H)(e:Same H0 F):Rel K O H0 fps s Z H:=
 ⟨e.trans r.same,r.len,r.is,r.emp,r.nd,fun i hi p hp=>⟨Same.off e (r.own i hi p hp).1,(r.own i hi p hp).2⟩,r.dis⟩
theorem Rel.weak{O':List Nat}(r:Rel K O H0 fps s Z H)(h:∀i∈O',i∈O):Rel K O' H0 fps s Z H:=
 ⟨r.same,r.len,r.is,r.emp,fun i hi=>r.nd i (h i hi),fun i hi=>r.own i (h i hi),fun i hi=>r.dis i (h i hi)⟩
open Classical in
noncomputable def Y0(H:Hp)(Rm:Addr->Prop):Hp:=fun b=>if Rm b then none else H b
theorem RO{Rm:Addr->Prop}:Same (Y0 H Rm) H:=fun b o h=>by
 unfold Y0 at h
 split at h
 ·cases h
 ·exact h
theorem Rel.frame(r:Rel K O H0 fps s Z H):Rel K O (Y0 H (Ow O fps)) fps s Z H:=
 ⟨RO,r.len,r.is,r.emp,r.nd,fun i hi p hp=>⟨by unfold Y0;rw[if_pos ⟨i,hi,hp⟩],(r.own i hi p hp).2⟩,r.dis⟩
theorem Rel.under(r:Rel K O H0 fps s Z H):Same H0 (Y0 H (Ow O fps)):=fun b o h=>by
 unfold Y0
 rw[if_neg (fun⟨i,hi,hp⟩=>by rw[(r.own i hi b hp).1] at h;cases h)]
 exact r.same b o h
open Classical in
noncomputable def UI(fps:Nat->List Addr)(n:Nat)(i:Nat)(fp:List Addr):Nat->List Addr:=fun j=>if j=i/\i<n then fp else fps j
theorem ZZ{n i j:Nat}{fp:List Addr}(h:j≠i):UI fps n i fp j=fps j:=by unfold UI;rw[if_neg (fun z=>h z.1)]
theorem Nr{n i:Nat}{fp:List Addr}(h:i<n):UI fps n i fp i=fp:=by unfold UI;rw[if_pos ⟨rfl,h⟩]
theorem Rel.set(r:Rel K O H0 fps s Z H){i:Nat}{l:PV}{v:V}{fp:List Addr}(hi:Is K H l v fp)(ho:i∈O->fp.Nodup/\∀p∈fp,H0 p=none/\Ws (H p))
  (hd:∀j,j≠i->(j∈O\/i∈O)->∀p∈fp,p∉fps j):Rel K O H0 (UI fps s.length i fp) (s.set i (some l)) (Z.set i (some v)) H:=by
 by_cases hlt:i<s.length
 ·have e1:UI fps s.length i fp i=fp:=Nr hlt
  refine⟨r.same,by rw[List.length_set,List.length_set];exact r.len,fun j a e=>?_,fun j h=>?_,fun j hj=>?_,fun j hj p hp=>?_,fun j hj k hk p hp=>?_⟩
  ·rw[List.getElem?_set] at e
   by_cases hj:i=j
   ·subst hj
    rw[if_pos rfl,if_pos hlt] at e;cases e;rw[e1]
    exact⟨v,by rw[List.getElem?_set,if_pos rfl,if_pos (by rw[<-r.len];exact hlt)],hi⟩
   ·rw[if_neg hj] at e
    obtain⟨w,h1,h2⟩:=r.is j a e
    rw[ZZ (Ne.symm hj)]
    exact⟨w,by rw[List.getElem?_set,if_neg hj];exact h1,h2⟩
  ·by_cases hj:i=j
   ·subst hj
    exact absurd (by rw[List.getElem?_set,if_pos rfl,if_pos hlt]) (h l)
   ·rw[ZZ (Ne.symm hj)]
    exact r.emp j fun a z=>h a (by rw[List.getElem?_set,if_neg hj];exact z)
  ·by_cases e:j=i
   ·subst e;rw[e1];exact(ho hj).1
   ·rw[ZZ e];exact r.nd j hj
  ·by_cases e:j=i
   ·subst e;rw[e1] at hp;exact(ho hj).2 p hp
   ·rw[ZZ e] at hp;exact r.own j hj p hp
  ·by_cases e:j=i
   ·subst e
    rw[e1] at hp;rw[ZZ hk]
    exact hd k hk (.inr hj) p hp
   ·rw[ZZ e] at hp
    by_cases e2:k=i
    ·subst e2
     rw[e1]
     exact fun z=>hd j e (.inl hj) p z hp
    ·rw[ZZ e2];exact r.dis j hj k hk p hp
 ·have e1:s.set i (some l)=s:=List.set_eq_of_length_le (by omega)
  have e2:Z.set i (some v)=Z:=List.set_eq_of_length_le (by rw[<-r.len];omega)
  have e3:UI fps s.length i fp=fps:=by funext j;unfold UI;rw[if_neg (fun z=>hlt z.2)]
  rw[e1,e2,e3];exact r
theorem Rel.mutate(r:Rel K O H0 fps s Z H){i:Nat}(hi:i∈O){p:Addr}(hp:p∈fps i){o:HO}{l':PV}{v:V}{fp':List Addr}(hv:Z[i]?=some (some v))(hlt:i<s.length)
  (h':Is K (upd H p o) l' v fp') (nd:fp'.Nodup) (hm:∀q∈fp',H0 q=none/\Ws (upd H p o q)) (hd:∀j,j≠i->∀q∈fp',q∉fps j) (hmo:Ws (some o)):Rel K O H0 (UI fps s.length i fp') (s.set i (some l')) Z (upd H p o):=by
 have mu:=(r.own i hi p hp).2
 have pn:H0 p=none:=(r.own i hi p hp).1
 have e1:UI fps s.length i fp' i=fp':=Nr hlt
 have tk:TK2 H (upd H p o):=⟨fun b xs h=>by
  rw[upd_ne (fun z=>by rw[z] at h;rw[h] at mu;exact mu)];exact h,fun b o xs h=>by
  rw[upd_ne (fun z=>by rw[z] at h;rw[h] at mu;exact mu)];exact h,fun b o x h=>by
  rw[upd_ne (fun z=>by rw[z] at h;rw[h] at mu;exact mu)];exact h⟩
 refine⟨fun b u h=>by rw[upd_ne (ZA h pn)];exact r.same b u h,by rw[List.length_set];exact r.len,fun j a e=>?_,fun j h=>?_,fun j hj=>?_,fun j hj q hq=>?_,fun j hj k hk q hq=>?_⟩
 ·rw[List.getElem?_set] at e
  by_cases hj:i=j
  ·subst hj
   rw[if_pos rfl,if_pos hlt] at e;cases e
   rw[e1];exact⟨v,hv,h'⟩
  ·rw[if_neg hj] at e
   obtain⟨w,h1,h2⟩:=r.is j a e
   rw[ZZ (Ne.symm hj)]
   refine⟨w,h1,Is.tr tk _ _ _ (fun q hq=>RdK.of fun u hu=>?_) h2⟩
   have ne:q≠p:=fun z=>r.dis i hi j (Ne.symm hj) p hp (z▸hq)
   rw[upd_ne ne];exact hu
 ·by_cases hj:i=j
  ·subst hj
   exact absurd (by rw[List.getElem?_set,if_pos rfl,if_pos hlt]) (h l')
  ·rw[ZZ (Ne.symm hj)]
   exact r.emp j fun a z=>h a (by rw[List.getElem?_set,if_neg hj];exact z)
 ·by_cases e:j=i
  ·subst e;rw[e1];exact nd
  ·rw[ZZ e];exact r.nd j hj
 ·by_cases e:j=i
  ·subst e;rw[e1] at hq;exact hm q hq
  ·rw[ZZ e] at hq
   refine⟨(r.own j hj q hq).1,?_⟩
   have ne:q≠p:=fun z=>r.dis j hj i (Ne.symm e) q hq (z▸hp)
   rw[upd_ne ne];exact(r.own j hj q hq).2
 ·by_cases e:j=i
  ·subst e
   rw[e1] at hq;rw[ZZ hk]
   exact hd k hk q hq
  ·rw[ZZ e] at hq
   by_cases e2:k=i
   ·subst e2
    rw[e1]
    exact fun z=>hd j e q z hq
   ·rw[ZZ e2];exact r.dis j hj k hk q hq
end
def Kep(a b:List Addr):Prop:=a=b\/a=[]
theorem Kep.refl(a:List Addr):Kep a a:=.inl rfl
theorem Kep.trans{a b c:List Addr}(h:Kep a b)(k:Kep b c):Kep a c:=by
 rcases h with rfl | h
 ·exact k
 ·exact .inr h
inductive QV where
 | nx (s:ZE) | rt (l:PV) | bk (s:ZE) | ct (s:ZE)
abbrev XS:=ZE->Option QV
def OutOk(K:PySem.W.Frag)(O W:List Nat)(H0:Hp)(fps:Nat->List Addr)(Z:Us)(D:Wu):QV->Prop
 | .nx s'=>∀fps' Z' H',Rel K O H0 fps' s' Z' H'->(∀j,j∉W->Z'[j]?=Z[j]?/\Kep (fps' j) (fps j))->D.nx Z' H'
 | .bk s'=>∀fps' Z' H',Rel K O H0 fps' s' Z' H'->(∀j,j∉W->Z'[j]?=Z[j]?/\Kep (fps' j) (fps j))->D.bk Z' H'
 | .ct s'=>∀fps' Z' H',Rel K O H0 fps' s' Z' H'->(∀j,j∉W->Z'[j]?=Z[j]?/\Kep (fps' j) (fps j))->D.ct Z' H'
 | .rt l=>∀v fp H',Same H0 H'->Is K H' l v fp->fp.Nodup->(∀p∈fp,H0 p=none/\Ws (H' p))->D.rt v H'
def LC(K:PySem.W.Frag)(O W:List Nat)(f:XS):TS:=fun D Z H=>∃H0 fps s out,Rel K O H0 fps s Z H/\f s=some out/\OutOk K O W H0 fps Z D out
def VS(X:Cx)(O W:List Nat)(st:Stmt)(f:XS):Prop:=PS X st (LC X.K O W f)
def VSs(X:Cx)(O W:List Nat)(st:List Stmt)(f:XS):Prop:=PSs X st (LC X.K O W f)
theorem OutOk.same{O W W':List Nat}{H0:Hp}{fps fps1:Nat->List Addr}{Z Z1:Us}{D:Wu}{out:QV}(h:OutOk K O W' H0 fps Z D out)(k:∀j,j∉W'->Z1[j]?=Z[j]?/\Kep (fps1 j) (fps j))(hs:∀j,j∉W'->j∉W):OutOk K O W H0 fps1 Z1 D out:=by
 cases out with
 | nx s'=>exact fun fps' Z' H' r q=>h fps' Z' H' r fun j hj=>⟨(q j (hs j hj)).1.trans (k j hj).1,(q j (hs j hj)).2.trans (k j hj).2⟩
 | bk s'=>exact fun fps' Z' H' r q=>h fps' Z' H' r fun j hj=>⟨(q j (hs j hj)).1.trans (k j hj).1,(q j (hs j hj)).2.trans (k j hj).2⟩
 | ct s'=>exact fun fps' Z' H' r q=>h fps' Z' H' r fun j hj=>⟨(q j (hs j hj)).1.trans (k j hj).1,(q j (hs j hj)).2.trans (k j hj).2⟩
 | rt l=>exact h
theorem OutOk.less{O W:List Nat}{H0 F:Hp}{fps:Nat->List Addr}{Z:Us}{D:Wu}{out:QV}(h:OutOk K O W H0 fps Z D out)(e:Same H0 F):OutOk K O W F fps Z D out:=by
 cases out with
 | nx s'=>exact fun fps' Z' H' r q=>h fps' Z' H' (r.less e) q
 | bk s'=>exact fun fps' Z' H' r q=>h fps' Z' H' (r.less e) q
 | ct s'=>exact fun fps' Z' H' r q=>h fps' Z' H' (r.less e) q
 | rt l=>exact fun v fp H' sm i d n=>h v fp H' (e.trans sm) i d fun p hp=>⟨Same.off e (n p hp).1,(n p hp).2⟩
def Zp:XS:=fun s=>some (.nx s)
def Zk(f g:XS):XS:=fun s=>(f s).bind fun o=>match o with | .nx s'=>g s' | r=>some r
def YC(c:XT)(f g:XS):XS:=fun s=>(c s).bind fun k=>if k=true then f s else g s
def Yd(f:XE):XS:=fun s=>(f s).map .rt
def Zm(i:Nat)(f:XE):XS:=fun s=>(f s).map fun l=>.nx (s.set i (some l))
section
variable {X:Cx} {O W W1 W2:List Nat} {st:Stmt} {rest:List Stmt} {f g:XS} {pos:Pos}
theorem PS.imp{t t':TS}(h:PS X st t)(i:∀D Z H,t' D Z H->t D Z H):PS X st t':=fun pins s Z H D I q=>h pins s Z H D I (i D Z H q)
theorem PSs.imp{t t':TS}(h:PSs X rest t)(i:∀D Z H,t' D Z H->t D Z H):PSs X rest t':=fun pins s Z H D I q=>h pins s Z H D I (i D Z H q)
theorem LD:∀D Z H,LC K O W Zp D Z H->Ig D Z H:=fun D Z H ⟨H0,fps,s,out,r,e,k⟩=>by
 cases e
 exact k fps Z H r fun j _=>⟨rfl,Kep.refl _⟩
theorem Zx:VSs X O [] [] Zp:=PSs.imp KP LD
theorem Zj(h:VS X O W st f):VSs X O W [st] f:=TY h
theorem Zf(h1:VS X O W1 st f)(h2:VSs X O W2 rest g):VSs X O (W1++W2) (st::rest) (Zk f g):=PSs.imp (Vd h1 h2) fun D Z H ⟨H0,fps,s,out,r,e,k⟩=>by
 obtain⟨o1,e1,e⟩:=Zd e
 have sub1:∀j,j∉W1++W2->j∉W1:=fun j hj z=>hj (List.mem_append_left _ z)
 have sub2:∀j,j∉W1++W2->j∉W2:=fun j hj z=>hj (List.mem_append_right _ z)
 refine⟨H0,fps,s,o1,r,e1,?_⟩
 cases o1 with
 | nx s1=>
  intro fps1 Z1 H1 r1 q1
  exact⟨H0,fps1,s1,out,r1,e,k.same (fun j hj=>q1 j (sub1 j hj)) sub2⟩
 | bk s1=>cases e;exact fun fps' Z' H' r' q'=>k fps' Z' H' r' fun j hj=>q' j (sub1 j hj)
 | ct s1=>cases e;exact fun fps' Z' H' r' q'=>k fps' Z' H' r' fun j hj=>q' j (sub1 j hj)
 | rt l=>cases e;exact k
theorem Yg{c:Expr}{a b:List Stmt}{fc:XT}(hc:VT X c fc)(ha:VSs X O W1 a f)(hb:VSs X O W2 b g):VS X O (W1++W2) (.If c a b pos) (YC fc f g):=PS.imp (Ih hc ha hb) fun D Z H ⟨H0,fps,s,out,r,e,k⟩=>by
 obtain⟨c,e1,e⟩:=Zd e
 have sub1:∀j,j∉W1++W2->j∉W1:=fun j hj z=>hj (List.mem_append_left _ z)
 have sub2:∀j,j∉W1++W2->j∉W2:=fun j hj z=>hj (List.mem_append_right _ z)
 refine⟨fun _=>False,s,c,fun _ z=>z.elim,r.env,e1,fun H1 s1=>?_⟩
 cases c with
 | true=>
  rw[if_pos rfl] at e ⊢
  exact⟨H0,fps,s,out,r.grow s1,e,k.same (fun j _=>⟨rfl,Kep.refl _⟩) sub1⟩
 | false=>
  rw[if_neg Bool.false_ne_true] at e ⊢
  exact⟨H0,fps,s,out,r.grow s1,e,k.same (fun j _=>⟨rfl,Kep.refl _⟩) sub2⟩
theorem ZX{e:Expr}{fe:XE}(he:VM X e fe):VS X O [] (.Return (some e) pos) (Yd fe):=PS.imp (P6 he) fun D Z H ⟨H0,fps,s,out,r,e,k⟩=>by
 obtain⟨l,e1,rfl⟩:=map_some e
 exact⟨s,l,r.env,e1,fun v H' fp sm i d n=>k v fp H' (r.same.trans sm) i d fun p hp=>⟨Same.off r.same (n p hp).1,(n p hp).2⟩⟩
theorem Jy{e:Expr}{i:Nat}(he:PE X e (W8 i))(hi:i∈O:=by decide):VS X O [] (.Return (some e) pos) (Yd (Za i)):=PS.imp (P6 he) fun D Z H ⟨H0,fps,s,out,r,e,k⟩=>by
 obtain⟨l,e1,rfl⟩:=map_some e
 obtain⟨v,a,b⟩:=r.is i l (Ta e1)
 exact⟨v,a,k v _ H r.same b (r.nd i hi) (r.own i hi)⟩
theorem Nt{t:TE}{i:Nat}{fe:XE}(ht:∀Z H Q,tM K fe Z H Q->t Z H Q):∀D Z H,LC K O [i] (Zm i fe) D Z H->P7 t (TC i) D Z H:=fun D Z H ⟨H0,fps,s,out,r,e,k⟩=>by
 obtain⟨l,e1,rfl⟩:=map_some e
 refine ht Z H _ ⟨s,l,r.env,e1,fun v H' fp sm is d n=>?_⟩
 refine k _ _ H' ((r.grow sm).set (i:=i) is (fun _=>⟨d,fun p hp=>⟨Same.off r.same (n p hp).1,(n p hp).2⟩⟩) fun j _ _ p hp z=>r.dom j p z (n p hp).1) fun j hj=>?_
 have:j≠i:=by simpa using hj
 exact⟨by rw[List.getElem?_set,if_neg (Ne.symm this)],.inl (ZZ this)⟩
theorem Zq{i:Nat}{x:Str}{e:Expr}{fe:XE}{pos':Pos}(hN:X.N.Nodup)(hi:X.N[i]?=some x)(hx:Gx X.env.scope x)(he:VM X e fe)(hs:swapsWith e (some (.Name x pos')) pos.line X.env=pure false:=by rfl)(hf:X.fn x=true\/X.env.scope.names.lookup x=some .local:=by first | exact .inl rfl | exact .inr rfl | assumption) :
  VS X O [i] (.Assign [.Name x pos'] e pos) (Zm i fe):=PS.imp (Hl hN hi hx he hs hf) (Nt fun _ _ _ h=>h)
end
def Xn(T:Tgt)(fb:XS):List PV->ZE->Option QV
 | [],s=>some (.nx s)
 | l::r,s=>(XN T l s).bind fun s1=>(fb s1).bind fun o=>match o with | .nx s2=>Xn T fb r s2 | .ct s2=>Xn T fb r s2 | .bk s2=>some (.nx s2) | .rt v=>some (.rt v)
def YI(O:List Nat)(fi:XL)(T:Tgt)(fb:XS):XS:=fun s=>(fi (ZK O s)).bind fun ls=>Xn T fb ls s
theorem Rel.setAll{O:List Nat}{H0 H:Hp}:∀{is:List Nat}{ls:List PV}{vs:List V}{fs:List Addr}{fps:Nat->List Addr}{s:ZE}{Z:Us},Rel K O H0 fps s Z H->Iss K H ls vs fs->ls.length=is.length->(∀i∈is,i∉O)->(∀i∈O,∀p∈fps i,p∉fs)->
  ∃fps',Rel K O H0 fps' (VL.setAll is ls s) (YW is vs Z) H/\∀j,j∉is->(YW is vs Z)[j]?=Z[j]?/\Kep (fps' j) (fps j)
 | [],ls,vs,fs,fps,s,Z,r,_,_,_,_=>⟨fps,by unfold VL.setAll YW;exact r,fun j _=>⟨by unfold YW;rfl,Kep.refl _⟩⟩
 | i::is,[],vs,fs,fps,s,Z,r,_,hl,_,_=>by simp at hl
 | i::is,l::ls,vs,fs,fps,s,Z,r,hi,hl,hO,hd=>by
  obtain⟨x,rr,f1,f2,rfl,h1,h2,rfl⟩:=hi.inv
  have hiO:=hO i List.mem_cons_self
  have r1:=r.set (i:=i) h1 (fun z=>absurd z hiO) fun j hj hjo p hp z=>by
   rcases hjo with hjo | hjo
   ·exact hd j hjo p z (List.mem_append_left _ hp)
   ·exact absurd hjo hiO
  obtain⟨fps',r2,q2⟩:=Rel.setAll (is:=is) r1 h2 (by simpa using hl) (fun j hj=>hO j (List.mem_cons_of_mem _ hj)) fun j hj p hp z=>by
   have hji:j≠i:=fun e=>hiO (by rw[<-e];exact hj)
   rw[ZZ hji] at hp
   exact hd j hj p hp (List.mem_append_right _ z)
  refine⟨fps',r2,fun j hj=>?_⟩
  have hji:j≠i:=fun e=>hj (e▸List.mem_cons_self)
  obtain⟨a,b⟩:=q2 j (fun z=>hj (List.mem_cons_of_mem _ z))
  exact⟨a.trans (by rw[List.getElem?_set,if_neg (Ne.symm hji)]),b.trans (.inl (ZZ hji))⟩
section
variable {O W:List Nat} {T:Tgt} {fb:XS}
theorem SE{H1:Hp}{fps:Nat->List Addr}{s:ZE}{Z:Us}{D:Wu}{J:It}{ls:List PV}{out:QV}(r:Rel K O (Y0 H1 (Ow O fps)) fps s Z H1)(jis:Fx K (Ow O fps) H1 J ls)(e:Xn T fb ls s=some out)(hT:∀i∈T.slots,i∉O)
  (k:OutOk K O (T.slots++W) (Y0 H1 (Ow O fps)) fps Z D out):Ji (gT K T) (LC K O W fb) D Z J H1:=by
 have subT:∀j,j∉T.slots++W->j∉T.slots:=fun j hj z=>hj (List.mem_append_left _ z)
 have subW:∀j,j∉T.slots++W->j∉W:=fun j hj z=>hj (List.mem_append_right _ z)
 refine⟨fun i m Z' H'=>m=ls.length-i/\i<=ls.length/\∃fps' s',Rel K O (Y0 H1 (Ow O fps)) fps' s' Z' H'/\Xn T fb (ls.drop i) s'=some out/\∀j,j∉T.slots++W->Z'[j]?=Z[j]?/\Kep (fps' j) (fps j),
  ⟨ls.length,by simp,Nat.zero_le _,fps,s,r,e,fun j _=>⟨rfl,Kep.refl _⟩⟩,?_⟩
 rintro i m Z' H' ⟨rfl,hi,fps',s',r',e',q'⟩
 have ab:Ab (Ow O fps) H1 H':=fun b o h n=>r'.same b o (by unfold Y0;rw[if_neg n];exact h)
 cases q:ls.drop i with
 | nil=>
  have hil:i=ls.length:=by
   have:=congrArg List.length q
   rw[List.length_drop] at this
   simp at this;omega
  subst hil
  rw[q] at e'
  cases e'
  exact .inl ⟨jis.stop H' ab,k fps' Z' H' r' q'⟩
 | cons l rr=>
  obtain⟨hl,hr⟩:=UH q
  have hilt:i<ls.length:=(List.getElem?_eq_some_iff.mp hl).1
  rw[q] at e'
  unfold Xn at e'
  obtain⟨sb,eb,e'⟩:=Zd e'
  obtain⟨o,eo,e'⟩:=Zd e'
  refine .inr ⟨jis.go H' i l ab hl,fun Z2 H2=>∃fps2 s2,Rel K O (Y0 H1 (Ow O fps)) fps2 s2 Z2 H2/\Xn T fb (ls.drop (i+1)) s2=some out/\∀j,j∉T.slots++W->Z2[j]?=Z[j]?/\Kep (fps2 j) (fps j),
   fun Z2 H2 h2=>⟨ls.length-(i+1),by omega,rfl,hilt,h2⟩,fun x H2 y=>?_⟩
  obtain⟨s2,fx,ix,nx⟩:=jis.yld H' i l x H2 ab hl y
  obtain⟨bl,bv,bf,rfl,bi,blen,bsub,buse⟩:=Sz (K:=K) ix eb
  obtain⟨fps3,r3,q3⟩:=Rel.setAll (is:=T.slots) (r'.grow s2) bi blen hT fun j hj p hp z=>by
   obtain⟨n1,n2⟩:=nx p (bsub p z)
   have:=(r'.own j hj p hp).1
   unfold Y0 at this;rw[if_neg n2] at this
   exact n1 this
  refine buse _ _ ⟨_,fps3,_,o,r3,eo,?_⟩
  have keep:∀j,j∉T.slots++W->(YW T.slots bv Z')[j]?=Z[j]?/\Kep (fps3 j) (fps j):=fun j hj=>⟨(q3 j (subT j hj)).1.trans (q' j hj).1,(q3 j (subT j hj)).2.trans (q' j hj).2⟩
  cases o with
  | nx s4=>exact fun fps4 Z4 H4 r4 q4=>⟨fps4,s4,r4,by rw[hr];exact e',fun j hj=>⟨(q4 j (subW j hj)).1.trans (keep j hj).1,(q4 j (subW j hj)).2.trans (keep j hj).2⟩⟩
  | ct s4=>exact fun fps4 Z4 H4 r4 q4=>⟨fps4,s4,r4,by rw[hr];exact e',fun j hj=>⟨(q4 j (subW j hj)).1.trans (keep j hj).1,(q4 j (subW j hj)).2.trans (keep j hj).2⟩⟩
  | bk s4=>
   cases e'
   exact fun fps4 Z4 H4 r4 q4=>k fps4 Z4 H4 r4 fun j hj=>⟨(q4 j (subW j hj)).1.trans (keep j hj).1,(q4 j (subW j hj)).2.trans (keep j hj).2⟩
  | rt v=>
   cases e'
   exact k
end
section
variable {X:Cx} {O W:List Nat} {tg iter:Expr} {body:List Stmt} {fi:XL} {T:Tgt} {fb:XS} {pos:Pos}
theorem Xe(hp:PassesOwn (model X.prog X.w) X.A X.env X.xe)(hc:X.calm=true)(hi:VI X tg iter fi)(hg:PG X tg (gT X.K T))(hb:VSs X O W body fb)(hT:∀i∈T.slots,i∉O:=by decide)
  (hs:∀x,foldedSetIterable iter X.env x=pure x:=by intro _;rfl):VS X O (T.slots++W) (.For tg iter body [] pos) (YI O fi T fb):=PS.imp (Se hp hc hi hg hb hs) fun D Z H ⟨H0,fps,s,out,r,e,k⟩=>by
 obtain⟨ls,e1,e⟩:=Zd e
 refine⟨Ow O fps,ZK O s,ls,r.owMut,r.envO,e1,fun J H1 s1 jis=>?_⟩
 exact SE (r.grow s1).frame jis e hT (k.less (r.grow s1).under)
end
def YQ(c:XT)(fb:XS):Nat->ZE->Option QV
 | 0,_=>none
 | n+1,s=>(c s).bind fun k=>if k=true then(fb s).bind fun o=>match o with | .nx s2=>YQ c fb n s2 | .ct s2=>YQ c fb n s2 | .bk s2=>some (.nx s2) | .rt v=>some (.rt v) else some (.nx s)
theorem Vp{c:XT}{fb:XS}:∀{n:Nat}{s:ZE}{o:QV},YQ c fb n s=some o->YQ c fb (n+1) s=some o
 | 0,_,_,h=>by cases h
 | n+1,s,o,h=>by
  unfold YQ at h ⊢
  obtain⟨k,e1,h⟩:=Zd h
  rw[e1]
  cases k with
  | false=>exact h
  | true=>
   rw[if_pos rfl] at h
   obtain⟨o1,e2,h⟩:=Zd h
   simp only[Option.bind_some,if_true,e2]
   cases o1 with
   | nx s2=>exact Vp h
   | ct s2=>exact Vp h
   | bk s2=>exact h
   | rt v=>exact h
theorem RP{c:XT}{fb:XS}{n m:Nat}{s:ZE}{o:QV}(h:YQ c fb n s=some o)(hm:n<=m):YQ c fb m s=some o:=by
 induction m with
 | zero=>
  have:n=0:=by omega
  subst this;exact h
 | succ m ih=>
  by_cases e:n=m+1
  ·subst e;exact h
  ·exact Vp (ih (by omega))
open Classical in
noncomputable def Th(c:XT)(fb:XS):XS:=fun s=>if h:∃n,(YQ c fb n s).isSome=true then YQ c fb h.choose s else none
theorem Mt{c:XT}{fb:XS}{n:Nat}{s:ZE}{o:QV}(h:YQ c fb n s=some o):Th c fb s=some o:=by
 have ex:∃n,(YQ c fb n s).isSome=true:=⟨n,by rw[h];rfl⟩
 unfold Th;rw[dif_pos ex]
 obtain⟨o',e⟩:=Option.isSome_iff_exists.mp ex.choose_spec
 rw[e]
 rcases Nat.le_total n ex.choose with hl | hl
 ·rw[RP h hl] at e;exact e.symm
 ·rw[RP e hl] at h;exact h
section
variable {X:Cx} {O W:List Nat} {c:Expr} {body:List Stmt} {fc:XT} {fb:XS} {pos:Pos}
theorem LF(hp:PassesOwn (model X.prog X.w) X.A X.env X.xe)(hc:VT X c fc)(hb:VSs X O W body fb):VS X O W (.While c body [] pos) (Th fc fb):=PS.imp (Lc hp hc hb) fun D Z H ⟨H0,fps,s,out,r,e,k⟩=>by
 unfold Th at e
 split at e
 case isFalse=>cases e
 rename_i ex
 generalize ex.choose=n at e
 refine⟨fun m Z' H'=>∃fps' s',Rel X.K O H0 fps' s' Z' H'/\YQ fc fb m s'=some out/\∀j,j∉W->Z'[j]?=Z[j]?/\Kep (fps' j) (fps j),⟨n,fps,s,r,e,fun j _=>⟨rfl,Kep.refl _⟩⟩,?_⟩
 rintro m Z' H' ⟨fps',s',r',e',q'⟩
 cases m with
 | zero=>cases e'
 | succ m=>
  unfold YQ at e'
  obtain⟨b,e1,e'⟩:=Zd e'
  refine⟨fun _=>False,s',b,fun _ z=>z.elim,r'.env,e1,fun H2 s2=>?_⟩
  cases b with
  | false=>
   rw[if_neg Bool.false_ne_true] at e' ⊢
   cases e'
   exact k fps' Z' H2 (r'.grow s2) q'
  | true=>
   rw[if_pos rfl] at e' ⊢
   obtain⟨o,eo,e'⟩:=Zd e'
   refine⟨fun Z2 H2=>∃fps2 s2,Rel X.K O H0 fps2 s2 Z2 H2/\YQ fc fb m s2=some out/\∀j,j∉W->Z2[j]?=Z[j]?/\Kep (fps2 j) (fps j),fun Z2 H2 h2=>⟨m,Nat.lt_succ_self m,h2⟩,H0,fps',s',o,r'.grow s2,eo,?_⟩
   cases o with
   | nx s4=>exact fun fps4 Z4 H4 r4 q4=>⟨fps4,s4,r4,e',fun j hj=>⟨(q4 j hj).1.trans (q' j hj).1,(q4 j hj).2.trans (q' j hj).2⟩⟩
   | ct s4=>exact fun fps4 Z4 H4 r4 q4=>⟨fps4,s4,r4,e',fun j hj=>⟨(q4 j hj).1.trans (q' j hj).1,(q4 j hj).2.trans (q' j hj).2⟩⟩
   | bk s4=>
    cases e'
    exact fun fps4 Z4 H4 r4 q4=>k fps4 Z4 H4 r4 fun j hj=>⟨(q4 j hj).1.trans (q' j hj).1,(q4 j hj).2.trans (q' j hj).2⟩
   | rt v=>cases e';exact k
end
end VL
namespace VL
open PySem PySem.Spec PyProof.Rows L2
variable {K:PySem.W.Frag}
section
variable {O:List Nat} {H0 H H':Hp} {fps:Nat->List Addr} {s:ZE} {Z:Us}
theorem Rel.lst_at(r:Rel K O H0 fps s Z H){i:Nat}(hi:i∈O){m:List PV}(e:s[i]?=some (some (.lst m))):∃p xs fq,Z[i]?=some (some (.ref p))/\H p=some (.lst xs)/\Iss K H m xs fq/\fps i=p::fq:=by
 obtain⟨v,a,b⟩:=r.is i _ e
 obtain⟨p,xs,fq,rfl,hp,hm,ef⟩:=b.lst_inv
 exact⟨p,xs,fq,a,hp,hm,ef⟩
theorem Rel.dT_at(r:Rel K O H0 fps s Z H){i:Nat}(hi:i∈O){ks:List (List Ys)}{m:List PV}(e:s[i]?=some (some (.dT ks m))):∃p kvs fq,Z[i]?=some (some (.ref p))/\H p=some (.dT kvs)/\kvs.map (·.1)=ks/\Iss K H m (kvs.map (·.2)) fq/\fps i=p::fq:=by
 obtain⟨v,a,b⟩:=r.is i _ e
 obtain⟨p,xs,fq,rfl,hp,hk,hm,ef⟩:=b.dT_inv
 refine⟨p,xs,fq,a,?_,hk,hm,ef⟩
 have mu:=(r.own i hi p (by rw[ef];exact List.mem_cons_self)).2
 rcases hp with hp | ⟨o,hp⟩
 ·exact hp
 ·rw[hp] at mu;exact mu.elim
theorem Rel.dK_at(r:Rel K O H0 fps s Z H){i:Nat}(hi:i∈O){ks:List Ys}{m:List PV}(e:s[i]?=some (some (.dK ks m))):∃p kvs fq,Z[i]?=some (some (.ref p))/\H p=some (.dK kvs)/\kvs.map (·.1)=ks/\Iss K H m (kvs.map (·.2)) fq/\fps i=p::fq:=by
 obtain⟨v,a,b⟩:=r.is i _ e
 obtain⟨p,xs,fq,rfl,hp,hk,hm,ef⟩:=b.dK_inv
 refine⟨p,xs,fq,a,?_,hk,hm,ef⟩
 have mu:=(r.own i hi p (by rw[ef];exact List.mem_cons_self)).2
 rcases hp with hp | ⟨o,hp⟩
 ·exact hp
 ·rw[hp] at mu;exact mu.elim
theorem VG{α:Type}{l:List α}{i:Nat}{a:α}(h:l[i]?=some a):i<l.length:=(List.getElem?_eq_some_iff.mp h).1
theorem TK.upd'{p:Addr}{o:HO}(mu:Ws (H p)):TK2 H (L2.upd H p o):=⟨fun b xs h=>by
 rw[upd_ne (fun z=>by rw[z] at h;rw[h] at mu;exact mu)];exact h,fun b o xs h=>by
 rw[upd_ne (fun z=>by rw[z] at h;rw[h] at mu;exact mu)];exact h,fun b o x h=>by
 rw[upd_ne (fun z=>by rw[z] at h;rw[h] at mu;exact mu)];exact h⟩
theorem RdK.upd_ne{p q:Addr}{o:HO}(ne:q≠p):RdK H (L2.upd H p o) q:=RdK.of fun u hu=>by rw[L2.upd_ne ne];exact hu
theorem Rel.relist(r:Rel K O H0 fps s Z H){i:Nat}(hi:i∈O){m m':List PV}(e:s[i]?=some (some (.lst m))){p:Addr}{fq fq':List Addr}{xs':List V}(ef:fps i=p::fq)(hv:Z[i]?=some (some (.ref p)))
  (h':Iss K H m' xs' fq') (nd:(p::fq').Nodup) (hf:∀q∈fq',q∈fq\/((H0 q=none/\Ws (H q))/\∀j,q∉fps j)):Rel K O H0 (UI fps s.length i (p::fq')) (s.set i (some (.lst m'))) Z (L2.upd H p (.lst xs')):=by
 have hp:p∈fps i:=by rw[ef];exact List.mem_cons_self
 have mu:=(r.own i hi p hp).2
 have np:p∉fq':=(List.nodup_cons.mp nd).1
 refine r.mutate hi hp hv (VG e) (Is.lst upd_same (Iss.tr (TK.upd' mu) _ _ _ (fun q hq=>RdK.upd_ne fun z=>np (z▸hq)) h')) nd (fun q hq=>?_) (fun j hj q hq z=>?_) True.intro
 ·rcases List.mem_cons.mp hq with rfl | hq
  ·exact⟨(r.own i hi q hp).1,by rw[upd_same];exact True.intro⟩
  ·have ne:q≠p:=fun z=>np (z▸hq)
   rw[L2.upd_ne ne]
   rcases hf q hq with h | h
   ·exact r.own i hi q (by rw[ef];exact List.mem_cons_of_mem _ h)
   ·exact h.1
 ·rcases List.mem_cons.mp hq with rfl | hq
  ·exact r.dis i hi j hj q hp z
  ·rcases hf q hq with h | h
   ·exact r.dis i hi j hj q (by rw[ef];exact List.mem_cons_of_mem _ h) z
   ·exact h.2 j z
end
def LG(s:ZE)(i:Nat):Option (List PV):=match s[i]? with | some (some (.lst m))=>some m | _=>none
def M7:PV->Option Int
 | .int k=>some k
 | _=>none
def Fy:PV->Option (List PV)
 | .lst k=>some k
 | _=>none
theorem UJ{s:ZE}{i:Nat}{m:List PV}(h:LG s i=some m):s[i]?=some (some (.lst m)):=by
 unfold LG at h;split at h
 ·cases h;assumption
 ·cases h
theorem UK{a:PV}{k:Int}(h:M7 a=some k):a = .int k:=by
 unfold M7 at h;split at h
 ·cases h;rfl
 ·cases h
theorem Pm{a:PV}{k:List PV}(h:Fy a=some k):a = .lst k:=by
 unfold Fy at h;split at h
 ·cases h;rfl
 ·cases h
def gd(c:Bool):Option Unit:=if c=true then some () else none
theorem VH{c:Bool}{u:Unit}(h:gd c=some u):c=true:=by
 unfold gd at h;split at h
 ·assumption
 ·cases h
def YJ(i:Nat)(f:XE):XS:=fun s=>(f s).bind fun l=>(LG s i).bind fun m=>(gd (decide (m.length<=10000))).bind fun _=>some (.nx (s.set i (some (.lst (m++[l])))))
def VJ(i:Nat)(f:XE):XS:=fun s=>(f s).bind fun l=>(Fy l).bind fun n=>(LG s i).bind fun m=>(gd (decide (m.length+n.length<=10000))).bind fun _=>some (.nx (s.set i (some (.lst (m++n)))))
def VN(i:Nat)(fk:XE)(f:XE):XS:=fun s=>(fk s).bind fun k=>(f s).bind fun l=>(M7 k).bind fun k=>(LG s i).bind fun m=>(gd (Zv m&&ZS l&&decide (0<=k/\k<=1000000/\m.length<=10000))).bind fun _=>some (.nx (s.set i (some (.lst (m.take k.toNat++l::m.drop k.toNat)))))
section
variable {X:Cx} {O:List Nat} {i:Nat} {st:Stmt} {f fk:XE}
theorem Ex{H:Hp}{p:Addr}{xs:List V}(h:H p=some (.lst xs)):Ep K "list" (.ref p) H:=.inl ⟨rfl,_,SqL.of h⟩
theorem RQ{s:ZE}{Z:Us}{fps:Nat->List Addr}{fp:List Addr}:∀j,j∉[i]->Z[j]?=Z[j]?/\Kep (UI fps s.length i fp j) (fps j):=fun j hj=>⟨rfl,.inl (ZZ (by simpa using hj))⟩
theorem Wz(h:PS X st (Q0 (F6 X.K "list" O9 (W8 i) (V3 (tM X.K f) Od))))(hi:i∈O:=by decide):VS X O [i] st (YJ i f):=PS.imp h fun D Z H ⟨H0,fps,s,out,r,e,k⟩=>by
 obtain⟨l,e1,e⟩:=Zd e
 obtain⟨m,em,e⟩:=Zd e
 obtain⟨_,eg,e⟩:=Zd e
 have em:=UJ em
 have hlen:=of_decide_eq_true (VH eg)
 cases e
 obtain⟨p,xs,fq,hv,hp,hm,ef⟩:=r.lst_at hi em
 refine⟨.ref p,hv,Ex hp,s,l,r.env,e1,fun y H2 fe s2 i2 d2 n2=>?_⟩
 refine⟨p,xs,y,rfl,rfl,s2 _ _ hp,by rw[hm.len];exact lt_size (by omega),?_⟩
 have r2:=r.grow s2
 have fr:∀q∈fe,∀j,q∉fps j:=fun q hq j z=>r.dom j q z (n2 q hq).1
 refine k _ _ _ (r2.relist hi em ef hv ((hm.mono s2).append (Iss.one i2)) ?_ fun q hq=>?_) RQ
 ·have nd:=r.nd i hi
  rw[ef] at nd;rw[<-List.cons_append]
  exact List.nodup_append.mpr ⟨nd,d2,fun a ha b hb z=>fr b hb i (by rw[ef,<-z];exact ha)⟩
 ·rcases List.mem_append.mp hq with h | h
  ·exact .inl h
  ·exact .inr ⟨⟨Same.off r.same (n2 q h).1,(n2 q h).2⟩,fr q h⟩
theorem Mu(h:PS X st (Q0 (F6 X.K "list" Na (W8 i) (V3 (tM X.K f) Od))))(hi:i∈O:=by decide):VS X O [i] st (VJ i f):=PS.imp h fun D Z H ⟨H0,fps,s,out,r,e,k⟩=>by
 obtain⟨l,e1,e⟩:=Zd e
 obtain⟨n,en,e⟩:=Zd e
 obtain⟨m,em,e⟩:=Zd e
 obtain⟨_,eg,e⟩:=Zd e
 rw[Pm en] at e1;have em:=UJ em
 have hlen:=of_decide_eq_true (VH eg)
 cases e
 obtain⟨p,xs,fq,hv,hp,hm,ef⟩:=r.lst_at hi em
 refine⟨.ref p,hv,Ex hp,s,_,r.env,e1,fun y H2 fe s2 i2 d2 n2=>?_⟩
 obtain⟨b,zs,fb,rfl,hb,hz,rfl⟩:=i2.lst_inv
 have hb':H2 b=some (.lst zs):=hb
 refine⟨p,b,xs,zs,rfl,rfl,s2 _ _ hp,hb',by rw[hm.len,hz.len];exact Nat.le_of_lt (lt_size (by omega)),?_⟩
 have r2:=r.grow s2
 have fr:∀q∈fb,∀j,q∉fps j:=fun q hq j z=>r.dom j q z (n2 q (List.mem_cons_of_mem _ hq)).1
 refine k _ _ _ (r2.relist hi em ef hv ((hm.mono s2).append hz) ?_ fun q hq=>?_) RQ
 ·have nd:=r.nd i hi
  rw[ef] at nd;rw[<-List.cons_append]
  exact List.nodup_append.mpr ⟨nd,(List.nodup_cons.mp d2).2,fun a ha b hb z=>fr b hb i (by rw[ef,<-z];exact ha)⟩
 ·rcases List.mem_append.mp hq with h | h
  ·exact .inl h
  ·exact .inr ⟨⟨Same.off r.same (n2 q (List.mem_cons_of_mem _ h)).1,(n2 q (List.mem_cons_of_mem _ h)).2⟩,fr q h⟩
theorem Iss.pureEq{H:Hp}{l:List PV}{xs:List V}{fp:List Addr}(h:Iss K H l xs fp)(hp:Zv l=true):Iss K H l xs []:=by
 have:=Iss.pure _ _ _ hp h
 subst this;exact h
theorem Ox{l:List PV}(n:Nat)(h:Zv l=true):Zv (l.take n)=true:=by
 rw[XY,List.all_eq_true] at *
 exact fun x hx=>h x (List.mem_of_mem_take hx)
theorem Oy{l:List PV}(n:Nat)(h:Zv l=true):Zv (l.drop n)=true:=by
 rw[XY,List.all_eq_true] at *
 exact fun x hx=>h x (List.mem_of_mem_drop hx)
theorem Mv(h:PS X st (Q0 (F6 X.K "list" Nh (W8 i) (V3 (tF X.K fk) (V3 (tF X.K f) Od)))))(hi:i∈O:=by decide):VS X O [i] st (VN i fk f):=PS.imp h fun D Z H ⟨H0,fps,s,out,r,e,k⟩=>by
 obtain⟨kk,e0,e⟩:=Zd e
 obtain⟨l,e1,e⟩:=Zd e
 obtain⟨ki,ek,e⟩:=Zd e
 obtain⟨m,em,e⟩:=Zd e
 obtain⟨_,eg,e⟩:=Zd e
 rw[UK ek] at e0;have em:=UJ em;have hc:=VH eg;simp only[Bool.and_eq_true,decide_eq_true_eq] at hc
 obtain⟨⟨pm,pl⟩,k0,k1,hlen⟩:=hc
 cases e
 obtain⟨p,xs,fq,hv,hp,hm,ef⟩:=r.lst_at hi em
 refine⟨.ref p,hv,Ex hp,fun _=>False,s,_,fun _ z=>z.elim,r.env,e0,fun z H1 fz s1 i1 _=>⟨fun _=>False,s,l,fun _ z=>z.elim,r.env.mono s1,e1,fun y H2 fe s2 i2 _=>?_⟩⟩
 have s12:=s1.trans s2
 obtain⟨rfl,_⟩:=i1.int_inv
 have:=Is.pure _ _ _ pl i2
 subst this
 refine⟨p,xs,ki,y,rfl,rfl,s12 _ _ hp,k0,by omega,by rw[hm.len];exact lt_size (by omega),?_⟩
 have hm':=(hm.mono s12).pureEq pm
 obtain⟨f1,a1,_⟩:=hm'.take ki.toNat
 obtain⟨f2,a2,_⟩:=hm'.drop ki.toNat
 have a1:=a1.pureEq (Ox _ pm)
 have a2:=a2.pureEq (Oy _ pm)
 exact k _ _ _ ((r.grow s12).relist hi em ef hv (a1.append (Iss.cons i2 a2)) (by simp) fun q hq=>by simp at hq) RQ
end
theorem Iss.setRow{H:Hp}{o:List V}:∀{m:List PV}{xs:List V}{fq:List Addr}{j:Nat}{n n':List PV}{q:Addr},Iss K H m xs fq->m[j]?=some (.lst n)->xs[j]?=some (.ref q)->fq.Nodup->Ws (H q)->Zv n=true->Iss K (L2.upd H q (.lst o)) n' o []->
  Iss K (L2.upd H q (.lst o)) (m.set j (.lst n')) xs fq
 | [],_,_,_,_,_,_,_,e,_,_,_,_,_=>by simp at e
 | a::m,xs,fq,0,n,n',q,h,e,ex,nd,mu,pn,h'=>by
  obtain⟨x,r,f1,f2,rfl,h1,h2,rfl⟩:=h.inv
  simp at e ex
  subst e ex
  obtain⟨p',zs,fz,e,hp,hz,rfl⟩:=h1.lst_inv
  cases e
  have:=Iss.pure _ _ _ pn hz
  subst this
  have nq:q∉f2:=(List.nodup_cons.mp nd).1
  exact Iss.cons (Is.lst upd_same h') (Iss.tr (TK.upd' mu) _ _ _ (fun z hz=>RdK.upd_ne fun e=>nq (e▸hz)) h2)
 | a::m,xs,fq,j+1,n,n',q,h,e,ex,nd,mu,pn,h'=>by
  obtain⟨x,r,f1,f2,rfl,h1,h2,rfl⟩:=h.inv
  simp at e ex
  obtain⟨nd1,nd2,nd3⟩:=List.nodup_append.mp nd
  obtain⟨y,fy,hy,iy,suby⟩:=h2.get e
  rw[ex] at hy;cases hy
  obtain⟨p',zs,fz,e',_,_,rfl⟩:=iy.lst_inv
  cases e'
  have nq:q∉f1:=fun z=>nd3 q z q (suby q List.mem_cons_self) rfl
  exact Iss.cons (Is.tr (TK.upd' mu) _ _ _ (fun z hz=>RdK.upd_ne fun e=>nq (e▸hz)) h1) (Iss.setRow h2 e ex nd2 mu pn h')
def ZM(i:Nat)(fa fb:XE)(f:XE):XS:=fun s=>(f s).bind fun l=>(fa s).bind fun a=>(fb s).bind fun b=>(M7 a).bind fun a=>(M7 b).bind fun b=>(LG s i).bind fun m=>(O7 m.length a).bind fun j=>(m[j]?).bind fun r=>(Fy r).bind fun n=>
 (gd (Zv n&&ZS l)).bind fun _=>(O7 n.length b).map fun c=>.nx (s.set i (some (.lst (m.set j (.lst (n.set c l))))))
theorem Y5{X:Cx}{O:List Nat}{i:Nat}{st:Stmt}{f fa fb:XE}(h:PS X st (P7 (tF X.K f) (GS (Hq (K5 X.K) (W8 i) (tF X.K fa)) (tF X.K fb) Io)))(hi:i∈O:=by decide):VS X O [i] st (ZM i fa fb f):=PS.imp h fun D Z H ⟨H0,fps,s,out,r,e,k⟩=>by
 obtain⟨l,e0,e⟩:=Zd e
 obtain⟨a,e1,e⟩:=Zd e
 obtain⟨b,e2,e⟩:=Zd e
 obtain⟨ai,ea,e⟩:=Zd e
 obtain⟨bi,eb,e⟩:=Zd e
 obtain⟨m,em,e⟩:=Zd e
 obtain⟨j,ej,e⟩:=Zd e
 obtain⟨rw',en,e⟩:=Zd e
 obtain⟨n,er,e⟩:=Zd e
 obtain⟨_,eg,e⟩:=Zd e
 rw[UK ea] at e1;rw[UK eb] at e2;rw[Pm er] at en;have em:=UJ em;have hc:=VH eg;simp only[Bool.and_eq_true] at hc
 obtain⟨pn,pl⟩:=hc
 obtain⟨c,ec,rfl⟩:=map_some e
 obtain⟨p,xs,fq,hv,hp,hm,ef⟩:=r.lst_at hi em
 refine⟨fun _=>False,s,l,fun _ z=>z.elim,r.env,e0,fun y H1 fy s1 i1 _=>?_⟩
 refine⟨.ref p,hv,fun _=>False,s,_,fun _ z=>z.elim,r.env.mono s1,e1,fun z H2 fz s2 i2 _=>?_⟩
 obtain⟨rfl,_⟩:=i2.int_inv
 have s12:=s1.trans s2
 obtain⟨q,f1,hq,iq,subq⟩:=(hm.mono s12).get en
 obtain⟨qa,zs,fz',rfl,hqa,hz,rfl⟩:=id iq.lst_inv
 refine⟨p,xs,ai,.ref qa,rfl,rfl,SqL.of (s12 _ _ hp),?_,fun _=>False,s,_,fun _ z=>z.elim,r.env.mono s12,e2,fun w H3 fw s3 i3 _=>?_⟩
 ·unfold Wv;rw[hm.len,ej];exact hq
 obtain⟨rfl,_⟩:=i3.int_inv
 have s123:=s12.trans s3;have r3:=r.grow s123
 have hqf:qa∈fps i:=by rw[ef];exact List.mem_cons_of_mem _ (subq qa List.mem_cons_self)
 have mu:=(r3.own i hi qa hqf).2
 have hqa3:H3 qa=some (.lst zs):=s3 _ _ hqa
 have:=Is.pure _ _ _ pl i1
 subst this
 refine⟨qa,zs,bi,c,rfl,rfl,hqa3,by rw[hz.len];exact ec,?_⟩
 have nd:=r.nd i hi;rw[ef] at nd
 have hqp:qa≠p:=fun z=>(List.nodup_cons.mp nd).1 (z▸subq qa List.mem_cons_self)
 have newrow:Iss X.K (L2.upd H3 qa (.lst (zs.set c y))) (n.set c l) (zs.set c y) []:=Iss.tr (TK.upd' mu) _ _ _ (fun q hq=>by simp at hq) (Iss.setP c pn pl ((hz.mono s3).pureEq pn) (i1.mono (s2.trans s3)))
 have rows:=Iss.setRow (hm.mono s123) en hq (List.nodup_cons.mp nd).2 mu pn newrow
 refine k _ _ _ (r3.mutate (o:=.lst (zs.set c y)) (l':=.lst (m.set j (.lst (n.set c l)))) (fp':=p::fq) hi hqf hv (VG em) (Is.lst (by rw[L2.upd_ne (Ne.symm hqp)];exact s123 _ _ hp) rows) nd (fun q hq=>?_) (fun j hj q hq z=>r.dis i hi j hj q (by rw[ef];exact hq) z) True.intro) RQ
 refine⟨(r.own i hi q (by rw[ef];exact hq)).1,?_⟩
 by_cases e:q=qa
 ·subst e;rw[upd_same];exact True.intro
 ·rw[L2.upd_ne e];exact(r3.own i hi q (by rw[ef];exact hq)).2
def Mw(i:Nat)(g:PV->PV->Option PV)(f:XE):XS:=fun s=>match s[i]? with | some (some a)=>(f s).bind fun b=>(g a b).map fun l=>.nx (s.set i (some l)) | _=>none
theorem Jz{X:Cx}{O:List Nat}{i:Nat}{st:Stmt}{f:XE}{g:Int->Int->Int}(h:PS X st (GU i (tF X.K f) (EI g))):VS X O [i] st (Mw i (gI g) f):=PS.imp h fun D Z H ⟨H0,fps,s,out,r,e,k⟩=>by
 unfold Mw at e
 split at e
 case h_2=>cases e
 rename_i a ea
 obtain⟨b,e1,e⟩:=Zd e
 obtain⟨l,e2,rfl⟩:=map_some e
 obtain⟨m,n,rfl,rfl,rfl⟩:=Nl e2
 obtain⟨v,hv,iv⟩:=r.is i _ ea
 refine⟨v,hv,fun _=>False,s,_,fun _ z=>z.elim,r.env,e1,fun y H1 fy s1 i1 _=>⟨m,n,iv.int_inv.1,i1.int_inv.1,?_⟩⟩
 refine k _ _ H1 ((r.grow s1).set (i:=i) (Is.int _) (fun _=>⟨List.nodup_nil,fun p hp=>by simp at hp⟩) fun j _ _ p hp=>by simp at hp) fun j hj=>?_
 have:j≠i:=by simpa using hj
 exact⟨by rw[List.getElem?_set,if_neg (Ne.symm this)],.inl (ZZ this)⟩
def TN(T:Tgt)(f:XE):XS:=fun s=>(f s).bind fun l=>if ZS l=true then(XN T l s).map .nx else none
theorem Nu{X:Cx}{O:List Nat}{st:Stmt}{f:XE}{T:Tgt}(h:PS X st (P7 (tF X.K f) (gT X.K T)))(hT:∀i∈T.slots,i∉O:=by decide):VS X O T.slots st (TN T f):=PS.imp h fun D Z H ⟨H0,fps,s,out,r,e,k⟩=>by
 obtain⟨l,e1,e⟩:=Zd e
 split at e
 case isFalse=>cases e
 rename_i pl
 obtain⟨s',e2,rfl⟩:=map_some e
 refine⟨fun _=>False,s,l,fun _ z=>z.elim,r.env,e1,fun v H1 fp s1 i1 _=>?_⟩
 have:=Is.pure _ _ _ pl i1
 subst this
 obtain⟨ls,vs,fs,rfl,hi,hl,sub,use⟩:=Sz (K:=X.K) i1 e2
 obtain⟨fps',r2,q2⟩:=Rel.setAll (is:=T.slots) (r.grow s1) hi hl hT fun j hj p hp z=>by have:=sub p z;simp at this
 exact use Z D.nx (k fps' _ H1 r2 q2)
end VL
namespace VL
open PySem PySem.Spec PyProof.Rows L2
variable {K:PySem.W.Frag}
def SG:PV->Option Ys
 | .int i=>some (.inl i)
 | .str x=>some (.inr x)
 | _=>none
def Pn:List PV->Option (List Ys)
 | []=>some []
 | a::r=>(SG a).bind fun k=>(Pn r).map (k::·)
def SH:PV->Option (List Ys)
 | .tup l=>Pn l
 | _=>none
def kP:Ys->PV
 | .inl i=>.int i
 | .inr x=>.str x
theorem Qt{H:Hp}{a:PV}{k:Ys}{v:V}{fp:List Addr}(e:SG a=some k)(h:Is K H a v fp):v=kV k/\fp=[]:=by
 cases a with
 | int i=>cases e;exact h.int_inv
 | str x=>cases e;exact h.str_inv
 | _=>cases e
theorem Po{H:Hp}:∀{l:List PV}{ks:List Ys}{xs:List V}{fp:List Addr},Pn l=some ks->Iss K H l xs fp->xs=ks.map kV/\fp=[]
 | [],ks,xs,fp,e,h=>by
  cases e
  simpa only[List.map_nil,Iss] using h
 | a::r,ks,xs,fp,e,h=>by
  obtain⟨k,e1,e⟩:=Zd (show(SG a).bind (fun k=>(Pn r).map (k::·))=some ks from e)
  obtain⟨kr,e2,rfl⟩:=map_some e
  obtain⟨x,rr,f1,f2,rfl,h1,h2,rfl⟩:=h.inv
  obtain⟨rfl,rfl⟩:=Qt e1 h1
  obtain⟨rfl,rfl⟩:=Po e2 h2
  exact⟨rfl,rfl⟩
theorem Nv{H:Hp}{a:PV}{k:List Ys}{v:V}{fp:List Addr}(e:SH a=some k)(h:Is K H a v fp):∃b,v = .ref b/\H b=some (.tup (k.map kV)):=by
 cases a with
 | tup l=>
  obtain⟨p,xs,rfl,hp,hi⟩:=h.tup_inv
  obtain⟨rfl,_⟩:=Po (show Pn l=some k from e) hi
  exact⟨p,rfl,hp⟩
 | _=>cases e
theorem Fz{H:Hp}(k:Ys):Is K H (kP k) (kV k) []:=by
 cases k with
 | inl i=>exact Is.int i
 | inr x=>exact Is.str x
theorem LH{H:Hp}:∀(ks:List Ys),Iss K H (ks.map kP) (ks.map kV) []
 | []=>Iss.nil
 | k::r=>Iss.cons (f1:=[]) (Fz k) (LH r)
section
variable {κ:Type} [DecidableEq κ]
def Wa(ks:List κ)(vs:List PV)(k:κ):Option PV:=((ks.zip vs).find? fun z=>decide (z.1=k)).map (·.2)
def WA(ks:List κ)(k:κ):List κ:=if k∈ks then ks else ks++[k]
def WB(ks:List κ)(vs:List PV)(k:κ)(v:PV):List PV:=if k∈ks then(ks.zip vs).map fun z=>if z.1=k then v else z.2 else vs++[v]
theorem SI{H:Hp}:∀{kvs:List (κ×V)}{l:List PV}{fq:List Addr}(k:κ),Iss K H l (kvs.map (·.2)) fq->
  (Wa (kvs.map (·.1)) l k=none/\Vh kvs k=none)\/∃a x f,Wa (kvs.map (·.1)) l k=some a/\Vh kvs k=some x/\Is K H a x f/\∀p∈f,p∈fq
 | [],l,fq,k,h=>.inl ⟨by unfold Wa;simp,rfl⟩
 | kv::r,[],fq,k,h=>by have:=h.len;simp at this
 | kv::r,a::l,fq,k,h=>by
  obtain⟨x,rr,f1,f2,e,h1,h2,rfl⟩:=h.inv
  cases e
  by_cases hk:kv.1=k
  ·refine .inr ⟨a,kv.2,f1,?_,Uv hk,h1,fun p hp=>List.mem_append_left _ hp⟩
   unfold Wa;rw[List.map_cons,List.zip_cons_cons,List.find?_cons];simp[hk]
  ·have e1:Wa ((kv::r).map (·.1)) (a::l) k=Wa (r.map (·.1)) l k:=by
    unfold Wa;rw[List.map_cons,List.zip_cons_cons,List.find?_cons];simp[hk]
   rw[e1,Uw hk]
   rcases SI (l:=l) k h2 with z | ⟨b,y,f,z1,z2,z3,z4⟩
   ·exact .inl z
   ·exact .inr ⟨b,y,f,z1,z2,z3,fun p hp=>List.mem_append_right _ (z4 p hp)⟩
theorem any_mem{kvs:List (κ×V)}{k:κ}:(kvs.any fun kv=>decide (kv.1=k))=true↔k∈kvs.map (·.1):=by
 rw[List.any_eq_true,List.mem_map];constructor
 ·rintro⟨x,hx,e⟩;exact⟨x,hx,of_decide_eq_true e⟩
 ·rintro⟨x,hx,e⟩;exact⟨x,hx,decide_eq_true e⟩
theorem Nw{kvs:List (κ×V)}{k:κ}{x:V}:(Wx kvs k x).map (·.1)=WA (kvs.map (·.1)) k:=by
 unfold Wx WA
 by_cases h:k∈kvs.map (·.1)
 ·rw[if_pos (any_mem.mpr h),if_pos h,List.map_map]
  apply List.map_congr_left
  intro z _
  show(if z.1=k then(z.1,x) else z).1=z.1
  split<;>rfl
 ·rw[if_neg (fun z=>h (any_mem.mp z)),if_neg h,List.map_append];rfl
theorem Nx{H:Hp}{kvs:List (κ×V)}{l:List PV}{k:κ}{a:PV}{x:V}(h:Iss K H l (kvs.map (·.2)) [])(hp:Zv l=true)(ha:Is K H a x [])(pa:ZS a=true):Iss K H (WB (kvs.map (·.1)) l k a) ((Wx kvs k x).map (·.2)) []:=by
 unfold Wx WB
 by_cases hk:k∈kvs.map (·.1)
 ·rw[if_pos (any_mem.mpr hk),if_pos hk]
  clear hk
  induction kvs generalizing l with
  | nil=>
   have:=h.len
   cases l with
   | nil=>exact Iss.nil
   | cons _ _=>simp at this
  | cons kv r ih=>
   cases l with
   | nil=>have:=h.len;simp at this
   | cons b l=>
    obtain⟨y,rr,f1,f2,e,h1,h2,e2⟩:=h.inv
    cases e;simp only[Zv,Bool.and_eq_true] at hp;have z1:=Is.pure _ _ _ hp.1 h1;have z2:=Iss.pure _ _ _ hp.2 h2
    subst z1 z2
    have ih:=ih h2 hp.2;rw[List.map_cons,List.zip_cons_cons,List.map_cons,List.map_cons,List.map_cons]
    by_cases e:kv.1=k
    ·rw[if_pos e,if_pos e]
     exact Iss.cons (f1:=[]) ha ih
    ·rw[if_neg e,if_neg e]
     exact Iss.cons (f1:=[]) h1 ih
 ·rw[if_neg (fun z=>hk (any_mem.mp z)),if_neg hk,List.map_append]
  exact h.append (Iss.one ha)
end
def Xs:PV->PV->Option PV
 | .dK ks vs,k=>(SG k).bind fun k=>Wa ks vs k
 | .dT ks vs,k=>(SH k).bind fun k=>Wa ks vs k
 | _,_=>none
def F7:PV->PV->Option Bool
 | .dK ks vs,k=>(SG k).map fun k=>(Wa ks vs k).isSome
 | .dT ks vs,k=>(SH k).map fun k=>(Wa ks vs k).isSome
 | _,_=>none
theorem Ny{H:Hp}{d k:PV}{x y:V}{fd fk:List Addr}(hd:Is K H d x fd)(hk:Is K H k y fk){b:Bool}(e:F7 d k=some b):∃a o,x = .ref a/\Mh H a y o/\o.isSome=b/\((Xs d k=none/\o=none)\/∃c v f,Xs d k=some c/\o=some v/\Is K H c v f/\∀p∈f,p∈fd):=by
 cases d with
 | dK ks vs=>
  obtain⟨kk,e1,rfl⟩:=map_some (show(SG k).map (fun k=>(Wa ks vs k).isSome)=some b from e)
  obtain⟨p,kvs,fq,rfl,hp,rfl,hi,rfl⟩:=hd.dK_inv
  obtain⟨rfl,_⟩:=Qt e1 hk
  refine⟨p,Vh kvs kk,rfl,.inl ⟨kvs,kk,hp,rfl,rfl⟩,?_,?_⟩
  ·rcases SI kk hi with⟨z1,z2⟩ | ⟨a,v,f,z1,z2,_⟩<;>rw[z1,z2]<;>rfl
  ·show(Xs (.dK _ vs) k=none/\_)\/_
   have eg:Xs (.dK (kvs.map (·.1)) vs) k=Wa (kvs.map (·.1)) vs kk:=by show(SG k).bind _=_;rw[e1];rfl
   rw[eg]
   rcases SI kk hi with z | ⟨a,v,f,z1,z2,z3,z4⟩
   ·exact .inl z
   ·exact .inr ⟨a,v,f,z1,z2,z3,fun q hq=>List.mem_cons_of_mem _ (z4 q hq)⟩
 | dT ks vs=>
  obtain⟨kk,e1,rfl⟩:=map_some (show(SH k).map (fun k=>(Wa ks vs k).isSome)=some b from e)
  obtain⟨p,kvs,fq,rfl,hp,rfl,hi,rfl⟩:=hd.dT_inv
  obtain⟨b,rfl,hb⟩:=Nv e1 hk
  refine⟨p,Vh kvs kk,rfl,.inr ⟨kvs,kk,b,hp,rfl,hb,rfl⟩,?_,?_⟩
  ·rcases SI kk hi with⟨z1,z2⟩ | ⟨a,v,f,z1,z2,_⟩<;>rw[z1,z2]<;>rfl
  ·have eg:Xs (.dT (kvs.map (·.1)) vs) k=Wa (kvs.map (·.1)) vs kk:=by show(SH k).bind _=_;rw[e1];rfl
   rw[eg]
   rcases SI kk hi with z | ⟨a,v,f,z1,z2,z3,z4⟩
   ·exact .inl z
   ·exact .inr ⟨a,v,f,z1,z2,z3,fun q hq=>List.mem_cons_of_mem _ (z4 q hq)⟩
 | _=>cases e
theorem JA{d k c:PV}(h:Xs d k=some c):F7 d k=some true:=by
 cases d with
 | dK ks vs=>
  obtain⟨kk,e1,e2⟩:=Zd (show(SG k).bind (fun k=>Wa ks vs k)=some c from h)
  show(SG k).map _=_
  rw[e1];show some ((Wa ks vs kk).isSome)=_;rw[e2];rfl
 | dT ks vs=>
  obtain⟨kk,e1,e2⟩:=Zd (show(SH k).bind (fun k=>Wa ks vs k)=some c from h)
  show(SH k).map _=_
  rw[e1];show some ((Wa ks vs kk).isSome)=_;rw[e2];rfl
 | _=>cases h
section
variable {X:Cx} {o i e f:Expr} {fd fk fx:XE} {pos apos cpos:Pos}
theorem LI:∀Z H Q,tF K (Zh Xs fd fk) Z H Q->Iq (tF K fd) (tF K fk) Z H Q:=fun Z H Q ⟨Rm,s,l,hd,env,e,k⟩=>by
 obtain⟨d,kk,e1,e2,e3⟩:=Wy e
 refine⟨Rm,s,d,hd,env,e1,fun x H1 f1 s1 i1 n1=>⟨Rm,s,kk,fun p hp=>Same.mut s1 (hd p hp),env.mono s1,e2,fun y H2 f2 s2 i2 n2=>?_⟩⟩
 obtain⟨a,ov,rfl,dg,_,alt⟩:=Ny (i1.mono s2) i2 (JA e3)
 rcases alt with⟨z,_⟩ | ⟨c,v,fv,z1,rfl,z3,z4⟩
 ·rw[z] at e3;cases e3
 ·rw[z1] at e3;cases e3
  exact⟨a,v,rfl,dg,k v H2 fv (s1.trans s2) z3 fun p hp=>n1 p (z4 p hp)⟩
theorem T5(hu:X.A.units+1<cLine)(ho:VE X o fd)(hi:VE X i fk)(hs:HH i:=by exact fun _ _=>rfl):VE X (.Subscript o i pos) (Zh Xs fd fk):=PE.imp (Ja hu ho hi hs) LI
def Oz(neg:Bool)(fk fd:XE):XE:=fun s=>(fk s).bind fun k=>(fd s).bind fun d=>(F7 d k).map fun b=>.bl (if neg then !b else b)
theorem OA:∀Z H Q,tF K (Oz true fk fd) Z H Q->Ng (tF K fk) (tF K fd) Z H Q:=fun Z H Q ⟨Rm,s,l,hd,env,e,k⟩=>by
 obtain⟨kk,e1,e⟩:=Zd e
 obtain⟨d,e2,e⟩:=Zd e
 obtain⟨b,e3,rfl⟩:=map_some e
 refine⟨Rm,s,kk,hd,env,e1,fun y H1 f1 s1 i1 n1=>⟨Rm,s,d,fun p hp=>Same.mut s1 (hd p hp),env.mono s1,e2,fun x H2 f2 s2 i2 n2=>?_⟩⟩
 obtain⟨a,ov,rfl,dg,rfl,_⟩:=Ny i2 (i1.mono s2) e3
 exact⟨a,ov,rfl,dg,k _ H2 [] (s1.trans s2) (Is.bl _) fun p hp=>by simp at hp⟩
theorem Mx(hu:X.A.units+1<cLine)(hi:VE X i fk)(ho:VE X o fd)(hm:behindInMarks .NotIn o=false:=by with_unfolding_all rfl):VT X (.Compare i [.NotIn] [o] pos) (xB (Oz true fk fd)):=PT.imp (P5 (Mk hu hi ho) hm) fun Z H Q h=>Qn OA Z H Q (Lw Z H Q h)
end
def OB(d k v:PV):Option PV:=match d with
 | .dT ks vs=>(gd (Zv vs&&ZS v&&decide (ks.length<=10000))).bind fun _=>(SH k).map fun k=>.dT (WA ks k) (WB ks vs k v)
 | .dK ks vs=>(gd (Zv vs&&ZS v&&decide (ks.length<=10000))).bind fun _=>(SG k).map fun k=>.dK (WA ks k) (WB ks vs k v)
 | _=>none
def sDPut(i:Nat)(fk fv:XE):XS:=fun s=>(fv s).bind fun v=>(fk s).bind fun k=>((s[i]?).join).bind fun d=>(OB d k v).map fun d=>.nx (s.set i (some d))
theorem UL{X:Cx}{O:List Nat}{i:Nat}{st:Stmt}{fk fv:XE}(h:PS X st (L2.sDPut (W8 i) (tF X.K fk) (tF X.K fv)))(hi:i∈O:=by decide):VS X O [i] st (sDPut i fk fv):=PS.imp h fun D Z H ⟨H0,fps,s,out,r,e,k⟩=>by
 obtain⟨v,e1,e⟩:=Zd e
 obtain⟨kk,e2,e⟩:=Zd e
 obtain⟨d,em,e⟩:=Zd e
 obtain⟨d',ed,rfl⟩:=map_some e
 have em:=join_some em
 cases d with
 | dT ks vs=>
  obtain⟨_,eg,ed⟩:=Zd (show(gd (Zv vs&&ZS v&&decide (ks.length<=10000))).bind (fun _=>(SH kk).map fun k=>PV.dT (WA ks k) (WB ks vs k v))=some d' from ed)
  have hc:=VH eg;simp only[Bool.and_eq_true,decide_eq_true_eq] at hc
  obtain⟨⟨pm,pl⟩,hlen⟩:=hc
  obtain⟨kt,e3,rfl⟩:=map_some ed
  obtain⟨p,kvs,fq,hv,hp,rfl,hm,ef⟩:=r.dT_at hi em
  refine⟨fun _=>False,s,v,fun _ z=>z.elim,r.env,e1,fun y H1 fy s1 i1 _=>⟨.ref p,hv,fun _=>False,s,kk,fun _ z=>z.elim,r.env.mono s1,e2,fun z H2 fz s2 i2 _=>?_⟩⟩
  have s12:=s1.trans s2
  obtain⟨b,rfl,hb⟩:=Nv e3 i2
  have z1:=Is.pure _ _ _ pl i1;subst z1
  have hm':=(hm.mono s12).pureEq pm
  have z2:=Iss.pure _ _ _ pm hm;subst z2;have r2:=r.grow s12
  have hpf:p∈fps i:=by rw[ef];exact List.mem_cons_self
  have mu:=(r2.own i hi p hpf).2
  refine⟨p,_,rfl,.inr ⟨kvs,kt,b,s12 _ _ hp,rfl,hb,by rw[<-List.length_map (·.1)];exact lt_size hlen,rfl⟩,?_⟩
  refine k _ _ _ (r2.mutate (o:=.dT (Wx kvs kt y)) (l':=.dT (WA (kvs.map (·.1)) kt) (WB (kvs.map (·.1)) vs kt v)) (fp':=[p]) hi hpf hv (VG em) (Is.dT upd_same Nw (Iss.tr (TK.upd' mu) _ _ _ (fun q hq=>by simp at hq) (Nx hm' pm (i1.mono s2) pl))) (by simp) (fun q hq=>?_) (fun j hj q hq z=>r.dis i hi j hj q (by rw[ef];exact hq) z) True.intro) RQ
  rw[List.mem_singleton.mp hq]
  exact⟨(r.own i hi p hpf).1,by rw[upd_same];exact True.intro⟩
 | dK ks vs=>
  obtain⟨_,eg,ed⟩:=Zd (show(gd (Zv vs&&ZS v&&decide (ks.length<=10000))).bind (fun _=>(SG kk).map fun k=>PV.dK (WA ks k) (WB ks vs k v))=some d' from ed)
  have hc:=VH eg;simp only[Bool.and_eq_true,decide_eq_true_eq] at hc
  obtain⟨⟨pm,pl⟩,hlen⟩:=hc
  obtain⟨kt,e3,rfl⟩:=map_some ed
  obtain⟨p,kvs,fq,hv,hp,rfl,hm,ef⟩:=r.dK_at hi em
  refine⟨fun _=>False,s,v,fun _ z=>z.elim,r.env,e1,fun y H1 fy s1 i1 _=>⟨.ref p,hv,fun _=>False,s,kk,fun _ z=>z.elim,r.env.mono s1,e2,fun z H2 fz s2 i2 _=>?_⟩⟩
  have s12:=s1.trans s2
  obtain⟨rfl,_⟩:=Qt e3 i2
  have z1:=Is.pure _ _ _ pl i1;subst z1
  have hm':=(hm.mono s12).pureEq pm
  have z2:=Iss.pure _ _ _ pm hm;subst z2;have r2:=r.grow s12
  have hpf:p∈fps i:=by rw[ef];exact List.mem_cons_self
  have mu:=(r2.own i hi p hpf).2
  refine⟨p,_,rfl,.inl ⟨kvs,kt,s12 _ _ hp,rfl,by rw[<-List.length_map (·.1)];exact lt_size hlen,rfl⟩,?_⟩
  refine k _ _ _ (r2.mutate (o:=.dK (Wx kvs kt y)) (l':=.dK (WA (kvs.map (·.1)) kt) (WB (kvs.map (·.1)) vs kt v)) (fp':=[p]) hi hpf hv (VG em) (Is.dK upd_same Nw (Iss.tr (TK.upd' mu) _ _ _ (fun q hq=>by simp at hq) (Nx hm' pm (i1.mono s2) pl))) (by simp) (fun q hq=>?_) (fun j hj q hq z=>r.dis i hi j hj q (by rw[ef];exact hq) z) True.intro) RQ
  rw[List.mem_singleton.mp hq]
  exact⟨(r.own i hi p hpf).1,by rw[upd_same];exact True.intro⟩
 | _=>cases ed
end VL
namespace VL
open PySem PySem.Spec PyProof.Rows L2
variable {K:PySem.W.Frag}
section
variable {X:Cx} {a b c d:Expr} {fa fb fc fd:XE} {pos:Pos}
theorem Pp(hu:X.A.units+64<cLine)(ha:VE X a fa)(hb:VE X b fb):VE X (.Compare a [.Eq] [b] pos) (Zh (XA false) fa fb):=HM (Lz hu) (Ou false) ha hb (Uc _)
theorem Vq(hu:X.A.units+64<cLine)(ha:VE X a fa)(hb:VE X b fb):VT X (.Compare a [.Eq] [b] pos) (xB (Zh (XA false) fa fb)):=Vm (Lz hu) (Ou false) ha hb (Uc _)
theorem FC(hu:X.A.units+64<cLine)(ha:VE X a fa)(hb:VE X b fb):VT X (.Compare a [.NotEq] [b] pos) (xB (Zh (XA true) fa fb)):=Vm (HR hu) (Ou true) ha hb (Uc _)
theorem Pq(hu:X.A.units+64<cLine)(ha:VE X a fa)(hb:VE X b fb)(hm:behindInMarks .In b=false:=by with_unfolding_all rfl):VT X (.Compare a [.In] [b] pos) (xB (Zh (V1 false) fa fb)):=Vm (HU hu) (LA false) ha hb hm
theorem Vr(hu:X.A.units+64<cLine)(ha:VE X a fa)(hb:VE X b fb)(hm:behindInMarks .NotIn b=false:=by with_unfolding_all rfl):VT X (.Compare a [.NotIn] [b] pos) (xB (Zh (V1 true) fa fb)):=Vm (Mr hu) (LA true) ha hb hm
def M8:PV->Option Bool
 | .bl c=>some c
 | _=>none
theorem SJ{a:PV}{k:Bool}(h:M8 a=some k):a = .bl k:=by
 unfold M8 at h;split at h
 ·cases h;rfl
 ·cases h
def UM(g h:PV->PV->Option PV)(a b c:XE):XE:=fun s=>(a s).bind fun x=>(b s).bind fun y=>((g x y).bind M8).bind fun k=>if k=true then(c s).bind fun z=>h y z else some (.bl false)
theorem Pr{r r':R2}{g h:PV->PV->Option PV}(hr:RB K r g)(hr':RB K r' h):∀Z H Q,tF K (UM g h fa fb fc) Z H Q->P9 r r' (tF K fa) (tF K fb) (tF K fc) Z H Q:=fun Z H Q ⟨Rm,s,l,hd,env,e,k⟩=>by
 obtain⟨x',e1,e⟩:=Zd e
 obtain⟨y',e2,e⟩:=Zd e
 obtain⟨b,e3,e⟩:=Zd e
 obtain⟨z',e3,eb⟩:=Zd e3
 rw[SJ eb] at e3
 refine⟨Rm,s,x',hd,env,e1,fun x H1 f1 s1 i1 n1=>⟨Rm,s,y',fun p hp=>Same.mut s1 (hd p hp),env.mono s1,e2,fun y H2 f2 s2 i2 n2=>?_⟩⟩
 refine hr H2 x y x' y' _ f1 f2 (i1.mono s2) i2 e3 _ fun v H3 fp s3 i3 n3=>⟨b,i3.bl_inv.1,?_⟩
 have s123:=s1.trans (s2.trans s3)
 cases b with
 | false=>
  rw[if_neg Bool.false_ne_true] at e ⊢
  cases e
  exact k _ H3 [] s123 (Is.bl _) fun p hp=>by simp at hp
 | true=>
  rw[if_pos rfl] at e ⊢
  obtain⟨w',e4,e⟩:=Zd e
  refine⟨Rm,s,w',fun p hp=>Same.mut s123 (hd p hp),env.mono s123,e4,fun w H4 f4 s4 i4 n4=>?_⟩
  refine hr' H4 y w y' w' l f2 f4 (i2.mono (s3.trans s4)) i4 e Q fun v H5 fp5 s5 i5 n5=>k v H5 fp5 (s123.trans (s4.trans s5)) i5 fun p hp z=>?_
  rcases n5 p hp with q | q | q
  ·exact n2 p q z
  ·exact n4 p q z
  ·exact YU (Same.mut (s123.trans s4) (hd p z)) q
theorem LJ{op op':CmpOp}{r r':R2}{g h:PV->PV->Option PV}(ho:WI X (compareOp op) r)(ho':WI X (compareOp op') r')(hr:RB X.K r g)(hr':RB X.K r' h)(ha:VE X a fa)(hb:VE X b fb)(hc:VE X c fc)
  (hm:lastMarks [op,op'] [b,c]=false:=by with_unfolding_all rfl):VE X (.Compare a [op,op'] [b,c] pos) (UM g h fa fb fc):=PE.imp (Lg ho ho' ha hb hc hm) (Pr hr hr')
theorem UN{op op':CmpOp}{r r':R2}{g h:PV->PV->Option PV}(ho:WI X (compareOp op) r)(ho':WI X (compareOp op') r')(hr:RB X.K r g)(hr':RB X.K r' h)(ha:VE X a fa)(hb:VE X b fb)(hc:VE X c fc)
  (hm:lastMarks [op,op'] [b,c]=false:=by with_unfolding_all rfl):VT X (.Compare a [op,op'] [b,c] pos) (xB (UM g h fa fb fc)):=PT.imp (Lh ho ho' ha hb hc hm) fun Z H Q q=>Ug (Pr hr hr') Z H Q (Sq Z H Q q)
end
section
variable {X:Cx} {a b:Expr} {fa fb:XE} {pos:Pos}
def gCat:PV->PV->Option PV
 | .lst m,.lst n=>if m.length+n.length<=10000 then some (.lst (m++n)) else none
 | _,_=>none
def Ym:PV->PV->Option PV
 | .lst m,.lst n=>if m.length+n.length<=10000/\Zv m=true/\Zv n=true then some (.lst (m++n)) else none
 | _,_=>none
theorem Wj(ha:VE X a fa)(hb:VE X b fb):VM X (.BinOp a .Add b pos) (Zh Ym fa fb):=PE.imp (Lf HD ha hb) fun Z H Q ⟨s,l,env,e,k⟩=>by
 obtain⟨x',y',e1,e2,e⟩:=Wy e
 refine⟨fun _=>False,s,x',fun _ z=>z.elim,env,e1,fun x H1 f1 s1 i1 _=>⟨fun _=>False,s,y',fun _ z=>z.elim,env.mono s1,e2,fun y H2 f2 s2 i2 _=>?_⟩⟩
 cases x' with
 | lst m=>cases y' with
  | lst n=>
   have e:(if m.length+n.length<=10000/\Zv m=true/\Zv n=true then some (PV.lst (m++n)) else none)=some l:=e
   split at e
   case isFalse=>cases e
   rename_i hl
   cases e
   obtain⟨p,xs,fq,rfl,hp,hi,rfl⟩:=i1.lst_inv
   obtain⟨p',ys,fq',rfl,hp',hi',rfl⟩:=i2.lst_inv
   refine⟨p,p',xs,ys,rfl,rfl,s2 _ _ hp,hp',by rw[hi.len,hi'.len];exact Nat.le_of_lt (lt_size hl.1),fun q hq=>?_⟩
   refine k _ _ [q] (s1.trans (s2.trans (Same.new hq _))) (Is.lst upd_same ((((hi.mono s2).pureEq hl.2.1).append (hi'.pureEq hl.2.2)).mono (Same.new hq _))) (by simp) fun r hr=>?_
   rw[List.mem_singleton.mp hr]
   exact⟨Same.off (s1.trans s2) hq,by rw[upd_same];exact True.intro⟩
  | _=>cases e
 | _=>cases e
def Ui:PV->PV->Option PV
 | .lst m,.int k=>if Zv m=true/\-1000000<=k/\k<=1000000/\m.length*k.toNat<=10000 then some (.lst (List.replicate k.toNat m).flatten) else none
 | _,_=>none
theorem Iss.rep{H:Hp}{m:List PV}{xs:List V}(h:Iss K H m xs []):∀k:Nat,Iss K H (List.replicate k m).flatten (List.replicate k xs).flatten []
 | 0=>Iss.nil
 | k+1=>by
  rw[List.replicate_succ,List.replicate_succ,List.flatten_cons,List.flatten_cons]
  exact h.append (Iss.rep h k)
theorem OC(ha:VE X a fa)(hb:VE X b fb):VM X (.BinOp a .Mult b pos) (Zh Ui fa fb):=PE.imp (Lf HE ha hb) fun Z H Q ⟨s,l,env,e,k⟩=>by
 obtain⟨x',y',e1,e2,e⟩:=Wy e
 refine⟨fun _=>False,s,x',fun _ z=>z.elim,env,e1,fun x H1 f1 s1 i1 _=>⟨fun _=>False,s,y',fun _ z=>z.elim,env.mono s1,e2,fun y H2 f2 s2 i2 _=>?_⟩⟩
 cases x' with
 | lst m=>cases y' with
  | int n=>
   have e:(if Zv m=true/\-1000000<=n/\n<=1000000/\m.length*n.toNat<=10000 then some (PV.lst (List.replicate n.toNat m).flatten) else none)=some l:=e
   split at e
   case isFalse=>cases e
   rename_i hl
   cases e
   obtain⟨p,xs,fq,rfl,hp,hi,rfl⟩:=i1.lst_inv
   refine⟨p,n,xs,rfl,i2.int_inv.1,s2 _ _ hp,by omega,by omega,by rw[hi.len];exact Nat.le_of_lt (lt_size hl.2.2.2),fun q hq=>?_⟩
   refine k _ _ [q] (s1.trans (s2.trans (Same.new hq _))) (Is.lst upd_same ((Iss.rep ((hi.mono s2).pureEq hl.1) n.toNat).mono (Same.new hq _))) (by simp) fun r hr=>?_
   rw[List.mem_singleton.mp hr]
   exact⟨Same.off (s1.trans s2) hq,by rw[upd_same];exact True.intro⟩
  | _=>cases e
 | _=>cases e
end
theorem Iss.fps{H:Hp}:∀{ls:List PV}{vs:List V}{fp:List Addr},Iss K H ls vs fp->∃fps:Nat->List Addr,(∀(i:Nat) l,ls[i]?=some l->∃v,vs[i]?=some v/\Is K H l v (fps i))/\∀i,ls.length<=i->fps i=[]
 | [],vs,fp,h=>⟨fun _=>[],fun i l e=>by simp at e,fun _ _=>rfl⟩
 | a::ls,vs,fp,h=>by
  obtain⟨x,r,f1,f2,rfl,h1,h2,rfl⟩:=h.inv
  obtain⟨fps,p1,p2⟩:=h2.fps
  refine⟨fun i=>match i with | 0=>f1 | k+1=>fps k,fun i l e=>?_,fun i hi=>?_⟩
  ·cases i with
   | zero=>simp at e;subst e;exact⟨x,rfl,h1⟩
   | succ k=>
    obtain⟨v,a,b⟩:=p1 k l (by simpa using e)
    exact⟨v,by simpa using a,b⟩
  ·cases i with
   | zero=>simp at hi
   | succ k=>exact p2 k (by simpa using hi)
def ZR(m:Nat)(ls:List PV):ZE:=ls.map some++List.replicate (m-ls.length) none
def Xf:QV->Option PV
 | .rt v=>some v
 | .nx _=>some .non
 | _=>none
def Wr(m:Nat)(f:XS):List PV->Option PV:=fun ls=>(f (ZR m ls)).bind Xf
theorem Qu{N:List Str}{n:Nat}{O W:List Nat}{f:XS}{vs:List V}{H:Hp}{Q:VK}{E:XK}(hO:∀i∈O,n<=i)(h:Wg K (Wr N.length f) n vs H Q E):LC K O W f { nx:=fun _ H'=>Q .non H',rt:=Q } (L2.start N vs) H:=by
 obtain⟨hl,ls,fp,l,hi,e,q⟩:=h
 obtain⟨out,e1,e2⟩:=Zd e
 obtain⟨fps,p1,p2⟩:=hi.fps
 have hlen:=hi.len
 have hout:∀i:Nat,ls.length<=i->∀l,(ZR N.length ls)[i]?≠some (some l):=fun i hi l z=>by
  unfold ZR at z;rw[List.getElem?_append_right (by simpa using hi),List.getElem?_replicate] at z
  split at z<;>cases z
 have rel:Rel K O H fps (ZR N.length ls) (L2.start N vs) H:=by
  refine⟨Same.refl H,?_,fun i a z=>?_,fun i hne=>?_,fun i hi=>?_,fun i hi p hp=>?_,fun i hi j hj p hp=>?_⟩
  ·unfold ZR L2.start;simp[hlen]
  ·by_cases hil:i<ls.length
   ·unfold ZR at z
    rw[List.getElem?_append_left (by simpa using hil),List.getElem?_map] at z
    cases q:ls[i]? with
    | none=>rw[q] at z;cases z
    | some b=>
     rw[q] at z;cases z
     obtain⟨v,a1,b1⟩:=p1 i a q
     refine⟨v,?_,b1⟩
     unfold L2.start
     rw[List.getElem?_append_left (by simpa [hlen] using hil),List.getElem?_map,a1];rfl
   ·exact absurd z (hout i (by omega) a)
  ·by_cases hil:i<ls.length
   ·exact absurd (by unfold ZR;rw[List.getElem?_append_left (by simpa using hil),List.getElem?_map,List.getElem?_eq_getElem hil];rfl) (hne ls[i])
   ·exact p2 i (by omega)
  ·rw[p2 i (by have:=hO i hi;omega)];exact List.nodup_nil
  ·rw[p2 i (by have:=hO i hi;omega)] at hp;simp at hp
  ·rw[p2 i (by have:=hO i hi;omega)] at hp;simp at hp
 refine⟨H,fps,ZR N.length ls,out,rel,e1,?_⟩
 cases out with
 | nx s'=>
  cases e2
  exact fun fps' Z' H' r' _=>q .non H' [] r'.same Is.non List.nodup_nil fun p hp=>by simp at hp
 | rt v=>
  cases e2
  exact fun v fp H' sm i d n=>q v H' fp sm i d n
 | bk s'=>cases e2
 | ct s'=>cases e2
section
variable {P:Program} {w:World} {mg:Str->Option Value} {base:Heap}
theorem XI{x:Str}{st:Stmt}{N ps:List Str}{k n:Nat}{O W:List Nat}(m:Nat)(f:XS)(D:Def K mg x st)(S:ZU N ps (Zl st))
  (hb:∀(kV doc pm:Value)(an:Option Addr)(cdv ct:Value)(us:List Value),us.length=ps.length->bindArgs (PySem.W.fnOf x x (YT st) (Z7 st) (Zl st) .none kV doc pm an cdv ct) ⟨us,[]⟩=pure (ps.zip us))
  (hn:ps.length=n) (hm:N.length=m) (hO:∀i∈O,n<=i)
  (hbody:∀(fa:Addr)(cdv:Value)(A:Around)(outer:List Env)(s:Shared)(H:Hp)(E:XK),Room k (A.deeper (envOfC x (Zl st) s.heap.objs.size fa cdv))->VSs (U5 QT P w K mg base N x (Zl st) fa cdv A outer s H E).nox O W (Z7 st) f) :
  Vj P w K mg base x ps (Wg K (Wr m f) n) (k+1):=by
 subst hm
 refine D.cal S hb (fun vs H Q E h=>by rw[hn];exact h.1) fun fa cdv A outer s H vs Q E hr h=>⟨_,hbody fa cdv A outer s H E hr,Qu hO h⟩
end
end VL
namespace VL
open PySem PySem.Spec PyProof.Rows L2
variable {K:PySem.W.Frag}
theorem Inv.thaw{X:Cx}{pins:List (Addr×Obj)}{Z:Us}{H:Hp}{s:Shared}{d:Addr}{kvs:List (List Ys×V)}{o:Obj}(I:L2.Inv X pins Z H s)(hd:H d=some (.frz o (.dT kvs)))(h0:∀o u,X.H₀ d≠some (.frz o u)) :
  L2.Inv X pins Z (upd H d (.dT kvs)) s:=by
 have ne:∀b u,H b=some u->(∀o v,u≠.frz o v)->b≠d:=fun b u q n z=>by rw[z,hd] at q;exact n _ _ (Option.some.inj q).symm
 have nn:∀b,H b=none->b≠d:=fun b q z=>by rw[z,hd] at q;cases q
 have hok:HOk X.prog X.w (upd H d (.dT kvs)) s.heap:=fun b u q=>by
  have hown:∀c y,H c=some (.own y)->upd H d (.dT kvs) c=some (.own y):=fun c y z=>by rw[upd_ne (ne c _ z fun _ _ z=>nomatch z)];exact z
  have htup:∀c xs,H c=some (.tup xs)->upd H d (.dT kvs) c=some (.tup xs):=fun c y z=>by rw[upd_ne (ne c _ z fun _ _ z=>nomatch z)];exact z
  by_cases hb:b=d
  ·subst hb
   rw[upd_same] at q;cases q
   obtain⟨_,x⟩:=(show ObjOk X.prog X.w H s.heap b (.frz o (.dT kvs)) from I.hok b _ hd)
   exact ObjOk.stay x (fun _ _ _ z=>z) (fun c z=>hown c _ z) htup
  ·rw[upd_ne hb] at q
   exact(I.hok b u q).stay (fun _ _ _ z=>z) (fun c z=>hown c _ z) htup
 refine⟨I.ok,I.os,I.bare,⟨I.base.keep,I.base.slot,fun b o q n hx=>?_,I.base.there,fun b xs q=>?_,fun b o u q=>?_,fun b ps q=>?_⟩,I.loc,I.cell,?_,fun x c e=>?_,fun p hp=>?_,hok,I.len⟩
 ·have z:=I.base.free b o q n hx
  rw[upd_ne (nn b z)];exact z
 ·have z:=I.base.tups b xs q
  rw[upd_ne (ne b _ z fun _ _ z=>nomatch z)];exact z
 ·have z:=I.base.frzs b o u q
  have hb:b≠d:=fun e=>h0 o u (by rw[<-e];exact q)
  rw[upd_ne hb];exact z
 ·obtain⟨more,z⟩:=I.base.tbls b ps q
  exact⟨more,by rw[upd_ne (ne b _ z fun _ _ z=>nomatch z)];exact z⟩
 ·rw[upd_ne (nn _ I.free)];exact I.free
 ·rw[upd_ne (nn _ (I.freeC x c e))];exact I.freeC x c e
 ·obtain⟨a,b,c⟩:=I.pin p hp
  exact⟨a,by rw[upd_ne (nn _ b)];exact b,c⟩
def thaw(d:Addr)(kvs:List (List Ys×V))(D:Wu):Wu where
 nx:=fun Z H=>(∃o,H d=some (.frz o (.dT kvs)))/\D.nx Z (upd H d (.dT kvs))
 bk:=fun Z H=>(∃o,H d=some (.frz o (.dT kvs)))/\D.bk Z (upd H d (.dT kvs))
 ct:=fun Z H=>(∃o,H d=some (.frz o (.dT kvs)))/\D.ct Z (upd H d (.dT kvs))
 rt:=fun v H=>(∃o,H d=some (.frz o (.dT kvs)))/\D.rt v (upd H d (.dT kvs))
def Iz(i:Nat)(g:TG)(tb:TS):TS:=fun D Z H=>∃d kvs,Z[i]?=some (some (.ref d))/\
 ((H d=some (.dT kvs)/\∀o,Ji g tb (thaw d kvs D) Z (Jh d o kvs) (upd H d (.frz o (.dT kvs))))\/∃o,H d=some (.frz o (.dT kvs))/\Ji g tb D Z (Jh d o kvs) H)
theorem Nz{X:Cx}{st:Stmt}{i:Nat}{g:TG}{tb:TS}(h:PS X st (KR (Q9 (W8 i)) g tb)):PS X st (Iz i g tb):=by
 intro pins s Z H D I hq
 obtain⟨d,kvs,hv,alt⟩:=hq
 rcases alt with⟨hd,q⟩ | ⟨o,hd,q⟩
 ·have h0:∀o u,X.H₀ d≠some (.frz o u):=fun o u z=>by
   have:=I.base.frzs d o u z
   rw[hd] at this;cases this
  have main:=h pins s Z H (thaw d kvs D) I ⟨.ref d,hv,d,kvs,rfl,.inl ⟨hd,q⟩⟩
  refine Ya main fun f s' hsp=>?_
  cases f with
  | next=>
   obtain⟨Z',H',I',⟨o,ho⟩,q'⟩:=hsp
   exact⟨Z',_,Inv.thaw I' ho h0,q'⟩
  | brk=>
   obtain⟨Z',H',I',⟨o,ho⟩,q'⟩:=hsp
   exact⟨Z',_,Inv.thaw I' ho h0,q'⟩
  | cont=>
   obtain⟨Z',H',I',⟨o,ho⟩,q'⟩:=hsp
   exact⟨Z',_,Inv.thaw I' ho h0,q'⟩
  | ret u=>
   obtain⟨v,Z',H',I',r',⟨o,ho⟩,q'⟩:=hsp
   exact⟨v,Z',_,Inv.thaw I' ho h0,r',q'⟩
 ·exact h pins s Z H D I ⟨.ref d,hv,d,kvs,rfl,.inr ⟨o,hd,q⟩⟩
def LK(k:List Ys):PV:=.tup (k.map kP)
theorem SK{Rm:Addr->Prop}{H1:Hp}{d:Addr}{o:Obj}{kvs:List (List Ys×V)}(hd:H1 d=some (.frz o (.dT kvs)))(hn:¬Rm d):Fx K Rm H1 (Jh d o kvs) ((kvs.map (·.1)).map LK):=by
 refine⟨fun H' ab=>⟨ab d _ hd hn,by simp⟩,fun H' i l ab hl=>⟨ab d _ hd hn,by have:=(List.getElem?_eq_some_iff.mp hl).1;simpa using this⟩,fun H' i l x H'' ab hl y=>?_⟩
 obtain⟨rfl,b,k,v,hk,rfl,hb⟩:=y
 rw[List.getElem?_map,List.getElem?_map,hk] at hl;cases hl
 exact⟨Same.refl _,[],Is.tup hb (LH k),fun p hp=>by simp at hp⟩
def V9:PV->Option (List PV)
 | .dT ks _=>some (ks.map LK)
 | _=>none
def SM(i:Nat)(T:Tgt)(fb:XS):XS:=fun s=>((s[i]?).join.bind V9).bind fun ls=>Xn T fb ls s
theorem Rd.dT_inj{H:Hp}{p:Addr}{xs ys:List (List Ys×V)}(a:Rd H p (.dT xs))(b:Rd H p (.dT ys)):xs=ys:=by
 rcases a with a | ⟨o,a⟩<;>rcases b with b | ⟨o',b⟩<;>rw[a] at b<;>cases b<;>rfl
theorem RdK.swap{H H':Hp}{d:Addr}{kvs:List (List Ys×V)}(h:Rd H d (.dT kvs))(h':Rd H' d (.dT kvs))(hs:∀b,b≠d->H' b=H b)(p:Addr):RdK H H' p:=by
 by_cases hp:p=d
 ·subst hp
  refine⟨fun xs z=>?_,fun k z=>?_,fun k z=>?_⟩
  ·rcases h with h | ⟨o,h⟩<;>rw[h] at z<;>cases z
  ·rcases h with h | ⟨o,h⟩<;>rcases z with z | ⟨o',z⟩<;>rw[h] at z<;>cases z
  ·rw[<-Rd.dT_inj h z];exact h'
 ·exact RdK.of fun o z=>by rw[hs p hp];exact z
theorem TK2.swap{H H':Hp}{d:Addr}{kvs:List (List Ys×V)}(h:Rd H d (.dT kvs))(hs:∀b,b≠d->H' b=H b):TK2 H H':=by
 have ne:∀b u,H b=some u->(∀k,u≠.dT k)->(∀o k,u≠.frz o (.dT k))->b≠d:=fun b u q n n' z=>by
  rw[z] at q
  rcases h with h | ⟨o,h⟩<;>rw[h] at q<;>cases q
  ·exact n _ rfl
  ·exact n' _ _ rfl
 exact⟨fun b xs z=>by rw[hs b (ne b _ z (fun _ z=>nomatch z) fun _ _ z=>nomatch z)];exact z,fun b o xs z=>by rw[hs b (ne b _ z (fun _ z=>nomatch z) fun o k z=>by cases z)];exact z,fun b o xs z=>by rw[hs b (ne b _ z (fun _ z=>nomatch z) fun o k z=>by cases z)];exact z⟩
section
variable {O W:List Nat} {T:Tgt} {fb:XS} {i:Nat}
theorem RS{O':List Nat}{H0 H:Hp}{fps:Nat->List Addr}{s:ZE}{Z:Us}{D:Wu}{out:QV}{ks:List (List Ys)}{vs:List PV}(r:Rel K O H0 fps s Z H)(hO':∀j∈O',j∈O/\j≠i)(e:s[i]?=some (some (.dT ks vs)))
  (ef:Xn T fb (ks.map LK) s=some out) (hT:∀j∈T.slots,j∉O')
  (k:∀(F:Hp)(th:Hp->Hp),(∀b,H b≠none->¬Ow O' fps b->F b≠none)->Same H0 (th F)->(∀H',Same F H'->Same (th F) (th H')/\TK2 H' (th H')/\(∀p,RdK H' (th H') p)/\(∀p,F p=none->th H' p=H' p)/\(∀p,p∈fps i->¬Ow O' fps p->H p=th H' p))->(∀p,F p=none->H0 p=none)->
   ∀out',out=out'->match out' with
    | .nx s'=>∀fps' Z' H',Rel K O' F fps' s' Z' H'->(∀j,j∉T.slots++W->Z'[j]?=Z[j]?/\Kep (fps' j) (fps j))->D.nx Z' (th H')
    | .rt l=>∀v fp H',Same F H'->Is K H' l v fp->fp.Nodup->(∀p∈fp,F p=none/\Ws (H' p))->D.rt v (th H')
    | _=>True):Iz i (gT K T) (LC K O' W fb) D Z H:=by
 obtain⟨v,hv,iv⟩:=r.is i _ e
 obtain⟨d,kvs,fq,rfl,hd,rfl,hi,efp⟩:=iv.dT_inv
 have dO:¬Ow O' fps d:=fun⟨j,hj,hp⟩=>r.dis j (hO' j hj).1 i (Ne.symm (hO' j hj).2) d hp (by rw[efp];exact List.mem_cons_self)
 have owm:∀p,Ow O' fps p->H0 p=none/\Ws (H p):=fun p ⟨j,hj,hp⟩=>r.own j (hO' j hj).1 p hp
 -- the frame and the relation at the loop's start,in a heap that differs from H at d alone
 have start:∀H2:Hp,Rd H2 d (.dT kvs)->(∀b,b≠d->H2 b=H b)->Rel K O' (Y0 H2 (Ow O' fps)) fps s Z H2:=fun H2 h2 hs=>by
  refine⟨RO,r.len,fun j l q=>?_,r.emp,fun j hj=>r.nd j (hO' j hj).1,fun j hj p hp=>⟨by unfold Y0;rw[if_pos ⟨j,hj,hp⟩],?_⟩,fun j hj=>r.dis j (hO' j hj).1⟩
  ·obtain⟨w,a,b⟩:=r.is j l q
   exact⟨w,a,Is.tr (TK2.swap hd hs) _ _ _ (fun p _=>RdK.swap hd h2 hs p) b⟩
  ·have pd:p≠d:=fun z=>dO ⟨j,hj,z▸hp⟩
   rw[hs p pd];exact(r.own j (hO' j hj).1 p hp).2
 have outk:∀(F:Hp)(th:Hp->Hp)(D':Wu),(∀Z' H',Same F H'->D.nx Z' (th H')->D'.nx Z' H')->(∀v H',Same F H'->D.rt v (th H')->D'.rt v H')->(∀b,H b≠none->¬Ow O' fps b->F b≠none)->Same H0 (th F)->(∀H',Same F H'->Same (th F) (th H')/\TK2 H' (th H')/\(∀p,RdK H' (th H') p)/\(∀p,F p=none->th H' p=H' p)/\(∀p,p∈fps i->¬Ow O' fps p->H p=th H' p))->(∀p,F p=none->H0 p=none)->(∀s',out≠.bk s')->(∀s',out≠.ct s')->OutOk K O' (T.slots++W) F fps Z D' out:=fun F th D' h1 h2 h3 h4 h5 h6 hb hc=>by
  have kk:=k F th h3 h4 h5 h6 out rfl
  cases out with
  | nx s'=>exact fun fps' Z' H' r' q'=>h1 Z' H' r'.same (kk fps' Z' H' r' q')
  | rt l=>exact fun v fp H' sm i d n=>h2 v H' sm (kk v fp H' sm i d n)
  | bk s'=>exact absurd rfl (hb s')
  | ct s'=>exact absurd rfl (hc s')
 have nobc:(∀s',out≠.bk s')/\(∀s',out≠.ct s'):=by
  have:∀(ls:List PV)(s:ZE)(o:QV),Xn T fb ls s=some o->(∀s',o≠.bk s')/\(∀s',o≠.ct s'):=by
   intro ls
   induction ls with
   | nil=>intro s o h;cases h;exact⟨fun _ z=>(nomatch z),fun _ z=>(nomatch z)⟩
   | cons l rr ih=>
    intro s o h;unfold Xn at h
    obtain⟨s1,_,h⟩:=Zd h
    obtain⟨o1,_,h⟩:=Zd h
    cases o1 with
    | nx s2=>exact ih s2 o h
    | ct s2=>exact ih s2 o h
    | bk s2=>cases h;exact⟨fun _ z=>(nomatch z),fun _ z=>(nomatch z)⟩
    | rt v=>cases h;exact⟨fun _ z=>(nomatch z),fun _ z=>(nomatch z)⟩
  exact this _ _ _ ef
 rcases hd with hd | ⟨o,hd⟩
 ·refine⟨d,kvs,hv,.inl ⟨hd,fun o=>?_⟩⟩
  have h2:upd H d (.frz o (.dT kvs)) d=some (.frz o (.dT kvs)):=upd_same
  have hs:∀b,b≠d->upd H d (.frz o (.dT kvs)) b=H b:=fun b hb=>upd_ne hb
  have Fd:Y0 (upd H d (.frz o (.dT kvs))) (Ow O' fps) d=some (.frz o (.dT kvs)):=by unfold Y0;rw[if_neg dO];exact h2
  refine SE (K:=K) (start _ (.inr ⟨o,h2⟩) hs) (SK h2 dO) ef hT (outk _ (fun Hx=>upd Hx d (.dT kvs)) (thaw d kvs D) (fun Z' H' sm q=>⟨⟨o,sm d _ Fd⟩,q⟩) (fun v H' sm q=>⟨⟨o,sm d _ Fd⟩,q⟩) (fun b hb nb=>?_) (fun b u h=>?_) (fun H' sm=>⟨?_,?_,fun p=>?_,fun p hp=>?_,fun p hp np=>?_⟩) (fun p hp=>?_) nobc.1 nobc.2)
  ·unfold Y0;rw[if_neg nb]
   by_cases e:b=d
   ·subst e;rw[h2];simp
   ·rw[hs b e];exact hb
  ·by_cases e:b=d
   ·subst e
    have:=r.same b u h
    rw[hd] at this;cases this;exact upd_same
   ·rw[upd_ne e]
    unfold Y0
    rw[if_neg (fun z=>by rw[(owm b z).1] at h;cases h),hs b e]
    exact r.same b u h
  ·intro b u h
   by_cases e:b=d
   ·subst e;rw[upd_same] at h ⊢;exact h
   ·rw[upd_ne e] at h ⊢;exact sm b u h
  ·exact TK2.swap (d:=d) (kvs:=kvs) (.inr ⟨o,sm d _ Fd⟩) fun b hb=>upd_ne hb
  ·exact RdK.swap (d:=d) (kvs:=kvs) (.inr ⟨o,sm d _ Fd⟩) (.inl upd_same) (fun b hb=>upd_ne hb) p
  ·exact upd_ne fun e=>by rw[e,Fd] at hp;cases hp
  ·by_cases e:p=d
   ·subst e;rw[hd];exact upd_same.symm
   ·show H p=upd H' d (.dT kvs) p
    rw[upd_ne e];have hpn:=r.dom i p hp
    cases q:H p with
    | none=>exact absurd q hpn
    | some u=>exact(sm p u (by unfold Y0;rw[if_neg np,hs p e];exact q)).symm
  ·cases q:H0 p with
   | none=>rfl
   | some u=>
    exfalso
    have hpd:p≠d:=fun e=>by rw[e,Fd] at hp;cases hp
    unfold Y0 at hp
    rw[if_neg (fun z=>by rw[(owm p z).1] at q;cases q),hs p hpd,r.same p u q] at hp
    cases hp
 ·refine⟨d,kvs,hv,.inr ⟨o,hd,?_⟩⟩
  have Fd:Y0 H (Ow O' fps) d=some (.frz o (.dT kvs)):=by unfold Y0;rw[if_neg dO];exact hd
  refine SE (K:=K) (start H (.inr ⟨o,hd⟩) fun _ _=>rfl) (SK hd dO) ef hT (outk _ (fun Hx=>Hx) D (fun Z' H' sm q=>q) (fun v H' sm q=>q) (fun b hb nb=>by unfold Y0;rw[if_neg nb];exact hb) (fun b u h=>?_) (fun H' sm=>⟨sm,Same.tk2 (Same.refl _),fun p=>RdK.of fun _ z=>z,fun p _=>rfl,fun p hp np=>?_⟩) (fun p hp=>?_) nobc.1 nobc.2)
  ·unfold Y0
   rw[if_neg (fun z=>by rw[(owm b z).1] at h;cases h)]
   exact r.same b u h
  ·have hpn:=r.dom i p hp
   cases q:H p with
   | none=>exact absurd q hpn
   | some u=>exact(sm p u (by unfold Y0;rw[if_neg np];exact q)).symm
  ·cases q:H0 p with
   | none=>rfl
   | some u=>
    exfalso;unfold Y0 at hp
    rw[if_neg (fun z=>by rw[(owm p z).1] at q;cases q),r.same p u q] at hp
    cases hp
end
section
variable {X:Cx} {O O' W:List Nat} {T:Tgt} {fb:XS} {i:Nat} {st:Stmt}
theorem NA(h:PS X st (KR (Q9 (W8 i)) (gT X.K T) (LC X.K O W fb)))(hi:i∉O:=by decide)(hT:∀j∈T.slots,j∉O:=by decide):VS X O (T.slots++W) st (SM i T fb):=PS.imp (Nz h) fun D Z H ⟨H0,fps,s,out,r,e,k⟩=>by
 obtain⟨ls,e1,e⟩:=Zd e
 obtain⟨d,e2,e3⟩:=Zd e1
 have e2:=join_some e2
 cases d with
 | dT ks vs=>
  cases e3
  refine RS (O':=O) r (fun j hj=>⟨hj,fun z=>hi (z▸hj)⟩) e2 e hT fun F th _ h4 h5 h6 out' eo=>?_
  subst eo
  cases out with
  | nx s'=>
   intro fps' Z' H' r' q'
   obtain⟨t1,t2,t3,t4,_⟩:=h5 H' r'.same
   refine k fps' Z' (th H') ⟨h4.trans t1,r'.len,fun j l q=>?_,r'.emp,r'.nd,fun j hj p hp=>⟨h6 p (r'.own j hj p hp).1,by rw[t4 p (r'.own j hj p hp).1];exact(r'.own j hj p hp).2⟩,r'.dis⟩ q'
   obtain⟨v,a,b⟩:=r'.is j l q
   exact⟨v,a,Is.tr t2 _ _ _ (fun p _=>t3 p) b⟩
  | rt l=>
   intro v fp H' sm is nd fr
   obtain⟨t1,t2,t3,t4,_⟩:=h5 H' sm
   exact k v fp (th H') (h4.trans t1) (Is.tr t2 _ _ _ (fun p _=>t3 p) is) nd fun p hp=>⟨h6 p (fr p hp).1,by rw[t4 p (fr p hp).1];exact(fr p hp).2⟩
  | bk s'=>trivial
  | ct s'=>trivial
 | _=>cases e3
def Xg(O:List Nat):Nat->ZE->ZE
 | _,[]=>[]
 | k,o::r=>(if k∈O then o else match o with | some l=>if ZS l=true then some l else none | none=>none)::Xg O (k+1) r
theorem Uj{O:List Nat}:∀{s:ZE}{k j:Nat}{l:PV},(Xg O k s)[j]?=some (some l)->s[j]?=some (some l)/\(k+j∈O\/ZS l=true)
 | [],k,j,l,h=>by simp[Xg] at h
 | o::r,k,0,l,h=>by
  unfold Xg at h;simp only[List.getElem?_cons_zero,Option.some.injEq] at h
  by_cases hk:k∈O
  ·rw[if_pos hk] at h;exact⟨by simp[h],.inl hk⟩
  ·rw[if_neg hk] at h
   cases o with
   | none=>cases h
   | some a=>
    simp only at h
    split at h
    ·cases h;exact⟨rfl,.inr (by assumption)⟩
    ·cases h
 | o::r,k,j+1,l,h=>by
  unfold Xg at h;rw[List.getElem?_cons_succ] at h
  obtain⟨a,b⟩:=Uj h
  exact⟨by simpa using a,by rw[show k+(j+1)=k+1+j by omega];exact b⟩
theorem SN{O:List Nat}:∀{s:ZE}{k:Nat},(Xg O k s).length=s.length
 | [],_=>rfl
 | o::r,k=>by unfold Xg;rw[List.length_cons,List.length_cons,SN]
def OD(O:List Nat):QV->QV
 | .nx s=>.nx (Xg O 0 s)
 | o=>o
def Uk(O:List Nat)(i:Nat)(T:Tgt)(fb:XS):XS:=fun s=>((s[i]?).join.bind V9).bind fun ls=>(Xn T fb ls s).map (OD O)
open Classical in
theorem LL(h:PS X st (KR (Q9 (W8 i)) (gT X.K T) (LC X.K O' W fb)))(hi:i∈O:=by decide)(hO:∀j,j∈O'↔(j∈O/\j≠i))(hT:∀j∈T.slots,j∉O:=by decide)(hW:i∉T.slots++W:=by decide):VS X O (T.slots++W) st (Uk O i T fb):=PS.imp (Nz h) fun D Z H ⟨H0,fps,s,out,r,e,k⟩=>by
 obtain⟨ls,e1,e⟩:=Zd e
 obtain⟨d,e2,e3⟩:=Zd e1
 obtain⟨out0,e5,rfl⟩:=map_some e
 have e2:=join_some e2
 cases d with
 | dT ks vs=>
  cases e3
  refine RS (O':=O') r (fun j hj=>(hO j).mp hj) e2 e5 (fun j hj z=>hT j hj ((hO j).mp z).1) fun F th h3 h4 h5 h6 out' eo=>?_
  subst eo
  cases out0 with
  | nx s'=>
   intro fps' Z' H' r' q'
   obtain⟨t1,t2,t3,t4,t5⟩:=h5 H' r'.same
   have ki:=q' i hW
   have fi:∀p∈fps i,¬Ow O' fps p:=fun p hp ⟨j,hj,z⟩=>r.dis i hi j ((hO j).mp hj).2 p hp z
   have Fi:∀p∈fps i,F p≠none:=fun p hp=>h3 p (r.dom i p hp) (fi p hp)
   have sub:∀p,p∈fps' i->p∈fps i:=fun p hp=>by
    rcases ki.2 with z | z
    ·rw[<-z];exact hp
    ·rw[z] at hp;simp at hp
   have ow':∀j∈O',∀p∈fps' j,F p=none:=fun j hj p hp=>(r'.own j hj p hp).1
   have inO:∀j∈O,j≠i->j∈O':=fun j hj n=>(hO j).mpr ⟨hj,n⟩
   have get:∀j p,p∈(if(Xg O 0 s')[j]?=s'[j]? then fps' j else [])->p∈fps' j/\(Xg O 0 s')[j]?=s'[j]?:=fun j p hp=>by
    split at hp
    ·exact⟨hp,by assumption⟩
    ·simp at hp
   refine k (fun j=>if(Xg O 0 s')[j]?=s'[j]? then fps' j else []) Z' (th H') ⟨h4.trans t1,by rw[SN];exact r'.len,fun j l q=>?_,fun j hne=>?_,fun j hj=>?_,fun j hj p hp=>?_,fun j hj m hm p hp z=>?_⟩ fun j hj=>⟨(q' j hj).1,?_⟩
   ·obtain⟨q1,_⟩:=Uj q
    obtain⟨v,a,b⟩:=r'.is j l q1
    rw[if_pos (q.trans q1.symm)]
    exact⟨v,a,Is.tr t2 _ _ _ (fun p _=>t3 p) b⟩
   ·show(if(Xg O 0 s')[j]?=s'[j]? then fps' j else [])=[]
    split
    ·rename_i h;exact r'.emp j fun l z=>hne l (by rw[h];exact z)
    ·rfl
   ·show(if(Xg O 0 s')[j]?=s'[j]? then fps' j else []).Nodup
    split
    ·by_cases e:j=i
     ·subst e
      rcases ki.2 with z | z
      ·rw[z];exact r.nd j hi
      ·rw[z];exact List.nodup_nil
     ·exact r'.nd j (inO j hj e)
    ·exact List.nodup_nil
   ·obtain⟨hp,_⟩:=get j p hp
    by_cases e:j=i
    ·subst e
     have hp:=sub p hp
     exact⟨(r.own j hi p hp).1,by rw[<-t5 p hp (fi p hp)];exact(r.own j hi p hp).2⟩
    ·have o:=r'.own j (inO j hj e) p hp
     exact⟨h6 p o.1,by rw[t4 p o.1];exact o.2⟩
   ·obtain⟨hp,_⟩:=get j p hp
    obtain⟨zp,zc⟩:=get m p z
    by_cases e:j=i
    ·subst e
     have hpi:=sub p hp
     by_cases hmO:m∈O'
     ·exact Fi p hpi (ow' m hmO p zp)
     ·obtain⟨l,v,ql,_,b⟩:=r'.at m zp
      rw[ql] at zc
      obtain⟨_,alt⟩:=Uj zc
      rcases alt with alt | alt
      ·rw[Nat.zero_add] at alt
       exact hmO (inO m alt hm)
      ·rw[Is.pure _ _ _ alt b] at zp;simp at zp
    ·exact r'.dis j (inO j hj e) m hm p hp zp
   ·show Kep (if(Xg O 0 s')[j]?=s'[j]? then fps' j else []) (fps j)
    split
    ·exact(q' j hj).2
    ·exact .inr rfl
  | rt l=>
   intro v fp H' sm is nd fr
   obtain⟨t1,t2,t3,t4,_⟩:=h5 H' sm
   exact k v fp (th H') (h4.trans t1) (Is.tr t2 _ _ _ (fun p _=>t3 p) is) nd fun p hp=>⟨h6 p (fr p hp).1,by rw[t4 p (fr p hp).1];exact(fr p hp).2⟩
  | bk s'=>trivial
  | ct s'=>trivial
 | _=>cases e3
end
end VL
namespace VL
open PySem PySem.Spec PyProof.Rows L2
variable {K:PySem.W.Frag}
section
variable {X:Cx} {O:List Nat} {tg elt iter:Expr} {ifs:List Expr} {scope:Scope} {pos:Pos} {fi:XL} {T:Tgt} {ft:XT} {fe:XE}
theorem Qv(own fr:List Str)(ix:List Nat){i:Nat}{y:Str}{py spos:Pos}(hN:X.N.Nodup)(hy:X.N[i]?=some y)(hloc:X.env.scope.names.lookup y=some .local)(hcalm:X.calm=true)(hi:VI X tg iter fi)(S:Vk X.N X.env.scope scope own fr ix=true)
  (hg:∀cl C s H ex,PG (ZC X (own++fr) scope cl C s H ex) tg (gT X.K T)) (ht:∀cl C s H ex,Gz (ZC X (own++fr) scope cl C s H ex) ifs ft) (he:∀cl C s H ex,VM (ZC X (own++fr) scope cl C s H ex) elt fe)
  (hT:∀i∈T.slots,i<own.length:=by decide)
  (hsw:swapsWith (.ListComp elt [⟨tg,iter,ifs,0⟩] scope pos) (some (.Name y py)) spos.line X.env=pure true:=by rfl)
  (hs:∀x,foldedSetIterable iter X.env x=pure x:=by intro _;rfl):VS X O [i] (.Assign [.Name y py] (.ListComp elt [⟨tg,iter,ifs,0⟩] scope pos) spos) (Zm i (Z4 own.length ix fi T ft fe)):=
 PS.imp (Pe own fr ix hN hy hloc hcalm hi S hg (fun cl C s H ex=>(show M6 (ZC X (own++fr) scope cl C s H ex) ifs (QU X.K ft) from ht cl C s H ex)) (fun cl C s H ex=>(show PE (ZC X (own++fr) scope cl C s H ex) elt (tM X.K fe) from he cl C s H ex)) hsw hs) (Nt (Qr hT))
end
def Qw(i:Nat)(fk:XE):XS:=fun s=>(Za i s).bind fun a=>((fk s).bind M7).bind fun k=>if k=0 then some (.rt .non) else if k=1 then some (.rt a) else none
theorem My{X:Cx}{O:List Nat}{e:Expr}{i:Nat}{fk:XE}{pos:Pos}(he:PE X e (Hq (K5 X.K) (G5 (V3 (tC .non) (V3 (W8 i) Od))) (tF X.K fk)))(hi:i∈O:=by decide):VS X O [] (.Return (some e) pos) (Qw i fk):=PS.imp (P6 he) fun D Z H ⟨H0,fps,s,out,r,e,k⟩=>by
 obtain⟨a,e0,e⟩:=Zd e
 obtain⟨n,e1,e⟩:=Zd e
 obtain⟨l,e1,e2⟩:=Zd e1
 rw[UK e2] at e1
 obtain⟨v,hv,iv⟩:=r.is i a (Ta e0)
 refine⟨v,hv,(by show 2<=sizeLine;decide),fun p hp=>?_⟩
 have sn:Same H (upd H p (.lst [V.non,v])):=Same.new hp _
 refine⟨fun _=>False,s,_,fun _ z=>z.elim,r.env.mono sn,e1,fun y H2 fy s2 i2 _=>?_⟩
 have hp2:H2 p=some (.lst [V.non,v]):=s2 _ _ upd_same
 by_cases h0:n=0
 ·rw[if_pos h0] at e;cases e
  exact⟨p,[V.non,v],n,V.non,rfl,i2.int_inv.1,SqL.of hp2,by rw[h0];rfl,k .non [] H2 (r.same.trans (sn.trans s2)) Is.non List.nodup_nil fun p hp=>by simp at hp⟩
 ·rw[if_neg h0] at e
  split at e
  ·rename_i h1
   cases e;have s12:=sn.trans s2
   exact⟨p,[V.non,v],n,v,rfl,i2.int_inv.1,SqL.of hp2,by rw[h1];rfl,k v (fps i) H2 (r.same.trans s12) (iv.mono s12) (r.nd i hi) fun q hq=>⟨(r.own i hi q hq).1,Same.mut s12 (r.own i hi q hq).2⟩⟩
  ·cases e
section
variable {P:Program} {w:World} {mg:Str->Option Value} {base:Heap}
theorem HV{x:Str}{st:Stmt}{N ps:List Str}{k n:Nat}{O W:List Nat}{fa:Addr}{fd:FuncData}(m:Nat)(f:XS)(F:Fun K x x st fa fd)(S:ZU N ps (Zl st))
  (hn:ps.length=n) (hm:N.length=m) (hO:∀i∈O,n<=i)
  (hbody:∀(fa:Addr)(cdv:Value)(A:Around)(outer:List Env)(s:Shared)(H:Hp)(E:XK),Room k (A.deeper (envOfC x (Zl st) s.heap.objs.size fa cdv))->VSs (U5 QT P w K mg base N x (Zl st) fa cdv A outer s H E).nox O W (Z7 st) f) :
  Vg P w K mg base QT (k+1) fa fd ps (Wg K (Wr m f) n):=by
 subst hm
 refine F.ok S (fun vs H Q E h=>by rw[hn];exact h.1) fun cdv A outer s H vs Q E hr h=>⟨_,hbody fa cdv A outer s H E hr,?_⟩
 exact Qu hO h
theorem LM{st:Stmt}{x:Str}{D:List PV->Option PV}{k:Nat}{fa:Addr}(Df:Def K mg "law" st)(hfa:mg "law" = some (.ref fa))
  (hb:∀(kV doc pm:Value)(an:Option Addr)(cdv ct u:Value),bindArgs (PySem.W.fnOf "law" "law" (YT st) (Z7 st) (Zl st) .none kV doc pm an cdv ct) ⟨[u],[]⟩=pure [(x,u)])
  (H:∀(base:Heap)(f:Addr)(fd:FuncData),K.In base->base.Ns mainGlobals mg->Fun K "law" "law" st f fd->Vg P w K mg base QT k f fd [x] (Wg K D 1)) :
  ∃fd:FuncData,(∀(s:Shared)(u:Value),BindsTo s fd ⟨[u],[]⟩ [(x,u)])/\∀base:Heap,K.In base->base.Ns mainGlobals mg->Vg P w K mg base QT k fa fd [x] (Wg K D 1):=by
 obtain⟨f,fd,hm,F⟩:=Df.ex
 have e:=hfa.symm.trans hm;cases e
 refine⟨fd,?_,fun base h1 h2=>H base fa fd h1 h2 F⟩
 obtain⟨oc,od,kV,doc,pm,an,cdv,ct,osl,rfl,lk,hcd⟩:=F.ex
 exact fun s u=>.of_eq (hb kV doc pm an cdv ct u)
end
theorem HW{H:Hp}{a:Addr}{ns:List Int}{D:List PV->Option PV}{E:XK}(hD:D [.cst (iL ns)]=some (.bl true))(hO:Jb H)(hS:SqL K H a (ns.map V.int)):Wg K D 1 [.ref a] H (fun v _=>v = .bl true) E:=by
 have cs:CsK K H a (ns.map V.int):=by
  rcases hS with h | h
  ·rcases h with h | ⟨o,h⟩
   ·rcases hO a with z | ⟨o,xs,z⟩
    ·rw[h] at z;cases z
    ·rw[h] at z;cases z
   ·exact .inl ⟨o,h⟩
  ·exact .inr h
 exact⟨rfl,[.cst (iL ns)],[],.bl true,Iss.one (Is.cst cs (Iss.ofInts ns)),hD,fun v H' fq _ i _ _=>i.bl_inv.1⟩
theorem law_walk{l:PySem.W.OpenLaw}{q:Program}{loose:List Str}{XP:(Str->Option Value)->Heap->Prop}{YP:World->Heap->Prop}{d:DefRec}{KK:Params->PySem.W.Frag}{x:Str}{D:List PV->Option PV}(k:Nat)(hn:l.most=some 63)(hdf:d.params.defaults=[])
  (hr:Room k callerA) (hD:∀ns:List Int,ns.length<=63->D [.cst (iL ns)]=some (.bl true))
  (hY:∀(w:World)(h:Heap),YP w h->(KK w.params).In h)
  (F:∀(w:World)(mg:Str->Option Value)(fa:Addr)(h:Heap),(KK w.params).In h->h.Ns mainGlobals mg->mg d.name=some (.ref fa)->
   ∃fd:FuncData,(∀(s:Shared)(u:Value),BindsTo s fd ⟨[u],[]⟩ [(x,u)])/\∀base:Heap,(KK w.params).In base->base.Ns mainGlobals mg->Vg l.prog w (KK w.params) mg base QT k fa fd [x] (Wg (KK w.params) D 1)) :
  PySem.W.WalkO q loose XP YP l.row.toRowW d [] (fun f vs=>PySem.call f vs):=
 L2.walk_of (n:=63) (k:=k) (x:=x) (CX:=fun _=>QT) (sp:=fun w=>Wg (KK w.params) D 1) hn (by decide) hdf hr hY F (fun w H a ns hl hO hS=>HW (hD ns hl) hO hS) fun _ _ _ _ _ z=>z
end VL
namespace VL
open PySem L2
@[simp] theorem Z9(i:Nat)(s:ZE):Za i s=(s[i]?).join:=rfl
@[simp] theorem Ul(l:PV)(s:ZE):eC l s=some l:=rfl
@[simp] theorem ZF(g:PV->PV->Option PV)(a b:XE)(s:ZE):Zh g a b s=(a s).bind fun x=>(b s).bind fun y=>g x y:=rfl
@[simp] theorem eUn_def(g:PV->Option PV)(a:XE)(s:ZE):Qp g a s=(a s).bind g:=rfl
@[simp] theorem YR(f:XE)(s:ZE):eP f s=(f s).bind fun l=>if ZS l=true then some l else none:=rfl
@[simp] theorem evs_nil(s:ZE):Wf [] s=some []:=rfl
@[simp] theorem evs_cons'(f:XE)(fs:List XE)(s:ZE):Wf (f::fs) s=(f s).bind fun x=>(Wf fs s).map (x::·):=rfl
@[simp] theorem ZH(D:List PV->Option PV)(fs:List XE)(s:ZE):Zg D fs s=(Wf fs s).bind D:=rfl
@[simp] theorem UO(fs:List XE)(s:ZE):ZJ fs s=(Wf fs s).map .tup:=rfl
@[simp] theorem eLst_def(fs:List XE)(s:ZE):ZG fs s=(Wf fs s).map .lst:=rfl
@[simp] theorem NB(g:PV->Option Int->Option Int->Option PV)(a:XE)(lo hi:XO)(s:ZE):U0 g a lo hi s=(a s).bind fun x=>(lo s).bind fun l=>(hi s).bind fun u=>g x l u:=rfl
@[simp] theorem xoN_def(s:ZE):Tg s=some none:=rfl
@[simp] theorem gI_ii(g:Int->Int->Int)(i j:Int):gI g (.int i) (.int j)=some (.int (g i j)):=rfl
@[simp] theorem gB_ii(g:Int->Int->Bool)(i j:Int):gB g (.int i) (.int j)=some (.bl (g i j)):=rfl
@[simp] theorem LN(C:Int->Int->Prop)[∀i j,Decidable (C i j)](g:Int->Int->Int)(i j:Int):KD C g (.int i) (.int j)=if C i j then some (.int (g i j)) else none:=rfl
@[simp] theorem gIx_ti(l:List PV)(i:Int):Z2 (.tup l) (.int i)=Wv l i:=rfl
@[simp] theorem gIx_li(l:List PV)(i:Int):Z2 (.lst l) (.int i)=Wv l i:=rfl
@[simp] theorem gIx_ci(l:List PV)(i:Int):Z2 (.cst l) (.int i)=Wv l i:=rfl
@[simp] theorem YS(f:XE)(s:ZE):xB f s=(f s).bind M8:=by
 unfold xB
 cases f s with
 | none=>rfl
 | some a=>cases a<;>rfl
@[simp] theorem HX(b:Bool):M8 (.bl b)=some b:=rfl
@[simp] theorem WC(a b:XT)(s:ZE):XW a b s=(a s).bind fun c=>if c=true then b s else some false:=rfl
@[simp] theorem NC(a b:XT)(s:ZE):Qm a b s=(a s).bind fun c=>if c=true then some true else b s:=rfl
@[simp] theorem SO(a:XT)(s:ZE):Y3 a s=(a s).map not:=rfl
@[simp] theorem eAnd_def(a b:XE)(s:ZE):Ph a b s=(xB a s).bind fun c=>if c=true then b s else some (.bl false):=rfl
@[simp] theorem eOr_def(a b:XE)(s:ZE):ES a b s=(xB a s).bind fun c=>if c=true then some (.bl true) else b s:=rfl
@[simp] theorem eNot_def(a:XE)(s:ZE):Jo a s=(xB a s).map fun c=>.bl !c:=rfl
@[simp] theorem eIf_def(c:XT)(a b:XE)(s:ZE):ET c a b s=(c s).bind fun k=>if k=true then a s else b s:=rfl
@[simp] theorem eIsN_def(neg:Bool)(a:XE)(s:ZE):X3 neg a s=(a s).bind (Lu neg):=rfl
@[simp] theorem Mz(s:ZE):Zp s=some (.nx s):=rfl
@[simp] theorem ZI(f g:XS)(s:ZE):Zk f g s=(f s).bind fun o=>match o with | .nx s'=>g s' | r=>some r:=rfl
@[simp] theorem ZQ(c:XT)(f g:XS)(s:ZE):YC c f g s=(c s).bind fun k=>if k=true then f s else g s:=rfl
@[simp] theorem Xh(f:XE)(s:ZE):Yd f s=(f s).map .rt:=rfl
@[simp] theorem Zw(i:Nat)(f:XE)(s:ZE):Zm i f s=(f s).map fun l=>.nx (s.set i (some l)):=rfl
@[simp] theorem retO_rt(v:PV):Xf (.rt v)=some v:=rfl
@[simp] theorem MA(i:Int):ZS (.int i)=true:=rfl
@[simp] theorem pureV_bl(i:Bool):ZS (.bl i)=true:=rfl
@[simp] theorem pureV_str(i:Str):ZS (.str i)=true:=rfl
@[simp] theorem pureV_non:ZS .non=true:=rfl
@[simp] theorem pureV_tup(l:List PV):ZS (.tup l)=Zv l:=by rw[ZS]
@[simp] theorem pureL_nil:Zv []=true:=rfl
@[simp] theorem pureL_cons(a:PV)(l:List PV):Zv (a::l)=(ZS a&&Zv l):=rfl
theorem VP{α:Type}{l:List α}{f:α->PV}(h:∀a∈l,ZS (f a)=true):Zv (l.map f)=true:=by
 rw[XY,List.all_map,List.all_eq_true];exact h
@[simp] theorem pureL_iL(l:List Int):Zv (l.map PV.int)=true:=YE l
abbrev pP(l:List Int):PV:=.tup (iL l)
abbrev wP(W:List (List Int)):PV:=.tup (W.map pP)
@[simp] theorem pureL_wP(W:List (List Int)):Zv (W.map pP)=true:=VP fun a _=>by simp
theorem LO{l:List Int}{k:Nat}(h:k<l.length):(iL l)[k]?=some (.int (Yr l k)):=by
 rw[List.getElem?_map,List.getElem?_eq_getElem h];simp[Yr,List.getD_eq_getElem?_getD,List.getElem?_eq_getElem h]
theorem Qx{l:List Int}{k:Nat}(h:k<l.length):Wv (iL l) (k:Int)=some (.int (Yr l k)):=WK (LO h)
theorem JB{W:List (List Int)}{k:Nat}(h:k<W.length):Wv (W.map pP) (k:Int)=some (pP (ZL W k)):=by
 refine WK ?_
 rw[List.getElem?_map,Pf h];rfl
@[simp] theorem gLen_t(l:List PV):YM [.tup l]=some (.int l.length):=rfl
@[simp] theorem gLen_l(l:List PV):YM [.lst l]=some (.int l.length):=rfl
@[simp] theorem gLen_c(l:List PV):YM [.cst l]=some (.int l.length):=rfl
@[simp] theorem gTuple_l(l:List PV):Yq [.lst l]=some (.tup l):=rfl
@[simp] theorem gTuple_t(l:List PV):Yq [.tup l]=some (.tup l):=rfl
@[simp] theorem gListP_t(l:List PV):YH [.tup l]=if Zv l=true then some (.lst l) else none:=rfl
@[simp] theorem gListP_l(l:List PV):YH [.lst l]=if Zv l=true then some (.lst l) else none:=rfl
@[simp] theorem gMin2_ii(i j:Int):W6 [.int i,.int j]=some (.int (if j<i then j else i)):=rfl
@[simp] theorem gMax2_ii(i j:Int):RL [.int i,.int j]=some (.int (if j>i then j else i)):=rfl
@[simp] theorem gInt1_b(c:Bool):Pk [.bl c]=some (.int (if c then 1 else 0)):=rfl
@[simp] theorem gInt1_i(c:Int):Pk [.int c]=some (.int c):=rfl
@[simp] theorem gInst_ii(i:Int):TM [.int i,.ty "int"]=some (.bl true):=rfl
@[simp] theorem gInst_ib(i:Int):TM [.int i,.ty "bool"]=some (.bl false):=rfl
@[simp] theorem gInst_tt(l:List PV):TM [.tup l,.ty "tuple"]=some (.bl true):=rfl
@[simp] theorem gInst_ll(l:List PV):TM [.lst l,.ty "list"]=some (.bl true):=rfl
theorem ND(n:Nat)(i j:Int):Xd (n+1) (.int i) (.int j)=true:=rfl
theorem Vs{α β:Type}{f:α->PV}{g:β->PV}{p:PV->PV->Bool}(h:∀a b,p (f a) (g b)=true):∀(l:List α)(m:List β),((l.map f).zip (m.map g)).all (fun z=>p z.1 z.2)=true
 | [],_=>by simp
 | _::_,[]=>by simp
 | a::l,b::m=>by
  rw[List.map_cons,List.map_cons,List.zip_cons_cons,List.all_cons,Vs h l m,h a b];rfl
theorem NF(n:Nat)(l m:List Int):Xd (n+2) (pP l) (pP m)=true:=Vs (fun a b=>ND n a b) l m
theorem NG(n:Nat)(l m:List (List Int)):Xd (n+3) (wP l) (wP m)=true:=Vs (fun a b=>NF n a b) l m
@[simp] theorem HY(neg:Bool)(i j:Int):XA neg (.int i) (.int j)=some (.bl (if neg then !decide (i=j) else decide (i=j))):=by
 unfold XA;rw[if_pos (ND 7 i j)]
 congr 2
 cases neg<;>simp
theorem RT{α:Type}{T:Tgt}{ft:XT}{fe:XE}{s0:ZE}{q g:α->PV}:∀{ls:List α},(∀a∈ls,∃s1,XN T (q a) s0=some s1/\ft s1=some true/\fe s1=some (g a))->X5 T ft fe s0 (ls.map q)=some (ls.map g)
 | [],_=>rfl
 | a::r,h=>by
  obtain⟨s1,h1,h2,h3⟩:=h a List.mem_cons_self
  have ih:=RT (ls:=r) fun b hb=>h b (List.mem_cons_of_mem _ hb)
  rw[List.map_cons,List.map_cons];unfold X5;rw[h1];simp only[Option.bind_some,h2,if_true,h3,ih,Option.map_some]
theorem UP{α:Type}{T:Tgt}{ft:XT}{fe:XE}{s0:ZE}{q g:α->PV}{c:α->Bool}:∀{ls:List α},(∀a∈ls,∃s1,XN T (q a) s0=some s1/\ft s1=some (c a)/\(c a=true->fe s1=some (g a)))->X5 T ft fe s0 (ls.map q)=some ((ls.filter c).map g)
 | [],_=>rfl
 | a::r,h=>by
  obtain⟨s1,h1,h2,h3⟩:=h a List.mem_cons_self
  have ih:=UP (ls:=r) fun b hb=>h b (List.mem_cons_of_mem _ hb)
  rw[List.map_cons];unfold X5;rw[h1];simp only[Option.bind_some,h2]
  cases hc:c a with
  | true=>simp[h3 hc,ih,hc]
  | false=>simp[ih,hc]
theorem Xw{α:Type}{n:Nat}{ix:List Nat}{fi:XL}{T:Tgt}{ft:XT}{fe:XE}{s:ZE}(ls:List α)(q g:α->PV)(hfi:fi s=some (ls.map q))(hl:ls.length<=10000)
  (h:∀a∈ls,∃s1,XN T (q a) (Yc n ix s)=some s1/\ft s1=some true/\fe s1=some (g a)):Z4 n ix fi T ft fe s=some (.lst (ls.map g)):=by
 unfold Z4;rw[hfi];simp only[Option.bind_some,List.length_map,if_pos hl,RT h,Option.map_some]
theorem Qy{α:Type}{n:Nat}{ix:List Nat}{fi:XL}{T:Tgt}{ft:XT}{fe:XE}{s:ZE}(ls:List α)(q g:α->PV)(c:α->Bool)(hfi:fi s=some (ls.map q))(hl:ls.length<=10000)
  (h:∀a∈ls,∃s1,XN T (q a) (Yc n ix s)=some s1/\ft s1=some (c a)/\(c a=true->fe s1=some (g a))):Z4 n ix fi T ft fe s=some (.lst ((ls.filter c).map g)):=by
 unfold Z4;rw[hfi];simp only[Option.bind_some,List.length_map,if_pos hl,UP h,Option.map_some]
theorem ZW{T:Tgt}{fb:XS}:∀{ls:List PV}{s:ZE}(Jv:Nat->ZE->Prop),Jv 0 s->(∀(i:Nat) l st,ls[i]?=some l->Jv i st->∃s1 s2,XN T l st=some s1/\fb s1=some (.nx s2)/\Jv (i+1) s2)->
  ∃s',Xn T fb ls s=some (.nx s')/\Jv ls.length s'
 | [],s,Jv,h0,_=>⟨s,rfl,h0⟩
 | l::r,s,Jv,h0,h=>by
  obtain⟨s1,s2,a,b,c⟩:=h 0 l s rfl h0
  obtain⟨s',d,e⟩:=ZW (ls:=r) (s:=s2) (fun i=>Jv (i+1)) c fun i l' st hl hi=>h (i+1) l' st (by simpa using hl) hi
  refine⟨s',?_,e⟩
  unfold Xn;rw[a];simp only[Option.bind_some,b];exact d
theorem X6{n i:Nat}{l:PV}(h:(Yy n)[i]?=some l):i<n/\l = .int (i:Int):=by
 have hi:=(List.getElem?_eq_some_iff.mp h).1
 unfold Yy at hi h;rw[List.length_map,List.length_range] at hi;rw[List.getElem?_map,List.getElem?_range hi] at h
 exact⟨hi,(Option.some.inj h).symm⟩
theorem SR{lo:Int}{n i:Nat}{l:PV}(h:(Wq lo n)[i]?=some l):i<n/\l = .int (lo+(i:Int)):=by
 have hi:=(List.getElem?_eq_some_iff.mp h).1
 unfold Wq at hi h;rw[List.length_map,List.length_range] at hi;rw[List.getElem?_map,List.getElem?_range hi] at h
 exact⟨hi,(Option.some.inj h).symm⟩
@[simp] theorem UQ(n:Nat):(Yy n).length=n:=by unfold Yy;simp
@[simp] theorem SS(lo:Int)(n:Nat):(Wq lo n).length=n:=by unfold Wq;simp
@[simp] theorem bindT_one(i:Nat)(l:PV)(s:ZE):XN (.one i) l s=some (s.set i (some l)):=rfl
theorem Yz(m:List PV):YZ m=(List.range m.length).map fun(i:Nat)=>.tup [.int (i:Int),m.getD i .non]:=by
 apply List.ext_getElem?
 intro i;rw[List.getElem?_map]
 by_cases h:i<m.length
 ·have:(YZ m)[i]?=some (.tup [.int (i:Int),m[i]]):=by
   unfold YZ;rw[List.getElem?_map,List.getElem?_zipIdx,List.getElem?_eq_getElem h]
   simp
  rw[this,List.getElem?_range h];simp[List.getD_eq_getElem?_getD,List.getElem?_eq_getElem h]
 ·rw[List.getElem?_eq_none (by rw[RN];omega),List.getElem?_eq_none (by simpa using h)];rfl
theorem JC(l:List Int)(i:Nat)(h:i<l.length):(iL l).getD i .non = .int (Yr l i):=by
 rw[List.getD_eq_getElem?_getD,LO h];rfl
@[simp] theorem JD(f:XE)(s:ZE):ZY [f] s=(f s).bind fun a=>(M7 a).bind fun j=>if -1000000<=j/\j<=1000000 then some (Yy j.toNat) else none:=by
 unfold ZY
 cases h:f s with
 | none=>simp[h]
 | some a=>cases a<;>simp[h,M7]
@[simp] theorem JE(f g:XE)(s:ZE):Xq [f,g] s=(f s).bind fun a=>(g s).bind fun b=>(M7 a).bind fun i=>(M7 b).bind fun j=>if -1000000<=i/\i<=1000000/\-1000000<=j/\j<=1000000 then some (Wq i (j-i).toNat) else none:=by
 unfold Xq
 cases h:f s with
 | none=>simp[h]
 | some a=>cases h2:g s with
  | none=>simp[h,h2]
  | some b=>cases a<;>cases b<;>simp[h,h2,M7]
@[simp] theorem T6(i:Int):M7 (.int i)=some i:=rfl
@[simp] theorem NH(i:List PV):Fy (.lst i)=some i:=rfl
@[simp] theorem Ti(b:Bool)(f:XE)(s:ZE):Xr b [f] s=(f s).bind fun l=>(seqB b l).map YZ:=by
 unfold Xr
 cases h:f s<;>simp[h]
@[simp] theorem seqB_f(l:List PV):seqB false (.tup l)=some l:=rfl
@[simp] theorem seqB_t(l:List PV):seqB true (.lst l)=some l:=rfl
@[simp] theorem seqB_c(l:List PV):seqB true (.cst l)=some l:=rfl
@[simp] theorem xLst_def(f:XE)(s:ZE):Vo f s=(f s).bind Gy:=rfl
@[simp] theorem asS_l(l:List PV):Gy (.lst l)=some l:=rfl
@[simp] theorem asS_c(l:List PV):Gy (.cst l)=some l:=rfl
@[simp] theorem Yi(O:List Nat)(fi:XL)(T:Tgt)(fb:XS)(s:ZE):YI O fi T fb s=(fi (ZK O s)).bind fun ls=>Xn T fb ls s:=rfl
@[simp] theorem xTrue_def(s:ZE):YO s=some true:=rfl
theorem Yt{f:XE}{s:ZE}{n:Nat}(h:f s=some (.int (n:Int)))(hn:n<=10000):ZY [f] s=some (Yy n):=by
 rw[JD,h];simp only[Option.bind_some,T6];rw[if_pos ⟨by omega,by omega⟩,Int.toNat_natCast]
theorem Tj{f g:XE}{s:ZE}{i j:Int}(h:f s=some (.int i))(h':g s=some (.int j))(hi : -10000<=i/\i<=10000)(hj : -10000<=j/\j<=10000):Xq [f,g] s=some (Wq i (j-i).toNat):=by
 rw[JE,h,h'];simp only[Option.bind_some,T6];rw[if_pos ⟨by omega,by omega,by omega,by omega⟩]
theorem HZ{i j:Int}(h0 : -10000<=i)(h:i<=10000):CMul i j:=by
 refine .inl ?_
 have e:(2^64:Int)=18446744073709551616:=by decide
 rw[e];omega
theorem VQ{c:Bool}(h:c=true):gd c=some ():=by unfold gd;rw[if_pos h]
theorem OE{i:Nat}{f:XE}{s:ZE}{m n:List PV}(h:f s=some (.lst n))(hm:LG s i=some m)(hl:m.length+n.length<=10000):VJ i f s=some (.nx (s.set i (some (.lst (m++n))))):=by
 unfold VJ;rw[h];simp only[Option.bind_some,NH,hm,VQ (decide_eq_true hl)]
theorem Um{i:Nat}{f:XE}{s:ZE}{m:List PV}{l:PV}(h:f s=some l)(hm:LG s i=some m)(hl:m.length<=10000):YJ i f s=some (.nx (s.set i (some (.lst (m++[l]))))):=by
 unfold YJ;rw[h];simp only[Option.bind_some,hm,VQ (decide_eq_true hl)]
theorem OF{i:Nat}{fk f:XE}{s:ZE}{m:List PV}{l:PV}{k:Int}(hk:fk s=some (.int k))(h:f s=some l)(hm:LG s i=some m)(hp:Zv m=true)(hq:ZS l=true)(h0:0<=k)(h1:k<=1000000)(hl:m.length<=10000) :
  VN i fk f s=some (.nx (s.set i (some (.lst (m.take k.toNat++l::m.drop k.toNat))))):=by
 unfold VN;rw[hk,h]
 have c:(Zv m&&ZS l&&decide (0<=k/\k<=1000000/\m.length<=10000))=true:=by rw[hp,hq,decide_eq_true ⟨h0,h1,hl⟩];rfl
 simp only[Option.bind_some,T6,hm,VQ c]
theorem Xx{i:Nat}{fa fb f:XE}{s:ZE}{m n:List PV}{l:PV}{a b:Int}{j c:Nat}(h:f s=some l)(ha:fa s=some (.int a))(hb:fb s=some (.int b))(hm:LG s i=some m)(hj:O7 m.length a=some j)(hn:m[j]?=some (.lst n))(hp:Zv n=true)(hq:ZS l=true)(hc:O7 n.length b=some c) :
  ZM i fa fb f s=some (.nx (s.set i (some (.lst (m.set j (.lst (n.set c l))))))):=by
 unfold ZM;rw[h,ha,hb]
 have cc:(Zv n&&ZS l)=true:=by rw[hp,hq];rfl
 simp only[Option.bind_some,T6,NH,hm,hj,hn,VQ cc,hc,Option.map_some]
theorem Y2{n k:Nat}(h:k<n):O7 n (k:Int)=some k:=by
 unfold O7
 rw[if_pos (by omega),if_pos (by omega)];rfl
theorem Tn{i j:Int}(h0:0<j)(h:j<=10000):U2 i j:=⟨h0,by omega⟩
end VL
namespace PW
open PySem L2 VL
noncomputable def SU:XS:=(Yd (eP (Zh Z2 (Zh Ym (U0 Y8 (Za 0) (V8 (Za 1)) (V8 (Zh ZN (Za 1) (eC (.int 1))))) (ZG [(eC (.int 0))])) (eC (.int 0)))))
noncomputable def Zn:List PV->Option PV:=Wr 2 SU
noncomputable def To:XS:=(Yd (eP (Ph (Zg TM [(Za 0),(eC (.ty "int"))]) (Jo (Zg TM [(Za 0),(eC (.ty "bool"))])))))
noncomputable def Y6:List PV->Option PV:=Wr 1 To
noncomputable def Wk:XS:=(Zk (Zm 3 (ZG []))
  (Zk (YI [3,5] (ZY [(Za 2)]) (.one 4) (Zk (VN 3 (Zh ZO (Za 1) (Zh ZN (Za 4) (eC (.int 1)))) (Za 4))
  (Zm 1 (eP (Zh Xa (Za 1) (Zh ZN (Za 4) (eC (.int 1))))))))
  (Zk (Zm 5 (eC (.dT [] [])))
  (Zk (SM 0 (.many [6,7]) (Zk (Zm 8 (eP (ZJ [(Zg W6 [(Zh Z2 (Za 3) (Za 6)),(Zh Z2 (Za 3) (Za 7))]),(Zg RL [(Zh Z2 (Za 3) (Za 6)),(Zh Z2 (Za 3) (Za 7))])])))
  (sDPut 5 (Za 8) (Zh Xs (Za 0) (ZJ [(Za 6),(Za 7)])))))
  (Yd (Za 5))))))
noncomputable def XD:List PV->Option PV:=Wr 9 Wk
noncomputable def Xi:XS:=(Zk (Zm 4 (eC (.dT [] [])))
  (Zk (Zm 5 (ZG [(eP (eC (.int 0)))]))
  (Zk (YI [4,5] (ZY [(Za 1)]) (.one 6) (YI [4,5] (Xq [(Zh ZN (Za 6) (eC (.int 1))),(Za 1)]) (.one 7) (Zk (Zm 8 (eP (Zg W6 [(Zh V0 (Zh ZO (Za 0) (eC (.int 2))) (Zh ZN (eC (.int 1)) (Zh ZO (Zh Xa (Za 0) (eC (.int 2))) (Za 3)))),(Za 2)])))
  (Zk (Zm 0 (eP (Zh Z2 (ZG [(Zh Xa (Za 0) (eC (.int 2))),(Zh Xa (Zh Xa (Za 0) (eC (.int 2))) (Za 3))]) (Zh ZO (Za 0) (eC (.int 2))))))
  (YC (xB (Zh Mq (Za 8) (eC (.int 0)))) (Zk (sDPut 4 (ZJ [(Za 6),(Za 7)]) (Za 8))
  (Zm 2 (eP (Zh W9 (Za 2) (Za 8))))) Zp)))))
  (Zk (YI [4,5] (ZY [(Za 1)]) (.one 9) (Uk [4,5] 4 (.many [6,7]) (Zk (YC (XW (xB (Zh (V1 false) (Za 6) (Za 5))) (xB (Zh (V1 true) (Za 7) (Za 5)))) (YJ 5 (eP (Za 7))) Zp)
  (YC (XW (xB (Zh (V1 false) (Za 7) (Za 5))) (xB (Zh (V1 true) (Za 6) (Za 5)))) (YJ 5 (eP (Za 6))) Zp))))
  (Qw 4 (Zg Pk [(Zh (XA false) (Zg YM [(Za 5)]) (Za 1))]))))))
noncomputable def Yj:List PV->Option PV:=Wr 10 Xi
noncomputable def VR:XS:=(Zk (Zm 3 (Zg Zn [(Za 0),(Za 1)]))
  (Zk (YC (XW (xB (Zh (XA false) (Zh ZO (Za 3) (eC (.int 2))) (eC (.int 1)))) (xB (X3 true (Zg Yj [(Zh Xa (Za 3) (eC (.int 2))),(Za 2),(eC (.int 30)),(eC (.int 9))])))) (Yd (Zg Yj [(Zh Xa (Za 3) (eC (.int 2))),(Za 2),(eC (.int 30)),(eC (.int 9))])) Zp)
  (Zk (Zm 4 (eC (.dT [] [])))
  (Zk (Zm 5 (eP (eC (.int 30))))
  (Zk (YI [4] (Xq [(eC (.int 1)),(Za 2)]) (.one 6) (Zk (Zm 7 (Zg Zn [(Za 0),(Zh ZN (Za 1) (Za 6))]))
  (Zk (Zm 8 (eP (Zg W6 [(Zh Z2 (ZG [(eC (.int 1)),(eC (.int 1)),(eC (.int 1)),(eC (.int 2)),(eC (.int 3)),(eC (.int 9))]) (Zh ZO (Zh Xa (Za 7) (Za 6)) (eC (.int 6)))),(Zh W9 (Za 5) (Zh W9 (Zh W9 (Za 2) (eC (.int 1))) (Za 6)))])))
  (Zk (sDPut 4 (ZJ [(Zh ZO (Za 7) (Za 6)),(Za 6)]) (Za 8))
  (Zm 5 (eP (Zh W9 (Za 5) (Za 8))))))))
  (Zk (Zm 9 (eP (Zh ZN (Za 1) (eC (.int 7)))))
  (Zk (YI [4] (ZY [(Za 2)]) (.one 10) (YI [4] (Xq [(Zh ZN (Za 10) (eC (.int 1))),(Za 2)]) (.one 11) (Zk (Zm 8 (eP (Zh Z2 (ZG [(eC (.int 0)),(eC (.int 0)),(eC (.int 0)),(eC (.int 1)),(eC (.int 1)),(eC (.int 2)),(eC (.int 4)),(eC (.int 9))]) (Zh ZO (Zg Zn [(Za 0),(Za 9)]) (eC (.int 8))))))
  (Zk (Zm 9 (eP (Zh ZN (Za 9) (eC (.int 1)))))
  (YC (XW (xB (Oz true (ZJ [(Za 10),(Za 11)]) (Za 4))) (xB (UM T1 TJ (eC (.int 0)) (Za 8) (Za 5)))) (Zk (sDPut 4 (ZJ [(Za 10),(Za 11)]) (Za 8))
  (Zm 5 (eP (Zh W9 (Za 5) (Za 8))))) Zp)))))
  (Yd (Zg XD [(Za 4),(Zh Xa (Zg Zn [(Za 0),(Za 1)]) (eC (.int 7))),(Za 2)])))))))))
noncomputable def Xy:List PV->Option PV:=Wr 12 VR
noncomputable def WU:XS:=(Zk (Zm 2 (Z4 1 [1] (ZY [(Za 1)]) (.one 0) YO (Zh Ui (ZG [(eC (.int 0))]) (Za 1))))
  (Zk (SM 0 (.many [3,4]) (Zk (ZM 2 (Za 3) (Za 4) (Zh Xs (Za 0) (ZJ [(Za 3),(Za 4)])))
  (ZM 2 (Za 4) (Za 3) (Zh Xs (Za 0) (ZJ [(Za 3),(Za 4)])))))
  (Yd (eP (Zg Yq [(Z4 1 [] (Vo (Za 2)) (.one 0) YO (Zg Yq [(Za 0)]))])))))
noncomputable def Yk:List PV->Option PV:=Wr 5 WU
end PW
namespace VL
open PySem PySem.Spec PyProof.Rows L2
def Vt(l:List Int):List Int:=l.mergeSort fun a b=>decide (a<=b)
theorem Uo(l:List Int):(Vt l).Perm l:=List.mergeSort_perm l _
theorem Qz(l:List Int):(Vt l).Pairwise (·<=·):=by
 have:=List.pairwise_mergeSort (le:=fun a b:Int=>decide (a<=b)) (fun a b c h1 h2=>by simp only[decide_eq_true_eq] at *;omega) (fun a b=>by simp only[Bool.or_eq_true,decide_eq_true_eq];omega) l
 exact this.imp fun h=>of_decide_eq_true h
theorem SV{l m:List Int}(hp:m.Perm l)(hs:m.Pairwise (·<=·)):m=Vt l:=
 List.Perm.eq_of_pairwise (le:=(·<=·)) (fun a b _ _ h1 h2=>Int.le_antisymm h1 h2) hs (Qz l) (hp.trans (Uo l).symm)
theorem UR:∀{us:List Value}{ns:List Int},IntsAre us ns->Vals (ns.map V.int) us
 | _,_,.nil=>.nil
 | _,_,.cons n t h=>.cons ⟨t,rfl⟩ (UR h)
def QB(K:PySem.W.Frag):List V->Hp->VK->Prop:=fun xs H Q=>∃p ns,xs=[.ref p]/\SqL K H p (ns.map V.int)/\ns.length<64/\∀l,H l=none->Q (.ref l) (upd H l (.lst ((Vt ns).map V.int)))
theorem US{X:Cx}:X1 X (.builtin "sorted") (QB X.K):=by
 intro pins s Z H xs us Q I r h
 obtain⟨p,ns,rfl,hq,hl,q⟩:=h
 obtain⟨u,rfl,rx⟩:=Ut r
 cases rx
 obtain⟨its,r',pl,hz⟩:=I.list hq
 have hlen:=r'.length
 rw[List.length_map] at hlen hz
 refine sorted_ints pl.isList (Og r') (by omega) fun out ns' a1 a2 a3=>?_
 obtain⟨e,he⟩:=sortedAll_at s.heap its out
 have hns:=SV a2 a3;subst hns
 refine⟨.ref (s.heap.objs.size+1),_,I.laid (t':=s.toks) (fun b o=>sortedAll_old) (Nat.le_succ _) (show ObjOk X.prog X.w _ _ _ (.lst ((Vt ns).map V.int)) from⟨?_,out.toList,e,UR a1,?_⟩),rfl,q _ (I.hok.fresh (Nat.le_succ _))⟩
 ·rw[List.length_map,(Uo ns).length_eq];exact hz
 ·rw[Array.toArray_toList];exact he
def WV:List PV->Option PV
 | [.lst l]=>(Xc l).bind fun ns=>if ns.length<64 then some (.lst (iL (Vt ns))) else none
 | [.cst l]=>(Xc l).bind fun ns=>if ns.length<64 then some (.lst (iL (Vt ns))) else none
 | _=>none
theorem SW{K:PySem.W.Frag}:Fw K (QB K) WV:=fun H vs ls l fp h e Q k=>by
 have fin:∀(p:Addr)(ns:List Int),SqL K H p (ns.map V.int)->ns.length<64->l = .lst (iL (Vt ns))->QB K [.ref p] H Q:=by
  rintro p ns hp hl rfl
  refine⟨p,ns,rfl,hp,hl,fun q hq=>k _ _ [q] (Same.new hq _) (Is.lst upd_same (Iss.ofInts _)) (by simp) fun r hr=>?_⟩
  rw[List.mem_singleton.mp hr]
  exact⟨hq,by rw[upd_same];exact True.intro⟩
 unfold WV at e
 split at e
 ·obtain⟨ns,e1,e2⟩:=Zd e
  split at e2
  ·cases e2
   obtain⟨v,rfl,i⟩:=h.one_inv
   have em:=Wh e1;subst em
   obtain⟨p,xs,fq,rfl,hp,hi,_⟩:=i.lst_inv
   obtain⟨rfl,rfl⟩:=hi.iL
   exact fin p ns (.inl (.inl hp)) (by assumption) rfl
  ·cases e2
 ·obtain⟨ns,e1,e2⟩:=Zd e
  split at e2
  ·cases e2
   obtain⟨v,rfl,i⟩:=h.one_inv
   have em:=Wh e1;subst em
   obtain⟨p,xs,rfl,hp,hi⟩:=i.cst_inv
   obtain⟨rfl,rfl⟩:=hi.iL
   exact fin p ns hp.sq (by assumption) rfl
  ·cases e2
 ·cases e
def Yl:XS:=fun _=>none
theorem XG{X:Cx}{O W:List Nat}{st:Stmt}:VS X O W st Yl:=by
 intro pins s Z H D I h;unfold LC at h;simp only[Yl] at h
 obtain⟨_,_,_,_,_,q,_⟩:=h
 cases q
variable {K:PySem.W.Frag}
def NI(r r' r'':R2)(ta tb tc td:TE):TE:=fun Z H Q=>ta Z H fun x H1=>tb Z H1 fun y H2=>r x y H2 fun z H3=>∃k,z = .bl k/\
 (if k=true then tc Z H3 fun w' H4=>r' y w' H4 fun z' H5=>∃k',z' = .bl k'/\(if k'=true then td Z H5 fun u' H6=>r'' w' u' H6 Q else Q (.bl false) H5) else Q (.bl false) H3)
section
variable {X:Cx} {a b c d:Expr} {ta tb tc td:TE} {fa fb fc fd:XE} {pos:Pos}
theorem MB{op op' op'':CmpOp}{r r' r'':R2}(ho:WI X (compareOp op) r)(ho':WI X (compareOp op') r')(ho'':WI X (compareOp op'') r'')(ha:PE X a ta)(hb:PE X b tb)(hc:PE X c tc)(hd:PE X d td)
  (hm:lastMarks [op,op',op''] [b,c,d]=false:=by with_unfolding_all rfl):PT X (.Compare a [op,op',op''] [b,c,d] pos) (Rw (NI r r' r'' ta tb tc td)):=by
 intro pins s Z H Q I h
 refine isTrue_chain (Ya (ha pins s Z H _ I h) fun v s1 ⟨x,H1,I1,r1,q1⟩=>test_link (Ya (hb pins s1 Z H1 _ I1 q1) fun u s2 ⟨y,H2,I2,r2,q2⟩=>
  Ya (ho pins s2 Z H2 x y v u _ I2 r1 r2 q2) fun d s3 ⟨z,H3,I3,r3,k,e,q3⟩=>?_)) hm
 subst e;cases r3
 refine wpAny_truthy_bool ?_
 cases k with
 | false=>
  obtain⟨k',e',q'⟩:=q3
  cases e'
  exact ite_ff ⟨H3,I3,q'⟩
 | true=>
  refine ite_tt (test_link (Ya (hc pins s3 Z H3 _ I3 q3) fun w' s4 ⟨z',H4,I4,r4,q4⟩=>Ya (ho' pins s4 Z H4 y z' u w' _ I4 r2 r4 q4) fun d' s5 ⟨z2,H5,I5,r5,k',e',q5⟩=>?_))
  subst e'
  cases r5
  refine wpAny_truthy_bool ?_
  cases k' with
  | false=>
   obtain⟨k2,e2,q'⟩:=q5
   cases e2
   exact ite_ff ⟨H5,I5,q'⟩
  | true=>
   refine ite_tt (test_last (Ya (hd pins s5 Z H5 _ I5 q5) fun w2 s6 ⟨z3,H6,I6,r6,q6⟩=>Ya (ho'' pins s6 Z H6 z' z3 w' w2 _ I6 r4 r6 q6) fun d2 s7 ⟨z4,H7,I7,r7,k2,e2,q7⟩=>?_))
   subst e2;cases r7
   exact wpAny_truthy_bool ⟨H7,I7,q7⟩
def Rt(g h i:PV->PV->Option PV)(a b c d:XE):XE:=fun s=>(a s).bind fun x=>(b s).bind fun y=>((g x y).bind M8).bind fun k=>if k=true then(c s).bind fun z=>((h y z).bind M8).bind fun k'=>if k'=true then(d s).bind fun u=>i z u else some (.bl false) else some (.bl false)
theorem MC{r r' r'':R2}{g h i:PV->PV->Option PV}(hr:RB K r g)(hr':RB K r' h)(hr'':RB K r'' i):∀Z H Q,tF K (Rt g h i fa fb fc fd) Z H Q->NI r r' r'' (tF K fa) (tF K fb) (tF K fc) (tF K fd) Z H Q:=fun Z H Q ⟨Rm,s,l,hd,env,e,k⟩=>by
 obtain⟨x',e1,e⟩:=Zd e
 obtain⟨y',e2,e⟩:=Zd e
 obtain⟨b,e3,e⟩:=Zd e
 obtain⟨z',e3,eb⟩:=Zd e3
 rw[SJ eb] at e3
 refine⟨Rm,s,x',hd,env,e1,fun x H1 f1 s1 i1 n1=>⟨Rm,s,y',fun p hp=>Same.mut s1 (hd p hp),env.mono s1,e2,fun y H2 f2 s2 i2 n2=>?_⟩⟩
 refine hr H2 x y x' y' _ f1 f2 (i1.mono s2) i2 e3 _ fun v H3 fp s3 i3 n3=>⟨b,i3.bl_inv.1,?_⟩
 have s123:=s1.trans (s2.trans s3)
 cases b with
 | false=>
  rw[if_neg Bool.false_ne_true] at e ⊢
  cases e
  exact k _ H3 [] s123 (Is.bl _) fun p hp=>by simp at hp
 | true=>
  rw[if_pos rfl] at e ⊢
  obtain⟨w',e4,e⟩:=Zd e
  obtain⟨b',e5,e⟩:=Zd e
  obtain⟨z2,e5,eb'⟩:=Zd e5
  rw[SJ eb'] at e5
  refine⟨Rm,s,w',fun p hp=>Same.mut s123 (hd p hp),env.mono s123,e4,fun w H4 f4 s4 i4 n4=>?_⟩
  refine hr' H4 y w y' w' _ f2 f4 (i2.mono (s3.trans s4)) i4 e5 _ fun v5 H5 fp5 s5 i5 n5=>⟨b',i5.bl_inv.1,?_⟩
  have s12345:=s123.trans (s4.trans s5)
  cases b' with
  | false=>
   rw[if_neg Bool.false_ne_true] at e ⊢
   cases e
   exact k _ H5 [] s12345 (Is.bl _) fun p hp=>by simp at hp
  | true=>
   rw[if_pos rfl] at e ⊢
   obtain⟨u',e6,e⟩:=Zd e
   refine⟨Rm,s,u',fun p hp=>Same.mut s12345 (hd p hp),env.mono s12345,e6,fun u H6 f6 s6 i6 n6=>?_⟩
   refine hr'' H6 w u w' u' l f4 f6 (i4.mono (s5.trans s6)) i6 e Q fun v H7 fp7 s7 i7 n7=>k v H7 fp7 (s12345.trans (s6.trans s7)) i7 fun p hp z=>?_
   rcases n7 p hp with q | q | q
   ·exact n4 p q z
   ·exact n6 p q z
   ·exact YU (Same.mut (s12345.trans s6) (hd p z)) q
theorem MD{op op' op'':CmpOp}{r r' r'':R2}{g h i:PV->PV->Option PV}(ho:WI X (compareOp op) r)(ho':WI X (compareOp op') r')(ho'':WI X (compareOp op'') r'')(hr:RB X.K r g)(hr':RB X.K r' h)(hr'':RB X.K r'' i)(ha:VE X a fa)(hb:VE X b fb)(hc:VE X c fc)(hd:VE X d fd)
  (hm:lastMarks [op,op',op''] [b,c,d]=false:=by with_unfolding_all rfl):VT X (.Compare a [op,op',op''] [b,c,d] pos) (xB (Rt g h i fa fb fc fd)):=PT.imp (MB ho ho' ho'' ha hb hc hd hm) fun Z H Q q=>Ug (MC hr hr' hr'') Z H Q (Sq Z H Q q)
end
def H9(mg:Str->Option Value)(x:Str)(k:Int):Prop:=∃t,mg x=some (Value.int k t)
theorem QC{X:Cx}{x:Str}{k:Int}{pos:Pos}(hg:Gl X x)(hm:H9 X.mg x k)(hd:(x==("__debug__" : Str))=false:=by decide):VE X (.Name x pos) (eC (.int k)):=by
 obtain⟨t,e⟩:=hm
 exact Lr (KI hg e (v:=.int k) ⟨t,rfl⟩ hd) fun _=>Is.int k
end VL
namespace VL
open PySem PySem.Spec PyProof.Rows L2
variable {K:PySem.W.Frag}
def IA(i j:Int):Prop:=i.natAbs.log2<67108863/\j.natAbs.log2<67108863
def IB(i j:Int):Prop:=j≠0/\j.natAbs.log2<9000
instance (i j:Int):Decidable (IA i j):=by unfold IA;infer_instance
instance (i j:Int):Decidable (IB i j):=by unfold IB;infer_instance
end VL
namespace VL
open PySem PySem.Spec PyProof.Rows L2
variable {K:PySem.W.Frag}
def Ga(K:PySem.W.Frag)(H0:Hp)(D:Wu):QV->Prop
 | .nx _=>∀Z' H',Same H0 H'->D.nx Z' H'
 | .rt l=>∀v fp H',Same H0 H'->Is K H' l v fp->fp.Nodup->(∀p∈fp,H0 p=none/\Ws (H' p))->D.rt v H'
 | _=>False
def FD(K:PySem.W.Frag)(O:List Nat)(f:XS):TS:=fun D Z H=>∃H0 fps s out,Rel K O H0 fps s Z H/\f s=some out/\Ga K H0 D out
def ME(X:Cx)(O:List Nat)(st:List Stmt)(f:XS):Prop:=PSs X st (FD X.K O f)
section
variable {X:Cx} {O O' W:List Nat} {st:Stmt} {rest:List Stmt} {f g:XS}
theorem VSs.r(h:VSs X O W rest f):ME X O rest f:=PSs.imp h fun D Z H ⟨H0,fps,s,out,r,e,k⟩=>⟨H0,fps,s,out,r,e,by
 cases out with
 | nx s'=>exact fun fps' Z' H' r' _=>k Z' H' r'.same
 | rt l=>exact k
 | bk s'=>exact k.elim
 | ct s'=>exact k.elim⟩
theorem Tp(h1:VS X O W st f)(h2:ME X O rest g):ME X O (st::rest) (Zk f g):=PSs.imp (Vd h1 h2) fun D Z H ⟨H0,fps,s,out,r,e,k⟩=>by
 obtain⟨o1,e1,e⟩:=Zd e
 refine⟨H0,fps,s,o1,r,e1,?_⟩
 cases o1 with
 | nx s1=>exact fun fps1 Z1 H1 r1 _=>⟨H0,fps1,s1,out,r1,e,k⟩
 | bk s1=>cases e;exact k.elim
 | ct s1=>cases e;exact k.elim
 | rt l=>cases e;exact k
theorem MF(h:ME X O' rest g)(hs:∀i∈O',i∈O:=by decide):ME X O rest g:=PSs.imp h fun D Z H ⟨H0,fps,s,out,r,e,k⟩=>⟨H0,fps,s,out,r.weak hs,e,k⟩
end
theorem MG{N:List Str}{n:Nat}{O:List Nat}{vs:List V}{H:Hp}{ls:List PV}{fp:List Addr}(hO:∀i∈O,n<=i)(hl:vs.length=n)(hi:Iss K H ls vs fp):∃fps,Rel K O H fps (ZR N.length ls) (L2.start N vs) H:=by
 obtain⟨fps,p1,p2⟩:=hi.fps
 have hlen:=hi.len
 have hout:∀i:Nat,ls.length<=i->∀l,(ZR N.length ls)[i]?≠some (some l):=fun i hi l z=>by
  unfold ZR at z;rw[List.getElem?_append_right (by simpa using hi),List.getElem?_replicate] at z
  split at z<;>cases z
 refine⟨fps,Same.refl H,?_,fun i a z=>?_,fun i hne=>?_,fun i hi=>?_,fun i hi p hp=>?_,fun i hi j hj p hp=>?_⟩
 ·unfold ZR L2.start;simp[hlen]
 ·by_cases hil:i<ls.length
  ·unfold ZR at z
   rw[List.getElem?_append_left (by simpa using hil),List.getElem?_map] at z
   cases q:ls[i]? with
   | none=>rw[q] at z;cases z
   | some b=>
    rw[q] at z;cases z
    obtain⟨v,a1,b1⟩:=p1 i a q
    refine⟨v,?_,b1⟩
    unfold L2.start
    rw[List.getElem?_append_left (by simpa [hlen] using hil),List.getElem?_map,a1];rfl
  ·exact absurd z (hout i (by omega) a)
 ·by_cases hil:i<ls.length
  ·exact absurd (by unfold ZR;rw[List.getElem?_append_left (by simpa using hil),List.getElem?_map,List.getElem?_eq_getElem hil];rfl) (hne ls[i])
  ·exact p2 i (by omega)
 ·rw[p2 i (by have:=hO i hi;omega)];exact List.nodup_nil
 ·rw[p2 i (by have:=hO i hi;omega)] at hp;simp at hp
 ·rw[p2 i (by have:=hO i hi;omega)] at hp;simp at hp
theorem LP{N:List Str}{n:Nat}{O:List Nat}{f:XS}{vs:List V}{H:Hp}{Q:VK}{E:XK}(hO:∀i∈O,n<=i)(h:Wg K (Wr N.length f) n vs H Q E):FD K O f { nx:=fun _ H'=>Q .non H',rt:=Q } (L2.start N vs) H:=by
 obtain⟨hl,ls,fp,l,hi,e,q⟩:=h
 obtain⟨out,e1,e2⟩:=Zd e
 obtain⟨fps,rel⟩:=MG (N:=N) hO hl hi
 refine⟨H,fps,ZR N.length ls,out,rel,e1,?_⟩
 cases out with
 | nx s'=>
  cases e2
  exact fun Z' H' sm=>q .non H' [] sm Is.non List.nodup_nil fun p hp=>by simp at hp
 | rt v=>
  cases e2
  exact fun v fp H' sm i d n=>q v H' fp sm i d n
 | bk s'=>cases e2
 | ct s'=>cases e2
end VL
namespace VL
open PySem PySem.Spec PyProof.Rows L2
variable {K:PySem.W.Frag}
theorem JF{X:Cx}{st:Stmt}{t:TS}(h:PS X st t):PS X st (fun D Z H=>(∃d kvs,H d=some (.dT kvs)/\t (thaw d kvs D) Z H)\/t D Z H):=by
 intro pins s Z H D I hq
 rcases hq with⟨d,kvs,hd,q⟩ | q
 ·have h0:∀o u,X.H₀ d≠some (.frz o u):=fun o u z=>by
   have:=I.base.frzs d o u z
   rw[hd] at this;cases this
  refine Ya (h pins s Z H (thaw d kvs D) I q) fun f s' hsp=>?_
  cases f with
  | next=>
   obtain⟨Z',H',I',⟨o,ho⟩,q'⟩:=hsp
   exact⟨Z',_,Inv.thaw I' ho h0,q'⟩
  | brk=>
   obtain⟨Z',H',I',⟨o,ho⟩,q'⟩:=hsp
   exact⟨Z',_,Inv.thaw I' ho h0,q'⟩
  | cont=>
   obtain⟨Z',H',I',⟨o,ho⟩,q'⟩:=hsp
   exact⟨Z',_,Inv.thaw I' ho h0,q'⟩
  | ret u=>
   obtain⟨v,Z',H',I',r',⟨o,ho⟩,q'⟩:=hsp
   exact⟨v,Z',_,Inv.thaw I' ho h0,r',q'⟩
 ·exact h pins s Z H D I q
def SX(n:Nat)(ix:List Nat)(k:Nat)(T:Tgt)(ft:XT)(fe:XE):XE:=Z4 n ix (fun s=>(s[k]?).join.bind V9) T ft fe
section
variable {X:Cx} {O:List Nat} {tg elt iter:Expr} {ifs:List Expr} {scope:Scope} {pos:Pos} {T:Tgt} {ft:XT} {fe:XE}
theorem RU{n:Nat}{ix:List Nat}{ls:List PV}(hT:∀i∈T.slots,i<n){Z:Us}{H1:Hp}{s:ZE}{l:PV}{d:Addr}{o:Obj}{kvs:List (List Ys×V)}{Q:VK}(env:EnvIs K (fun _=>False) H1 s Z)(hd:H1 d=some (.frz o (.dT kvs)))(hls:ls=(kvs.map (·.1)).map LK)
  (e:Z4 n ix (fun _=>some ls) T ft fe s=some l) (k:∀v H' fp,Same H1 H'->Is K H' l v fp->fp.Nodup->(∀p∈fp,H1 p=none/\Ws (H' p))->Q v H') (Rest:It->Hp->Prop) (hR:Sk n ix (iF K fun _=>some ls) (gT K T) (QU K ft) (tM K fe) Z H1 Q=iF K (fun _=>some ls) Z H1 Rest):Rest (Jh d o kvs) H1:=by
 have main:=Qr (K:=K) (n:=n) (ix:=ix) (fi:=fun _=>some ls) (T:=T) (ft:=ft) (fe:=fe) hT Z H1 Q ⟨s,l,env,e,k⟩
 rw[hR] at main
 obtain⟨Rm,s',ls',hm,env',efi,use⟩:=main
 cases efi
 refine use (Jh d o kvs) H1 (Same.refl H1) ?_
 rw[hls]
 exact SK hd fun z=>by have:=hm d z;rw[hd] at this;exact this
theorem LQ(own fr:List Str)(ix:List Nat){i j:Nat}{y:Str}{py spos:Pos}(hN:X.N.Nodup)(hy:X.N[i]?=some y)(hloc:X.env.scope.names.lookup y=some .local)(hcalm:X.calm=true)(hi:PI X tg iter (Q9 (W8 j)))(S:Vk X.N X.env.scope scope own fr ix=true)
  (hg:∀cl C s H ex,PG (ZC X (own++fr) scope cl C s H ex) tg (gT X.K T)) (ht:∀cl C s H ex,Gz (ZC X (own++fr) scope cl C s H ex) ifs ft) (he:∀cl C s H ex,VM (ZC X (own++fr) scope cl C s H ex) elt fe)
  (hT:∀i∈T.slots,i<own.length:=by decide)
  (hsw:swapsWith (.ListComp elt [⟨tg,iter,ifs,0⟩] scope pos) (some (.Name y py)) spos.line X.env=pure true:=by rfl)
  (hs:∀x,foldedSetIterable iter X.env x=pure x:=by intro _;rfl):VS X O [i] (.Assign [.Name y py] (.ListComp elt [⟨tg,iter,ifs,0⟩] scope pos) spos) (Zm i (SX own.length ix j T ft fe)):=
 PS.imp (JF (Pe own fr ix hN hy hloc hcalm hi S hg (fun cl C s H ex=>(show M6 (ZC X (own++fr) scope cl C s H ex) ifs (QU X.K ft) from ht cl C s H ex)) (fun cl C s H ex=>(show PE (ZC X (own++fr) scope cl C s H ex) elt (tM X.K fe) from he cl C s H ex)) hsw hs)) fun D Z H ⟨H0,fps,s,out,r,e,kk⟩=>by
 obtain⟨l,e1,rfl⟩:=map_some e
 have e1:Z4 own.length ix (fun s=>(s[j]?).join.bind V9) T ft fe s=some l:=e1
 obtain⟨ls,el,_⟩:=Zd (show((s[j]?).join.bind V9).bind _=some l from e1)
 have e2:Z4 own.length ix (fun _=>some ls) T ft fe s=some l:=by
  rw[<-e1]
  show(some ls).bind _=((s[j]?).join.bind V9).bind _
  rw[el]
 obtain⟨dv,ed,ek⟩:=Zd el
 have ed:=join_some ed
 cases dv with
 | dT ks vs=>
  cases ek
  obtain⟨v,hv,iv⟩:=r.is j _ ed
  obtain⟨d,kvs,fq,rfl,hd,rfl,_,efp⟩:=iv.dT_inv
  have keep:∀(v:V)(fp:List Addr) k,k∉[i]->(Z.set i (some v))[k]?=Z[k]?/\Kep (UI fps s.length i fp k) (fps k):=fun v fp k hk=>by
   have:k≠i:=by simpa using hk
   exact⟨by rw[List.getElem?_set,if_neg (Ne.symm this)],.inl (ZZ this)⟩
  rcases hd with hd | ⟨o,hd⟩
  ·left
   refine⟨d,kvs,hd,.ref d,hv,d,kvs,rfl,.inl ⟨hd,fun o=>?_⟩⟩
   have h2:upd H d (.frz o (.dT kvs)) d=some (.frz o (.dT kvs)):=upd_same
   have hsw':∀b,b≠d->upd H d (.frz o (.dT kvs)) b=H b:=fun b hb=>upd_ne hb
   have env1:EnvIs X.K (fun _=>False) (upd H d (.frz o (.dT kvs))) s Z:=⟨fun k l q=>by
    obtain⟨w,a,b⟩:=r.is k l q
    exact⟨w,_,a,Is.tr (TK2.swap (d:=d) (kvs:=kvs) (.inl hd) hsw') _ _ _ (fun p _=>RdK.swap (d:=d) (kvs:=kvs) (.inl hd) (.inr ⟨o,h2⟩) hsw' p) b,fun _ _ z=>z⟩⟩
   refine RU hT env1 h2 rfl e2 (fun v H' fp sm is nd fresh=>?_) _ rfl
   have fd:H' d=some (.frz o (.dT kvs)):=sm d _ h2
   have sw2:∀b,b≠d->upd H' d (.dT kvs) b=H' b:=fun b hb=>upd_ne hb
   have ne:∀p∈fp,p≠d:=fun p hp z=>by have:=(fresh p hp).1;rw[z,h2] at this;cases this
   have no:∀p∈fp,H p=none:=fun p hp=>by rw[<-hsw' p (ne p hp)];exact(fresh p hp).1
   have same:Same H (upd H' d (.dT kvs)):=fun b u hb=>by
    by_cases q:b=d
    ·subst q
     rw[hd] at hb;cases hb;exact upd_same
    ·rw[upd_ne q]
     exact sm b u (by rw[hsw' b q];exact hb)
   refine⟨⟨o,fd⟩,kk _ _ _ ((r.grow same).set (i:=i) (Is.tr (TK2.swap (d:=d) (kvs:=kvs) (.inr ⟨o,fd⟩) sw2) _ _ _ (fun p _=>RdK.swap (d:=d) (kvs:=kvs) (.inr ⟨o,fd⟩) (.inl upd_same) sw2 p) is) (fun _=>⟨nd,fun p hp=>⟨Same.off r.same (no p hp),by rw[sw2 p (ne p hp)];exact(fresh p hp).2⟩⟩) fun k _ _ p hp z=>r.dom k p z (no p hp)) (keep v fp)⟩
  ·right
   refine⟨.ref d,hv,d,kvs,rfl,.inr ⟨o,hd,?_⟩⟩
   refine RU hT r.env hd rfl e2 (fun v H' fp sm is nd fresh=>?_) _ rfl
   exact kk _ _ _ ((r.grow sm).set (i:=i) is (fun _=>⟨nd,fun p hp=>⟨Same.off r.same (fresh p hp).1,(fresh p hp).2⟩⟩) fun k _ _ p hp z=>r.dom k p z (fresh p hp).1) (keep v fp)
 | _=>cases ek
end
end VL
namespace L2
open PySem PySem.Spec PyProof.Rows
abbrev WJ:=Addr->Obj->List (List Ys×V)->It
end L2
namespace VL
open PySem PySem.Spec PyProof.Rows L2
section
variable {K:PySem.W.Frag} {P:Program} {w:World} {mg:Str->Option Value} {base:Heap}
theorem JG{x:Str}{st:Stmt}{N ps:List Str}{k n:Nat}{O:List Nat}(m:Nat)(f:XS)(D:Def K mg x st)(S:ZU N ps (Zl st))
  (hb:∀(kV doc pm:Value)(an:Option Addr)(cdv ct:Value)(us:List Value),us.length=ps.length->bindArgs (PySem.W.fnOf x x (YT st) (Z7 st) (Zl st) .none kV doc pm an cdv ct) ⟨us,[]⟩=pure (ps.zip us))
  (hn:ps.length=n) (hm:N.length=m) (hO:∀i∈O,n<=i)
  (hbody:∀(fa:Addr)(cdv:Value)(A:Around)(outer:List Env)(s:Shared)(H:Hp)(E:XK),Room k (A.deeper (envOfC x (Zl st) s.heap.objs.size fa cdv))->ME (U5 QT P w K mg base N x (Zl st) fa cdv A outer s H E).nox O (Z7 st) f) :
  Vj P w K mg base x ps (Wg K (Wr m f) n) (k+1):=by
 subst hm
 refine D.cal S hb (fun vs H Q E h=>by rw[hn];exact h.1) fun fa cdv A outer s H vs Q E hr h=>⟨_,hbody fa cdv A outer s H E hr,LP hO h⟩
end
end VL
namespace VX
open PySem PySem.Spec PyProof.Rows L2
structure Eff(fs ch:List Addr)(h h':Heap):Prop where
 keep:∀b o,h.get? b=some o->b∉ch->b∉fs->h'.get? b=some o
 slot:∀b o,h.get? b=some o->b∉ch->b∈fs->∃sl,h'.get? b=some { o with slots:=sl }
 there:∀b o,h.get? b=some o->∃o',h'.get? b=some o'
theorem Eff.trans{fs ch:List Addr}{h h1 h2:Heap}(x:Eff fs ch h h1)(y:Eff fs ch h1 h2):Eff fs ch h h2:=
 ⟨fun b o e hc hf=>y.keep b o (x.keep b o e hc hf) hc hf,fun b o e hc hf=>by
  obtain⟨sl,e1⟩:=x.slot b o e hc hf
  obtain⟨sl2,e2⟩:=y.slot b _ e1 hc hf
  exact⟨sl2,e2⟩,fun b o e=>by
  obtain⟨o1,e1⟩:=x.there b o e
  exact y.there b o1 e1⟩
theorem Eff.mono{fs ch ch':List Addr}{h h':Heap}(x:Eff fs ch h h')(hs:∀b∈ch,b∈ch'):Eff fs ch' h h':=
 ⟨fun b o e hc hf=>x.keep b o e (fun z=>hc (hs b z)) hf,fun b o e hc hf=>x.slot b o e (fun z=>hc (hs b z)) hf,x.there⟩
theorem Eff.field{fs:List Addr}{h:Heap}{a:Addr}{o:Obj}{vs:Array Value}{f:Array Value->Array Value}(ha:h.get? a=some o)(hd:o.data = .fields vs):Eff fs [a] h (h.update a (Obj.mapFields f)):=
  ⟨fun b u e hc _=>by rw[Heap.get?_update_other _ _ (fun z=>hc (by rw[z];exact .head _))];exact e,
   fun b u e hc _=>⟨u.slots,by rw[Heap.get?_update_other _ _ (fun z=>hc (by rw[z];exact .head _))];exact e⟩,
   fun b u e=>by
    by_cases q:a=b
    · subst q;exact⟨_,Heap.get?_update_self _ ha (Obj.isFreed_of_fields (Obj.data_mapFields hd f))⟩
    · exact⟨u,by rw[Heap.get?_update_other _ _ q];exact e⟩⟩
theorem Eff.funs{fs:List Addr}{ch:List Addr}{h h' base:Heap}{l:List Env}(x:Eff fs ch h h')(hl:h.FunFrames base l)(hc:∀b∈ch,∀o,h.get? b=some o->∃vs,o.data = .fields vs):h'.FunFrames base l:=
 hl.of_keeps fun b o e hn=>by
  have hb:b∉ch:=fun z=>by obtain⟨vs,q⟩:=hc b z o e;exact hn vs q
  by_cases hf:b∈fs
  ·obtain⟨sl,q⟩:=x.slot b o e hb hf;exact⟨_,q,rfl⟩
  ·exact⟨o,x.keep b o e hb hf,rfl⟩
section
variable {M:Model} {A:Around} {E:Value->Shared->Prop} {s:Shared}
theorem SY{base:Heap}{env:Env}{outer:List Env}{L e:Addr}{oe:Obj}{vs:Array Value}{head:Value}{hadNext:Bool}{Q:Unit->Shared->Prop}
  (hfr:A.frames=some (env::outer)) (hl:s.heap.FunFrames base (env::outer)) (hf:env.frame=some L)
  (he:s.heap.get? e=some oe) (hd:oe.data = .fields vs) (hsz:1<vs.size)
  (h:∀h' T,s.heap.objs.size<=T->h'.get? e=some (oe.mapFields (·.setIfInBounds 1 (.ref T)))->(∃oT ts,h'.get? T=some oT/\oT.data = .fields ts/\ts[3]?=some (rawInt L))->Eff ((env::outer).filterMap (·.frame)) [e] s.heap h'->Q () { s with heap:=h' }) :
  wpAny M A (do let a <-frameOf env;let pl <-entryPlaceOf L hadNext;let b <-EntryCells.newEntry head a .none (rawInt L) .none pl;setField (.ref e) 1 b) Q E s:=by
 have hene:e∉(env::outer).filterMap (·.frame):=fun hm=>by
  obtain⟨_,o,ho,hnf⟩:=hl.mem hm
  rw[he] at ho;injection ho with ho;subst ho;exact hnf vs hd
 refine wpAny_bind (wpAny_frameOf_fun hfr hl hf fun h₁ hs₁=>?_)
 refine wpAny_bind (wpAny_entryPlaceOf fun pl hpl=>?_)
 unfold EntryCells.newEntry newFields
 refine wpAny_bind (wpAny_newObj_type ?_ (hpl.sizeOk5 _ _ _ _ _))
 have he₁:h₁.get? e=some oe:=(hs₁.2.1 e hene).trans he
 have he₂:=Heap.get?_push_of_some (h:=h₁) { cls:=.type "traceback",dict:=none,data:=.fields ([head,.ref L,.none,rawInt L,.none]++(if pl.isEmpty then List.replicate 6 Value.none else pl)).toArray } he₁
 have hsize:h₁.objs.size=s.heap.objs.size:=hs₁.1
 have p1:=Heap.get?_update_self (Obj.mapFields (·.setIfInBounds 1 (Value.ref h₁.objs.size))) he₂ (Obj.isFreed_of_fields (Obj.data_mapFields hd _))
 have p2:=(Heap.get?_update_other (h₁.push { cls:=.type "traceback",dict:=none,data:=.fields ([head,.ref L,.none,rawInt L,.none]++(if pl.isEmpty then List.replicate 6 Value.none else pl)).toArray })
  (Obj.mapFields (·.setIfInBounds 1 (Value.ref h₁.objs.size))) (Nat.ne_of_lt (Heap.lt_size he₁))).trans (Heap.get?_push_size h₁ rfl)
 have p3:Eff ((env::outer).filterMap (·.frame)) [e] s.heap ((h₁.push { cls:=.type "traceback",dict:=none,data:=.fields ([head,.ref L,.none,rawInt L,.none]++(if pl.isEmpty then List.replicate 6 Value.none else pl)).toArray }).update e (Obj.mapFields (·.setIfInBounds 1 (Value.ref h₁.objs.size)))):=
  Eff.trans (h1:=h₁) ⟨fun b o q _ hb=>(hs₁.2.1 b hb).trans q,fun b o q _ _=>hs₁.2.2 b o q,fun b o q=>by obtain⟨sl,z⟩:=hs₁.2.2 b o q;exact⟨_,z⟩⟩ (Eff.trans (h1:=h₁.push _) ⟨fun b o q _ _=>Heap.get?_push_of_some _ q,fun b o q _ _=>⟨o.slots,Heap.get?_push_of_some _ q⟩,fun b o q=>⟨o,Heap.get?_push_of_some _ q⟩⟩ (Eff.field he₂ hd))
 refine wpAny_setField he₂ hd hsz (h _ h₁.objs.size (by omega) p1 ⟨_,_,p2,rfl,?_⟩ p3)
 simp
def LR(h:Heap)(e:Addr)(cls:Value)(dd:Option Addr):Prop:=∃oe vs,h.get? e=some oe/\oe.cls=cls/\oe.dict=dd/\oe.data = .fields vs/\vs[1]?=some .none
def OG(h:Heap)(e:Addr)(cls:Value)(dd:Option Addr)(T:Addr)(fl:Value):Prop:=
 ∃oe vs oT ts,h.get? e=some oe/\oe.cls=cls/\oe.dict=dd/\oe.data = .fields vs/\vs[1]?=some (.ref T)/\T≠e/\h.get? T=some oT/\oT.data = .fields ts/\ts[3]?=some fl
theorem Vu(o:Obj)(f:Array Value->Array Value):(o.mapFields f).dict=o.dict:=by
 unfold Obj.mapFields
 split<;>rfl
variable {base:Heap} {env:Env} {outer:List Env} {L e T:Addr} {cls fl:Value} {dd:Option Addr} {Q:Unit->Shared->Prop}
theorem IC(hfr:A.frames=some (env::outer))(hl:s.heap.FunFrames base (env::outer))(hf:env.frame=some L)(x:LR s.heap e cls dd)
  (h:∀h' T,s.heap.objs.size<=T->OG h' e cls dd T (rawInt L)->Eff ((env::outer).filterMap (·.frame)) [e] s.heap h'->Q () { s with heap:=h' }):wpAny M A (noteFrame (.ref e) env) Q E s:=by
 obtain⟨oe,vs,he,hc,hdd,hd,h1⟩:=x
 unfold noteFrame;simp only[hf]
 refine wpAny_bind (wpAny_field he hd h1 ?_)
 rw[if_neg (by decide)]
 have hsz:=(Array.getElem?_eq_some_iff.mp h1).1
 refine SY hfr hl hf he hd hsz fun h' T hT p1 ⟨oT,ts,p2,p3,p4⟩ p5=>h h' T hT ⟨_,_,oT,ts,p1,(Obj.cls_mapFields _ _).trans hc,(Vu _ _).trans hdd,Obj.data_mapFields hd _,by simp[hsz],?_,p2,p3,p4⟩ p5
 exact Nat.ne_of_gt (Nat.lt_of_lt_of_le (Heap.lt_size he) hT)
theorem FE(hfr:A.frames=some (env::outer))(hl:s.heap.FunFrames base (env::outer))(hf:env.frame=some L)(x:OG s.heap e cls dd T .none)
  (h:∀h' T',s.heap.objs.size<=T'->OG h' e cls dd T' (rawInt L)->Eff ((env::outer).filterMap (·.frame)) [e,T] s.heap h'->Q () { s with heap:=h' }):wpAny M A (noteFrame (.ref e) env) Q E s:=by
 obtain⟨oe,vs,oT,ts,he,hc,hdd,hd,h1,hTe,hT,hdT,h3⟩:=x
 unfold noteFrame;simp only[hf]
 refine wpAny_bind (wpAny_field he hd h1 ?_)
 rw[if_pos (show(Value.ref T != Value.none)=true from by simp)]
 refine wpAny_bind (wpAny_field hT hdT h3 ?_)
 rw[if_neg (show ¬((Value.none==rawInt L)=true) from by simp[rawInt])]
 refine wpAny_bind (wpAny_setField hT hdT (Array.getElem?_eq_some_iff.mp h3).1 ?_)
 have hsz:=(Array.getElem?_eq_some_iff.mp h1).1
 have ef:Eff ((env::outer).filterMap (·.frame)) [T] s.heap (s.heap.update T (Obj.mapFields (·.setIfInBounds 3 Value.none))):=Eff.field hT hdT
 have hl':=ef.funs hl (fun b hb o q=>by rw[List.mem_singleton.mp hb,hT] at q;cases q;exact⟨_,hdT⟩)
 have he':=(Heap.get?_update_other s.heap (Obj.mapFields (·.setIfInBounds 3 Value.none)) hTe).trans he
 have hz:(s.heap.update T (Obj.mapFields (·.setIfInBounds 3 Value.none))).objs.size=s.heap.objs.size:=by simp
 refine SY (s:={ s with heap:=s.heap.update T (Obj.mapFields (·.setIfInBounds 3 Value.none)) }) hfr hl' hf he' hd hsz fun h' T' hT' p1 ⟨oT',ts',p2,p3,p4⟩ p5=>h h' T' (by rw[<-hz];exact hT') ⟨_,_,oT',ts',p1,(Obj.cls_mapFields _ _).trans hc,(Vu _ _).trans hdd,Obj.data_mapFields hd _,by simp[hsz],?_,p2,p3,p4⟩ ?_
 ·have hT':(s.heap.update T (Obj.mapFields (·.setIfInBounds 3 Value.none))).objs.size<=T':=hT'
  rw[hz] at hT'
  exact Nat.ne_of_gt (Nat.lt_of_lt_of_le (Heap.lt_size he) hT')
 ·exact(ef.mono fun b hb=>by simp at hb;simp[hb]).trans (p5.mono fun b hb=>by simp at hb;simp[hb])
theorem QD(x:OG s.heap e cls dd T fl){fs:List Addr}(h:∀h',OG h' e cls dd T .none->Eff fs [T] s.heap h'->h'.objs.size=s.heap.objs.size->Q () { s with heap:=h' }):wpAny M A (setFlight (.ref e) none) Q E s:=by
 obtain⟨oe,vs,oT,ts,he,hc,hdd,hd,h1,hTe,hT,hdT,h3⟩:=x
 have hsz:=(Array.getElem?_eq_some_iff.mp h3).1
 unfold setFlight
 refine wpAny_bind (wpAny_field he hd h1 ?_)
 rw[if_pos (show(Value.ref T != Value.none)=true from by simp)]
 refine wpAny_setField hT hdT hsz (h _ ⟨oe,vs,_,_,(Heap.get?_update_other _ _ hTe).trans he,hc,hdd,hd,h1,hTe,Heap.get?_update_self _ hT (Obj.isFreed_of_fields (Obj.data_mapFields hdT _)),Obj.data_mapFields hdT _,by simp[hsz]⟩ (Eff.field hT hdT) (by simp))
theorem LS(hfr:A.frames=some (env::outer))(hl:s.heap.FunFrames base (env::outer))(hf:env.frame=some L)(x:LR s.heap e cls dd)
  (h:∀h' T,s.heap.objs.size<=T->OG h' e cls dd T .none->Eff ((env::outer).filterMap (·.frame)) [e] s.heap h'->Q () { s with heap:=h' }):wpAny M A (leaving env (.ref e)) Q E s:=by
 unfold leaving
 refine wpAny_bind (IC hfr hl hf x fun h1 T hT x1 e1=>?_)
 refine QD x1 (fs:=(env::outer).filterMap (·.frame)) fun h2 x2 e2 _=>h h2 T hT x2 ?_
 have nT:∀b o,s.heap.get? b=some o->b≠T:=fun b o q z=>by
  subst z
  exact Nat.lt_irrefl _ (Nat.lt_of_lt_of_le (Heap.lt_size q) hT)
 exact⟨fun b o q hc hf=>e2.keep b o (e1.keep b o q hc hf) (by simpa using nT b o q) hf,fun b o q hc hf=>by
  obtain⟨sl,q1⟩:=e1.slot b o q hc hf
  obtain⟨sl2,q2⟩:=e2.slot b _ q1 (by simpa using nT b o q) hf
  exact⟨sl2,q2⟩,fun b o q=>by
  obtain⟨o1,q1⟩:=e1.there b o q
  exact e2.there b o1 q1⟩
end
section
variable {P:Program} {w:World} {fs ch:List Addr} {H:Hp} {h h':Heap}
theorem NJ(x:HOk P w H h)(e:Eff fs ch h h')(hc:∀b∈ch,H b=none)(hf:∀b∈fs,H b=none):HOk P w H h':=fun a o ha=>
 (x a o ha).stay (fun b u hb q=>by
  have hb':∃o',H b=some o':=by
   rcases hb with z | z
   ·exact⟨o,by rw[z];exact ha⟩
   ·exact⟨_,z⟩
  obtain⟨o',hb'⟩:=hb'
  exact e.keep b u q (fun z=>by rw[hc b z] at hb';cases hb') (fun z=>by rw[hf b z] at hb';cases hb')) (fun _ q=>q) fun _ _ q=>q
end
def Fl(H':Hp)(h0 h:Heap)(e:Addr)(cls:Value)(dd:Option Addr):Prop:=∃T,OG h e cls dd T .none/\H' e=none/\H' T=none/\h0.get? e=none/\h0.get? T=none
def Gb(P:Program)(w:World):Lj:=fun outer H s E v s'=>
 ∃e cls dd H',v = .ref e/\s'.os=s.os/\AllBare s'.gens/\Un (P0 outer) [] H H' s.heap s'.heap/\HOk P w H' s'.heap/\Fl H' s.heap s'.heap e cls dd/\E cls dd H'
section
variable {X:Cx} {pins:List (Addr×Obj)} {Z:L2.St} {H:Hp} {s:Shared} {e:Addr} {cls:Value} {dd:Option Addr} {E:XK}
structure OH(X:Cx)(E:XK):Prop where
 stk:X.stack=X.env::X.outer
 fr:X.env.frame=some X.env.locals
 ex:X.ex=[]
 xe:X.xe=fun v s'=>wpAny (model X.prog X.w) X.A (leaving X.env v) (fun _ s''=>Gb X.prog X.w X.outer X.H₀ X.s₀ E v s'') (fun v' s''=>Gb X.prog X.w X.outer X.H₀ X.s₀ E v' s'') s'
theorem RV(D:OH X E)(I:Inv X pins Z H s){ch:List Addr}{h':Heap}{T:Addr}(hT:X.s₀.heap.get? T=none)(he:X.s₀.heap.get? e=none)(hH:H e=none)(hHT:H T=none)(hc:∀b∈ch,H b=none/\X.s₀.heap.get? b=none)(x:OG h' e cls dd T .none)
  (ef:Eff ((X.env::X.outer).filterMap (·.frame)) ch s.heap h') (q:E cls dd H):Gb X.prog X.w X.outer X.H₀ X.s₀ E (.ref e) { s with heap:=h' }:=by
 have hf:∀b∈(X.env::X.outer).filterMap (·.frame),H b=none:=fun b hb=>by
  have:=I.stkFree b
  rw[D.stk] at this
  exact this hb
 refine⟨e,cls,dd,H,rfl,I.os,I.bare,?_,NJ I.hok ef (fun b hb=>(hc b hb).1) hf,⟨T,x,hH,hHT,he,hT⟩,q⟩
 have ub:=I.base
 have lt:∀b o,X.s₀.heap.get? b=some o->b∉ch:=fun b o z hb=>by rw[(hc b hb).2] at z;cases z
 have nL:∀b o,X.s₀.heap.get? b=some o->b≠X.env.locals:=fun b o z hb=>by
  subst hb
  exact Nat.lt_irrefl _ (Nat.lt_of_lt_of_le (Heap.lt_size z) I.ok.above)
 have mem:∀b o,X.s₀.heap.get? b=some o->(b∈(X.env::X.outer).filterMap (·.frame)↔b∈P0 X.outer):=fun b o z=>by
  rw[List.filterMap_cons_some D.fr,List.mem_cons]
  exact⟨fun h=>h.elim (fun q=>absurd q (nL b o z)) fun q=>q,.inr⟩
 have nex:∀b:Addr,b∉X.ex:=fun b z=>by rw[D.ex] at z;simp at z
 refine⟨fun b o z n hb _=>?_,fun b o z n hb _=>?_,fun b o z n _=>ub.free b o z n (nex b),fun b o z _=>?_,ub.tups,ub.frzs,ub.tbls⟩
 ·exact ef.keep b o (ub.keep b o z n hb (nex b)) (lt b o z) (fun q=>hb ((mem b o z).mp q))
 ·obtain⟨sl,z1⟩:=ub.slot b o z n hb (nex b)
  obtain⟨sl2,z2⟩:=ef.slot b _ z1 (lt b o z) ((mem b o z).mpr hb)
  exact⟨sl2,z2⟩
 ·obtain⟨o1,z1⟩:=ub.there b o z (nex b)
  exact ef.there b o1 z1
theorem Gd(D:OH X E)(I:Inv X pins Z H s)(x:LR s.heap e cls dd)(he:X.s₀.heap.get? e=none)(hH:H e=none)(q:E cls dd H):X.xe (.ref e) s:=by
 rw[D.xe];have hst:=I.stack;rw[D.stk] at hst;have hfr:=I.ok.frames;rw[D.stk] at hfr
 refine LS hfr hst D.fr x fun h' T hT x' ef=>?_
 exact RV D I (Heap.get?_none_of_le (Nat.le_trans I.sz hT)) he hH (I.hok.fresh hT) (fun b hb=>by rw[List.mem_singleton.mp hb];exact⟨hH,he⟩) x' ef q
theorem QE{P:Program}{w:World}{K:PySem.W.Frag}{mg:Str->Option Value}{base:Heap}{N:List Str}{qual:Str}{scope:Scope}{f:Addr}{cd:Value}{A:Around}{outer:List Env}{s:Shared}{H:Hp}{E:XK} :
  OH (U5 (Gb P w) P w K mg base N qual scope f cd A outer s H E) E:=⟨rfl,rfl,rfl,rfl⟩
end
end VX
namespace PySem
open Sem (wp)
section
variable {prog:Program} {w:World} {A:Around} {E:Value->Shared->Prop} {h:Heap} {g:Array GenState} {d:Drawn} {t:Nat} {os:OsState}
variable {nm q:Str} {C N:Addr} {bs bm bmB:List Value} {hdct:Bool} {sn:List Str} {sub:List Value} {ab:Bool} {col:Option Bool} {dd:Option Addr} {k0 k1 k2 k3 k5:Option Value} {B newId initId:String}
theorem Wb(F:ExcBaseFacts B newId initId bmB)(T:OwnTail h bmB bm){mN:Str->Option Value}{rest:List Value}{fI:Addr}{oI:Obj}{Q:Fin->Shared->Prop}
  (hC:h.get? C=some (excClassObj nm q C N bs bm hdct sn sub ab col dd k0 k1 k2 k3 k5 newId)) (hn:h.Ns N mN) (hi:mN "__init__" = some (.ref fI))
  (hfI:h.get? fI=some oI) (hfc:oI.cls = .type "function")
  (hq:∀h',(∀b o,h.get? b=some o->h'.get? b=some o)->h'.get? (h.objs.size+1)=some { cls:=.ref C,data:=.fields #[.ref h.objs.size,.none,.none,.none,.bool false,.none] }->
   wpAny (model prog w) A (call (.ref fI) (.ref (h.objs.size+1)::rest)) (fun r s'=>r = .none/\Q (.done (.ret (.ref (h.objs.size+1)))) s') E ⟨h',g,d,t,os⟩) (hrest:rest.length<=sizeLine:=by size_fits) :
  wpAny (model prog w) A (Builtin.«type.__call__» ⟨.ref C::rest,[]⟩) Q E ⟨h,g,d,t,os⟩:=by
 repeat (first | with_reducible refine wpAny_loadPart_at hC ?_ | with_reducible refine wpAny_madeBy_exc hC ?_ | wp_step)
 refine codeAny_call_builtin_code (Code.quiet_builtin _ F.quiet) (wpAny_check_new_subT F T hC ?_)
 refine codeAny_exc_new_subT F T hC ?_ hrest
 show wpAny _ _ _ _ _ _
 have hC₁:=Heap.get?_push_of_some { cls:=.ref C,data:=.fields #[.ref h.objs.size,.none,.none,.none,.bool false,.none] }
  (Heap.get?_push_of_some { cls:=.type "tuple",data:=.seq rest.toArray } hC)
 have hfI₁:=Heap.get?_push_of_some { cls:=.ref C,data:=.fields #[.ref h.objs.size,.none,.none,.none,.bool false,.none] }
  (Heap.get?_push_of_some { cls:=.type "tuple",data:=.seq rest.toArray } hfI)
 have hn₁:((h.push { cls:=.type "tuple",data:=.seq rest.toArray }).push { cls:=.ref C,data:=.fields #[.ref h.objs.size,.none,.none,.none,.bool false,.none] }).Ns N mN:=
  let⟨o,es,ep,e,r⟩:=hn;⟨o,es,ep,Heap.get?_push_of_some _ (Heap.get?_push_of_some _ e),r⟩
 have hget:((h.push { cls:=.type "tuple",data:=.seq rest.toArray }).push
   { cls:=.ref C,data:=.fields #[.ref h.objs.size,.none,.none,.none,.bool false,.none] }).get? (h.objs.size+1)=some
   { cls:=.ref C,data:=.fields #[.ref h.objs.size,.none,.none,.none,.bool false,.none] }:=by heap_get
 have hcC:(Value.ref C::bm).contains (.ref C)=true:=by simp
 have T₁:=T.keeps (h':=(h.push { cls:=.type "tuple",data:=.seq rest.toArray }).push { cls:=.ref C,data:=.fields #[.ref h.objs.size,.none,.none,.none,.bool false,.none] })
  fun b o e=>Heap.get?_push_of_some _ (Heap.get?_push_of_some _ e)
 unfold isInstance
 repeat (first | with_reducible refine wpAny_loadPart_at hget ?_ | (with_reducible refine wpAny_isSubtype_exc hC₁ ?_;rw[hcC]) | wp_step)
 show wpAny _ _ (typeLookup (.ref C) _) _ _ _
 refine wpAny_typeLookup_tail hC₁ hn₁ T₁ F.mroIs F.init.lookup ?_
 rw[hi]
 refine wpAny_holding (wpAny_bind ?_)
 unfold bindSpecial
 refine wpAny_bind (wpAny_typeOf (T:="function") ⟨_,hfI₁,hfc⟩ ?_)
 rw[if_pos (by decide)]
 refine wpAny_pure (wpAny_bind (wpAny_mono (hq _ (fun b o hb=>Heap.get?_push_of_some _ (Heap.get?_push_of_some _ hb)) hget) (fun r s' hr=>?_) fun _ _ x=>x))
 obtain⟨rfl,hQ⟩:=hr
 wp_walk
 exact hQ
theorem Vv(F:ExcBaseFacts B newId initId bmB)(T:OwnTail h bmB bm){mN:Str->Option Value}{rest:List Value}{fI:Addr}{oI:Obj}{Q:Value->Shared->Prop}
  (hC:h.get? C=some (excClassObj nm q C N bs bm hdct sn sub ab col dd k0 k1 k2 k3 k5 newId)) (hn:h.Ns N mN) (hi:mN "__init__" = some (.ref fI))
  (hfI:h.get? fI=some oI) (hfc:oI.cls = .type "function")
  (hq:∀h',(∀b o,h.get? b=some o->h'.get? b=some o)->h'.get? (h.objs.size+1)=some { cls:=.ref C,data:=.fields #[.ref h.objs.size,.none,.none,.none,.bool false,.none] }->
   wpAny (model prog w) (A.under (.builtin "type.__call__" ⟨.ref C::rest,[]⟩)) (call (.ref fI) (.ref (h.objs.size+1)::rest)) (fun r s'=>r = .none/\Q (.ref (h.objs.size+1)) s') E ⟨h',g,d,t,os⟩) (hrest:rest.length<=sizeLine:=by size_fits) :
  wpAny (model prog w) A (call (.ref C) rest) Q E ⟨h,g,d,t,os⟩:=by
 have f1:=tc_lookup
 have f2:=tc_bind (.ref C)
 have hT:(⟨h,g,d,t,os⟩:Shared).TypeIs (.ref C) "type":=⟨_,hC,rfl⟩
 refine wpAny_call (codeAny_of_tree ?_)
 show wpAny _ _ (callAny (.ref C) _) _ _ _
 repeat (any_goals (first | assumption | with_reducible refine wpAny_loadPart_at hC ?_ | wp_step))
 refine⟨rfl,?_⟩
 refine codeAny_call_builtin_at (Code.quiet_builtin _ (by decide +kernel)) entry_typeCall (wpAny_check_type_call_sub hC (Wb (hrest:=hrest) F T hC hn hi hfI hfc fun h' k1' k2'=>?_))
 exact hq h' k1' k2'
end
section
variable {M:Model} {A:Around} {E:Value->Shared->Prop} {env:Env}
variable {nm q:Str} {C N:Addr} {bs bm bmB:List Value} {hdct:Bool} {sn:List Str} {sub:List Value} {ab:Bool} {col:Option Bool} {dd:Option Addr} {k0 k1 k2 k3 k5:Option Value} {B newId initId:String}
theorem Wc{s:Shared}{x:Sem Value}{Q:Flow->Shared->Prop}(hbase:bm.contains (.type "BaseException")=true)(hh:A.handled=none)
  (h:wpAny M A x (fun v s₁=>∃e t dx,v = .ref e/\s₁.heap.get? C=some (excClassObj nm q C N bs bm hdct sn sub ab col dd k0 k1 k2 k3 k5 newId)/\
   s₁.heap.get? e=some { cls:=.ref C,dict:=dx,data:=.fields #[.ref t,.none,.none,.none,.bool false,.none] }/\E (.ref e) s₁) E s) :
  wpAny M A (raiseStmt env (some x) none) Q E s:=by
 have hcB:(Value.ref C::bm).contains (.type "BaseException")=true:=by rw[List.contains_cons,hbase,Bool.or_true]
 unfold raiseStmt
 refine wpAny_bind (wpAny_mono h (fun v s₁ h₁=>?_) fun _ _ x=>x)
 obtain⟨e,t,dx,rfl,hC,he,hE⟩:=h₁
 obtain⟨hp,g,d,tk,os⟩:=s₁
 repeat (first | with_reducible refine wpAny_loadPart_at he ?_ | with_reducible refine wpAny_loadPart_at hC ?_ | (with_reducible refine wpAny_isSubtype_exc hC ?_;rw[hcB]) | wp_step)
 exact wpAny_raiseNew_none hh hE
end
section
variable {prog:Program} {w:World} {A:Around} {E:Value->Shared->Prop} {s:Shared} {env:Env}
variable {nm q:Str} {C N:Addr} {bs bm bmB:List Value} {hdct:Bool} {sn:List Str} {sub:List Value} {ab:Bool} {col:Option Bool} {dd:Option Addr} {k0 k1 k2 k3 k5:Option Value} {B newId initId:String}
theorem WW(F:ExcBaseFacts B newId initId bmB){mN:Str->Option Value}{x:Str}{np cpos pos:Pos}{args:List Expr}{Q:Flow->Shared->Prop}{fI:Addr}{oI:Obj}
  (hbase:bm.contains (.type "BaseException")=true) (hh:A.handled=none) (hplain:(backTo cpos (starEach args env)).any (·.1)=false) (hi:mN "__init__" = some (.ref fI)) (hfc:oI.cls = .type "function")
  (h:wpAny (model prog w) A (eval (.Name x np) env) (fun f s₁=>f = .ref C/\wpAny (model prog w) A (evalArgs (.ref C) true (backTo cpos (starEach args env)) [])
   (fun a s₂=>a.kw=[]/\a.pos.length<=sizeLine/\s₂.heap.get? C=some (excClassObj nm q C N bs bm hdct sn sub ab col dd k0 k1 k2 k3 k5 newId)/\s₂.heap.Ns N mN/\OwnTail s₂.heap bmB bm/\s₂.heap.get? fI=some oI/\
    ∀h',(∀b o,s₂.heap.get? b=some o->h'.get? b=some o)->h'.get? (s₂.heap.objs.size+1)=some { cls:=.ref C,data:=.fields #[.ref s₂.heap.objs.size,.none,.none,.none,.bool false,.none] }->
     wpAny (model prog w) (A.under (.builtin "type.__call__" ⟨.ref C::a.pos,[]⟩)) (call (.ref fI) (.ref (s₂.heap.objs.size+1)::a.pos)) (fun r s₃=>r = .none/\∃t dx,s₃.heap.get? C=some (excClassObj nm q C N bs bm hdct sn sub ab col dd k0 k1 k2 k3 k5 newId)/\
      s₃.heap.get? (s₂.heap.objs.size+1)=some { cls:=.ref C,dict:=dx,data:=.fields #[.ref t,.none,.none,.none,.bool false,.none] }/\E (.ref (s₂.heap.objs.size+1)) s₃) E { s₂ with heap:=h' }) E s₁) E s) :
  wpAny (model prog w) A (exec (.Raise (some (.Call (.Name x np) args [] cpos)) none pos) env) Q E s:=by
 rw[arm_exec_Raise]
 refine wpAny_bind (wpAny_standAt (Wc (C:=C) (nm:=nm) (q:=q) (N:=N) (bs:=bs) (bm:=bm) (hdct:=hdct) (sn:=sn) (sub:=sub) (ab:=ab) (col:=col) (dd:=dd) (k0:=k0) (k1:=k1) (k2:=k2) (k3:=k3) (k5:=k5) (newId:=newId) hbase hh ?_))
 refine wpAny_bind (wpAny_mono (wpAny_Call_ofName (wpAny_mono h (fun f s₁ h₁=>?_) fun _ _ x=>x)) (fun v s₃ h₃=>wpAny_bind (wpAny_standAt (wpAny_pure h₃))) fun _ _ x=>x)
 obtain⟨rfl,h₁⟩:=h₁
 unfold callWith
 refine wpAny_bind (wpAny_holding (wpAny_mono h₁ (fun a s₂ h₂=>wpAny_bind (wpAny_standAt ?_)) fun _ _ x=>x))
 obtain⟨apos,akw⟩:=a
 obtain⟨hkw,hlen,hC,hn,T,hfI,h₂⟩:=h₂
 obtain rfl:akw=[]:=hkw
 obtain⟨hp,g,d,tk,os⟩:=s₂
 simp only[hplain]
 refine wpAny_bind (wpAny_keeperOf_exc hC ?_)
 refine wpAny_bind (Vv (hrest:=hlen) F T hC hn hi hfI hfc fun h' k1' k2'=>wpAny_mono (h₂ h' k1' k2') (fun r s' hr=>⟨hr.1,wpAny_bind (wpAny_holding (wpAny_point (wpAny_pure ?_)))⟩) fun _ _ x=>x)
 obtain⟨_,t,dx,a1,a2,a3⟩:=hr
 exact⟨_,t,dx,rfl,a1,a2,a3⟩
end
end PySem
namespace VX
open PySem PySem.W PySem.Spec PyProof.Rows Builtin Builtin.ObjectAttr
def OI:List Value:=[.type "ValueError",.type "Exception",.type "BaseException",.type "object"]
def OJ:List Value->Bool
 | .ref _::r=>OJ r
 | l=>l==OI
def veOver(K:Frag)(C:Addr):Bool:=(clsIn K C).any fun cd=>OJ cd.mro
theorem JH{l:List Value}(h:OJ l=true):(∀self,refuseLoop self "__setattr__" l=pure ())/\l.contains (.type "object")=true/\l.isEmpty=false:=by
 induction l with
 | nil=>exact absurd h (by decide)
 | cons x r ih=>
  by_cases q:∃c,x = .ref c
  ·obtain⟨c,rfl⟩:=q
   have:=ih h
   exact⟨fun self=>by rw[refuseLoop_ref];exact this.1 self,by rw[List.contains_cons,this.2.1,Bool.or_true],rfl⟩
  ·have e:x::r=OI:=by
    have h':(x::r==OI)=true:=by
     cases x<;>first | exact h | exact absurd ⟨_,rfl⟩ q
    exact eq_of_beq h'
   rw[e]
   exact⟨fun self=>PySem.F.store_ValueError.passes self,by decide,rfl⟩
section
variable {prog:Program} {w:World} {A:Around} {R:Result->Shared->Prop} {E:Value->Shared->Prop} {s:Shared} {K:Frag} {x C:Addr} {ox:Obj} {name:Str} {tk:Tok} {v:Value}
theorem MH{od:Option Obj}(X:K.In s.heap)(I:InstAt s.heap x ox C od)(hp:veOver K C=true)(ht:takerIn K C name=some none)
  (h:∀b,wpAny (model prog w) A.in1 (storeInOwnDict (.ref x) (.ref C) (.str name tk) name v b)
   (fun fin s'=>match fin with | .done f=>R (.ok f) s' | .again c'=>c'.quiet=true/\codeAny (model prog w) A c' R s') (fun e s'=>R (.error e) s') s) :
  codeAny (model prog w) A (.call (.builtin "object.__setattr__") ⟨[.ref x,.str name tk,v],[]⟩) R s:=by
 have SF:=PySem.F.store_object
 obtain⟨cd,hc,ho⟩:=any_some hp
 obtain⟨o1,o2,o3⟩:=JH ho
 have sub:Looks (model prog w) s.heap (isInstance (.ref x) (.type "object")) true:=I.type.andThen (looks_mroIn X (by unfold mroIn;rw[hc,Option.bind_some,if_neg (by rw[o3];decide),o2]))
 refine codeAny_call_builtin SF.slot.plain SF.entry (@check_slot (model prog w) _ _ s "object.__setattr__" "object" "__setattr__" (.ref x) [.str name tk,v] [] _ SF.kind SF.split sub (SF.args (.ref x) (.str name tk) v) ?_)
 obtain⟨attr,ha,hr⟩:=Option.bind_eq_some_iff.mp ht
 have hm:Looks (model prog w) s.heap (mroOf (.ref C)) cd.mro:=(looks_clsIn X hc).andThen .now
 have L3:Looks (model prog w) s.heap (storeTaker? attr) none:=by
  cases attr with
  | none=>exact .now
  | some a=>
   obtain⟨b,hb,hz⟩:=Option.map_eq_some_iff.mp hr
   refine(looks_takesIn X hb).andThen ?_
   cases b with
   | false=>exact .now
   | true=>cases hz
 rw[osa_eq,refuse_eq]
 refine wpAny_bind (wpAny_bind (I.type.here (wpAny_bind (hm.here ?_))))
 rw[o1]
 refine wpAny_pure (wpAny_bind (I.type.here (wpAny_bind ((looks_findIn X ha).here (wpAny_bind (L3.here ?_))))))
 exact h _
theorem RF{Q:Unit->Shared->Prop}(X:K.In s.heap)(hx:s.heap.get? x=some ox)(hcl:ox.cls = .ref C)(hno:notCls ox=true)(hd:ox.dict=none)(hs:findIn K (.ref C) "__setattr__" = some (some (.builtin "object.__setattr__")))
  (hp:veOver K C=true) (ht:takerIn K C name=some none) (hh:(clsIn K C).any (·.hasDict)=true)
  (hq:∀h' tk' dx,(∀b o,b≠x->s.heap.get? b=some o->h'.get? b=some o)->h'.get? x=some { ox with dict:=some dx }->s.heap.objs.size<=dx->dx≠x->h'.Ns1 dx (fun y=>if y=name then some v else none)->Q () { s with heap:=h',toks:=tk' }) :
  wpAny (model prog w) A (setAttr (.ref x) name v) Q E s:=by
 have I:InstAt s.heap x ox C none:=⟨hx,hcl,hno,by rw[hd];trivial⟩
 refine set_plain X I hs ?_
 have X':K.In (({ s with toks:=s.toks+1 }:Shared)).heap:=X
 refine MH (s:={ s with toks:=s.toks+1 }) (od:=none) X' I hp ht fun b=>?_
 obtain⟨cd,hc,hdd⟩:=any_some hh
 obtain⟨hp',g,d,t,os⟩:=s
 obtain⟨oc,odi,oda,osl⟩:=ox
 dsimp only at hcl hd hx
 subst hcl hd
 have nc:∀c,oda≠.cls c:=fun c z=>by subst z;simp[notCls] at hno
 have hxs:x≠hp'.objs.size:=Nat.ne_of_lt (Heap.lt_size hx)
 have hx₁:(hp'.push { cls:=.type "dict",data:=.dict #[] }).get? x=some ⟨.ref C,none,oda,osl⟩:=Heap.get?_push_of_some _ hx
 refine wpAny_bind (wpAny_pure (wpAny_bind (wpAny_bind (wpAny_loadPart hx (wpAny_bind ((looks_clsIn X hc) _ _ _ _ (fun _ _ e=>e) ?_))))))
 rw[hdd]
 dsimp only
 rw[if_neg (by decide),if_neg (by simp[typeHasDict])]
 split
 ·rename_i hcd
  exact absurd rfl (nc _)
 refine wpAny_bind (wpAny_alloc' ?_)
 refine wpAny_bind (wpAny_update' hx₁ ?_)
 refine wpAny_pure ?_
 have hgd:((hp'.push { cls:=.type "dict",data:=.dict #[] }).update x fun o=>{ cls:=o.cls,dict:=some hp'.objs.size,data:=o.data,slots:=o.slots }).get? hp'.objs.size
   = some { cls:=.type "dict",data:=.dict #[] }:=
  (Heap.get?_update_ne _ _ _ _ hxs.symm).trans (Heap.get?_push_at rfl rfl)
 have hnd:((hp'.push { cls:=.type "dict",data:=.dict #[] }).update x fun o=>{ cls:=o.cls,dict:=some hp'.objs.size,data:=o.data,slots:=o.slots }).Ns hp'.objs.size (fun _=>none):=
  ⟨_,#[],_,hgd,rfl,fun e he=>absurd he (by simp),fun _=>rfl⟩
 show wpAny _ _ (storeInDict hp'.objs.size (.str name t) name v) _ _ _
 unfold storeInDict newKeyGuard
 refine wpAny_bind (wpAny_pure (wpAny_bind (wpAny_nsSet1 (Heap.Ns1.of_empty hnd) fun h' hn' hs'=>?_)))
 obtain⟨oD,esD,epD,hoD,hdD,hcD⟩:=hn'.count (Within.cons name v Within.nil)
 refine wpAny_bind (wpAny_lookBehind hoD (by rw[hdD];exact pastItsLine_dict (Nat.le_trans hcD (by rw[List.length_cons,List.length_nil,sizeLine_eq];omega))) ?_)
 refine wpAny_pure ?_
 have hx':h'.get? x=some { cls:=.ref C,dict:=some hp'.objs.size,data:=oda,slots:=osl }:=?_
 ·exact hq h' _ hp'.objs.size (fun b ob hbx hb=>(hs'.2 b (Nat.ne_of_lt (Heap.lt_size hb))).trans ((Heap.get?_update_ne _ _ _ _ hbx).trans (Heap.get?_push_of_some _ hb))) hx' (Nat.le_refl _) hxs.symm hn'
 ·refine(hs'.2 x hxs).trans (Heap.get?_update_self _ hx₁ ?_)
  have hfr:=(Heap.get?_some_iff.mp hx).2
  cases oda<;>first | rfl | exact hfr
end
section
variable {prog:Program} {w:World} {A:Around} {E:Value->Shared->Prop} {h:Heap} {g:Array GenState} {d:Drawn} {t:Nat} {os:OsState}
variable {nm q:Str} {C N:Addr} {bs bm bmB:List Value} {hdct:Bool} {sn:List Str} {sub:List Value} {ab:Bool} {col:Option Bool} {dd:Option Addr} {k0 k1 k2 k3 k5:Option Value} {B newId initId:String}
abbrev NK(C:Addr)(t:Addr):Obj:={ cls:=.ref C,data:=.fields #[.ref t,.none,.none,.none,.bool false,.none] }
theorem MI{e t0:Addr}{v:Value}{Q:Value->Shared->Prop}(F:ExcBaseFacts B newId initId bmB)(T:OwnTail h bmB bm)(hC:h.get? C=some (excClassObj nm q C N bs bm hdct sn sub ab col dd k0 k1 k2 k3 k5 newId))
  (he:h.get? e=some (NK C t0)) (hq:∀h',(∀b o,b≠e->h.get? b=some o->h'.get? b=some o)->h'.get? e=some (NK C h.objs.size)->h'.get? h.objs.size=some { cls:=.type "tuple",data:=.seq #[v] }->Q .none ⟨h',g,d,t,os⟩) :
  wpAny (model prog w) A (call (.builtin initId) [.ref e,v]) Q E ⟨h,g,d,t,os⟩:=by
 refine wpAny_call (codeAny_call_builtin F.init.plain F.initEntry (wpAny_check_init_subT F T hC he rfl ?_))
 wp_walk
 have hne:e≠h.objs.size:=Nat.ne_of_lt (Heap.lt_size he)
 refine hq _ (fun b o hb q=>?_) ?_ ?_
 ·rw[Heap.get?_update_other _ _ hb.symm]
  exact Heap.get?_push_of_some _ q
 ·rw[Heap.get?_update_self _ (Heap.get?_push_of_some _ he) rfl]
  rfl
 ·rw[Heap.get?_update_other _ _ hne]
  exact Heap.get?_push_at rfl rfl
end
end VX
namespace VX
open PySem PySem.Spec PyProof.Rows L2
theorem MJ(is:List Int):PyData.shownAll (is.map PyData.int)=is.map fun i=>Str.ofString (toString i):=by
 induction is with
 | nil=>rfl
 | cons i r ih=>rw[List.map_cons,PyData.shownAll,ih];rfl
theorem QG{is:List Int}(h:∀i∈is,i.natAbs.log2<1920):PyData.showableAll (is.map PyData.int)=true:=by
 induction is with
 | nil=>rfl
 | cons i r ih=>
  rw[List.map_cons,PyData.showableAll,ih fun j hj=>h j (by simp[hj])]
  simp[PyData.showable,h i (by simp)]
theorem OK(is:List Int):PyData.hasDictAll (is.map PyData.int)=false:=by
 induction is with
 | nil=>rfl
 | cons i r ih=>rw[List.map_cons,PyData.hasDictAll,ih];rfl
theorem RW{h:Heap}:∀{is:List Int}{us:List Value},Vals (is.map V.int) us->ReadsAll h us (is.map PyData.int) []
 | [],_,.nil=>.nil
 | i::r,_,.cons h1 h2=>by
  obtain⟨t,rfl⟩:=h1
  exact ReadsAll.cons (as:=[]) (bs:=[]) (.int i t) (RW h2)
theorem MK(is:List Int):PyData.depthAll (is.map PyData.int)<=1:=by
 induction is with
 | nil=>decide
 | cons i r ih=>
  rw[List.map_cons,PyData.depthAll];simp[PyData.depth];omega
end VX
namespace VX
open PySem PySem.Spec PyProof.Rows L2 VL
abbrev XR:=ZE->Option Str
def EW(K:PySem.W.Frag)(O:List Nat)(fx:XR)(E:XK):TS:=fun _ Z H=>∃H0 fps s n,Rel K O H0 fps s Z H/\fx s=some n/\∀C H',PySem.W.nsIn K mainGlobals n=some (some (.ref C))->Same H0 H'->E (.ref C) none H'
def VX(X:Cx)(O:List Nat)(E:XK)(st:Stmt)(fx:XR):Prop:=PS X st (EW X.K O fx E)
section
variable {X:Cx} {O W:List Nat} {E:XK} {C:Addr} {bmB:List Value} {B newId initId:String} {x y:Str} {np cpos pos p1 p2 p3:Pos} {jj k:Nat} {e:Expr} {f:XE}
variable {st:Stmt} {rest a b:List Stmt} {c:Expr} {fc:XT} {f1 g1:XR} {fs:XS}
theorem ML{t:TS}(h1:PS X st t)(hx:∀D D' Z H,t D Z H->t D' Z H):PSs X (st::rest) (fun _ Z H=>t { nx:=fun _ _=>False,rt:=fun _ _=>False } Z H):=by
 intro pins s Z H D I h
 refine wpAny_execs_cons (Ya (h1 pins s Z H { nx:=fun _ _=>False,rt:=fun _ _=>False } I h) fun f s1 q=>?_)
 cases f with
 | next=>obtain⟨_,_,_,z⟩:=q;exact z.elim
 | ret u=>obtain⟨_,_,_,_,_,z⟩:=q;exact z.elim
 | brk=>obtain⟨_,_,_,z⟩:=q;exact z.elim
 | cont=>obtain⟨_,_,_,z⟩:=q;exact z.elim
end
structure CalX(P:Program)(w:World)(K:PySem.W.Frag)(mg:Str->Option Value)(base:Heap)(x:Str)(ps:List Str)(sp:Sp)(k:Nat):Prop where
 ex:∃f fd,mg x=some (.ref f)/\PySem.W.keepIn K (.ref f)=true/\Binds K fd ps []/\Vg P w K mg base (Gb P w) k f fd ps sp
section
variable {X:Cx} {pins:List (Addr×Obj)} {Z:L2.St} {H:Hp} {s:Shared}
theorem MM{A:Around}{E:Value->Shared->Prop}{i:Nat}{n:Str}{pos:Pos}{Q:Unit->Shared->Prop}(I:Inv X pins Z H s)(hN:X.N.Nodup)(hi:X.N[i]?=some n)(hk:X.env.scope.names.lookup n=some .local)
  (h:∀s',Inv X pins (Z.set i none) H s'->Q () s'):wpAny (model X.prog X.w) A (do bindName X.env n .none;unbindBehindTheSuite X.env n pos) Q E s:=by
 refine wpAny_bind (wpAny_bindName (Wt I hN hi (.inl hk) (v:=.non) (u:=Value.none) rfl (fun s1 I1=>?_) (.inr hk)))
 unfold unbindBehindTheSuite
 refine wpAny_onRaise ?_
 have hcls:(X.env.scope.kind==.class || (X.env.scope.kind==.module&&X.env.locals != X.env.globals))=false:=by rw[I.ok.kind];rfl
 have hiZ:i<Z.length:=by rw[I.len];exact(List.getElem?_eq_some_iff.mp hi).1
 obtain⟨m,hn,hl⟩:=id I1.loc
 obtain⟨u,ru,lk⟩:=hl i n .non hi (by rw[List.getElem?_set_self hiZ]) (.inl hk)
 have hkl:X.env.kindOf n=some .local:=hk
 have hv:m n=some u:=by
  rcases lk with⟨_,z⟩ | ⟨z,_⟩
  ·exact z
  ·rw[hkl] at z;rcases z with z | z<;>cases z
 have cne:=I1.cne
 refine wpAny_unbindName_local hkl hn hv hcls fun h' u' hn' hs=>h _ ?_
 obtain⟨oL,_,_,hoL,_⟩:=id hn
 refine⟨I1.ok,I1.os,I1.bare,⟨fun b o e n hb hx=>?_,fun b o e n hb hx=>?_,I1.base.free,fun b o e hx=>?_,I1.base.tups,I1.base.frzs,I1.base.tbls⟩,⟨_,hn',fun j y v' e1 e2 e3=>?_⟩,fun y c e=>?_,I1.free,I1.freeC,fun p hp=>?_,fun b ob e=>?_,by have:=I1.len;simpa using this⟩
 ·exact(hs.2 b (Nat.ne_of_lt (Nat.lt_of_lt_of_le (Heap.lt_size e) I1.ok.above))).trans (I1.base.keep b o e n hb hx)
 ·obtain⟨sl,e1⟩:=I1.base.slot b o e n hb hx
  exact⟨sl,(hs.2 b (Nat.ne_of_lt (Nat.lt_of_lt_of_le (Heap.lt_size e) I1.ok.above))).trans e1⟩
 ·obtain⟨o',e1⟩:=I1.base.there b o e hx
  exact⟨o',(hs.2 b (Nat.ne_of_lt (Nat.lt_of_lt_of_le (Heap.lt_size e) I1.ok.above))).trans e1⟩
 ·by_cases hj:j=i
  ·subst hj
   rw[List.getElem?_set_self hiZ] at e2;cases e2
  ·have e2':(Z.set i (some V.non))[j]?=some (some v'):=by rw[List.getElem?_set_ne (Ne.symm hj)] at e2 ⊢;exact e2
   obtain⟨u2,r2,q⟩:=hl j y v' e1 e2' e3
   refine⟨u2,r2,?_⟩
   rcases q with⟨k,e⟩ | ⟨k,c,e,z⟩
   ·refine .inl ⟨k,?_⟩
    have:y≠n:=fun e=>hj (Sd hN e1 (e▸hi))
    simp[this,e]
   ·exact .inr ⟨k,c,e,z.sameBut hs (cne y c e)⟩
 ·obtain⟨w',z⟩:=I1.cell y c e
  exact⟨w',z.sameBut hs (cne y c e)⟩
 ·obtain⟨e,n,ne,nf,d⟩:=I1.pin p hp
  exact⟨(hs.2 p.1 ne).trans e,n,ne,nf,d⟩
 ·refine(I1.hok b ob e).stay (fun c w' hc q=>(hs.2 c ?_).trans q) (fun _ q=>q) fun _ _ q=>q
  rintro rfl
  have hf:=I1.free
  rcases hc with rfl | hc
  ·rw[hf] at e;cases e
  ·rw[hf] at hc;cases hc
abbrev Cx.mark(X:Cx)(e:Addr):Cx:={ X with A:=X.A.mark (some (.ref e)),calm:=false,xe:=fun _ _=>False }
theorem Pt{e:Addr}(I:Inv X pins Z H s):Inv (Cx.mark X e) pins Z H s:=
 ⟨⟨I.ok.mod,I.ok.kind,I.ok.glob,I.ok.blt,I.ok.above,I.ok.inj,I.ok.has,I.ok.cab,(fun z=>by cases z),I.ok.frames,I.ok.stk,I.ok.exf,I.ok.bs,I.ok.bsz,I.ok.noex,I.ok.exfs,I.ok.funs,I.ok.frf⟩,I.os,I.bare,I.base,I.loc,I.cell,I.free,I.freeC,I.pin,I.hok,I.len⟩
theorem OL{e:Addr}(ok:X.Ok)(I:Inv (Cx.mark X e) pins Z H s):Inv X pins Z H s:=
 ⟨ok,I.os,I.bare,I.base,I.loc,I.cell,I.free,I.freeC,I.pin,I.hok,I.len⟩
def ID(X:Cx)(pins:List (Addr×Obj))(b:Addr):Prop:=X.s₀.heap.get? b=none/\b≠X.env.locals/\(∀x c,X.env.cells.lookup x=some c->c≠b)/\∀p∈X.pn++pins,p.1≠b
theorem QH{b:Addr}(I:Inv X pins Z H s)(hx:X.ex=[])(h:s.heap.get? b=none):ID X pins b:=by
 refine⟨?_,fun z=>?_,fun x c hc z=>?_,fun p hp z=>?_⟩
 ·cases r:X.s₀.heap.get? b with
  | none=>rfl
  | some o=>
   obtain⟨o',r'⟩:=I.base.there b o r (by rw[hx];simp)
   rw[h] at r';cases r'
 ·obtain⟨m,⟨o,_,_,ho,_⟩,_⟩:=I.loc
  rw[z,ho] at h;cases h
 ·obtain⟨v,o,ho,_⟩:=I.cell x c hc
  rw[z] at ho;rw[ho] at h;cases h
 ·have:=(I.pin p hp).1
  rw[z] at this;rw[this] at h;cases h
theorem QI{ch:List Addr}{h':Heap}(I:Inv X pins Z H s)(hx:X.ex=[])(hfr:X.env.frame=some X.env.locals)(ef:Eff ((X.env::X.outer).filterMap (·.frame)) ch s.heap h')(hc:∀b∈ch,H b=none/\ID X pins b)(hst:X.stack=X.env::X.outer):Inv X pins Z H { s with heap:=h' }:=by
 have hf:∀b∈(X.env::X.outer).filterMap (·.frame),H b=none:=fun b hb=>by
  have:=I.stkFree b
  rw[hst] at this
  exact this hb
 have lt:∀b o,X.s₀.heap.get? b=some o->b∉ch:=fun b o z hb=>by rw[(hc b hb).2.1] at z;cases z
 have nL:∀b o,X.s₀.heap.get? b=some o->b≠X.env.locals:=fun b o z hb=>by
  subst hb
  exact Nat.lt_irrefl _ (Nat.lt_of_lt_of_le (Heap.lt_size z) I.ok.above)
 have mem:∀b,b≠X.env.locals->(b∈(X.env::X.outer).filterMap (·.frame)↔b∈X.fs):=fun b z=>by
  rw[List.filterMap_cons_some hfr,List.mem_cons]
  exact⟨fun h=>h.elim (fun q=>absurd q z) fun q=>q,.inr⟩
 have any:∀b o,s.heap.get? b=some o->b∉ch->∃sl,h'.get? b=some { o with slots:=sl }:=fun b o q hb=>by
  by_cases z:b∈(X.env::X.outer).filterMap (·.frame)
  ·exact ef.slot b o q hb z
  ·exact⟨o.slots,ef.keep b o q hb z⟩
 obtain⟨m,⟨oL,es,ep,hoL,rL⟩,hl⟩:=id I.loc
 have nLc:X.env.locals∉ch:=fun z=>(hc _ z).2.2.1 rfl
 obtain⟨slL,hL⟩:=any _ _ hoL nLc
 have cellK:∀c v,(∀b∈ch,c≠b)->s.heap.IsCell c v->h'.IsCell c v:=fun c v hne ⟨o,ho,hd⟩=>by
  obtain⟨sl,q⟩:=any c o ho fun z=>hne c z rfl
  exact⟨_,q,hd⟩
 have cne:∀x c,X.env.cells.lookup x=some c->∀b∈ch,c≠b:=fun x c q b hb=>(hc b hb).2.2.2.1 x c q
 refine⟨I.ok,I.os,I.bare,⟨fun b o e n hb hx'=>?_,fun b o e n hb hx'=>?_,I.base.free,fun b o e hx'=>?_,I.base.tups,I.base.frzs,I.base.tbls⟩,⟨m,⟨_,es,ep,hL,rL⟩,fun j y v' e1 e2 e3=>?_⟩,fun y c e=>?_,I.free,I.freeC,fun p hp=>?_,NJ I.hok ef (fun b hb=>(hc b hb).1) hf,I.len⟩
 ·exact ef.keep b o (I.base.keep b o e n hb hx') (lt b o e) fun z=>hb ((mem b (nL b o e)).mp z)
 ·obtain⟨sl,z1⟩:=I.base.slot b o e n hb hx'
  obtain⟨sl2,z2⟩:=ef.slot b _ z1 (lt b o e) ((mem b (nL b o e)).mpr hb)
  exact⟨sl2,z2⟩
 ·obtain⟨o1,z1⟩:=I.base.there b o e hx'
  exact ef.there b o1 z1
 ·obtain⟨u',r',q⟩:=hl j y v' e1 e2 e3
  refine⟨u',r',?_⟩
  rcases q with q | ⟨k,c,e,z⟩
  ·exact .inl q
  ·exact .inr ⟨k,c,e,cellK c _ (cne y c e) z⟩
 ·obtain⟨w',z⟩:=I.cell y c e
  exact⟨w',cellK c _ (cne y c e) z⟩
 ·obtain⟨e,n,ne,nf,d⟩:=I.pin p hp
  exact⟨ef.keep p.1 p.2 e (fun z=>(hc _ z).2.2.2.2 p hp rfl) (fun z=>nf ((mem p.1 ne).mp z)),n,ne,nf,d⟩
theorem RX{e:Addr}{oe:Obj}(I:Inv X pins Z H s)(he:s.heap.get? e=some oe)(hH:H e=none)(ho:ID X pins e):Inv X pins Z (upd H e (.frz oe (.own e))) s:=by
 have ne:∀b u,H b=some u->b≠e:=fun b u q z=>by rw[z,hH] at q;cases q
 refine⟨I.ok,I.os,I.bare,⟨I.base.keep,I.base.slot,fun b o q n hx=>?_,I.base.there,fun b xs q=>?_,fun b o u q=>?_,fun b ps q=>?_⟩,I.loc,I.cell,?_,fun x c q=>?_,fun p hp=>?_,fun b u q=>?_,I.len⟩
 ·rw[upd_ne (fun z=>by rw[z,ho.1] at q;cases q)];exact I.base.free b o q n hx
 ·have:=I.base.tups b xs q;rw[upd_ne (ne _ _ this)];exact this
 ·have:=I.base.frzs b o u q;rw[upd_ne (ne _ _ this)];exact this
 ·obtain⟨more,z⟩:=I.base.tbls b ps q
  exact⟨more,by rw[upd_ne (ne _ _ z)];exact z⟩
 ·rw[upd_ne (Ne.symm ho.2.1)];exact I.free
 ·rw[upd_ne (ho.2.2.1 x c q)];exact I.freeC x c q
 ·obtain⟨e1,n,r⟩:=I.pin p hp
  exact⟨e1,by rw[upd_ne (ho.2.2.2 p hp)];exact n,r⟩
 ·by_cases z:b=e
  ·subst z
   rw[upd_same] at q;cases q
   exact⟨he,_,he⟩
  ·rw[upd_ne z] at q
   exact(I.hok b u q).stay (fun _ _ _ r=>r) (fun c r=>by rw[upd_ne (ne _ _ r)];exact r) fun c xs r=>by rw[upd_ne (ne _ _ r)];exact r
end
section
variable {M:Model} {A:Around} {E:Value->Shared->Prop}
variable {nm q nm' q':Str} {C N Cb N':Addr} {bs bm bs' bm':List Value} {hdct hdct':Bool} {sn sn':List Str} {sub sub':List Value} {ab ab':Bool} {col col':Option Bool} {dd dd':Option Addr} {k0 k1 k2 k3 k5 j0 j1 j2 j3 j5:Option Value} {newId newId':String}
theorem Pu{h:Heap}{g:Array GenState}{d:Drawn}{t:Nat}{os:OsState}{e:Addr}{oe:Obj}{Q:Bool->Shared->Prop}
  (hC:h.get? C=some (excClassObj nm q C N bs bm hdct sn sub ab col dd k0 k1 k2 k3 k5 newId)) (hB:h.get? Cb=some (excClassObj nm' q' Cb N' bs' bm' hdct' sn' sub' ab' col' dd' j0 j1 j2 j3 j5 newId')) (he:h.get? e=some oe) (hcls:oe.cls = .ref C) (hbase:bm'.contains (.type "BaseException")=true)
  (hq:Q ((Value.ref C::bm).contains (.ref Cb)) ⟨h,g,d,t,os⟩):wpAny M A (excMatches (.ref e) (.ref Cb)) Q E ⟨h,g,d,t,os⟩:=by
 have hcB:(Value.ref Cb::bm').contains (.type "BaseException")=true:=by rw[List.contains_cons,hbase,Bool.or_true]
 have f:=tc_notTuple;unfold excMatches
 cases hcC:(Value.ref C::bm).contains (.ref Cb) with
 | true=>
  rw[hcC] at hq
  repeat (first | (with_reducible refine wpAny_loadPart_at he ?_;rw[hcls]) | with_reducible refine wpAny_loadPart_at hB ?_ | (with_reducible refine wpAny_isSubtype_exc hB ?_;rw[hcB]) | (with_reducible refine wpAny_isSubtype_exc hC ?_;rw[hcC]) | wp_step)
  exact hq
 | false=>
  rw[hcC] at hq
  repeat (first | (with_reducible refine wpAny_loadPart_at he ?_;rw[hcls]) | with_reducible refine wpAny_loadPart_at hB ?_ | (with_reducible refine wpAny_isSubtype_exc hB ?_;rw[hcB]) | (with_reducible refine wpAny_isSubtype_exc hC ?_;rw[hcC]) | wp_step)
  exact hq
end
def belowIn(K:PySem.W.Frag)(C Cb:Addr):Bool:=match K.lookup C with
 | some ⟨_,_,.cls cd,_⟩=>cd.mro.contains (.ref Cb)
 | _=>false
theorem LU{K:PySem.W.Frag}{h:Heap}{C Cb:Addr}{nm qn:Str}{N:Addr}{bs bm:List Value}{hdct:Bool}{sn:List Str}{sub:List Value}{ab:Bool}{col:Option Bool}{dd:Option Addr}{k0 k1 k2 k3 k5:Option Value}{newId:String}(X:K.In h)(e:belowIn K C Cb=true)
  (hC:h.get? C=some (excClassObj nm qn C N bs bm hdct sn sub ab col dd k0 k1 k2 k3 k5 newId)):(Value.ref C::bm).contains (.ref Cb)=true:=by
 unfold belowIn at e
 split at e
 ·rename_i ho
  have:=X _ _ ho
  rw[hC] at this;cases this;exact e
 ·cases e
section
variable {X:Cx} {pins:List (Addr×Obj)} {Z:L2.St} {H:Hp} {s:Shared} {e T C Cb:Addr} {dd:Option Addr} {cx n:Str} {np pos:Pos} {b₀:Stmt} {suite:List Stmt} {rest:List ExceptHandler} {ts:TS} {D:Wu} {i:Nat}
def LV(i:Nat)(D:Wu):Wu:={ nx:=fun Z H=>D.nx (Z.set i none) H,rt:=D.rt,bk:=fun Z H=>D.bk (Z.set i none) H,ct:=fun Z H=>D.ct (Z.set i none) H }
theorem Ey(I:Inv X pins Z H s)(hx:X.ex=[])(hst:X.stack=X.env::X.outer)(hfr:X.env.frame=some X.env.locals)(x:OG s.heap e (.ref C) dd T .none)(hH:H e=none)(hHT:H T=none)(oe:ID X pins e)(oT:ID X pins T)
  (hN:X.N.Nodup) (hi:X.N[i]?=some n) (hk:X.env.scope.names.lookup n=some .local) (hg:Gl X cx) (hm:X.mg cx=some (.ref Cb)) (hC:PySem.W.ktsIn X.K C "BaseException" = true) (hB:PySem.W.ktsIn X.K Cb "BaseException" = true) (hb:belowIn X.K C Cb=true)
  (hs:PSs (Cx.mark X e) (b₀::suite) ts) (q:∀oe:Obj,oe.cls = .ref C->oe.dict=dd->(∃vs,oe.data = .fields vs)->ts (LV i D) (Z.set i (some (.ref e))) (upd H e (.frz oe (.own e))))
  (hdb:(cx==("__debug__" : Str))=false:=by decide) :
  wpAny (model X.prog X.w) X.A (noteFrame (.ref e) X.env) (fun _ s₂=>wpAny (model X.prog X.w) X.A (setFlight (.ref e) none) (fun _ s₃=>
   wpAny (model X.prog X.w) X.A (handleBy (.ref e) X.env (.ExceptHandler (some (.Name cx np)) (some n) (b₀::suite) pos::rest)) (SP X pins D) X.xe s₃) X.xe s₂) X.xe s:=by
 have hstk:=I.stack;rw[hst] at hstk;have hfrs:=I.ok.frames;rw[hst] at hfrs
 refine FE hfrs hstk hfr x fun h1 T' hT' x1 e1=>?_
 have I1:Inv X pins Z H { s with heap:=h1 }:=QI I hx hfr e1 (fun b hb=>by
  rcases List.mem_cons.mp hb with z | z
  ·rw[z];exact⟨hH,oe⟩
  ·rw[List.mem_singleton.mp z];exact⟨hHT,oT⟩) hst
 have oT':ID X pins T':=QH I hx (Heap.get?_none_of_le hT')
 have hHT':H T'=none:=I.hok.fresh hT'
 have tch:∀b∈[T'],H b=none/\ID X pins b:=fun b hb=>by rw[List.mem_singleton.mp hb];exact⟨hHT',oT'⟩
 refine QD x1 (fs:=(X.env::X.outer).filterMap (·.frame)) fun h2 x2 e2 _=>?_
 have I2:Inv X pins Z H { s with heap:=h2 }:=QI (s:={ s with heap:=h1 }) I1 hx hfr e2 tch hst
 refine wpAny_handleBy_cons (codeAny_handlers_test ?_) (by intro z;cases z)
 have I2m:Inv (Cx.mark X e) pins Z H { s with heap:=h2 }:=Pt I2
 refine WG (X:=Cx.mark X e) I2m hg hm ?_ hdb
 obtain⟨nm,qn,N,bs,bm,hdct,sn,sub,ab,col,dc,k0,k1,k2,k3,k5,nid,hCo,_,_⟩:=PySem.W.kts_cls I2.kIn hC
 obtain⟨nm',qn',N',bs',bm',hdct',sn',sub',ab',col',dc',j0,j1,j2,j3,j5,nid',hBo,hbase,_⟩:=PySem.W.kts_cls I2.kIn hB
 obtain⟨ob,vs,oT2,tsx,heo,hcls,hdd,hdat,_⟩:=id x2
 refine Pu hCo hBo heo hcls hbase ?_
 rw[LU I2.kIn hb hCo]
 refine codeAny_handlers_suite_as ?_
 refine QD (s:={ s with heap:=h2 }) x2 (fs:=(X.env::X.outer).filterMap (·.frame)) fun h3 x3 e3 _=>?_
 have I3:Inv X pins Z H { s with heap:=h3 }:=QI (s:={ s with heap:=h2 }) I2 hx hfr e3 tch hst
 obtain⟨ob3,vs3,oT3,ts3,heo3,hcls3,hdd3,hdat3,_⟩:=id x3
 have I4:=RX (s:={ s with heap:=h3 }) I3 heo3 hH oe
 refine Wt (X:=Cx.mark X e) (Pt I4) hN hi (.inl hk) (v:=.ref e) (u:=.ref e) rfl (fun s5 I5=>?_) (.inr hk)
 refine wpAny_mono (hs pins s5 _ _ (LV i D) I5 (q ob3 hcls3 hdd3 ⟨_,hdat3⟩)) (fun f s6 h6=>?_) fun _ _ z=>z.elim
 have go:∀Z' H' s6,Inv (Cx.mark X e) pins Z' H' s6->(∀s7,Inv X pins (Z'.set i none) H' s7->SP X pins D f s7)->wpAny (model X.prog X.w) X.A (do bindName X.env n .none;unbindBehindTheSuite X.env n pos) (fun _ s₃=>SP X pins D f s₃) X.xe s6:=fun Z' H' s6 I6 k=>
  MM (OL I.ok I6) hN hi hk k
 cases f with
 | next=>
  obtain⟨Z',H',I6,z⟩:=h6
  exact go Z' H' s6 I6 fun s7 I7=>⟨_,_,I7,z⟩
 | ret u=>
  obtain⟨v,Z',H',I6,r6,z⟩:=h6
  exact go Z' H' s6 I6 fun s7 I7=>⟨v,_,_,I7,r6,z⟩
 | brk=>
  obtain⟨Z',H',I6,z⟩:=h6
  exact go Z' H' s6 I6 fun s7 I7=>⟨_,_,I7,z⟩
 | cont=>
  obtain⟨Z',H',I6,z⟩:=h6
  exact go Z' H' s6 I6 fun s7 I7=>⟨_,_,I7,z⟩
end
def FF(i:Nat):QV->QV
 | .nx s=>.nx (s.set i none)
 | .bk s=>.bk (s.set i none)
 | .ct s=>.ct (s.set i none)
 | .rt l=>.rt l
theorem S1{K:PySem.W.Frag}{O:List Nat}{H0 H:Hp}{fps:Nat->List Addr}{s:ZE}{Z:Us}{i:Nat}(hiO:i∉O)(r:Rel K O H0 fps s Z H):Rel K O H0 (fun j=>if j=i then [] else fps j) (s.set i none) (Z.set i none) H:=by
 refine⟨r.same,by rw[List.length_set,List.length_set];exact r.len,fun j a e=>?_,fun j h=>?_,fun j hj=>?_,fun j hj p hp=>?_,fun j hj k hk p hp=>?_⟩
 ·by_cases hji:j=i
  ·subst hji
   rw[List.getElem?_set] at e
   simp at e
  ·rw[List.getElem?_set_ne (Ne.symm hji)] at e ⊢
   rw[if_neg hji]
   exact r.is j a e
 ·by_cases hji:j=i
  ·rw[if_pos hji]
  ·rw[if_neg hji]
   refine r.emp j fun l z=>h l ?_
   rw[List.getElem?_set_ne (Ne.symm hji)];exact z
 ·have hji:j≠i:=fun z=>hiO (z▸hj)
  simp only[if_neg hji];exact r.nd j hj
 ·have hji:j≠i:=fun z=>hiO (z▸hj)
  simp only[if_neg hji] at hp;exact r.own j hj p hp
 ·have hji:j≠i:=fun z=>hiO (z▸hj)
  simp only[if_neg hji] at hp
  by_cases hki:k=i
  ·rw[if_pos hki];simp
  ·rw[if_neg hki];exact r.dis j hj k hk p hp
end VX
namespace VX
open PySem PySem.W PySem.Spec PyProof.Rows L2
def exiIn(K:Frag)(C:Addr)(bmB:List Value)(newId:String)(fI:Addr):Bool:=
 match K.lookup C with
 | some ⟨.type "type",_,.cls cd,sl⟩=>
  match cd.mro,sl.toList with
  | .ref C'::bm,[_,_,_,_,some (.builtin n),_]=>C'==C&&n==newId&&!cd.hasDel&&tailIn K bmB bm&&nsOkIn K cd.ns&&nsIn K cd.ns "__init__"==some (some (.ref fI))
  | _,_=>false
 | _=>false
theorem FG{K:Frag}{h:Heap}{N:Addr}{m:Str->Option Value}{n:Str}{v:Value}(X:K.In h)(G:h.Ns N m)(e:nsIn K N n=some (some v)):m n=some v:=by
 obtain⟨o,es,ep,ho,hd,_,hf⟩:=G
 unfold nsIn at e
 split at e
 ·rename_i c d es' n' sl q
  have z:=X _ _ q;rw[ho] at z;cases z;cases hd;rw[<-hf n]
  split at e
  ·rename_i en he
   cases e
   show findBy _ es n=_
   unfold findBy
   rw[<-Array.find?_toList,he];rfl
  ·split at e
   ·cases e
   ·cases e
 ·cases e
theorem NL{K:Frag}{h:Heap}{C fI:Addr}{bmB:List Value}{newId:String}(X:K.In h)(q:exiIn K C bmB newId fI=true) :
  ∃bm N nm qn bs hdct sn sub ab col dd k0 k1 k2 k3 k5 mN,h.get? C=some (excClassObj nm qn C N bs bm hdct sn sub ab col dd k0 k1 k2 k3 k5 newId)/\h.Ns N mN/\mN "__init__" = some (.ref fI)/\OwnTail h bmB bm:=by
 unfold exiIn at q
 split at q
 ·rename_i dd cd sl ho
  split at q
  ·rename_i C' bm k0 k1 k2 k3 n k5 hm hs
   simp only[Bool.and_eq_true,beq_iff_eq,Bool.not_eq_true'] at q
   obtain⟨⟨⟨⟨⟨rfl,rfl⟩,hdel⟩,ht⟩,hok⟩,hni⟩:=q
   obtain⟨nm,bs,mro,ns,qn,hd,sn,sub,ab,col,del⟩:=cd
   dsimp only at hm hdel hok hni
   subst hm hdel
   have hsl:sl = #[k0,k1,k2,k3,some (.builtin n),k5]:=by
    obtain⟨l⟩:=sl
    simp only at hs
    rw[hs]
   subst hsl
   refine⟨bm,ns,nm,qn,bs,hd,sn,sub,ab,col,dd,k0,k1,k2,k3,k5,_,X _ _ ho,.of_isNs (isNs_of_in X hok),?_,tail_of_in X ht⟩
   exact FG X (.of_isNs (isNs_of_in X hok)) hni
  ·cases q
 ·cases q
def Vw(C e t:Addr):Heap->Prop:=fun h=>h.get? e=some (NK C t)
def Wl(C e t dx:Addr):Heap->Prop:=fun h=>h.get? e=some { NK C t with dict:=some dx }
structure BInit(K:Frag)(Cb:Addr)(initId:String):Prop where
 ga:specialIn K (.ref Cb) "__getattribute__" = some (some (.builtin "type.__getattribute__"))
 rd:readsIn K Cb (.type "type")=true
 fc:findCls K (.ref Cb) (.type "type") "__init__" = some (.val (.builtin initId))
section
variable {X:Cx} {x:Str} {np ap cpos pos:Pos} {a b o value:Expr} {t:TA} {ta tv:TE} {C Cb fI:Addr} {bmB:List Value} {B newId initId:String} {f:Str}
theorem Pw{pl:Sem Bool}(F:ExcBaseFacts B newId initId bmB)(BI:BInit X.K Cb initId)(hC:exiIn X.K C bmB newId fI=true)(hg:Gl X x)(hm:X.mg x=some (.ref Cb))(hh:handedIn (.builtin initId)=true)(ha:PA X [a,b] t)
  (hdb:(x==("__debug__" : Str))=false:=by decide) (hpl:(backTo cpos (starEach [b] X.env)).any (·.1)=false:=by rfl) (hs:starEach [a,b] X.env=(false,eval a X.env)::starEach [b] X.env:=by rfl)
  (ht:eval (.Call (.Attribute (.Name x np) "__init__" ap) [a,b] [] cpos) X.env=(do
   let ov <-eval (.Name x np) X.env
   standAt ap.atName
   let(f,first) <-holding [ov] (getMethod ov "__init__" pl)
   callWith cpos f first (backTo cpos (starEach [a,b] X.env)) (backToKw cpos (keywordEach [] X.env))):=by rfl) :
  PE X (.Call (.Attribute (.Name x np) "__init__" ap) [a,b] [] cpos) (fun Z H Q=>t Z H fun vs H1=>∃e v t0,vs=[.ref e,v]/\H1 e=some (.ext (Vw C e t0))/\∀t1,Q .non (upd H1 e (.ext (Vw C e t1)))):=by
 intro pins s Z H Q I h
 refine PySem.W.methodCall_KW (pl:=pl) (WG I hg hm ?_ hdb) ht
 refine PySem.W.method_cls I.kIn BI.ga (PySem.W.cls_value I.kIn BI.rd BI.fc hh ?_)
 have I0:Inv X pins Z H { s with toks:=s.toks+1 }:=I.kept (t':=s.toks+1) fun _ _ q=>q
 have hA:=ha cpos pins _ Z H _ I0 h
 rw[hs] at hA ⊢
 refine Calls.callWith_builtin (by show(false || (backTo cpos (starEach [b] X.env)).any (·.1))=false;rw[hpl]<;>rfl) (Calls.evalArgs_plain ?_)
 refine Ya hA fun us s2 ⟨vs,H2,I2,r2,e,v,t0,ev,he,q⟩=>?_
 subst ev
 obtain⟨u1,u2,rfl,rfl,rv⟩:∃u1 u2,us=[u1,u2]/\u1=Value.ref e/\RelV v u2:=by
  cases r2 with
  | cons h1 h2=>cases h2 with
   | cons h3 h4=>cases h4;exact⟨_,_,rfl,h1,h3⟩
 obtain⟨bm,N,nm,qn,bs,hdct,sn,sub,ab,col,dd,k0,k1,k2,k3,k5,mN,hC',hN,hi,TL⟩:=NL I2.kIn hC
 obtain⟨hx,_,_⟩:=(show ObjOk X.prog X.w H2 s2.heap e (.ext (Vw C e t0)) from I2.hok e _ he)
 obtain⟨hp,g,d,tk,os⟩:=s2
 refine MI F TL hC' hx fun h' kp e1 e2=>?_
 refine⟨.non,_,I2.write (t':=tk) (x:=e) (e:=e) (o:=.ext (Vw C e hp.objs.size)) (by rw[he];trivial) (.inl rfl) kp ⟨_,e1⟩ ⟨e1,⟨_,e1⟩,fun h1 h2 z k=>k _ z⟩,rfl,q _⟩
theorem NM(hC:exiIn X.K C bmB newId fI=true)(hs':findIn X.K (.ref C) "__setattr__" = some (some (.builtin "object.__setattr__")))(hp:veOver X.K C=true)(ht:takerIn X.K C f=some none)(hd:(clsIn X.K C).any (·.hasDict)=true)(hex:X.ex=[])
  (ha:PE X o ta) (hv:PE X value tv) (hs:swapsWith value (some (.Attribute o f np)) pos.line X.env=pure false:=by rfl) :
  PS X (.Assign [.Attribute o f np] value pos) (fun D Z H=>tv Z H fun y H1=>ta Z H1 fun z H2=>∃e t1,z = .ref e/\H2 e=some (.ext (Vw C e t1))/\
   ∀dx od u,RelV y u->H2 dx=none->dx≠e->VL.NsO od f u->D.nx Z (upd (upd H2 dx (.frz od (.own dx))) e (.ext (Wl C e t1 dx)))):=by
 intro pins s Z H D I h
 refine plainObj_wpAny_Assign_Attribute (Ya (hv pins s Z H _ I h) fun u s1 ⟨y,H1,I1,ry,q⟩=>Ya (ha pins s1 Z H1 _ I1 q) fun ov s2 ⟨z,H2,I2,rz,e,t1,ez,he,q2⟩=>?_) hs
 subst ez
 obtain rfl:ov=Value.ref e:=rz
 obtain⟨hx,_,_⟩:=(show ObjOk X.prog X.w H2 s2.heap e (.ext (Vw C e t1)) from I2.hok e _ he)
 refine RF I2.kIn hx rfl rfl rfl hs' hp ht hd fun h' tk' dx kp ex hsz hne hn=>?_
 obtain⟨od,es,ep,ho,hdat,hsk,huk,hf⟩:=id hn
 have hdx:H2 dx=none:=I2.hok.fresh hsz
 have ns:VL.NsO od f u:=fun hp b z=>⟨od,es,ep,z,hdat,hsk,huk,hf⟩
 have I3:Inv X pins Z (upd H2 e (.ext (Wl C e t1 dx))) { s2 with heap:=h',toks:=tk' }:=I2.write (t':=tk') (x:=e) (e:=e) (o:=.ext (Wl C e t1 dx)) (by rw[he];trivial) (.inl rfl) kp ⟨_,ex⟩ ⟨ex,⟨_,ex⟩,fun h1 h2 z k=>k _ z⟩
 have hdx3:upd H2 e (.ext (Wl C e t1 dx)) dx=none:=by rw[upd_ne hne];exact hdx
 have off:ID X pins dx:=QH I2 hex (Heap.get?_none_of_le hsz)
 have I4:=RX I3 (show({ s2 with heap:=h',toks:=tk' }:Shared).heap.get? dx=some od from ho) hdx3 off
 have sw:upd (upd H2 e (.ext (Wl C e t1 dx))) dx (.frz od (.own dx))=upd (upd H2 dx (.frz od (.own dx))) e (.ext (Wl C e t1 dx)):=by
  funext b
  unfold upd
  by_cases z:b=dx
  ·rw[if_pos z,if_neg (fun y=>hne (z.symm.trans y)),if_pos z]
  ·rw[if_neg z]
   by_cases y:b=e
   ·rw[if_pos y,if_pos y]
   ·rw[if_neg y,if_neg y,if_neg z]
 rw[sw] at I4
 exact⟨Z,_,I4,q2 dx od u ry hdx hne ns⟩
end
end VX
namespace VX
open PySem PySem.Spec PyProof.Rows L2
theorem Px{m:Nat}:∀{ts:List Str},(∀t∈ts,t.length<=m)->piled ts<=ts.length*(m+2)
 | [],_=>by simp[piled]
 | t::r,h=>by
  have h1:=Px (m:=m) (ts:=r) fun u hu=>h u (by simp[hu])
  have h2:=h t (by simp)
  rw[List.length_cons,Nat.add_mul,piled_cons];omega
theorem JI{m:Nat}{ts:List Str}(h:∀t∈ts,t.length<=m):(Str.join ", " ts).length<=ts.length*(m+2):=by
 by_cases q:ts=[]
 ·subst q
  rw[show(Str.join ", " ([]:List Str)).length=0 from by decide]
  exact Nat.zero_le _
 ·have:=join_length_add ts q
  have:=Px h
  omega
theorem QJ{m:Nat}{ts:List Str}(h:∀t∈ts,t.length<=m):(tupleText ts).length<=3+ts.length*(m+2):=by
 unfold tupleText;rw[strLen_append,strLen_append]
 have:=JI h
 have e1:(Str.ofString "(").length=1:=by decide
 have e2:(Str.ofString (if(ts.length==1)=true then ",)" else ")" : String)).length<=2:=by split<;>decide
 omega
def S2(H:Hp)(v:V):Prop:=v = .non\/(∃i:Int,v = .int i/\i.natAbs.log2<1920)\/∃(a:Addr) (is:List Int),v = .ref a/\H a=some (.tup (is.map V.int))/\is.length<=100/\∀i∈is,i.natAbs.log2<1920
section
variable {X:Cx} {k:Nat} {e:Expr} {te:TE} {y:Str} {p1 p2 p3:Pos} {jj:Nat}
def IE(te:TE):TE:=fun Z H Q=>te Z H fun v H1=>S2 H1 v/\∀z,Q (.str z) H1
theorem NN(hr:Room k X.A)(he:PE X e te)(hy:y.length<=1000:=by decide):PE X (.JoinedStr [.Constant (.str y) jj p1,.FormattedValue e (-1) none p2] p3) (IE te):=by
 intro pins s Z H Q I h
 refine wpAny_JoinedStr ?_
 show wpAny _ _ (eval (.Constant (.str y) jj p1) X.env) _ _ s
 refine Ya (Ha (X:=X) (x:=y) (j:=jj) (pos:=p1) pins s Z H (fun v H1=>v = .str y/\H1=H) I ⟨rfl,rfl⟩) fun u s1 ⟨v,H1,I1,r,hv,hH⟩=>?_
 subst hv hH
 obtain⟨t,rfl⟩:=r
 have e0:(Str.empty++y).length=y.length:=by rw[strLen_append];show 0+_=_;omega
 have sz:(1000:Nat)+200000<=sizeLine:=by decide
 refine⟨y,t,rfl,by omega,?_⟩
 show wpAny _ _ (eval (.FormattedValue e (-1) none p2) X.env) _ _ s1
 refine wpAny_FormattedValue_plain ?_
 refine Ya (he pins s1 Z H1 _ I1 h) fun u s2 ⟨v,H2,I2,r,sh,q⟩=>?_
 have fin:∀(x:Str)(u:Tok)(s3:Shared),x.length<=200000->Inv X pins Z H2 s3->∃(b:Str) (t2:Tok),Value.str x u=Value.str b t2/\(Str.empty++y++b).length<=sizeLine/\(Str.empty++y++b).length<=sizeLine/\EP X pins Z Q (.str (Str.empty++y++b) s3.toks) { s3 with toks:=s3.toks+1 }:=fun x u s3 hx I3=>by
  refine⟨x,u,rfl,?_,?_,.str _,H2,I3.tok _,⟨_,rfl⟩,q _⟩
  ·rw[strLen_append,e0];omega
  ·rw[strLen_append,e0];omega
 rcases sh with rfl | ⟨i,rfl,hi⟩ | ⟨a,is,rfl,ha,hl,hs⟩
 ·obtain rfl:u=Value.none:=r
  refine wpAny_formatField_none ?_
  have I3:Inv X pins Z H2 { s2 with toks:=s2.toks+1+1 }:=I2.kept (t':=s2.toks+1+1) fun _ _ z=>z
  exact fin "None" _ _ (by decide) I3
 ·obtain⟨t2,rfl⟩:=r
  refine formatField_int_small hi ?_
  have:=int_text_length_le (k:=1920) (by decide) hi
  exact fin (toString i) _ _ (by rw[PySem.ofString_length];omega) (I2.tok _)
 ·obtain rfl:u=Value.ref a:=r
  obtain⟨_,its,rv,ob,ho,hc,n,hd⟩:=(show ObjOk X.prog X.w H2 s2.heap a (.tup (is.map V.int)) from I2.hok a _ ha)
  have rd:Reads s2.heap (.ref a) (.tuple (is.map PyData.int)) []:=.tuple ho hc hd (RW (by simpa using rv))
  have sl:(PyData.tuple (is.map PyData.int)).shown.length<=3+is.length*(1930+2):=by
   show(tupleText (PyData.shownAll (is.map PyData.int))).length<=_
   rw[MJ]
   have:=QJ (ts:=is.map fun i=>Str.ofString (toString i)) (m:=1930) fun t ht=>by
    obtain⟨i,hi,rfl⟩:=List.mem_map.mp ht
    have:=int_text_length_le (k:=1920) (by decide) (hs i hi)
    rw[PySem.ofString_length];omega
   rwa [List.length_map] at this
  have s2':is.length*(1930+2)<=193200:=by omega
  have hu:=hr.un;have dp:=MK is
  refine formatField_of_reads rd (QG hs) (fun z=>by rw[show(PyData.tuple (is.map PyData.int)).hasDict=PyData.hasDictAll (is.map PyData.int) from rfl,OK] at z;cases z) hr.gd (by
   show X.A.units+(PyData.depth (.tuple (is.map PyData.int))+2)<cLine
   simp only[PyData.depth]
   omega) (fun _ _ z=>z) (fun h' u tk hk=>?_) (by omega)
  have I3:Inv X pins Z H2 { s2 with heap:=h',toks:=tk }:=I2.kept hk
  exact fin _ u _ (by omega) I3
end
end VX
namespace VX
open PySem PySem.W PySem.Spec PyProof.Rows L2 VL
def FH(C:Addr)(f:Str):Sp:=fun vs H Q _=>vs.length=2/\∃e v t0,vs=[.ref e,v]/\H e=some (.ext (Vw C e t0))/\S2 H v/\
 ∀t1 dx od u,RelV v u->H dx=none->dx≠e->NsO od f u->Q .non (upd (upd H dx (.frz od (.own dx))) e (.ext (Wl C e t1 dx)))
def IF(C:Addr)(f:Str):TS:=
 GO (Q0 (fun Z H Q=>V3 (W8 0) (V3 (IE (W8 1)) Od) Z H fun vs H1=>∃e v t0,vs=[.ref e,v]/\H1 e=some (.ext (Vw C e t0))/\∀t1,Q .non (upd H1 e (.ext (Vw C e t1)))))
  (fun D Z H=>W8 1 Z H fun y H1=>W8 0 Z H1 fun z H2=>∃e t1,z = .ref e/\H2 e=some (.ext (Vw C e t1))/\
   ∀dx od u,RelV y u->H2 dx=none->dx≠e->NsO od f u->D.nx Z (upd (upd H2 dx (.frz od (.own dx))) e (.ext (Wl C e t1 dx))))
theorem RY{C:Addr}{f a b:Str}{vs:List V}{H:Hp}{Q:VK}{E:XK}(h:FH C f vs H Q E):IF C f { nx:=fun _ H'=>Q .non H',rt:=Q } (start [a,b] vs) H:=by
 obtain⟨_,e,v,t0,rfl,he,sh,q⟩:=h
 show IF C f _ [some (.ref e),some v] H
 refine⟨.ref e,rfl,v,rfl,sh,fun z=>⟨e,.str z,t0,rfl,he,fun t1=>?_⟩⟩
 refine⟨v,rfl,.ref e,rfl,e,t1,rfl,upd_same,fun dx od u rv hd hne ns=>?_⟩
 rw[upd_ne hne] at hd
 have:=q t1 dx od u rv hd hne ns
 have sw:upd (upd (upd H e (.ext (Vw C e t1))) dx (.frz od (.own dx))) e (.ext (Wl C e t1 dx))=upd (upd H dx (.frz od (.own dx))) e (.ext (Wl C e t1 dx)):=by
  funext c
  unfold upd
  by_cases y:c=e
  ·rw[if_pos y,if_pos y]
  ·rw[if_neg y,if_neg y,if_neg y]
 show Q .non (upd (upd (upd H e (.ext (Vw C e t1))) dx (.frz od (.own dx))) e (.ext (Wl C e t1 dx)))
 rw[sw];exact this
def Py(H:Hp)(e:Addr):Hp:=fun b=>if b=e then none else H b
theorem JJ{X:Cx}{pins:List (Addr×Obj)}{Z:L2.St}{H:Hp}{s:Shared}{e:Addr}{φ:Heap->Prop}(I:Inv X pins Z H s)(he:H e=some (.ext φ)):Inv X pins Z (Py H e) s:=by
 have ne:∀b u,H b=some u->(∀ψ,u≠.ext ψ)->Py H e b=some u:=fun b u q n=>by
  unfold Py
  rw[if_neg (fun z=>by rw[z,he] at q;cases q;exact n _ rfl)]
  exact q
 have nn:∀b,H b=none->Py H e b=none:=fun b q=>by
  unfold Py
  split
  ·rfl
  ·exact q
 refine⟨I.ok,I.os,I.bare,⟨fun b o q n hb hx=>?_,fun b o q n hb hx=>?_,fun b o q n hx=>nn b (I.base.free b o q n hx),I.base.there,fun b xs q=>ne b _ (I.base.tups b xs q) (fun _ z=>nomatch z),fun b o u q=>ne b _ (I.base.frzs b o u q) (fun _ z=>nomatch z),fun b ps q=>?_⟩,I.loc,I.cell,nn _ I.free,fun x c q=>nn c (I.freeC x c q),fun p hp=>?_,fun b u q=>?_,I.len⟩
 ·exact I.base.keep b o q n hb hx
 ·exact I.base.slot b o q n hb hx
 ·obtain⟨more,z⟩:=I.base.tbls b ps q
  exact⟨more,ne b _ z fun _ z=>nomatch z⟩
 ·obtain⟨e1,n,r⟩:=I.pin p hp
  exact⟨e1,nn _ n,r⟩
 ·have hb:H b=some u:=by
   unfold Py at q
   split at q
   ·cases q
   ·exact q
  exact(I.hok b u hb).stay (fun _ _ _ r=>r) (fun c r=>ne c _ r fun _ z=>nomatch z) fun c xs r=>ne c _ r fun _ z=>nomatch z
structure Ge(P:Program)(w:World)(K:Frag)(mg:Str->Option Value)(base:Heap)(C:Addr)(f:Str)(bmB:List Value)(newId:String):Prop where
 ex:∃fI fd oI,exiIn K C bmB newId fI=true/\K.lookup fI=some oI/\oI.cls = .type "function"/\Binds K fd ["self",f] []/\Vg P w K mg base QT 1 fI fd ["self",f] (FH C f)
structure Ez(X:Cx)(E:XK):Prop where
 go:∀{pins:List (Addr×Obj)}{Z:L2.St}{H:Hp}{s:Shared}{e:Addr}{cls:Value}{dd:Option Addr},Inv X pins Z H s->LR s.heap e cls dd->X.s₀.heap.get? e=none->H e=none->E cls dd H->X.xe (.ref e) s
section
variable {X:Cx} {E:XK} {C:Addr} {bmB:List Value} {B newId initId:String} {x f:Str} {np cpos pos:Pos} {a:Expr} {ta:TE}
theorem MN(F:ExcBaseFacts B newId initId bmB)(CF:Ge X.prog X.w X.K X.mg X.base C f bmB newId)(hr:Room 2 X.A)(hg:Gl X x)(hm:X.mg x=some (.ref C))(hcalm:X.calm=true)(DX:Ez X E)(ha:PE X a ta)
  (hdb:(x==("__debug__" : Str))=false:=by decide) (he:starEach [a] X.env=(false,eval a X.env)::starEach [] X.env:=by rfl) :
  PS X (.Raise (some (.Call (.Name x np) [a] [] cpos)) none pos) (fun _ Z H=>ta Z H fun v H1=>S2 H1 v/\∀dx od u,RelV v u->H1 dx=none->NsO od f u->E (.ref C) (some dx) (upd H1 dx (.frz od (.own dx)))):=by
 intro pins s Z H D I h
 obtain⟨fI,fd,oI,hq,hlf,hfc,hb,FO⟩:=CF.ex
 have X0:X.K.In X.base:=I.ok.mod.kin
 obtain⟨bm,N,nm,qn,bs,hdct,sn,sub,ab,col,dd,k0,k1,k2,k3,k5,mN,hC,hN,hi,TL⟩:=NL X0 hq
 refine WW (nm:=nm) (q:=qn) (N:=N) (bs:=bs) (hdct:=hdct) (sn:=sn) (sub:=sub) (ab:=ab) (col:=col) (dd:=dd) (k0:=k0) (k1:=k1) (k2:=k2) (k3:=k3) (k5:=k5) F (mN:=mN) (fI:=fI) (oI:=oI) (TL.hasType F.hasBase) (I.ok.hd hcalm) (by rw[he];rfl) hi hfc (WG I hg hm ⟨rfl,?_⟩ hdb)
 have pa:PA X [a] (V3 ta Od):=Yb ha Y9 (hs:=he)
 have key:wpAny (model X.prog X.w) X.A (spliced (backTo cpos (starEach [a] X.env))) (fun us s₂=>us.length<=sizeLine/\s₂.heap.get? C=some (excClassObj nm qn C N bs bm hdct sn sub ab col dd k0 k1 k2 k3 k5 newId)/\s₂.heap.Ns N mN/\OwnTail s₂.heap bmB bm/\s₂.heap.get? fI=some oI/\
    ∀h',(∀b o,s₂.heap.get? b=some o->h'.get? b=some o)->h'.get? (s₂.heap.objs.size+1)=some { cls:=.ref C,data:=.fields #[.ref s₂.heap.objs.size,.none,.none,.none,.bool false,.none] }->
     wpAny (model X.prog X.w) (X.A.under (.builtin "type.__call__" ⟨.ref C::us,[]⟩)) (call (.ref fI) (.ref (s₂.heap.objs.size+1)::us)) (fun r s₃=>r = .none/\∃t dx,s₃.heap.get? C=some (excClassObj nm qn C N bs bm hdct sn sub ab col dd k0 k1 k2 k3 k5 newId)/\
      s₃.heap.get? (s₂.heap.objs.size+1)=some { cls:=.ref C,dict:=dx,data:=.fields #[.ref t,.none,.none,.none,.bool false,.none] }/\X.xe (.ref (s₂.heap.objs.size+1)) s₃) X.xe { s₂ with heap:=h' }) X.xe s:=by
  refine Ya (pa cpos pins s Z H (fun vs H1=>match vs with | [v]=>S2 H1 v/\∀dx od u,RelV v u->H1 dx=none->NsO od f u->E (.ref C) (some dx) (upd H1 dx (.frz od (.own dx))) | _=>False) I h) fun us s₂ ⟨vs,H1,I1,r,q⟩=>?_
  obtain⟨v,rfl⟩:∃v,vs=[v]:=by
   match vs,q with
   | [v],_=>exact⟨v,rfl⟩
  obtain⟨hs,hE⟩:S2 H1 v/\∀dx od u,RelV v u->H1 dx=none->NsO od f u->E (.ref C) (some dx) (upd H1 dx (.frz od (.own dx))):=q
  obtain⟨u,rfl,ru⟩:=Ut r
  refine⟨by show 1<=_;decide,I1.bk _ _ hC,hN.keeps I1.bk,TL.keeps I1.bk,I1.bk _ _ (X0 _ _ hlf),fun h' kp ex=>?_⟩
  generalize hea:s₂.heap.objs.size+1=e at ex ⊢
  have hfr:s₂.heap.objs.size<=e:=by omega
  have hHe:H1 e=none:=I1.hok.fresh hfr
  have I2:Inv X pins Z (upd H1 e (.ext (Vw C e s₂.heap.objs.size))) { s₂ with heap:=h' }:=I1.laid (t':=s₂.toks) kp hfr ⟨ex,⟨_,ex⟩,fun h1 h2 z k=>k _ z⟩
  have hs':S2 (upd H1 e (.ext (Vw C e s₂.heap.objs.size))) v:=by
   rcases hs with z | z | ⟨c,is,z1,z2,z3⟩
   ·exact .inl z
   ·exact .inr (.inl z)
   ·exact .inr (.inr ⟨c,is,z1,by rw[upd_ne (ZA z2 hHe)];exact z2,z3⟩)
  have r2:Vals [V.ref e,v] [Value.ref e,u]:=.cons rfl (.cons ru .nil)
  let QF:VK:=fun r H'=>r = .non/\∃t1 dx od u',RelV v u'/\H1 dx=none/\dx≠e/\NsO od f u'/\H'=upd (upd (upd H1 e (.ext (Vw C e s₂.heap.objs.size))) dx (.frz od (.own dx))) e (.ext (Wl C e t1 dx))
  have hsp:FH C f [V.ref e,v] (upd H1 e (.ext (Vw C e s₂.heap.objs.size))) QF E0:=⟨rfl,e,v,_,rfl,upd_same,hs',fun t1 dx od u' h1 h2 h3 h4=>⟨rfl,t1,dx,od,u',h1,by rw[upd_ne h3] at h2;exact h2,h3,h4,rfl⟩⟩
  refine wpAny_call (codeAny_mono (FO.run _ X.stack _ _ ⟨[.ref e,u],[]⟩ [.ref e,u] [V.ref e,v] QF E0 (hr.make C [u] []) (I2.env0.make C [u] []) (hb _ [.ref e,u] I2.kIn rfl) r2 hsp) fun rr s' hq'=>?_)
  cases rr with
  | error ee=>exact False.elim hq'
  | ok fl=>
   cases fl with
   | next=>exact False.elim hq'
   | brk=>exact False.elim hq'
   | cont=>exact False.elim hq'
   | ret u2=>
    obtain⟨v2,H',I3,rv,ev,t1,dx,od,u',q1,q2,q3,q4,rfl⟩:=I2.after hq'
    subst ev
    obtain⟨ho,_,_⟩:=(show ObjOk X.prog X.w _ s'.heap e (.ext (Wl C e t1 dx)) from I3.hok e _ upd_same)
    have I4:=JJ I3 (e:=e) upd_same
    have eH:Py (upd (upd (upd H1 e (.ext (Vw C e s₂.heap.objs.size))) dx (.frz od (.own dx))) e (.ext (Wl C e t1 dx))) e=upd H1 dx (.frz od (.own dx)):=by
     funext c
     unfold Py upd
     by_cases y:c=e
     ·rw[if_pos y,if_neg (fun z=>q3 (z.symm.trans y)),y,hHe]
     ·rw[if_neg y,if_neg y,if_neg y]
    rw[eH] at I4
    refine⟨rv,t1,some dx,I3.bk _ _ hC,ho,?_⟩
    refine DX.go I4 ⟨_,_,ho,rfl,rfl,rfl,rfl⟩ ?_ ?_ (hE dx od u' q1 q2 q4)
    ·cases z:X.s₀.heap.get? e with
     | none=>rfl
     | some o=>
      exact absurd (Nat.lt_of_lt_of_le (Heap.lt_size z) I1.sz) (by omega)
    ·rw[upd_ne (Ne.symm q3)];exact hHe
 rw[he] at key ⊢
 exact Calls.evalArgs_plain (wpAny_mono key (fun us s₂ h2=>⟨rfl,h2⟩) fun _ _ z=>z)
end
end VX
namespace VX
open PySem PySem.Spec PyProof.Rows L2 VL
abbrev XF:=ZE->Option (Str×PV)
def EA(K:PySem.W.Frag)(E:XK)(H0:Hp)(n:Str)(l:PV):Prop:=∀C dx od u z H',PySem.W.nsIn K mainGlobals n=some (some (.ref C))->Same H0 H'->H' dx=some (.frz od (.own dx))->NsO od (Wd n) u->RelV z u->Is K H' l z []->E (.ref C) (some dx) H'
def F8(K:PySem.W.Frag)(O:List Nat)(fy:XF)(E:XK):TS:=fun _ Z H=>∃H0 fps s n l,Rel K O H0 fps s Z H/\fy s=some (n,l)/\EA K E H0 n l
def VY(X:Cx)(O:List Nat)(E:XK)(st:Stmt)(fy:XF):Prop:=PS X st (F8 X.K O fy E)
def JK(X:Cx)(O:List Nat)(E:XK)(st:List Stmt)(fy:XF):Prop:=PSs X st (F8 X.K O fy E)
def Ua:PV->Bool
 | .non=>true
 | .int i=>decide (i.natAbs.log2<1920)
 | .tup l=>match Xc l with
  | some is=>decide (is.length<=100)&&is.all fun i=>decide (i.natAbs.log2<1920)
  | none=>false
 | _=>false
theorem LW{K:PySem.W.Frag}{H:Hp}{l:PV}{v:V}{fp:List Addr}(h:Is K H l v fp)(g:Ua l=true):S2 H v/\fp=[]:=by
 cases l with
 | non=>exact⟨.inl h.non_inv.1,h.non_inv.2⟩
 | int i=>exact⟨.inr (.inl ⟨i,h.int_inv.1,of_decide_eq_true g⟩),h.int_inv.2⟩
 | tup l=>
  have g':(match Xc l with | some is=>decide (is.length<=100)&&is.all fun i=>decide (i.natAbs.log2<1920) | none=>false)=true:=g
  split at g'
  ·rename_i is his
   have:=Wh his
   subst this
   obtain⟨p,xs,rfl,hp,hi⟩:=h.tup_inv
   obtain⟨rfl,rfl⟩:=hi.iL
   rw[Bool.and_eq_true] at g'
   exact⟨.inr (.inr ⟨p,is,rfl,hp,of_decide_eq_true g'.1,fun i hi=>of_decide_eq_true (List.all_eq_true.mp g'.2 i hi)⟩),rfl⟩
  ·cases g'
 | bl b=>cases g
 | str x=>cases g
 | ty n=>cases g
 | exc n=>cases g
 | exf n l=>cases g
 | lst l=>cases g
 | cst l=>cases g
 | dK ks l=>cases g
 | dT ks l=>cases g
def WX(n:Str)(f:XE):XF:=fun s=>(f s).bind fun l=>if Ua l=true then some (n,l) else none
def QK(fc:XT)(f g:XF):XF:=fun s=>(fc s).bind fun c=>if c=true then f s else g s
def Xj(f1:XF)(f:XS)(g:XF):XF:=fun s=>match f1 s with
 | some c=>some c
 | none=>(match f s with
  | some (.nx s')=>g s'
  | _=>none)
def Rn:XF:=fun _=>none
section
variable {X:Cx} {O W:List Nat} {E:XK} {C:Addr} {bmB:List Value} {B newId initId:String} {x:Str} {np cpos pos:Pos} {e:Expr} {f:XE}
theorem S4(F:ExcBaseFacts B newId initId bmB)(CF:Ge X.prog X.w X.K X.mg X.base C (Wd x) bmB newId)(hr:Room 2 X.A)(hg:Gl X x)(hm:X.mg x=some (.ref C))(hns:PySem.W.nsIn X.K mainGlobals x=some (some (.ref C)))(hcalm:X.calm=true)(DX:Ez X E)(he:VE X e f)
  (hdb:(x==("__debug__" : Str))=false:=by decide) (hst:starEach [e] X.env=(false,eval e X.env)::starEach [] X.env:=by rfl) :
  VY X O E (.Raise (some (.Call (.Name x np) [e] [] cpos)) none pos) (WX x f):=
 PS.imp (MN F CF hr hg hm hcalm DX he hdb hst) fun D Z H ⟨H0,fps,s,n,l,r,e,q⟩=>by
  obtain⟨l',hl,e⟩:=Zd e
  split at e
  ·rename_i hs
   cases e
   refine⟨fun _=>False,s,l,fun _ z=>z.elim,r.env,hl,fun v H' fp sm i _=>?_⟩
   obtain⟨sh,rfl⟩:=LW i hs
   refine⟨sh,fun dx od u rv hd ns=>q C dx od u v _ hns ((r.same.trans sm).trans (Same.new hd _)) upd_same ns rv (i.mono (Same.new hd _))⟩
  ·cases e
variable {st:Stmt} {rest a b:List Stmt} {c:Expr} {fc:XT} {f1 g1:XF} {fs:XS}
theorem LX:VY X O E st Rn:=fun pins s Z H D I ⟨_,_,_,_,_,_,e,_⟩=>by cases e
theorem S5:JK X O E rest Rn:=fun pins s Z H D I ⟨_,_,_,_,_,_,e,_⟩=>by cases e
theorem LY(hc:VT X c fc)(ha:JK X O E a f1)(hb:JK X O E b g1):VY X O E (.If c a b pos) (QK fc f1 g1):=PS.imp (Ih hc ha hb) fun D Z H ⟨H0,fps,s,n,l,r,e,q⟩=>by
 obtain⟨d,e1,e⟩:=Zd e
 refine⟨fun _=>False,s,d,fun _ z=>z.elim,r.env,e1,fun H1 s1=>?_⟩
 cases d with
 | true=>rw[if_pos rfl] at e ⊢;exact⟨H0,fps,s,n,l,r.grow s1,e,q⟩
 | false=>rw[if_neg Bool.false_ne_true] at e ⊢;exact⟨H0,fps,s,n,l,r.grow s1,e,q⟩
theorem QL(h:VY X O E st f1):JK X O E [st] f1:=TY h
theorem X7(h1:VY X O E st f1)(hs:VS X O W st fs)(h2:JK X O E rest g1):JK X O E (st::rest) (Xj f1 fs g1):=by
 intro pins s Z H D I ⟨H0,fps,sp,n,l,r,e,q⟩
 unfold Xj at e
 split at e
 ·rename_i c hc
  cases e
  exact ML h1 (fun _ _ _ _ z=>z) pins s Z H D I ⟨H0,fps,sp,_,_,r,hc,q⟩
 ·split at e
  ·rename_i s' hf
   refine Vd hs h2 pins s Z H D I ⟨H0,fps,sp,.nx s',r,hf,fun fps' Z' H' r' _=>?_⟩
   exact⟨H0,fps',s',n,l,r',e,q⟩
  ·cases e
end
def Tq(T:Tgt)(fy:XF)(fb:XS):List PV->ZE->Option (Str×PV)
 | [],_=>none
 | l::ls,s=>(XN T l s).bind fun s1=>match fy s1 with
  | some n=>some n
  | none=>(match fb s1 with
   | some (.nx s2)=>Tq T fy fb ls s2
   | some (.ct s2)=>Tq T fy fb ls s2
   | _=>none)
def OM(O:List Nat)(fi:XL)(T:Tgt)(fy:XF)(fb:XS):XF:=fun s=>(fi (ZK O s)).bind fun ls=>Tq T fy fb ls s
theorem Gf{X:Cx}{sts:List Stmt}{t u:TS}(h1:PSs X sts t)(h2:PSs X sts u):PSs X sts (fun D Z H=>t D Z H\/u D Z H):=fun pins s Z H D I h=>h.elim (h1 pins s Z H D I) (h2 pins s Z H D I)
section
variable {K:PySem.W.Frag} {O W:List Nat} {T:Tgt} {fb:XS} {fy:XF} {E:XK}
theorem MO{H1:Hp}{fps:Nat->List Addr}{s:ZE}{Z:Us}{D:Wu}{J:It}{ls:List PV}{n:Str}{lv:PV}(r:Rel K O (Y0 H1 (Ow O fps)) fps s Z H1)(jis:Fx K (Ow O fps) H1 J ls)(e:Tq T fy fb ls s=some (n,lv))(hT:∀i∈T.slots,i∉O)
  (k:EA K E (Y0 H1 (Ow O fps)) n lv):Ji (gT K T) (fun D Z H=>LC K O W fb D Z H\/F8 K O fy E D Z H) D Z J H1:=by
 refine⟨fun i m Z' H'=>m=ls.length-i/\i<=ls.length/\∃fps' s',Rel K O (Y0 H1 (Ow O fps)) fps' s' Z' H'/\Tq T fy fb (ls.drop i) s'=some (n,lv),
  ⟨ls.length,by simp,Nat.zero_le _,fps,s,r,e⟩,?_⟩
 rintro i m Z' H' ⟨rfl,hi,fps',s',r',e'⟩
 have ab:Ab (Ow O fps) H1 H':=fun b o h n=>r'.same b o (by unfold Y0;rw[if_neg n];exact h)
 cases q:ls.drop i with
 | nil=>rw[q] at e';cases e'
 | cons l rr=>
  obtain⟨hl,hr⟩:=UH q
  have hilt:i<ls.length:=(List.getElem?_eq_some_iff.mp hl).1
  rw[q] at e'
  unfold Tq at e'
  obtain⟨sb,eb,e'⟩:=Zd e'
  refine .inr ⟨jis.go H' i l ab hl,fun Z2 H2=>∃fps2 s2,Rel K O (Y0 H1 (Ow O fps)) fps2 s2 Z2 H2/\Tq T fy fb (ls.drop (i+1)) s2=some (n,lv),
   fun Z2 H2 h2=>⟨ls.length-(i+1),by omega,rfl,hilt,h2⟩,fun x H2 y=>?_⟩
  obtain⟨s2,fx,ix,nx⟩:=jis.yld H' i l x H2 ab hl y
  obtain⟨bl,bv,bf,rfl,bi,blen,bsub,buse⟩:=Sz (K:=K) ix eb
  obtain⟨fps3,r3,q3⟩:=Rel.setAll (is:=T.slots) (r'.grow s2) bi blen hT fun j hj p hp z=>by
   obtain⟨n1,n2⟩:=nx p (bsub p z)
   have:=(r'.own j hj p hp).1
   unfold Y0 at this;rw[if_neg n2] at this
   exact n1 this
  refine buse _ _ ?_
  split at e'
  ·rename_i nl hy
   cases e'
   exact .inr ⟨_,fps3,_,_,_,r3,hy,k⟩
  ·split at e'
   ·rename_i s4 ho
    exact .inl ⟨_,fps3,_,.nx s4,r3,ho,fun fps4 Z4 H4 r4 _=>⟨fps4,s4,r4,by rw[hr];exact e'⟩⟩
   ·rename_i s4 ho
    exact .inl ⟨_,fps3,_,.ct s4,r3,ho,fun fps4 Z4 H4 r4 _=>⟨fps4,s4,r4,by rw[hr];exact e'⟩⟩
   ·cases e'
end
section
variable {X:Cx} {O W:List Nat} {tg iter:Expr} {body:List Stmt} {fi:XL} {T:Tgt} {fb:XS} {fy:XF} {E:XK} {pos:Pos}
theorem Gg(hp:PassesOwn (model X.prog X.w) X.A X.env X.xe)(hc:X.calm=true)(hi:VI X tg iter fi)(hg:PG X tg (gT X.K T))(hb:VSs X O W body fb)(hy:JK X O E body fy)(hT:∀i∈T.slots,i∉O:=by decide)
  (hs:∀x,foldedSetIterable iter X.env x=pure x:=by intro _;rfl):VY X O E (.For tg iter body [] pos) (OM O fi T fy fb):=PS.imp (Se hp hc hi hg (Gf hb hy) hs) fun D Z H ⟨H0,fps,s,n,l,r,e,k⟩=>by
 obtain⟨ls,e1,e⟩:=Zd e
 refine⟨Ow O fps,ZK O s,ls,r.owMut,r.envO,e1,fun J H1 s1 jis=>?_⟩
 exact MO (W:=W) (r.grow s1).frame jis e hT fun C dx od u z H' a1 a2 a3 a4 a5 a6=>k C dx od u z H' a1 ((r.grow s1).under.trans a2) a3 a4 a5 a6
end
def spY(K:PySem.W.Frag)(R:List PV->Option (Str×PV))(n:Nat):Sp:=fun vs H _ E=>vs.length=n/\∃ls fp nm l,Iss K H ls vs fp/\R ls=some (nm,l)/\EA K E H nm l
def FI(m:Nat)(fy:XF):List PV->Option (Str×PV):=fun ls=>fy (ZR m ls)
section
variable {K:PySem.W.Frag} {P:Program} {w:World} {mg:Str->Option Value} {base:Heap}
open Classical in
theorem Gh{N:List Str}{O:List Nat}{n:Nat}{fy:XF}{vs:List V}{H:Hp}{Q:VK}{E:XK}{D:Wu}(hO:∀i∈O,n<=i)(h:spY K (FI N.length fy) n vs H Q E):F8 K O fy E D (L2.start N vs) H:=by
 obtain⟨hl,ls,fp,nm,lv,hi,e,q⟩:=h
 obtain⟨H0,fps,s,out,r,e1,k⟩:=Qu (N:=N) (n:=n) (O:=O) (W:=[]) (f:=fun s=>if s=ZR N.length ls then some (.rt .non) else none) (vs:=vs) (H:=H) (Q:=fun _ H'=>Same H H') (E:=fun _ _ _=>True) hO ⟨hl,ls,fp,.non,hi,by unfold Wr;simp[Xf],fun _ H' _ sm _ _ _=>sm⟩
 simp only at e1
 split at e1
 ·rename_i hs
  cases e1;subst hs
  exact⟨H0,fps,_,nm,lv,r,e,fun C dx od u z H' hc sm a1 a2 a3 a4=>q C dx od u z H' hc (k .non [] H' sm Is.non List.nodup_nil fun p hp=>by simp at hp) a1 a2 a3 a4⟩
 ·cases e1
theorem FJ{x:Str}{st:Stmt}{N ps:List Str}{k n:Nat}{O:List Nat}(m:Nat)(fy:XF)(D:Def K mg x st)(S:ZU N ps (Zl st))
  (hb:∀(kV doc pm:Value)(an:Option Addr)(cdv ct:Value)(us:List Value),us.length=ps.length->bindArgs (PySem.W.fnOf x x (YT st) (Z7 st) (Zl st) .none kV doc pm an cdv ct) ⟨us,[]⟩=pure (ps.zip us))
  (hn:ps.length=n) (hm:N.length=m) (hO:∀i∈O,n<=i)
  (hbody:∀(fa:Addr)(cdv:Value)(A:Around)(outer:List Env)(s:Shared)(H:Hp)(E:XK),Room k (A.deeper (envOfC x (Zl st) s.heap.objs.size fa cdv))->JK (U5 (Gb P w) P w K mg base N x (Zl st) fa cdv A outer s H E) O E (Z7 st) fy) :
  CalX P w K mg base x ps (spY K (FI m fy) n) (k+1):=by
 subst hm
 obtain⟨f,fd,hm,F⟩:=D.ex
 refine⟨f,fd,hm,F.kp,F.binds hb,?_⟩
 obtain⟨oc,od,kV,doc,pm,an,cdv,ct,osl,rfl,lk,hcd⟩:=F.ex
 exact Im lk hcd S (fun vs H Q E h=>by rw[hn];exact h.1) fun A outer s H vs Q E hr hsp=>⟨_,hbody f cdv A outer s H E hr,Gh hO hsp⟩
end
def UT(R:List PV->Option (Str×PV))(fs:List XE)(i:Nat)(f:XS):XS:=fun s=>(Wf fs s).bind fun ls=>(R ls).bind fun nl=>(f (s.set i (some (.exf nl.1 nl.2)))).map (FF i)
section
variable {X:Cx} {O W:List Nat} {k n i:Nat} {x cx nm:Str} {ps:List Str} {R:List PV->Option (Str×PV)} {e:Expr} {es:List Expr} {fs:List XE} {p cp ep np hp pos:Pos} {b₀:Stmt} {suite:List Stmt} {f:XS} {Cb:Addr} {rest:List ExceptHandler}
theorem JL(CX:CalX X.prog X.w X.K X.mg X.base x ps (spY X.K R n) k)(hr:Room k X.A)(hg:Gl X x)(ha:VA X.nox (e::es) fs)(hx:X.ex=[])(hst:X.stack=X.env::X.outer)(hfr:X.env.frame=some X.env.locals)
  (hN:X.N.Nodup) (hi:X.N[i]?=some nm) (hk:X.env.scope.names.lookup nm=some .local) (hgc:Gl X cx) (hmc:X.mg cx=some (.ref Cb)) (hB:PySem.W.ktsIn X.K Cb "BaseException" = true)
  (hR:∀ls m l,R ls=some (m,l)->∃C,PySem.W.nsIn X.K mainGlobals m=some (some (.ref C))/\PySem.W.ktsIn X.K C "BaseException" = true/\belowIn X.K C Cb=true)
  (hs:∀e,VSs (Cx.mark X e) O W (b₀::suite) f) (hiO:i∉O) (hsw:swapsWith (.Call (.Name x p) (e::es) [] cp) none ep.line X.env=pure false:=by rfl) (hn:fs.length=n:=by rfl)
  (hdb:(x==("__debug__" : Str))=false:=by decide) (hdb2:(cx==("__debug__" : Str))=false:=by decide) (he:starEach (e::es) X.env=(false,eval e X.env)::starEach es X.env:=by rfl) (hpl:(backTo cp (starEach es X.env)).any (·.1)=false:=by rfl) :
  VS X O (i::W) (.Try [.Expr (.Call (.Name x p) (e::es) [] cp) ep] (.ExceptHandler (some (.Name cx np)) (some nm) (b₀::suite) hp::rest) [] [] pos) (UT R fs i f):=by
 intro pins s Z H D I ⟨H0,fps,sp,out,r,e1,ok⟩
 obtain⟨ls,e2,e1⟩:=Zd e1
 obtain⟨⟨m,lv⟩,e3,e1⟩:=Zd e1
 obtain⟨o1,e4,rfl⟩:=map_some e1
 obtain⟨C,hns,hC,hb⟩:=hR ls m lv e3
 obtain⟨fa,fd,hmx,hkp,hbd,F⟩:=CX.ex
 refine wpAny_Try_except (wpAny_execs_cons (wpAny_Expr_any ?_ I.quiet hsw))
 refine wpAny_Call_Name_kw (WG I hg hmx ?_ hdb)
 refine PySem.W.callWith_K (h₀:=X.base) I.ok.mod.kin hkp ?_ he hpl
 refine wpAny_mono (ha cp pins s Z H (fun vs H1=>Same H H1/\∃fp,Iss X.K H1 ls vs fp) (I.wish _) ⟨fun _=>False,sp,ls,fun _ z=>z.elim,r.env,e2,fun vs H1 fp s1 i1 _=>⟨s1,fp,i1⟩⟩) (fun us s1 ⟨vs,H1,I1,rv,sm,fp,i1⟩=>?_) fun _ _ z=>z.elim
 have I1:Inv X pins Z H1 s1:=I1.unwish
 have lvn:vs.length=n:=by rw[i1.len,WQ e2,hn]
 have hsp:spY X.K R n vs H1 (fun _ _=>False) (fun cls dd H'=>cls = .ref C/\∃dx od u z,dd=some dx/\H' dx=some (.frz od (.own dx))/\NsO od (Wd m) u/\RelV z u/\Is X.K H' lv z []/\Same H1 H'):=⟨lvn,ls,fp,m,lv,i1,e3,fun C' dx od u z H' hc sm a1 a2 a3 a4=>⟨by rw[hns] at hc;cases hc;rfl,dx,od,u,z,rfl,a1,a2,a3,a4,sm⟩⟩
 have hl:(us++[]).length=ps.length:=by rw[List.append_nil,<-rv.length,lvn];have:=F.len _ _ _ _ hsp;omega
 have hbb:=hbd s1 us I1.kIn hl;rw[List.append_nil] at hbb
 refine⟨I1.kIn,wpAny_call (codeAny_mono (F.run X.A X.stack s1 H1 ⟨us,[]⟩ us vs _ _ hr I1.env0 hbb rv hsp) fun res s' hq=>?_)⟩
 cases res with
 | ok fl=>
  cases fl with
  | ret u=>obtain⟨_,_,_,_,_,_,_,z⟩:=hq;exact z.elim
  | next=>exact False.elim hq
  | brk=>exact False.elim hq
  | cont=>exact False.elim hq
 | error v=>
  obtain⟨ea,cls,dd,H',rfl,hos,hgn,u,hok,⟨T,xx,hH,hHT,he0,hT0⟩,rfl,dx,od,u',z',rfl,b1,b2,b3,b4,sm1⟩:=hq
  have I2:Inv X pins Z H' s':=I1.call' hos u hok hgn fun b hb=>nomatch hb
  refine Ey I2 hx hst hfr xx hH hHT (QH I1 hx he0) (QH I1 hx hT0) hN hi hk hgc hmc hC hB hb (hs ea) (fun oe h1 h2 h3=>?_) hdb2
  have sm2:Same H (upd H' ea (.frz oe (.own ea))):=fun b o q=>by
   have q':=sm1 b o (sm b o q)
   rw[upd_ne (ZA q' hH)];exact q'
  have sm3:Same H' (upd H' ea (.frz oe (.own ea))):=Same.new hH _
  have iE:Is X.K (upd H' ea (.frz oe (.own ea))) (.exf m lv) (.ref ea) []:=by
   simp only[Is]
   exact⟨⟨ea,oe,ea,C,dx,od,u',z',rfl,upd_same,h1,hns,h2,h3,sm3 _ _ b1,b2,b3,b4.mono sm3⟩,trivial⟩
  have hlt:i<sp.length:=by
   have:=(List.getElem?_eq_some_iff.mp hi).1
   rw[r.len,I.len];exact this
  have r2:=(r.grow sm2).set (i:=i) iE (fun z=>absurd z hiO) (fun k _ _ p hp=>by simp at hp)
  refine⟨H0,_,_,o1,r2,e4,?_⟩
  have fin:∀(fps':Nat->List Addr)(Z':Us)(H'':Hp)(s':ZE),(∀j,j∉W->Z'[j]?=(Z.set i (some (V.ref ea)))[j]?/\Kep (fps' j) (UI fps sp.length i [] j))->∀j,j∉i::W->(Z'.set i none)[j]?=Z[j]?/\Kep (if j=i then [] else fps' j) (fps j):=fun fps' Z' H'' s' h j hj=>by
   have hji:j≠i:=fun z=>hj (by rw[z];exact .head _)
   obtain⟨a1,a2⟩:=h j fun z=>hj (.tail _ z)
   rw[List.getElem?_set_ne (Ne.symm hji)] at a1 ⊢
   rw[ZZ hji] at a2;rw[if_neg hji]
   exact⟨a1,a2⟩
  cases o1 with
  | nx s'=>exact fun fps' Z' H'' r' k'=>ok _ _ _ (S1 hiO r') (fin fps' Z' H'' s' k')
  | bk s'=>exact fun fps' Z' H'' r' k'=>ok _ _ _ (S1 hiO r') (fin fps' Z' H'' s' k')
  | ct s'=>exact fun fps' Z' H'' r' k'=>ok _ _ _ (S1 hiO r') (fin fps' Z' H'' s' k')
  | rt l=>exact ok
end
section
variable {prog:Program} {w:World} {A:Around} {E:Value->Shared->Prop} {K:PySem.W.Frag} {a C:Addr}
theorem MP{s:Shared}{Q:Option Value->Shared->Prop}(X:K.In s.heap){o:Obj}{vs:Array Value}(hx:s.heap.get? a=some o)(hc:o.cls = .ref C)(hd:o.data = .fields vs)(hdd:o.dict=none)
  (g1:PySem.W.findIn K (.ref C) "__getattribute__" = some (some (.builtin "BaseException.__getattribute__")))
  (g2:PySem.W.findIn K (.ref C) "__getattr__" = some none) (g3:PySem.W.findIn K (.ref C) "__class__" = some (some (.builtin "object.__class__"))) (g4:PySem.W.mroIn K C (.type "object")=some true) (g5:PySem.W.ktsIn K C "BaseException" = true)
  (h:Q (some (.ref C)) { s with toks:=s.toks+1 }):wpAny (model prog w) A (getAttr? (.ref a) "__class__") Q E s:=by
 obtain⟨hh,g,d,t,os⟩:=s
 have I:PySem.W.InstAt hh a o C none:=⟨hx,hc,by unfold PySem.W.notCls;rw[hd],by rw[hdd];trivial⟩
 have L0:=I.type (M:=model prog w)
 have L1:=PySem.W.looks_findIn (M:=model prog w) X g1
 unfold getAttr? getAttrBy? getAttrBy
 refine wpAny_bind (wpAny_mkText (wpAny_bind (wpAny_attempt (wpAny_holding (wpAny_bind (L0.at (wpAny_bind (L1.at ?_))))))))
 have L2:=PySem.W.looks_findIn (M:=model prog w) X g2
 have L3:=PySem.W.looks_findIn (M:=model prog w) X g3
 show wpAny (model prog w) A (getAttrByItsOwn (.ref a) (.str "__class__" t) (.ref C) (.builtin "BaseException.__getattribute__") false false) _ _ _
 have f3:=F.attr_ValueError.ga.bind (.ref a)
 unfold getAttrByItsOwn
 repeat (any_goals (first | assumption | wp_step | (refine wpAny_bind (L2.at ?_)) | (refine L2.at ?_)))
 obtain⟨nm,qn,N,bs,bm,hdct,sn,sub,ab,col,dc,k0,k1,k2,k3,k5,nid,hC,hbase,_⟩:=PySem.W.kts_cls X g5
 have hC:hh.get? C=some (excClassObj nm qn C N bs bm hdct sn sub ab col dc k0 k1 k2 k3 k5 nid):=hC
 have hcB:(Value.ref C::bm).contains (.type "BaseException")=true:=by rw[List.contains_cons,hbase,Bool.or_true]
 have L0':=I.type (M:=model prog w)
 show codeAny (model prog w) A (.call (.builtin "BaseException.__getattribute__") ⟨[.ref a,.str "__class__" t],[]⟩) _ ⟨hh,g,d,t+1,os⟩
 refine codeAny_call_builtin F.attr_ValueError.ga.plain F.entry_bexc_ga ?_
 have hk:builtinKind "BaseException.__getattribute__" = some .slot:=by decide +kernel
 have hsplit:splitId "BaseException.__getattribute__" = some ("BaseException","__getattribute__"):=by decide +kernel
 have ha:=F.args_bexc_ga (.ref a) (.str "__class__" t)
 simp only[checkBuiltinCall,hk,hsplit]
 refine wpAny_bind ?_
 unfold isInstance
 repeat (first | (with_reducible refine wpAny_loadPart_at hx ?_;rw[hc]) | (with_reducible refine wpAny_isSubtype_exc hC ?_;rw[hcB]) | wp_step)
 refine L3.at ?_
 have f5:=PySem.W.KF.type_class;have f6:=F.slot_gs_get.lookup;have f7:=F.slot_gs_set.lookup
 repeat (any_goals (first | assumption | (with_reducible refine wpAny_loadPart_at hx ?_;rw[hc]) | wp_step))
 have X':K.In (⟨hh,g,d,t+1,os⟩:Shared).heap:=X
 have I':PySem.W.InstAt (⟨hh,g,d,t+1,os⟩:Shared).heap a o C none:=I
 refine PySem.W.class_get X' I' g4 ?_
 repeat (any_goals (first | assumption | wp_step))
end
def EB(a C:Addr)(h:Heap):Prop:=∃o,h.get? a=some o/\o.cls = .ref C/\o.dict=none/\∃vs,o.data = .fields vs
structure Pz(K:PySem.W.Frag)(C:Addr):Prop where
 ga:PySem.W.findIn K (.ref C) "__getattribute__" = some (some (.builtin "BaseException.__getattribute__"))
 gr:PySem.W.findIn K (.ref C) "__getattr__" = some none
 cl:PySem.W.findIn K (.ref C) "__class__" = some (some (.builtin "object.__class__"))
 mr:PySem.W.mroIn K C (.type "object")=some true
 kt:PySem.W.ktsIn K C "BaseException" = true
theorem LZ{K:PySem.W.Frag}{a C:Addr}(c:Pz K C):PySem.W.KitX K (.ref a) (.ref C) (EB a C) where
 ty:=fun M h _ ⟨o,h1,h2,_⟩=>h2▸(PySem.W.Looks.ld h1).andThen .now
 it:=fun M h X _=>by
  obtain⟨nm,qn,N,bs,bm,hdct,sn,sub,ab,col,dc,k0,k1,k2,k3,k5,nid,hC,_⟩:=PySem.W.kts_cls X c.kt
  intro A' Q' E' s' k q
  unfold isType loadHead
  exact wpAny_bind (wpAny_loadPart (k _ _ hC) (wpAny_pure q))
 ne:=fun h tp dd its n sl X htp=>by
  obtain⟨nm,qn,N,bs,bm,hdct,sn,sub,ab,col,dc,k0,k1,k2,k3,k5,nid,hC,_⟩:=PySem.W.kts_cls X c.kt
  refine Bool.eq_false_iff.mpr fun q=>?_
  have e:C=tp:=Value.ref.inj (beq_iff_eq.mp q)
  subst e;rw[hC] at htp
  exact absurd (congrArg Obj.cls (Option.some.inj htp)) (show ¬(Value.type "type" = Value.type "tuple") by decide)
 ca:=fun X ⟨o,h1,h2,h3,vs,h4⟩ k=>MP X h1 h2 h4 h3 c.ga c.gr c.cl c.mr c.kt k
inductive ClsV:V->Value->Prop
 | own (C:Addr):ClsV (.ref C) (.ref C)
 | ty (T:String):ClsV (.ty T) (.type T)
theorem ClsV.rel{cv:V}{c u:Value}(h:ClsV cv c)(r:RelV cv u):u=c:=by
 cases h with
 | own C=>exact r
 | ty T=>exact r
section
variable {X:Cx} {e:Expr} {f:XE} {cx:Str} {p p2 pos:Pos} {tb:Str->Option Bool} {c:Value} {cv:V}
theorem JM{C:Addr}(hg:Gl X cx)(hm:X.mg cx=some (.ref C))(hdb:(cx==("__debug__" : Str))=false:=by decide):PE X (.Name cx p2) (fun _ H Q=>Q (.ref C) H):=fun pins s Z H Q I h=>WG I hg hm ⟨.ref C,H,I,rfl,h⟩ hdb
theorem JN{T:String}(hg:Gl X cx)(hm:X.mg cx=none)(hv:bootBuiltins cx=some (.type T))(hn:cx≠"__name__":=by decide)(hdb:(cx==("__debug__" : Str))=false:=by decide):PE X (.Name cx p2) (fun _ H Q=>Q (.ty T) H):=fun pins s Z H Q I h=>Ub I hg hm hv ⟨.ty T,H,I,rfl,h⟩ hn hdb
end
section
variable {prog:Program} {w:World} {A:Around} {E:Value->Shared->Prop} {K:PySem.W.Frag} {a C:Addr}
theorem ON{s:Shared}{Q:Option Value->Shared->Prop}(X:K.In s.heap){o:Obj}{ood:Option Obj}(I:PySem.W.InstAt s.heap a o C ood)
  (g1:PySem.W.findIn K (.ref C) "__getattribute__" = some (some (.builtin "BaseException.__getattribute__")))
  (g2:PySem.W.findIn K (.ref C) "__getattr__" = some none) (g3:PySem.W.findIn K (.ref C) "__class__" = some (some (.builtin "object.__class__"))) (g4:PySem.W.mroIn K C (.type "object")=some true) (g5:PySem.W.ktsIn K C "BaseException" = true)
  (h:Q (some (.ref C)) { s with toks:=s.toks+1 }):wpAny (model prog w) A (getAttr? (.ref a) "__class__") Q E s:=by
 obtain⟨hh,g,d,t,os⟩:=s
 have I:PySem.W.InstAt hh a o C ood:=I
 have hx:=I.at_;have hc:=I.cls
 have L0:=I.type (M:=model prog w)
 have L1:=PySem.W.looks_findIn (M:=model prog w) X g1
 unfold getAttr? getAttrBy? getAttrBy
 refine wpAny_bind (wpAny_mkText (wpAny_bind (wpAny_attempt (wpAny_holding (wpAny_bind (L0.at (wpAny_bind (L1.at ?_))))))))
 have L2:=PySem.W.looks_findIn (M:=model prog w) X g2
 have L3:=PySem.W.looks_findIn (M:=model prog w) X g3
 show wpAny (model prog w) A (getAttrByItsOwn (.ref a) (.str "__class__" t) (.ref C) (.builtin "BaseException.__getattribute__") false false) _ _ _
 have f3:=F.attr_ValueError.ga.bind (.ref a)
 unfold getAttrByItsOwn
 repeat (any_goals (first | assumption | wp_step | (refine wpAny_bind (L2.at ?_)) | (refine L2.at ?_)))
 obtain⟨nm,qn,N,bs,bm,hdct,sn,sub,ab,col,dc,k0,k1,k2,k3,k5,nid,hC,hbase,_⟩:=PySem.W.kts_cls X g5
 have hC:hh.get? C=some (excClassObj nm qn C N bs bm hdct sn sub ab col dc k0 k1 k2 k3 k5 nid):=hC
 have hcB:(Value.ref C::bm).contains (.type "BaseException")=true:=by rw[List.contains_cons,hbase,Bool.or_true]
 have L0':=I.type (M:=model prog w)
 show codeAny (model prog w) A (.call (.builtin "BaseException.__getattribute__") ⟨[.ref a,.str "__class__" t],[]⟩) _ ⟨hh,g,d,t+1,os⟩
 refine codeAny_call_builtin F.attr_ValueError.ga.plain F.entry_bexc_ga ?_
 have hk:builtinKind "BaseException.__getattribute__" = some .slot:=by decide +kernel
 have hsplit:splitId "BaseException.__getattribute__" = some ("BaseException","__getattribute__"):=by decide +kernel
 have ha:=F.args_bexc_ga (.ref a) (.str "__class__" t)
 simp only[checkBuiltinCall,hk,hsplit]
 refine wpAny_bind ?_
 unfold isInstance
 repeat (first | (with_reducible refine wpAny_loadPart_at hx ?_;rw[hc]) | (with_reducible refine wpAny_isSubtype_exc hC ?_;rw[hcB]) | wp_step)
 refine L3.at ?_
 have f5:=PySem.W.KF.type_class;have f6:=F.slot_gs_get.lookup;have f7:=F.slot_gs_set.lookup
 repeat (any_goals (first | assumption | (with_reducible refine wpAny_loadPart_at hx ?_;rw[hc]) | wp_step))
 have X':K.In (⟨hh,g,d,t+1,os⟩:Shared).heap:=X
 have I':PySem.W.InstAt (⟨hh,g,d,t+1,os⟩:Shared).heap a o C ood:=I
 refine PySem.W.class_get X' I' g4 ?_
 repeat (any_goals (first | assumption | wp_step))
theorem OO{s:Shared}{Q:Value->Shared->Prop}{f:Str}{cd:ClassData}{v:Value}(X:K.In s.heap){o:Obj}{ood:Option Obj}(I:PySem.W.InstAt s.heap a o C ood)
  (g1:PySem.W.findIn K (.ref C) "__getattribute__" = some (some (.builtin "BaseException.__getattribute__")))
  (g2:PySem.W.findIn K (.ref C) "__getattr__" = some none) (g3:PySem.W.findIn K (.ref C) f=some none) (g4:PySem.W.clsIn K C=some cd) (gw:PySem.W.ownOf cd ood f=some (some v)) (g5:PySem.W.ktsIn K C "BaseException" = true) (hv:PySem.W.handedIn v=true)
  (h:Q v { s with toks:=s.toks+1 }):wpAny (model prog w) A (getAttr (.ref a) f true) Q E s:=by
 obtain⟨hh,g,d,t,os⟩:=s
 have I:PySem.W.InstAt hh a o C ood:=I
 have hx:=I.at_;have hc:=I.cls
 have L0:=I.type (M:=model prog w)
 have L1:=PySem.W.looks_findIn (M:=model prog w) X g1
 unfold getAttr getAttrBy
 refine wpAny_bind (wpAny_mkText (wpAny_holding (wpAny_bind (L0.at (wpAny_bind (L1.at ?_))))))
 have L2:=PySem.W.looks_findIn (M:=model prog w) X g2
 have L3:=PySem.W.looks_findIn (M:=model prog w) X g3
 have L4:=PySem.W.looks_own (M:=model prog w) X I g4 gw
 show wpAny (model prog w) A (getAttrByItsOwn (.ref a) (.str f t) (.ref C) (.builtin "BaseException.__getattribute__") true true) _ _ _
 have f3:=F.attr_ValueError.ga.bind (.ref a)
 unfold getAttrByItsOwn
 repeat (any_goals (first | assumption | wp_step | (refine wpAny_bind (L2.at ?_)) | (refine L2.at ?_)))
 obtain⟨nm,qn,N,bs,bm,hdct,sn,sub,ab,col,dc,k0,k1,k2,k3,k5,nid,hC,hbase,_⟩:=PySem.W.kts_cls X g5
 have hC:hh.get? C=some (excClassObj nm qn C N bs bm hdct sn sub ab col dc k0 k1 k2 k3 k5 nid):=hC
 have hcB:(Value.ref C::bm).contains (.type "BaseException")=true:=by rw[List.contains_cons,hbase,Bool.or_true]
 show codeAny (model prog w) A (.call (.builtin "BaseException.__getattribute__") ⟨[.ref a,.str f t],[]⟩) _ ⟨hh,g,d,t+1,os⟩
 refine codeAny_call_builtin F.attr_ValueError.ga.plain F.entry_bexc_ga ?_
 have hk:builtinKind "BaseException.__getattribute__" = some .slot:=by decide +kernel
 have hsplit:splitId "BaseException.__getattribute__" = some ("BaseException","__getattribute__"):=by decide +kernel
 have ha:=F.args_bexc_ga (.ref a) (.str f t)
 simp only[checkBuiltinCall,hk,hsplit]
 refine wpAny_bind ?_
 unfold isInstance
 repeat (first | (with_reducible refine wpAny_loadPart_at hx ?_;rw[hc]) | (with_reducible refine wpAny_isSubtype_exc hC ?_;rw[hcB]) | wp_step)
 refine L3.at ?_
 refine wpAny_bind (wpAny_pure (wpAny_bind (wpAny_pure ?_)))
 show wpAny _ _ (Builtin.ObjectAttr.ownThenClass (.ref a) f none none) _ _ _
 unfold Builtin.ObjectAttr.ownThenClass
 refine wpAny_bind (L4.at ?_)
 refine wpAny_bind (wpAny_rule (wpAny_pure ?_))
 refine wpAny_pure ?_
 show wpAny (model prog w) A (handedOut v) Q E _
 rw[PySem.W.handedOut_of hv]
 exact wpAny_pure h
end
def FK(a C:Addr)(h:Heap):Prop:=∃o ood,PySem.W.InstAt h a o C ood
theorem MQ{K:PySem.W.Frag}{a C:Addr}(c:Pz K C):PySem.W.KitX K (.ref a) (.ref C) (FK a C) where
 ty:=fun M h _ ⟨o,ood,I⟩=>I.type
 it:=fun M h X _=>by
  obtain⟨nm,qn,N,bs,bm,hdct,sn,sub,ab,col,dc,k0,k1,k2,k3,k5,nid,hC,_⟩:=PySem.W.kts_cls X c.kt
  intro A' Q' E' s' k q
  unfold isType loadHead
  exact wpAny_bind (wpAny_loadPart (k _ _ hC) (wpAny_pure q))
 ne:=(LZ (a:=a) c).ne
 ca:=fun X ⟨o,ood,I⟩ k=>ON X I c.ga c.gr c.cl c.mr c.kt k
def Yh(tb:Str->Option Bool)(f:XE):XE:=fun s=>match f s with
 | some (.exf n _)=>(tb n).map PV.bl
 | _=>none
theorem NO{X:Cx}{pins:List (Addr×Obj)}{Z:L2.St}{H:Hp}{s:Shared}{a dx x C:Addr}{o od:Obj}{vs:Array Value}(I:Inv X pins Z H s)(hH:H a=some (.frz o (.own x)))(hc:o.cls = .ref C)(hd:o.dict=some dx)(hv:o.data = .fields vs)(hdx:H dx=some (.frz od (.own dx))) :
  PySem.W.InstAt s.heap a o C (some od):=⟨(I.hok a _ hH).1,hc,by unfold PySem.W.notCls;rw[hv],by rw[hd];exact(I.hok dx _ hdx).1⟩
section
variable {X:Cx} {e:Expr} {f:XE} {cx:Str} {p p2 pos:Pos} {tb:Str->Option Bool} {c:Value} {cv:V}
theorem PB:X1 X (.builtin "isinstance") (fun xs H Q=>∃a C cv c b o x dx od,xs=[.ref a,cv]/\ClsV cv c/\H a=some (.frz o (.own x))/\o.cls = .ref C/\o.dict=some dx/\(∃vs,o.data = .fields vs)/\H dx=some (.frz od (.own dx))/\Pz X.K C/\PySem.W.kitOne X.K (.ref C) c=some b/\Q (.bl b) H):=by
 intro pins s Z H xs us Q I r h
 obtain⟨a,C,cv,c,b,o,x,dx,od,rfl,hcv,hH,hc,hd,⟨vs,hv⟩,hdx,ec,hk,q⟩:=h
 obtain⟨u,v,rfl,ru,rv⟩:=O6 r
 obtain rfl:=hcv.rel rv
 obtain rfl:u=Value.ref a:=ru
 exact PySem.W.kia_one (MQ ec) I.kIn ⟨o,some od,NO I hH hc hd hv hdx⟩ hk (fun z=>nomatch z) fun tk=>⟨.bl b,H,I.tok tk,rfl,q⟩
theorem L5(hgi:Gl X "isinstance")(hm:X.mg "isinstance" = none)(he:VE X e f)(hcv:ClsV cv c)(hc:PE X (.Name cx p2) (fun _ H Q=>Q cv H))
  (ht:∀n b,tb n=some b->∃C,PySem.W.nsIn X.K mainGlobals n=some (some (.ref C))/\Pz X.K C/\PySem.W.kitOne X.K (.ref C) c=some b)
  (hst:starEach [e,.Name cx p2] X.env=(false,eval e X.env)::starEach [.Name cx p2] X.env:=by rfl) (hst2:starEach [.Name cx p2] X.env=(false,eval (.Name cx p2) X.env)::starEach [] X.env:=by rfl) (hpl:(backTo pos (starEach [.Name cx p2] X.env)).any (·.1)=false:=by rfl):VM X (.Call (.Name "isinstance" p) [e,.Name cx p2] [] pos) (Yh tb f):=
 PE.imp (Sg PB hgi hm (by decide +kernel) (Yb he (Yb hc Y9 (hs:=hst2)) (hs:=hst)) (by decide) (by decide) hst hpl) fun Z H Q ⟨s,l,env,e1,k⟩=>by
  unfold Yh at e1
  split at e1
  ·rename_i n lv hn
   obtain⟨b,hb,rfl⟩:=map_some e1
   obtain⟨C,hns,ec,hk⟩:=ht n b hb
   refine⟨fun _=>False,s,.exf n lv,fun _ z=>z.elim,env,hn,fun v H1 fp s1 i1 _=>?_⟩
   simp only[Is] at i1
   obtain⟨⟨ea,o,x,C',dx,od,u,z,rfl,hH,hcl,hn',hd,hv,hdx,_⟩,_⟩:=i1
   rw[hns] at hn'
   cases hn'
   exact⟨ea,C,cv,c,b,o,x,dx,od,rfl,hcv,hH,hcl,hd,hv,hdx,ec,hk,k _ H1 [] s1 (Is.bl _) List.nodup_nil fun p hp=>by simp at hp⟩
  ·cases e1
structure FL(K:PySem.W.Frag)(n:Str)(C:Addr):Prop where
 ns:PySem.W.nsIn K mainGlobals n=some (some (.ref C))
 ec:Pz K C
 nf:PySem.W.findIn K (.ref C) (Wd n)=some none
 hd:(PySem.W.clsIn K C).any (·.hasDict)=true
def XQ(n:Str)(f:XE):XE:=fun s=>match f s with
 | some (.exf m l)=>if m=n/\Ua l=true then some l else none
 | _=>none
theorem JO{od:Obj}{f:Str}{u:Value}{hp:Heap}{dx:Addr}(h:NsO od f u)(hx:hp.get? dx=some od):PySem.W.lookIn f od=some (some u):=by
 obtain⟨o,es,ep,e1,e2,_,_,e3⟩:=h hp dx hx
 rw[hx] at e1;cases e1
 have e4:nsFind es f=some u:=(e3 f).trans (if_pos rfl)
 have e5:findBy (fun n v=>v.isStr n) es f=some u:=e4
 unfold findBy at e5;rw[<-Array.find?_toList] at e5;unfold PySem.W.lookIn;rw[e2]
 dsimp only
 cases q:es.toList.find? (fun x=>x.key.isStr f) with
 | none=>rw[q] at e5;cases e5
 | some en=>rw[q] at e5;cases e5;rfl
theorem OP{z:V}{u:Value}(r:RelV z u):PySem.W.handedIn u=true:=by
 cases z<;>simp only[L2.RelV] at r<;>first | (obtain⟨t,rfl⟩:=r;rfl) | (subst r;rfl)
theorem T7{n:Str}{C:Addr}(F:FL X.K n C)(he:VE X e f)(hb:attributeBase e (Wd n) X.env (eval e X.env)=eval e X.env:=by rfl):VE X (.Attribute e (Wd n) pos) (XQ n f):=by
 intro pins s Z H Q I h
 obtain⟨Rm,s',l,hd,env,e1,k⟩:=h
 unfold XQ at e1
 split at e1
 ·rename_i m lv hn
  split at e1
  ·rename_i hm
   cases e1
   obtain⟨rfl,hg⟩:=hm
   refine K0 hb (Ya (he pins s Z H (fun v H1=>Same H H1/\Is X.K H1 (.exf m l) v []) I ⟨Rm,s',.exf m l,hd,env,hn,fun v H1 fp s1 i1 n1=>⟨s1,by
    have:fp=[]:=by simp only[Is] at i1;exact i1.2
    rw[<-this];exact i1⟩⟩) fun u s1 ⟨v,H1,I1,rv,sm,i1⟩=>?_)
   simp only[Is] at i1
   obtain⟨⟨ea,o,x,C',dx,od,u',z,rfl,hH,hcl,hn',hdd,⟨vs,hv⟩,hdx,ns,rz,iz⟩,_⟩:=i1
   rw[F.ns] at hn'
   cases hn'
   obtain rfl:u=Value.ref ea:=rv
   obtain⟨cd,hcd,hhd⟩:=PySem.W.any_some F.hd
   refine OO I1.kIn (NO I1 hH hcl hdd hv hdx) F.ec.ga F.ec.gr F.nf hcd (by
    unfold PySem.W.ownOf;rw[if_pos hhd]
    exact JO ns (I1.hok dx _ hdx).1) F.ec.kt (OP rz) ?_
   exact⟨z,H1,I1.kept (t':=s1.toks+1) fun _ _ q=>q,rz,k z H1 [] sm iz fun p hp=>by simp at hp⟩
  ·cases e1
 ·cases e1
end
section
variable {M:Model} {A:Around} {E:Value->Shared->Prop} {s:Shared} {env:Env} {L e T:Addr} {cls fl:Value} {dd:Option Addr} {Q:Unit->Shared->Prop}
theorem JP(x:OG s.heap e cls dd T fl){fs:List Addr}(h:∀h',OG h' e cls dd T (rawInt L)->Eff fs [T] s.heap h'->h'.objs.size=s.heap.objs.size->Q () { s with heap:=h' }):wpAny M A (setFlight (.ref e) (some L)) Q E s:=by
 obtain⟨oe,vs,oT,ts,he,hc,hdd,hd,h1,hTe,hT,hdT,h3⟩:=x
 have hsz:=(Array.getElem?_eq_some_iff.mp h3).1
 unfold setFlight
 refine wpAny_bind (wpAny_field he hd h1 ?_)
 rw[if_pos (show(Value.ref T != Value.none)=true from by simp)]
 refine wpAny_setField hT hdT hsz (h _ ⟨oe,vs,_,_,(Heap.get?_update_other _ _ hTe).trans he,hc,hdd,hd,h1,hTe,Heap.get?_update_self _ hT (Obj.isFreed_of_fields (Obj.data_mapFields hdT _)),Obj.data_mapFields hdT _,by simp[hsz]⟩ (Eff.field hT hdT) (by simp))
theorem IG(hf:env.frame=some L)(x:OG s.heap e cls dd T (rawInt L))(h:Q () s):wpAny M A (noteFrame (.ref e) env) Q E s:=by
 obtain⟨oe,vs,oT,ts,he,hc,hdd,hd,h1,hTe,hT,hdT,h3⟩:=x
 unfold noteFrame;simp only[hf]
 refine wpAny_bind (wpAny_field he hd h1 ?_)
 rw[if_pos (show(Value.ref T != Value.none)=true from by simp)]
 refine wpAny_bind (wpAny_field hT hdT h3 ?_)
 rw[if_pos (by simp)]
 exact wpAny_pure h
theorem FN{E':Value->Shared->Prop}(hf:env.frame=some L)(x:OG s.heap e cls dd T fl){fs:List Addr}(h:∀h',OG h' e cls dd T (rawInt L)->Eff fs [T] s.heap h'->h'.objs.size=s.heap.objs.size->E' (.ref e) { s with heap:=h' }):cameBackBy M A env E' (.ref e) s:=by
 obtain⟨oe,vs,oT,ts,he,hc,hdd,hd,h1,hTe,hT,hdT,h3⟩:=id x
 unfold cameBackBy
 refine wpAny_bind (wpAny_field he hd h1 ?_)
 rw[if_neg (show ¬((Value.ref T==Value.none)=true) from by simp)];rw[hf]
 exact JP x h
end
section
variable {X:Cx} {E:XK}
def L6(X:Cx)(E:XK):Value->Shared->Prop:=fun v s'=>∃(pins:List (Addr×Obj)) (Z:L2.St) (H:Hp) (s:Shared) (e:Addr) (cls:Value) (dd:Option Addr),v = .ref e/\Inv X pins Z H s/\X.s₀.heap.get? e=none/\H e=none/\E cls dd H/\
 ((s'=s/\LR s.heap e cls dd)\/∃h' T,s'={ s with heap:=h' }/\s.heap.objs.size<=T/\OG h' e cls dd T (rawInt X.env.locals)/\Eff ((X.env::X.outer).filterMap (·.frame)) [e,T] s.heap h')
theorem PD(D:OH X E){v:Value}{s':Shared}(h:L6 X E v s'):X.xe v s':=by
 obtain⟨pins,Z,H,s,e,cls,dd,rfl,I,he,hH,q,⟨rfl,x⟩ | ⟨h',T,rfl,hT,x,ef⟩⟩:=h
 ·exact Gd D I x he hH q
 ·rw[D.xe]
  show wpAny _ _ (leaving X.env (.ref e)) _ _ _
  unfold leaving
  refine wpAny_bind (IG D.fr x ?_)
  refine QD x (fs:=(X.env::X.outer).filterMap (·.frame)) fun h2 x2 e2 _=>?_
  have nT:X.s₀.heap.get? T=none:=Heap.get?_none_of_le (Nat.le_trans I.sz hT)
  have hHT:H T=none:=I.hok.fresh hT
  exact RV D I nT he hH hHT (fun b hb=>by
   rcases List.mem_cons.mp hb with z | z
   ·rw[z];exact⟨hH,he⟩
   ·rw[List.mem_singleton.mp z];exact⟨hHT,nT⟩) x2 (ef.trans (e2.mono fun b hb=>by simp at hb;simp[hb])) q
theorem OQ(D:OH X E):PassesOwn (model X.prog X.w) X.A X.env (L6 X E):=fun v s' h=>by
 obtain⟨pins,Z,H,s,e,cls,dd,rfl,I,he,hH,q,⟨rfl,x⟩ | ⟨h',T,rfl,hT,x,ef⟩⟩:=h
 ·have hst:=I.stack
  rw[D.stk] at hst;have hfr:=I.ok.frames;rw[D.stk] at hfr
  refine IC hfr hst D.fr x fun h' T hT x' ef=>?_
  refine FN D.fr x' (fs:=(X.env::X.outer).filterMap (·.frame)) fun h2 x2 e2 _=>⟨pins,Z,H,_,e,cls,dd,rfl,I,he,hH,q,.inr ⟨h2,T,rfl,hT,x2,?_⟩⟩
  exact(ef.mono fun b hb=>by simp at hb;simp[hb]).trans (e2.mono fun b hb=>by simp at hb;simp[hb])
 ·refine IG D.fr x ?_
  refine FN D.fr x (fs:=(X.env::X.outer).filterMap (·.frame)) fun h2 x2 e2 _=>⟨pins,Z,H,s,e,cls,dd,rfl,I,he,hH,q,.inr ⟨h2,T,rfl,hT,x2,?_⟩⟩
  exact ef.trans (e2.mono fun b hb=>by simp at hb;simp[hb])
abbrev Cx.rdy(X:Cx)(E:XK):Cx:=X.wish (L6 X E)
theorem QM:Ez (Cx.rdy X E) E:=⟨fun{pins Z H s e cls dd} I x a b q=>⟨pins,Z,H,s,e,cls,dd,rfl,I.unwish,a,b,q,.inl ⟨rfl,x⟩⟩⟩
theorem PF(D:OH X E):PassesOwn (model (Cx.rdy X E).prog (Cx.rdy X E).w) (Cx.rdy X E).A (Cx.rdy X E).env (Cx.rdy X E).xe:=OQ D
theorem PSs.rdy{st:List Stmt}{t:TS}(D:OH X E)(h:PSs (Cx.rdy X E) st t):PSs X st t:=fun pins s Z H D' I hw=>
 wpAny_mono (h pins s Z H D' (I.wish _) hw) (fun _ _ q=>q.unwish) fun v s' z=>PD D z
end
section
variable {K:PySem.W.Frag} {P:Program} {w:World} {mg:Str->Option Value} {base:Heap}
theorem def_yr{x:Str}{st:Stmt}{N ps:List Str}{k n:Nat}{O:List Nat}(m:Nat)(fy:XF)(D:Def K mg x st)(S:ZU N ps (Zl st))
  (hb:∀(kV doc pm:Value)(an:Option Addr)(cdv ct:Value)(us:List Value),us.length=ps.length->bindArgs (PySem.W.fnOf x x (YT st) (Z7 st) (Zl st) .none kV doc pm an cdv ct) ⟨us,[]⟩=pure (ps.zip us))
  (hn:ps.length=n) (hm:N.length=m) (hO:∀i∈O,n<=i)
  (hbody:∀(fa:Addr)(cdv:Value)(A:Around)(outer:List Env)(s:Shared)(H:Hp)(E:XK),Room k (A.deeper (envOfC x (Zl st) s.heap.objs.size fa cdv))->JK (Cx.rdy (U5 (Gb P w) P w K mg base N x (Zl st) fa cdv A outer s H E) E) O E (Z7 st) fy) :
  CalX P w K mg base x ps (spY K (FI m fy) n) (k+1):=FJ m fy D S hb hn hm hO fun fa cdv A outer s H E hr=>PSs.rdy QE (hbody fa cdv A outer s H E hr)
end
def GA(k:Bool):List Bool->Option Nat
 | []=>none
 | x::r=>if x=k then some 0 else(GA k r).map (· + 1)
theorem PH{k:Bool}:∀{l:List Bool}{j:Nat},GA k l=some j->l[j]?=some k/\∀m,m<j->l[m]?≠some k
 | [],_,h=>by cases h
 | x::r,j,h=>by
  unfold GA at h
  split at h
  ·rename_i e
   cases h
   exact⟨by simp[e],fun m hm=>by omega⟩
  ·rename_i e
   cases q:GA k r with
   | none=>rw[q] at h;cases h
   | some i=>
    rw[q] at h;cases h
    obtain⟨a,b⟩:=PH q
    refine⟨by simpa using a,fun m hm=>?_⟩
    cases m with
    | zero=>simpa using e
    | succ m=>have hm':m+1<i+1:=hm;simpa using b m (by omega)
def JQ(K:PySem.W.Frag):V->List V->Hp->VK->Prop:=fun x vs H Q=>∃(p:Addr) (ns:List Bool) (k:Bool) (j:Nat),x = .ref p/\vs=[.bl k]/\SqL K H p (ns.map V.bl)/\GA k ns=some j/\Q (.int (j:Int)) H
def JR(K:PySem.W.Frag):V->List V->Hp->VK->Prop:=fun x vs H Q=>∃(p:Addr) (ns:List Bool) (k:Bool),x = .ref p/\vs=[.bl k]/\SqL K H p (ns.map V.bl)/\Q (.int ((ns.filter (·==k)).length:Int)) H
theorem PJ{ns:List Bool}{its:List Value}(r:Vals (ns.map V.bl) its):its=ns.map Value.bool:=by
 induction ns generalizing its with
 | nil=>cases r;rfl
 | cons a t ih=>
  cases r with
  | cons h1 h2=>rw[ih h2];cases h1;rfl
theorem MR{X:Cx}:En X "list.index" (JQ X.K):=by
 intro pins s Z H x vs v us Q I rx rv h
 obtain⟨p,ns,k,j,rfl,rfl,hq,hj,q⟩:=h
 cases rx
 obtain⟨u,rfl,ru⟩:=Ut rv
 obtain rfl:u=Value.bool k:=ru
 obtain⟨its,r,pl,hz⟩:=I.list hq
 obtain⟨o,n,ho,hc,hd,hs⟩:=pl
 obtain⟨cls,dd,data,sl⟩:=o
 simp only at hc hd hs
 subst hc hd hs
 rw[List.length_map] at hz;have hb:=PJ r;subst hb
 obtain⟨a,b⟩:=PH hj
 have hjn:j<ns.length:=(List.getElem?_eq_some_iff.mp a).1
 let e:Value->Bool:=fun y=>match y with | .bool c=>c==k | _=>false
 have sz:sizeLine<2^62:=by decide
 refine call_meets F.slot_list_index ⟨_,ho,rfl⟩ F.entry_list_index (F.args_list_index_2 _ _) (SeqAt.list_indexAt p (ns.map Value.bool).toArray n none sl (.bool k) e j (by simp;omega) (by omega) ?_ ?_) ⟨ho,fun y hy=>?_,.int (j:Int),H,I.tok _,⟨_,rfl⟩,q⟩
 ·rw[List.getElem?_eq_getElem hjn] at a
  simp only[List.getElem_toArray,List.getElem_map]
  show(ns[j]==k)=true
  rw[Option.some.inj a];simp
 ·intro m hm hmj
  have hm2:m<ns.length:=by simpa using hm
  have:=b m hmj
  rw[List.getElem?_eq_getElem hm2] at this;simp only[List.getElem_toArray,List.getElem_map]
  show(ns[m]==k)=false
  simpa using this
 ·simp at hy
  rcases hy with⟨hb,rfl⟩ | ⟨hb,rfl⟩<;>exact SeqAt.EqAt.bool_bool _ _
theorem MS{X:Cx}:En X "list.count" (JR X.K):=by
 intro pins s Z H x vs v us Q I rx rv h
 obtain⟨p,ns,k,rfl,rfl,hq,q⟩:=h
 cases rx
 obtain⟨u,rfl,ru⟩:=Ut rv
 obtain rfl:u=Value.bool k:=ru
 obtain⟨its,r,pl,hz⟩:=I.list hq
 obtain⟨o,n,ho,hc,hd,hs⟩:=pl
 obtain⟨cls,dd,data,sl⟩:=o
 simp only at hc hd hs
 subst hc hd hs
 have hb:=PJ r;subst hb
 let e:Value->Bool:=fun y=>match y with | .bool c=>c==k | _=>false
 have hcnt:((ns.map Value.bool).toArray.toList.countP e)=(ns.filter (·==k)).length:=by
  rw[<-List.countP_eq_length_filter];simp only[List.countP_map];rfl
 refine call_meets F.slot_list_count ⟨_,ho,rfl⟩ F.entry_list_count (F.args_list_count_2 _ _) (SeqAt.list_countAt p (ns.map Value.bool).toArray n none sl (.bool k) e) ⟨ho,fun y hy=>?_,?_⟩
 ·simp at hy
  rcases hy with⟨hb,rfl⟩ | ⟨hb,rfl⟩<;>exact SeqAt.EqAt.bool_bool _ _
 ·rw[hcnt]
  exact⟨.int _,H,I.tok _,⟨_,rfl⟩,q⟩
def UU:PV->PV->Option PV
 | .lst l,.bl k=>(UD l).bind fun ns=>(GA k ns).map fun(j:Nat)=>PV.int (j:Int)
 | _,_=>none
def WY:PV->PV->Option PV
 | .lst l,.bl k=>(UD l).map fun ns=>PV.int ((ns.filter (·==k)).length:Int)
 | _,_=>none
section
variable {X:Cx} {o e:Expr} {fo fe:XE} {apos cpos:Pos}
theorem MT(ho:VE X o fo)(he:VE X e fe)
  (hbase:attributeBase o "index" X.env (eval o X.env)=eval o X.env:=by rfl)
  (hfew:((backTo cpos (starEach [e] X.env)).all (fun x=>!x.1)&&(backToKw cpos (keywordEach [] X.env)).all (fun x=>x.1.isSome)
   &&decide (([e]:List Expr).length+([]:List Keyword).length+(if([]:List Keyword).isEmpty then 0 else 1)<30))=true:=by rfl)
  (hline:(apos.endLine==cpos.line)=true:=by rfl) (hs:starEach [e] X.env=(false,eval e X.env)::starEach [] X.env:=by rfl) (hplain:(backTo cpos (starEach [] X.env)).any (·.1)=false:=by rfl) :
  VE X (.Call (.Attribute o "index" apos) [e] [] cpos) (Zh UU fo fe):=
 PE.imp (Uu F.plainAttrs_list F.slot_list_index F.type_list_index MR ho (Zb he Zi hs) hbase hfew hline hs hplain) fun Z H Q ⟨Rm,s,l,hd,env,e,k⟩=>by
  obtain⟨x',y',e1,e2,e⟩:=Wy e
  refine⟨Rm,s,x',hd,env,e1,fun v H1 fp s1 i1 n1=>?_⟩
  unfold UU at e
  split at e
  ·obtain⟨ns,e3,e4⟩:=Zd e
   obtain⟨j,hj,rfl⟩:=map_some e4
   have em:=WR e3;subst em
   obtain⟨p,xs,fq,rfl,hp,hi,_⟩:=i1.lst_inv
   obtain⟨rfl,rfl⟩:=hi.bL
   refine⟨.inl ⟨rfl,_,.inl (.inl hp)⟩,Rm,s,[.bl _],fun q hq=>Same.mut s1 (hd q hq),env.mono s1,by show(fe s).bind _=_;rw[e2];rfl,fun vs H2 fq s2 i2 n2=>?_⟩
   obtain⟨w,rfl,iw⟩:=i2.one_inv
   rw[iw.bl_inv.1]
   exact⟨p,ns,_,j,rfl,rfl,.inl (.inl (s2 _ _ hp)),hj,k _ _ [] (s1.trans s2) (Is.int _) fun r hr=>by simp at hr⟩
  ·cases e
theorem MU(ho:VE X o fo)(he:VE X e fe)
  (hbase:attributeBase o "count" X.env (eval o X.env)=eval o X.env:=by rfl)
  (hfew:((backTo cpos (starEach [e] X.env)).all (fun x=>!x.1)&&(backToKw cpos (keywordEach [] X.env)).all (fun x=>x.1.isSome)
   &&decide (([e]:List Expr).length+([]:List Keyword).length+(if([]:List Keyword).isEmpty then 0 else 1)<30))=true:=by rfl)
  (hline:(apos.endLine==cpos.line)=true:=by rfl) (hs:starEach [e] X.env=(false,eval e X.env)::starEach [] X.env:=by rfl) (hplain:(backTo cpos (starEach [] X.env)).any (·.1)=false:=by rfl) :
  VE X (.Call (.Attribute o "count" apos) [e] [] cpos) (Zh WY fo fe):=
 PE.imp (Uu F.plainAttrs_list F.slot_list_count F.type_list_count MS ho (Zb he Zi hs) hbase hfew hline hs hplain) fun Z H Q ⟨Rm,s,l,hd,env,e,k⟩=>by
  obtain⟨x',y',e1,e2,e⟩:=Wy e
  refine⟨Rm,s,x',hd,env,e1,fun v H1 fp s1 i1 n1=>?_⟩
  unfold WY at e
  split at e
  ·obtain⟨ns,e3,rfl⟩:=map_some e
   have em:=WR e3;subst em
   obtain⟨p,xs,fq,rfl,hp,hi,_⟩:=i1.lst_inv
   obtain⟨rfl,rfl⟩:=hi.bL
   refine⟨.inl ⟨rfl,_,.inl (.inl hp)⟩,Rm,s,[.bl _],fun q hq=>Same.mut s1 (hd q hq),env.mono s1,by show(fe s).bind _=_;rw[e2];rfl,fun vs H2 fq s2 i2 n2=>?_⟩
   obtain⟨w,rfl,iw⟩:=i2.one_inv
   rw[iw.bl_inv.1]
   exact⟨p,ns,_,rfl,rfl,.inl (.inl (s2 _ _ hp)),k _ _ [] (s1.trans s2) (Is.int _) fun r hr=>by simp at hr⟩
  ·cases e
end
section
variable {X:Cx} {O W:List Nat} {k n i:Nat} {x y cx nm:Str} {ps:List Str} {R:List PV->Option Str} {e:Expr} {es:List Expr} {fs:List XE} {p py cp ep np hp pos:Pos} {b₀:Stmt} {suite:List Stmt} {f:XS} {Cb:Addr} {rest:List ExceptHandler}
theorem JS{body:List Stmt}{h₀:ExceptHandler}{hs:List ExceptHandler}(hb:VSs X.nox O W body f):VS X O W (.Try body (h₀::hs) [] [] pos) f:=by
 intro pins s Z H D I h
 refine wpAny_Try_except (wpAny_mono (hb pins s Z H D (I.wish _) h) (fun fl s1 q=>?_) fun _ _ z=>z.elim)
 cases fl with
 | next=>
  obtain⟨Z',H',I',z⟩:=q
  exact wpAny_execs_nil ⟨Z',H',I'.unwish,z⟩
 | ret u=>
  obtain⟨v,Z',H',I',r,z⟩:=q
  exact⟨v,Z',H',I'.unwish,r,z⟩
 | brk=>
  obtain⟨Z',H',I',z⟩:=q
  exact⟨Z',H',I'.unwish,z⟩
 | cont=>
  obtain⟨Z',H',I',z⟩:=q
  exact⟨Z',H',I'.unwish,z⟩
def JU(f g:XS):XS:=fun s=>match f s with
 | some o=>some o
 | none=>g s
theorem FP{st:Stmt}{g:XS}{W1 W2:List Nat}(h1:VS X O W1 st f)(h2:VS X O W2 st g):VS X O (W1++W2) st (JU f g):=by
 intro pins s Z H D I ⟨H0,fps,sp,out,r,e,k⟩
 have s1:∀j,j∉W1++W2->j∉W1:=fun j hj z=>hj (List.mem_append_left _ z)
 have s2:∀j,j∉W1++W2->j∉W2:=fun j hj z=>hj (List.mem_append_right _ z)
 unfold JU at e
 split at e
 ·rename_i o ho
  cases e
  exact h1 pins s Z H D I ⟨H0,fps,sp,_,r,ho,k.same (fun j _=>⟨rfl,Kep.refl _⟩) s1⟩
 ·exact h2 pins s Z H D I ⟨H0,fps,sp,_,r,e,k.same (fun j _=>⟨rfl,Kep.refl _⟩) s2⟩
end
end VX
namespace VL
open PySem PySem.Spec PyProof.Rows L2
variable {K:PySem.W.Frag}
instance (x:Str) (n:Int):Decidable (MulOk x n):=by unfold MulOk;infer_instance
end VL
namespace VX
open PySem PySem.Spec PyProof.Rows L2 VL
def nms:List Str:=["NoWeb","Apart","NoText","NoOrder","TooMany","NotSettled","NoTree","NoTotal","NoEnds","NoRow","NoName"]
abbrev veT:List Value:=[.type "ValueError",.type "Exception",.type "BaseException",.type "object"]
def IH(i:Nat):Stmt->Stmt
 | .ClassDef _ _ _ b _ _ _ _ _ _ _=>b.getD i (.Pass ⟨0,0,0,0⟩)
 | s=>s
structure QF(nm:Str)(P:Program)(w:World)(K:PySem.W.Frag)(mg:Str->Option Value)(base:Heap)(C Cb:Addr):Prop where
 no:PySem.W.nsIn K mainGlobals nm=some (some (.ref C))
 mgo:mg nm=some (.ref C)
 cf:Ge P w K mg base C (Wd nm) veT "ValueError.__new__"
 fl:FL K nm C
 bl:belowIn K C Cb=true
 cls:∀cx∈nms,∃D,mg cx=some (.ref D)/\PySem.W.kitOne K (.ref C) (.ref D)=some (decide (cx=nm))
 ve:PySem.W.kitOne K (.ref C) (.type "ValueError")=some true
structure Q2(P:Program)(wo:World)(K:PySem.W.Frag)(mg:Str->Option Value)(base:Heap)(Cw Ca Cb:Addr):Prop where
 mgb:mg "PurseError" = some (.ref Cb)
 kb:PySem.W.ktsIn K Cb "BaseException" = true
 w:QF "NoWeb" P wo K mg base Cw Cb
 a:QF "Apart" P wo K mg base Ca Cb
def WZ(cx:Str):Str->Option Bool:=fun n=>if n = "NoWeb" then some (decide (cx = "NoWeb")) else if n = "Apart" then some (decide (cx = "Apart")) else none
def JV:Str->Option Bool:=fun n=>if n = "NoWeb" then some true else if n = "Apart" then some true else none
section
variable {X:Cx} {Cw Ca Cb:Addr} {e:Expr} {f:XE} {cx:Str} {p p2 pos:Pos}
theorem Xk(Q:Q2 X.prog X.w X.K X.mg X.base Cw Ca Cb)(hgi:Gl X "isinstance")(hm:X.mg "isinstance" = none)(he:VE X e f)(hcx:cx∈nms)(hgc:Gl X cx)(hdb:(cx==("__debug__" : Str))=false:=by decide)
  (hst:starEach [e,.Name cx p2] X.env=(false,eval e X.env)::starEach [.Name cx p2] X.env:=by rfl) (hst2:starEach [.Name cx p2] X.env=(false,eval (.Name cx p2) X.env)::starEach [] X.env:=by rfl) (hpl:(backTo pos (starEach [.Name cx p2] X.env)).any (·.1)=false:=by rfl):VM X (.Call (.Name "isinstance" p) [e,.Name cx p2] [] pos) (Yh (WZ cx) f):=by
 obtain⟨D,hD,hk⟩:=Q.w.cls cx hcx
 refine L5 hgi hm he (.own D) (JM hgc hD hdb) (fun n b h=>?_) hst hst2 hpl
 unfold WZ at h
 split at h
 ·rename_i hn
  subst hn;cases h
  exact⟨Cw,Q.w.no,Q.w.fl.ec,hk⟩
 ·split at h
  ·rename_i hn
   subst hn;cases h
   obtain⟨D',hD',hk'⟩:=Q.a.cls cx hcx
   rw[hD] at hD'
   cases hD'
   exact⟨Ca,Q.a.no,Q.a.fl.ec,hk'⟩
  ·cases h
theorem JW(Q:Q2 X.prog X.w X.K X.mg X.base Cw Ca Cb)(hgi:Gl X "isinstance")(hm:X.mg "isinstance" = none)(he:VE X e f)(hgc:Gl X "ValueError")(hv:X.mg "ValueError" = none)
  (hst:starEach [e,.Name "ValueError" p2] X.env=(false,eval e X.env)::starEach [.Name "ValueError" p2] X.env:=by rfl) (hst2:starEach [.Name "ValueError" p2] X.env=(false,eval (.Name "ValueError" p2) X.env)::starEach [] X.env:=by rfl) (hpl:(backTo pos (starEach [.Name "ValueError" p2] X.env)).any (·.1)=false:=by rfl):VM X (.Call (.Name "isinstance" p) [e,.Name "ValueError" p2] [] pos) (Yh JV f):=by
 refine L5 hgi hm he (.ty "ValueError") (JN hgc hv (by decide +kernel)) (fun n b h=>?_) hst hst2 hpl
 unfold JV at h
 split at h
 ·rename_i hn
  subst hn;cases h
  exact⟨Cw,Q.w.no,Q.w.fl.ec,Q.w.ve⟩
 ·split at h
  ·rename_i hn
   subst hn;cases h
   exact⟨Ca,Q.a.no,Q.a.fl.ec,Q.a.ve⟩
  ·cases h
end
section
variable {X:Cx} {O W:List Nat} {Cw Ca Cb:Addr} {k n i:Nat} {x y nm:Str} {ps:List Str} {R:List PV->Option (Str×PV)} {e:Expr} {es:List Expr} {fs:List XE} {p py cp ep np hp pos:Pos} {b₀:Stmt} {suite:List Stmt} {f:XS} {rest:List ExceptHandler}
theorem L7(Q:Q2 X.prog X.w X.K X.mg X.base Cw Ca Cb)(CX:CalX X.prog X.w X.K X.mg X.base x ps (spY X.K R n) k)(hR:∀ls m l,R ls=some (m,l)->m = "NoWeb"\/m = "Apart")(hr:Room k X.A)(hg:Gl X x)(ha:VA X.nox (e::es) fs)(hx:X.ex=[])(hst:X.stack=X.env::X.outer)(hfr:X.env.frame=some X.env.locals)
  (hN:X.N.Nodup) (hi:X.N[i]?=some nm) (hk:X.env.scope.names.lookup nm=some .local) (hgc:Gl X "PurseError")
  (hs:∀e,VSs (Cx.mark X e) O W (b₀::suite) f) (hiO:i∉O) (hsw:swapsWith (.Call (.Name x p) (e::es) [] cp) none ep.line X.env=pure false:=by rfl) (hn:fs.length=n:=by rfl)
  (hdb:(x==("__debug__" : Str))=false:=by decide) (he:starEach (e::es) X.env=(false,eval e X.env)::starEach es X.env:=by rfl) (hpl:(backTo cp (starEach es X.env)).any (·.1)=false:=by rfl) :
  VS X O (i::W) (.Try [.Expr (.Call (.Name x p) (e::es) [] cp) ep] (.ExceptHandler (some (.Name "PurseError" np)) (some nm) (b₀::suite) hp::rest) [] [] pos) (UT R fs i f):=
 JL CX hr hg ha hx hst hfr hN hi hk hgc Q.mgb Q.kb (fun ls m l h=>by
  rcases hR ls m l h with rfl | rfl
  ·exact⟨Cw,Q.w.no,Q.w.fl.ec.kt,Q.w.bl⟩
  ·exact⟨Ca,Q.a.no,Q.a.fl.ec.kt,Q.a.bl⟩) hs hiO hsw hn hdb (by decide) he hpl
end
def GB(f:XE):XS:=fun s=>(f s).map fun _=>.nx s
theorem FQ{X:Cx}{O:List Nat}{e:Expr}{f:XE}{pos:Pos}(he:VE X e f)(hs:swapsWith e none pos.line X.env=pure false:=by rfl):VS X O [] (.Expr e pos) (GB f):=PS.imp (Xz he hs) fun D Z H ⟨H0,fps,s,out,r,e,k⟩=>by
 obtain⟨l,e1,rfl⟩:=map_some e
 exact⟨fun _=>False,s,l,fun _ z=>z.elim,r.env,e1,fun v H' fp sm is _=>k fps Z H' (r.grow sm) fun j _=>⟨rfl,Kep.refl _⟩⟩
def W7(fy:XF):Prop:=∀s m l,fy s=some (m,l)->m = "NoWeb"\/m = "Apart"
theorem Up{n:Str}{f:XE}(h:n = "NoWeb"\/n = "Apart"):W7 (WX n f):=fun s m l e=>by
 obtain⟨l',_,e⟩:=Zd e
 split at e
 ·cases e
  exact h
 ·cases e
theorem Wm:W7 Rn:=fun s m l e=>nomatch e
theorem QN{fc:XT}{f g:XF}(hf:W7 f)(hg:W7 g):W7 (QK fc f g):=fun s m l e=>by
 obtain⟨c,_,e⟩:=Zd e
 split at e
 ·exact hf s m l e
 ·exact hg s m l e
theorem X8{f1:XF}{f:XS}{g:XF}(hf:W7 f1)(hg:W7 g):W7 (Xj f1 f g):=fun s m l e=>by
 unfold Xj at e
 split at e
 ·rename_i c hc
  cases e
  exact hf s m l hc
 ·split at e
  ·exact hg _ m l e
  ·cases e
theorem Tr{T:Tgt}{fy:XF}{fb:XS}(h:W7 fy):∀(ls:List PV)(s:ZE)(m:Str)(l:PV),Tq T fy fb ls s=some (m,l)->m = "NoWeb"\/m = "Apart"
 | [],s,m,l,e=>nomatch e
 | a::r,s,m,l,e=>by
  unfold Tq at e
  obtain⟨s1,_,e⟩:=Zd e
  split at e
  ·rename_i n hn
   cases e
   exact h s1 m l hn
  ·split at e
   ·exact Tr h r _ m l e
   ·exact Tr h r _ m l e
   ·cases e
theorem L8{O:List Nat}{fi:XL}{T:Tgt}{fy:XF}{fb:XS}(h:W7 fy):W7 (OM O fi T fy fb):=fun s m l e=>by
 obtain⟨ls,_,e⟩:=Zd e
 exact Tr h ls s m l e
theorem JX{m:Nat}{fy:XF}(h:W7 fy):∀ls n l,FI m fy ls=some (n,l)->n = "NoWeb"\/n = "Apart":=fun ls n l e=>h _ n l e
end VX
namespace PW
open PySem L2 VL VX
noncomputable def NP:XS:=(Zk (YC (Qm (xB (Zh T1 (Za 0) (eC (.int 1)))) (xB (Zh Mq (Za 0) (eC (.int 7))))) (Yd (eP (ZJ [(eC (.int 0)),(eC .non)]))) Zp)
  (Zk (Zm 2 (ZG []))
  (Zk (YI [2,7] (ZY [(Zg YM [(Za 1)])]) (.one 3) (Zk (TN (.many [4,5,6]) (Zh Z2 (Za 1) (Za 3)))
  (Zk (YC (Qm (xB (Zh T1 (Za 4) (eC (.int 0)))) (Qm (xB (Zh TJ (Za 5) (Za 4))) (Qm (xB (Zh Eu (Za 5) (Za 0))) (Qm (xB (Zh T1 (Za 6) (eC (.int 1)))) (Qm (xB (Zh Mq (Za 6) (eC (.int 9)))) (xB (Zh (V1 false) (ZJ [(Za 4),(Za 5)]) (Za 2)))))))) (Yd (eP (ZJ [(eC (.int 0)),(Za 3)]))) Zp)
  (YJ 2 (eP (ZJ [(Za 4),(Za 5)]))))))
  (Zk (Zm 7 (ZG [(eP (eC (.int 0)))]))
  (Zk (YI [7] (ZY [(Za 0)]) (.one 8) (YI [7] (Vo (Za 2)) (.many [4,5]) (Zk (YC (XW (xB (Zh (V1 false) (Za 4) (Za 7))) (xB (Zh (V1 true) (Za 5) (Za 7)))) (YJ 7 (eP (Za 5))) Zp)
  (YC (XW (xB (Zh (V1 false) (Za 5) (Za 7))) (xB (Zh (V1 true) (Za 4) (Za 7)))) (YJ 7 (eP (Za 4))) Zp))))
  (Zk (YC (xB (Zh T1 (Zg YM [(Za 7)]) (Za 0))) (Yd (eP (ZJ [(eC (.int 1)),(Zg Yq [(Zg WV [(Za 7)])])]))) Zp)
  (Yd (eP (eC .non)))))))))
noncomputable def Xl:List PV->Option PV:=Wr 9 NP
noncomputable def WD:XS:=(Zk (Zm 1 (ZG [(eP (Yh (WZ "NoWeb") (Za 0))),(eP (Yh (WZ "Apart") (Za 0))),(eP (Yh (WZ "NoText") (Za 0))),(eP (Yh (WZ "NoOrder") (Za 0)))]))
  (Zk (Zm 1 (Zh Ym (Za 1) (ZG [(Yh (WZ "TooMany") (Za 0)),(Yh (WZ "NotSettled") (Za 0)),(Yh (WZ "NoTree") (Za 0))])))
  (Zk (Zm 1 (Zh Ym (Za 1) (ZG [(Yh (WZ "NoTotal") (Za 0)),(Yh (WZ "NoEnds") (Za 0)),(Yh (WZ "NoRow") (Za 0)),(Yh (WZ "NoName") (Za 0))])))
  (Zk (YC (Qm (Y3 (xB (Yh JV (Za 0)))) (xB (Zh (XA true) (Zh WY (Za 1) (eC (.bl true))) (eC (.int 1))))) (Yd (eP (Qp Va (eC (.int 1))))) Zp)
  (Yd (eP (Zh UU (Za 1) (eC (.bl true)))))))))
noncomputable def Xm:List PV->Option PV:=Wr 2 WD
noncomputable def XZ:XS:=(Zk (Zm 1 (ZG [(eP (eC (.int 0)))]))
  (Zk (Zm 2 (eP (eC (.int 0))))
  (Zk (Th (xB (Zh T1 (Za 2) (Zg YM [(Za 1)]))) (Zk (Zm 3 (eP (Zh Z2 (Za 0) (Zh Z2 (Za 1) (Za 2)))))
  (Zk (VJ 1 (Z4 2 [1] (Xr false [(Za 3)]) (.many [0,1]) (XW (xB (Zh Mq (Za 1) (eC (.int 0)))) (xB (Zh (V1 true) (Za 0) (Za 2)))) (eP (Za 0))))
  (Mw 2 ZN (eC (.int 1))))))
  (Yd (eP (Zg Yq [(Zg WV [(Za 1)])]))))))
noncomputable def YX:List PV->Option PV:=Wr 4 XZ
noncomputable def W0:XS:=(Zk (YC (Y3 (xB (Rt TJ T1 T1 (eC (.int 0)) (Zh Z2 (Za 1) (eC (.int 0))) (Zh Z2 (Za 1) (eC (.int 1))) (Zg YM [(Za 0)])))) (Yd (eP (eC (.bl false)))) Zp)
  (Yd (eP (Ph (UM TJ TJ (eC (.int 1)) (Zh Z2 (Za 1) (eC (.int 2))) (eC (.int 9))) (Zh (XA false) (Zh Z2 (Zh Z2 (Za 0) (Zh Z2 (Za 1) (eC (.int 0)))) (Zh Z2 (Za 1) (eC (.int 1)))) (eC (.int 0)))))))
noncomputable def ZV:List PV->Option PV:=Wr 2 W0
noncomputable def Yu:List PV->Option (Str×PV):=FI 7 (Xj (QK (Y3 (xB (UM TJ TJ (eC (.int 1)) (Za 0) (eC (.int 7))))) (WX "NoWeb" (eC .non)) Rn) (YC (Y3 (xB (UM TJ TJ (eC (.int 1)) (Za 0) (eC (.int 7))))) Yl Zp)
  (Xj Rn (Zm 2 (Z4 1 [0] (ZY [(Za 0)]) (.one 0) YO (Zh Ui (ZG [(eC (.int 0))]) (Za 1))))
  (Xj (OM [2] (Xr true [(Za 1)]) (.many [3,4]) (Xj (QK (Y3 (xB (Zg ZV [(Za 2),(Za 4)]))) (WX "NoWeb" (Za 3)) Rn) Yl Rn) (Zk (YC (Y3 (xB (Zg ZV [(Za 2),(Za 4)]))) Yl Zp)
  (Zk (ZM 2 (Zh Z2 (Za 4) (eC (.int 0))) (Zh Z2 (Za 4) (eC (.int 1))) (Zh Z2 (Za 4) (eC (.int 2))))
  (ZM 2 (Zh Z2 (Za 4) (eC (.int 1))) (Zh Z2 (Za 4) (eC (.int 0))) (Zh Z2 (Za 4) (eC (.int 2))))))) (YI [2] (Xr true [(Za 1)]) (.many [3,4]) (Zk (YC (Y3 (xB (Zg ZV [(Za 2),(Za 4)]))) Yl Zp)
  (Zk (ZM 2 (Zh Z2 (Za 4) (eC (.int 0))) (Zh Z2 (Za 4) (eC (.int 1))) (Zh Z2 (Za 4) (eC (.int 2))))
  (ZM 2 (Zh Z2 (Za 4) (eC (.int 1))) (Zh Z2 (Za 4) (eC (.int 0))) (Zh Z2 (Za 4) (eC (.int 2)))))))
  (Xj Rn (Zm 5 (eP (Zg Yq [(Z4 1 [] (Vo (Za 2)) (.one 0) YO (Zg Yq [(Za 0)]))])))
  (Xj Rn (Zm 6 (Zg YX [(Za 5)]))
  (Xj (QK (xB (Zh T1 (Zg YM [(Za 6)]) (Za 0))) (WX "Apart" (Za 6)) Rn) Yl Rn))))))
theorem PK:∀ls m l,Yu ls=some (m,l)->m = "NoWeb"\/m = "Apart":=JX (X8 (QN (Up (by decide)) Wm) (X8 Wm (X8 (L8 (X8 (QN (Up (by decide)) Wm) Wm)) (X8 Wm (X8 Wm (X8 (QN (Up (by decide)) Wm) Wm))))))
noncomputable def UW:XS:=(Zk (YC (Y3 (xB (UM TJ TJ (eC (.int 1)) (Za 0) (eC (.int 7))))) Yl Zp)
  (Zk (Zm 2 (Z4 1 [0] (ZY [(Za 0)]) (.one 0) YO (Zh Ui (ZG [(eC (.int 0))]) (Za 1))))
  (Zk (YI [2] (Xr true [(Za 1)]) (.many [3,4]) (Zk (YC (Y3 (xB (Zg ZV [(Za 2),(Za 4)]))) Yl Zp)
  (Zk (ZM 2 (Zh Z2 (Za 4) (eC (.int 0))) (Zh Z2 (Za 4) (eC (.int 1))) (Zh Z2 (Za 4) (eC (.int 2))))
  (ZM 2 (Zh Z2 (Za 4) (eC (.int 1))) (Zh Z2 (Za 4) (eC (.int 0))) (Zh Z2 (Za 4) (eC (.int 2)))))))
  (Zk (Zm 5 (eP (Zg Yq [(Z4 1 [] (Vo (Za 2)) (.one 0) YO (Zg Yq [(Za 0)]))])))
  (Zk (Zm 6 (Zg YX [(Za 5)]))
  (Zk (YC (xB (Zh T1 (Zg YM [(Za 6)]) (Za 0))) Yl Zp)
  (Yd (eP (Za 5)))))))))
noncomputable def Z5:List PV->Option PV:=Wr 7 UW
noncomputable def TQ:XS:=(Zk (Zm 2 (eP (eC .non)))
  (Zk (JU (UT Yu [(Za 0),(Zg YH [(Za 1)])] 3 (Zm 2 (eP (Za 3)))) (GB (Zg Z5 [(Za 0),(Zg YH [(Za 1)])])))
  (Zk (YC (xB (X3 false (Za 2))) (Yd (eP (eC .non))) Zp)
  (Zk (Zm 4 (Zg Xm [(Za 2)]))
  (Zk (YC (xB (Zh (XA false) (Za 4) (eC (.int 0)))) (Zk (YC (XW (xB (X3 true (XQ "NoWeb" (Za 2)))) (Y3 (xB (Zg Y6 [(XQ "NoWeb" (Za 2))])))) (Yd (eP (ZJ [(Qp Va (eC (.int 1))),(eC (.int 0))]))) Zp)
  (Yd (ZJ [(eP (eC (.int 0))),(eP (XQ "NoWeb" (Za 2)))]))) Zp)
  (Zk (YC (xB (Zh (XA false) (Za 4) (eC (.int 1)))) (Yd (ZJ [(eP (eC (.int 1))),(eP (XQ "Apart" (Za 2)))])) Zp)
  (Yd (eP (ZJ [(Qp Va (eC (.int 1))),(Za 4)])))))))))
noncomputable def Z6:List PV->Option PV:=Wr 5 TQ
noncomputable def TR:XS:=(Zk (YC (xB (Zh (XA false) (Zg YM [(Za 0)]) (eC (.int 0)))) (Yd (ZG [(eP (ZJ [(eC (.int 0)),(Zh ZO (Za 2) (eC (.int 3))),(eC (.int 1))]))])) Zp)
  (Zk (Zm 4 (eP (Zh ZO (Za 2) (Zg YM [(Za 0)]))))
  (Zk (TN (.many [5,6,7]) (Zh Z2 (Za 0) (Za 4)))
  (Zk (Zm 2 (eP (Zh Xa (Za 2) (Zg YM [(Za 0)]))))
  (Zk (YC (xB (Zh (XA false) (Za 1) (eC (.int 0)))) (Yd (Zh Ym (U0 Y8 (Za 0) Tg (V8 (Za 4))) (U0 Y8 (Za 0) (V8 (Zh ZN (Za 4) (eC (.int 1)))) Tg))) Zp)
  (Zk (YC (xB (Zh (XA false) (Za 1) (eC (.int 1)))) (Zk (Zm 8 (eP (Zh ZO (Za 2) (Zh ZN (Zg YM [(Za 0)]) (eC (.int 1))))))
  (Yd (Zh Ym (Zh Ym (U0 Y8 (Za 0) Tg (V8 (Za 8))) (ZG [(ZJ [(Za 5),(Za 6),(Zh ZN (eC (.int 1)) (Zh ZO (Za 2) (eC (.int 9))))])])) (U0 Y8 (Za 0) (V8 (Za 8)) Tg)))) Zp)
  (Zk (Zm 9 (eP (ZJ [(Za 6),(Za 5),(Za 7)])))
  (Zk (YC (xB (Zh (XA false) (Za 1) (eC (.int 2)))) (Zm 9 (eP (ZJ [(Zh W9 (Qp Va (eC (.int 1))) (Zh ZO (Za 2) (eC (.int 2)))),(Za 6),(Za 7)]))) Zp)
  (Zk (YC (xB (Zh (XA false) (Za 1) (eC (.int 3)))) (Zm 9 (eP (ZJ [(Za 5),(Za 5),(Za 7)]))) Zp)
  (Zk (YC (xB (Zh (XA false) (Za 1) (eC (.int 4)))) (Zm 9 (eP (ZJ [(Za 5),(Zh ZN (Za 3) (Zh V0 (Zh ZO (Za 2) (eC (.int 2))) (Zh WO (eC (.int 10)) (eC (.int 28))))),(Za 7)]))) Zp)
  (Zk (YC (xB (Zh (XA false) (Za 1) (eC (.int 5)))) (Zm 9 (eP (ZJ [(Za 5),(Za 6),(Zh Z2 (ZG [(eC (.int 0)),(eC (.int 10)),(Qp Va (eC (.int 1))),(Zh WO (eC (.int 10)) (eC (.int 29)))]) (Zh ZO (Za 2) (eC (.int 4))))]))) Zp)
  (Yd (Zh Ym (Zh Ym (U0 Y8 (Za 0) Tg (V8 (Za 4))) (ZG [(Za 9)])) (U0 Y8 (Za 0) (V8 (Zh ZN (Za 4) (eC (.int 1)))) Tg))))))))))))))
noncomputable def Y7:List PV->Option PV:=Wr 10 TR
noncomputable def II:XS:=(Zk (Zm 1 (eP (Zh ZN (eC (.int 1)) (Zh ZO (Zg Zn [(Za 0),(eC (.int 0))]) (eC (.int 7))))))
  (Zk (Zm 2 (Zg Xy [(Za 0),(eC (.int 1)),(Za 1)]))
  (Zk (Zm 3 (SX 2 [2] 2 (.many [0,1]) YO (eP (ZJ [(Za 0),(Za 1),(Zh Xs (Za 2) (ZJ [(Za 0),(Za 1)]))]))))
  (Zk (Zm 4 (Zg YH [(Za 3)]))
  (Zk (Zm 5 (eP (Za 1)))
  (Zk (YI [9] (ZY [(Zh ZO (Zg Zn [(Za 0),(eC (.int 29))]) (eC (.int 4)))]) (.one 6) (Zm 4 (Zg Y7 [(Za 4),(Zh ZO (Zg Zn [(Za 0),(Zh ZN (eC (.int 30)) (Zh V0 (eC (.int 2)) (Za 6)))]) (eC (.int 7))),(Zh ZO (Zg Zn [(Za 0),(Zh ZN (eC (.int 31)) (Zh V0 (eC (.int 2)) (Za 6)))]) (Zh WO (eC (.int 10)) (eC (.int 9)))),(Za 1)])))
  (Zk (YC (xB (Zh (XA false) (Zh ZO (Zg Zn [(Za 0),(eC (.int 36))]) (eC (.int 8))) (eC (.int 5)))) (Zm 5 (eP (Zh Z2 (ZG [(eC (.int 0)),(eC (.int 8)),(Qp Va (eC (.int 1))),(Zh WO (eC (.int 10)) (eC (.int 29))),(Zh ZN (Za 1) (eC (.int 1)))]) (Zh ZO (Zh Xa (Zg Zn [(Za 0),(eC (.int 36))]) (eC (.int 8))) (eC (.int 5)))))) Zp)
  (Zk (Zm 7 (Zg Xl [(Za 5),(Za 4)]))
  (Zk (Zm 8 (Zg Z6 [(Za 5),(Za 4)]))
  (Zk (YC (xB (X3 false (Za 7))) (Zk (YC (xB (X3 true (Za 8))) (Yd (eP (eC (.bl false)))) Zp)
  (Zk (Zm 9 (eC (.dT [] [])))
  (Zk (YI [9] (Vo (Za 4)) (.many [10,11,12]) (sDPut 9 (ZJ [(Za 10),(Za 11)]) (Za 12)))
  (Yd (eP (Zh (XA false) (Zg Z5 [(Za 5),(Za 4)]) (Zg Yk [(Za 9),(Za 5)]))))))) Zp)
  (Yd (eP (Ph (Zh (XA false) (Za 8) (Za 7)) (Zh (XA false) (Zg Z5 [(Za 1),(Za 3)]) (Zg Yk [(Za 2),(Za 1)])))))))))))))))
noncomputable def D_law:List PV->Option PV:=Wr 13 II
def P2(i:Nat):Stmt:=PySem.Challenge.pw_purseweb_k02_webs_refused.main.body.getD i (.Pass ⟨0,0,0,0⟩)
section
variable {P:Program} {w:World} {K:PySem.W.Frag} {mg:Str->Option Value} {base:Heap}
abbrev S6:Stmt:=P2 20
theorem MV:ZU (["_law_script","_law_k"]:List Str) (["_law_script","_law_k"]:List Str) (Zl S6):=⟨rfl,rfl,rfl,by decide +kernel,rfl,by decide +kernel,by decide +kernel⟩
theorem MW(Df:Def K mg "_law_cell" S6)(B:P1 mg):Vj P w K mg base "_law_cell" (["_law_script","_law_k"]:List Str) (Wg K Zn 2) 1:=
 XI (O:=[]) (k:=0) 2 SU Df MV (fun _ _ _ _ _ _ us hl=>match us,hl with | [_,_],_=>rfl) rfl rfl (by decide) (fun fa cdv A outer s H E hr=>
  (Zj (ZX (VE.pure (Zr (VM.ve (Wj (Xv (Zc (pv 0)) (Wi (Zc (pv 1))) (Wi (YG (Zc (pv 1)) Ze))) (Xu (Zb Ze Zi)))) Ze)))))
abbrev Vx:Stmt:=P2 22
theorem sc_l_renamed:ZU (["_law_found","_law_cell_here","_law_many","_law_names","_law_house","_law_told","_law_one","_law_other","_law_pair"]:List Str) (["_law_found","_law_cell_here","_law_many"]:List Str) (Zl Vx):=⟨rfl,rfl,rfl,by decide +kernel,rfl,by decide +kernel,by decide +kernel⟩
theorem QO(Df:Def K mg "_law_renamed" Vx)(B:P1 mg):Vj P w K mg base "_law_renamed" (["_law_found","_law_cell_here","_law_many"]:List Str) (Wg K XD 3) 1:=
 XI (O:=[3,5]) (k:=0) 9 Wk Df sc_l_renamed (fun _ _ _ _ _ _ us hl=>match us,hl with | [_,_,_],_=>rfl) rfl rfl (by decide) (fun fa cdv A outer s H E hr=>
  (Zf (Zq (i:=3) sc_l_renamed.nd rfl (Or.inl rfl) (Uh XX))
  (Zf (Xe PassesOwn.never rfl (YF rfl B.range (Zb (Zc (pv 2)) Zi)) (Zo (i:=4) sc_l_renamed.nd rfl (Or.inl rfl)) (Zf (Mv (Xz (Uu PySem.F.plainAttrs_list PySem.F.slot_list_insert PySem.F.type_list_insert Mo (pv 3) (Yb (Yp (Zc (pv 1)) (YG (Zc (pv 4)) Ze)) (Yb (Zc (pv 4)) Y9)))))
  (Zj (Zq (i:=1) sc_l_renamed.nd rfl (Or.inl rfl) (VE.pure (Xb (Zc (pv 1)) (YG (Zc (pv 4)) Ze)))))))
  (Zf (Zq (i:=5) sc_l_renamed.nd rfl (Or.inl rfl) UC)
  (Zf (NA (Se PassesOwn.never rfl (TZ (pv 0)) (XH (n:=2) rfl (Zu (Zo (i:=6) sc_l_renamed.nd rfl (Or.inl rfl)) (Zu (Zo (i:=7) sc_l_renamed.nd rfl (Or.inl rfl)) Y1))) (Zf (Zq (i:=8) sc_l_renamed.nd rfl (Or.inl rfl) (VE.pure (Z8 (Zb (Z3 (U4 rfl) Qq rfl B.min (by decide +kernel) (Zb (Zr (Zc (pv 3)) (Zc (pv 6))) (Zb (Zr (Zc (pv 3)) (Zc (pv 7))) Zi))) (Zb (Z3 (N8 rfl) Jq rfl B.max (by decide +kernel) (Zb (Zr (Zc (pv 3)) (Zc (pv 6))) (Zb (Zr (Zc (pv 3)) (Zc (pv 7))) Zi))) Zi)))))
  (Zj (UL (Ux (V5 hr) (pv 5) (Zc (pv 8)) (T5 (V5 hr) (Zc (pv 0)) (Z8 (Zb (Zc (pv 6)) (Zb (Zc (pv 7)) Zi)))) rfl))))))
  (Zj (Jy (pv 5))))))))
abbrev X9:Stmt:=P2 23
theorem sc_l_read_times:ZU (["_law_rest","_law_many","_law_room","_law_most","_law_found","_law_met","_law_one","_law_other","_law_deep","_law_turn"]:List Str) (["_law_rest","_law_many","_law_room","_law_most"]:List Str) (Zl X9):=⟨rfl,rfl,rfl,by decide +kernel,rfl,by decide +kernel,by decide +kernel⟩
theorem TX(Df:Def K mg "_law_read_times" X9)(B:P1 mg):Vj P w K mg base "_law_read_times" (["_law_rest","_law_many","_law_room","_law_most"]:List Str) (Wg K Yj 4) 1:=
 XI (O:=[4,5]) (k:=0) 10 Xi Df sc_l_read_times (fun _ _ _ _ _ _ us hl=>match us,hl with | [_,_,_,_],_=>rfl) rfl rfl (by decide) (fun fa cdv A outer s H E hr=>
  (Zf (Zq (i:=4) sc_l_read_times.nd rfl (Or.inl rfl) UC)
  (Zf (Zq (i:=5) sc_l_read_times.nd rfl (Or.inl rfl) (Uh (YD (VE.pure Ze) XX)))
  (Zf (Xe PassesOwn.never rfl (YF rfl B.range (Zb (Zc (pv 1)) Zi)) (Zo (i:=6) sc_l_read_times.nd rfl (Or.inl rfl)) (Zj (Xe PassesOwn.never rfl (Tf rfl B.range (Zb (YG (Zc (pv 6)) Ze) (Zb (Zc (pv 1)) Zi))) (Zo (i:=7) sc_l_read_times.nd rfl (Or.inl rfl)) (Zf (Zq (i:=8) sc_l_read_times.nd rfl (Or.inl rfl) (VE.pure (Z3 (U4 rfl) Qq rfl B.min (by decide +kernel) (Zb (Qk (Yp (Zc (pv 0)) Ze) (YG Ze (Yp (Xb (Zc (pv 0)) Ze) (Zc (pv 3))))) (Zb (Zc (pv 2)) Zi)))))
  (Zf (Zq (i:=0) sc_l_read_times.nd rfl (Or.inl rfl) (VE.pure (Zr (Xu (Zb (Xb (Zc (pv 0)) Ze) (Zb (Xb (Xb (Zc (pv 0)) Ze) (Zc (pv 3))) Zi))) (Yp (Zc (pv 0)) Ze))))
  (Zj (Yg (Nn (Zc (pv 8)) Ze) (Zf (UL (Ux (V5 hr) (pv 4) (Z8 (Zb (Zc (pv 6)) (Zb (Zc (pv 7)) Zi))) (Zc (pv 8)) rfl))
  (Zj (Zq (i:=2) sc_l_read_times.nd rfl (Or.inl rfl) (VE.pure (Ue (Zc (pv 2)) (Zc (pv 8))))))) Zx)))))))
  (Zf (Xe PassesOwn.never rfl (YF rfl B.range (Zb (Zc (pv 1)) Zi)) (Zo (i:=9) sc_l_read_times.nd rfl (Or.inl rfl)) (Zj (LL (O':=[5]) (Se PassesOwn.never rfl (TZ (pv 4)) (XH (n:=2) rfl (Zu (Zo (i:=6) sc_l_read_times.nd rfl (Or.inl rfl)) (Zu (Zo (i:=7) sc_l_read_times.nd rfl (Or.inl rfl)) Y1))) (Zf (Yg (VW.vt (Vn (Pq hr.units (Zc (pv 6)) (Zc (pv 5))) (We (Vr hr.units (Zc (pv 7)) (Zc (pv 5)))))) (Zj (Wz (Xz (Uu PySem.F.plainAttrs_list PySem.F.slot_list_append PySem.F.type_list_append Ww (pv 5) (Yb (VE.pure (Zc (pv 7))) Y9))))) Zx)
  (Zj (Yg (VW.vt (Vn (Pq hr.units (Zc (pv 7)) (Zc (pv 5))) (We (Vr hr.units (Zc (pv 6)) (Zc (pv 5)))))) (Zj (Wz (Xz (Uu PySem.F.plainAttrs_list PySem.F.slot_list_append PySem.F.type_list_append Ww (pv 5) (Yb (VE.pure (Zc (pv 6))) Y9))))) Zx)))) (by decide) (by intro j;simp;try omega))))
  (Zj (My (V4 ix_list (Oe (Yb La (Yb (pv 4) Y9))) (YV N9 Jr rfl B.int (by decide +kernel) (Zb (Pp hr.units (Z3 YN X4 rfl B.len (by decide +kernel) (Zb (Zc (pv 5)) Zi)) (Zc (pv 1))) Zi)) (fun _ _=>rfl)))))))))
abbrev Ts:Stmt:=P2 24
theorem sc_l_times:ZU (["_law_script","_law_at","_law_many","_law_first","_law_found","_law_room","_law_house","_law_cell_here","_law_deep","_law_k","_law_one","_law_other"]:List Str) (["_law_script","_law_at","_law_many"]:List Str) (Zl Ts):=⟨rfl,rfl,rfl,by decide +kernel,rfl,by decide +kernel,by decide +kernel⟩
theorem OR(Df:Def K mg "_law_times" Ts)(B:P1 mg)(C_l_cell:Vj P w K mg base "_law_cell" (["_law_script","_law_k"]:List Str) (Wg K Zn 2) 1)(C_l_read_times:Vj P w K mg base "_law_read_times" (["_law_rest","_law_many","_law_room","_law_most"]:List Str) (Wg K Yj 4) 1)(C_l_renamed:Vj P w K mg base "_law_renamed" (["_law_found","_law_cell_here","_law_many"]:List Str) (Wg K XD 3) 1):Vj P w K mg base "_law_times" (["_law_script","_law_at","_law_many"]:List Str) (Wg K Xy 3) 2:=
 XI (O:=[4]) (k:=1) 12 VR Df sc_l_times (fun _ _ _ _ _ _ us hl=>match us,hl with | [_,_,_],_=>rfl) rfl rfl (by decide) (fun fa cdv A outer s H E hr=>
  (Zf (Zq (i:=3) sc_l_times.nd rfl (Or.inl rfl) (ZD C_l_cell (hr.mono (by decide)) rfl (Zb (Zc (pv 0)) (Zb (Zc (pv 1)) Zi))))
  (Zf (Yg (VW.vt (Vn (Vq hr.units (Yp (Zc (pv 3)) Ze) Ze) (We (Qo (VM.ve (ZD C_l_read_times (hr.mono (by decide)) rfl (Zb (Xb (Zc (pv 3)) Ze) (Zb (Zc (pv 2)) (Zb Ze (Zb Ze Zi)))))))))) (Zj (ZX (ZD C_l_read_times (hr.mono (by decide)) rfl (Zb (Xb (Zc (pv 3)) Ze) (Zb (Zc (pv 2)) (Zb Ze (Zb Ze Zi))))))) Zx)
  (Zf (Zq (i:=4) sc_l_times.nd rfl (Or.inl rfl) UC)
  (Zf (Zq (i:=5) sc_l_times.nd rfl (Or.inl rfl) (VE.pure Ze))
  (Zf (Xe PassesOwn.never rfl (Tf rfl B.range (Zb Ze (Zb (Zc (pv 2)) Zi))) (Zo (i:=6) sc_l_times.nd rfl (Or.inl rfl)) (Zf (Zq (i:=7) sc_l_times.nd rfl (Or.inl rfl) (ZD C_l_cell (hr.mono (by decide)) rfl (Zb (Zc (pv 0)) (Zb (YG (Zc (pv 1)) (Zc (pv 6))) Zi))))
  (Zf (Zq (i:=8) sc_l_times.nd rfl (Or.inl rfl) (VE.pure (Z3 (U4 rfl) Qq rfl B.min (by decide +kernel) (Zb (Zr (Xu (Zb Ze (Zb Ze (Zb Ze (Zb Ze (Zb Ze (Zb Ze Zi))))))) (Yp (Xb (Zc (pv 7)) (Zc (pv 6))) Ze)) (Zb (Ue (Zc (pv 5)) (Ue (Ue (Zc (pv 2)) Ze) (Zc (pv 6)))) Zi)))))
  (Zf (UL (Ux (V5 hr) (pv 4) (Z8 (Zb (Yp (Zc (pv 7)) (Zc (pv 6))) (Zb (Zc (pv 6)) Zi))) (Zc (pv 8)) rfl))
  (Zj (Zq (i:=5) sc_l_times.nd rfl (Or.inl rfl) (VE.pure (Ue (Zc (pv 5)) (Zc (pv 8))))))))))
  (Zf (Zq (i:=9) sc_l_times.nd rfl (Or.inl rfl) (VE.pure (YG (Zc (pv 1)) Ze)))
  (Zf (Xe PassesOwn.never rfl (YF rfl B.range (Zb (Zc (pv 2)) Zi)) (Zo (i:=10) sc_l_times.nd rfl (Or.inl rfl)) (Zj (Xe PassesOwn.never rfl (Tf rfl B.range (Zb (YG (Zc (pv 10)) Ze) (Zb (Zc (pv 2)) Zi))) (Zo (i:=11) sc_l_times.nd rfl (Or.inl rfl)) (Zf (Zq (i:=8) sc_l_times.nd rfl (Or.inl rfl) (VE.pure (Zr (Xu (Zb Ze (Zb Ze (Zb Ze (Zb Ze (Zb Ze (Zb Ze (Zb Ze (Zb Ze Zi))))))))) (Yp (VM.ve (ZD C_l_cell (hr.mono (by decide)) rfl (Zb (Zc (pv 0)) (Zb (Zc (pv 9)) Zi)))) Ze))))
  (Zf (Zq (i:=9) sc_l_times.nd rfl (Or.inl rfl) (VE.pure (YG (Zc (pv 9)) Ze)))
  (Zj (Yg (VW.vt (Vn (Mx (V5 hr) (Z8 (Zb (Zc (pv 10)) (Zb (Zc (pv 11)) Zi))) (Zc (pv 4))) (We (UN O5 Vf (Vl _) (Vl _) Ze (Zc (pv 8)) (Zc (pv 5)))))) (Zf (UL (Ux (V5 hr) (pv 4) (Z8 (Zb (Zc (pv 10)) (Zb (Zc (pv 11)) Zi))) (Zc (pv 8)) rfl))
  (Zj (Zq (i:=5) sc_l_times.nd rfl (Or.inl rfl) (VE.pure (Ue (Zc (pv 5)) (Zc (pv 8))))))) Zx)))))))
  (Zj (ZX (ZD C_l_renamed (hr.mono (by decide)) rfl (Zb (Zc (pv 4)) (Zb (Xb (VM.ve (ZD C_l_cell (hr.mono (by decide)) rfl (Zb (Zc (pv 0)) (Zb (Zc (pv 1)) Zi)))) Ze) (Zb (Zc (pv 2)) Zi))))))))))))))
abbrev QP:Stmt:=P2 28
theorem sc_l_due:ZU (["_law_many","_law_pairs","_law_seen","_law_k","_law_one","_law_other","_law_deep","_law_met","_law_turn"]:List Str) (["_law_many","_law_pairs"]:List Str) (Zl QP):=⟨rfl,rfl,rfl,by decide +kernel,rfl,by decide +kernel,by decide +kernel⟩
theorem L9(Df:Def K mg "_law_due" QP)(B:P1 mg):Vj P w K mg base "_law_due" (["_law_many","_law_pairs"]:List Str) (Wg K Xl 2) 1:=
 JG (O:=[2,7]) (k:=0) 9 NP Df sc_l_due (fun _ _ _ _ _ _ us hl=>match us,hl with | [_,_],_=>rfl) rfl rfl (by decide) (fun fa cdv A outer s H E hr=>
  (Tp (Yg (VW.vt (Ss (Sr (Zc (pv 0)) Ze) (Ol (Nn (Zc (pv 0)) Ze)))) (Zj (ZX (VE.pure (Z8 (Zb Ze (Zb So Zi)))))) Zx)
  (Tp (Zq (i:=2) sc_l_due.nd rfl (Or.inl rfl) (Uh XX))
  (Tp (Xe PassesOwn.never rfl (YF rfl B.range (Zb (Z3 YN X4 rfl B.len (by decide +kernel) (Zb (Zc (pv 1)) Zi)) Zi)) (Zo (i:=3) sc_l_due.nd rfl (Or.inl rfl)) (Zf (Nu (T:=(.many [4,5,6])) (Wn (Zr (Zc (pv 1)) (Zc (pv 3))) (XH (n:=3) rfl (Zu (Zo (i:=4) sc_l_due.nd rfl (Or.inl rfl)) (Zu (Zo (i:=5) sc_l_due.nd rfl (Or.inl rfl)) (Zu (Zo (i:=6) sc_l_due.nd rfl (Or.inl rfl)) Y1))))))
  (Zf (Yg (VW.vt (Ss (Sr (Zc (pv 4)) Ze) (Ss (Ft (Zc (pv 5)) (Zc (pv 4))) (Ss (Fu (Zc (pv 5)) (Zc (pv 0))) (Ss (Sr (Zc (pv 6)) Ze) (Ss (Nn (Zc (pv 6)) Ze) (Ol (Pq hr.units (Z8 (Zb (Zc (pv 4)) (Zb (Zc (pv 5)) Zi))) (Zc (pv 2)))))))))) (Zj (ZX (VE.pure (Z8 (Zb Ze (Zb (Zc (pv 3)) Zi)))))) Zx)
  (Zj (Wz (Xz (Uu PySem.F.plainAttrs_list PySem.F.slot_list_append PySem.F.type_list_append Ww (pv 2) (Yb (VE.pure (Z8 (Zb (Zc (pv 4)) (Zb (Zc (pv 5)) Zi)))) Y9))))))))
  (MF (O':=[7]) (VSs.r (Zf (Zq (i:=7) sc_l_due.nd rfl (Or.inl rfl) (Uh (YD (VE.pure Ze) XX)))
  (Zf (Xe PassesOwn.never rfl (YF rfl B.range (Zb (Zc (pv 0)) Zi)) (Zo (i:=8) sc_l_due.nd rfl (Or.inl rfl)) (Zj (Xe PassesOwn.never rfl (UG (Zc (pv 2))) (XH (n:=2) rfl (Zu (Zo (i:=4) sc_l_due.nd rfl (Or.inl rfl)) (Zu (Zo (i:=5) sc_l_due.nd rfl (Or.inl rfl)) Y1))) (Zf (Yg (VW.vt (Vn (Pq hr.units (Zc (pv 4)) (Zc (pv 7))) (We (Vr hr.units (Zc (pv 5)) (Zc (pv 7)))))) (Zj (Wz (Xz (Uu PySem.F.plainAttrs_list PySem.F.slot_list_append PySem.F.type_list_append Ww (pv 7) (Yb (VE.pure (Zc (pv 5))) Y9))))) Zx)
  (Zj (Yg (VW.vt (Vn (Pq hr.units (Zc (pv 5)) (Zc (pv 7))) (We (Vr hr.units (Zc (pv 4)) (Zc (pv 7)))))) (Zj (Wz (Xz (Uu PySem.F.plainAttrs_list PySem.F.slot_list_append PySem.F.type_list_append Ww (pv 7) (Yb (VE.pure (Zc (pv 4))) Y9))))) Zx))))))
  (Zf (Yg (Sr (Z3 YN X4 rfl B.len (by decide +kernel) (Zb (Zc (pv 7)) Zi)) (Zc (pv 0))) (Zj (ZX (VE.pure (Z8 (Zb Ze (Zb (YV Yf XC rfl B.tuple (by decide +kernel) (Zb (VM.ve (Pj US SW rfl B.sorted (by decide +kernel) (Zb (Zc (pv 7)) Zi))) Zi)) Zi)))))) Zx)
  (Zj (ZX (VE.pure So))))))))))))
abbrev S7:Stmt:=P2 26
theorem sc_l_kind:ZU (["_law_e","_law_found"]:List Str) (["_law_e"]:List Str) (Zl S7):=⟨rfl,rfl,rfl,by decide +kernel,rfl,by decide +kernel,by decide +kernel⟩
theorem MX(Df:Def K mg "_law_kind" S7)(B:P1 mg){Cw Ca Cb:Addr}(Q:VX.Q2 P w K mg base Cw Ca Cb):Vj P w K mg base "_law_kind" (["_law_e"]:List Str) (Wg K Xm 1) 1:=
 XI (O:=[]) (k:=0) 2 WD Df sc_l_kind (fun _ _ _ _ _ _ us hl=>match us,hl with | [_],_=>rfl) rfl rfl (by decide) (fun fa cdv A outer s H E hr=>
  (Zf (Zq (i:=1) sc_l_kind.nd rfl (Or.inl rfl) (Uh (YD (VE.pure (VM.ve (Xk Q rfl B.isinstance (Zc (pv 0)) (by decide) rfl))) (YD (VE.pure (VM.ve (Xk Q rfl B.isinstance (Zc (pv 0)) (by decide) rfl))) (YD (VE.pure (VM.ve (Xk Q rfl B.isinstance (Zc (pv 0)) (by decide) rfl))) (YD (VE.pure (VM.ve (Xk Q rfl B.isinstance (Zc (pv 0)) (by decide) rfl))) XX))))))
  (Zf (Zq (i:=1) sc_l_kind.nd rfl (Or.inl rfl) (Wj (Zc (pv 1)) (Xu (Zb (VM.ve (Xk Q rfl B.isinstance (Zc (pv 0)) (by decide) rfl)) (Zb (VM.ve (Xk Q rfl B.isinstance (Zc (pv 0)) (by decide) rfl)) (Zb (VM.ve (Xk Q rfl B.isinstance (Zc (pv 0)) (by decide) rfl)) Zi))))))
  (Zf (Zq (i:=1) sc_l_kind.nd rfl (Or.inl rfl) (Wj (Zc (pv 1)) (Xu (Zb (VM.ve (Xk Q rfl B.isinstance (Zc (pv 0)) (by decide) rfl)) (Zb (VM.ve (Xk Q rfl B.isinstance (Zc (pv 0)) (by decide) rfl)) (Zb (VM.ve (Xk Q rfl B.isinstance (Zc (pv 0)) (by decide) rfl)) (Zb (VM.ve (Xk Q rfl B.isinstance (Zc (pv 0)) (by decide) rfl)) Zi)))))))
  (Zf (Yg (VW.vt (Ss (Wo (Tb (VM.ve (JW Q rfl B.isinstance (Zc (pv 0)) rfl B.ValueError)))) (Ol (FC hr.units (MU (Zc (pv 1)) Nj) Ze)))) (Zj (ZX (VE.pure (Td Ze)))) Zx)
  (Zj (ZX (VE.pure (MT (Zc (pv 1)) Nj)))))))))
abbrev Tt:Stmt:=P2 18
theorem sc_reached:ZU (["web","found","looked","row"]:List Str) (["web"]:List Str) (Zl Tt):=⟨rfl,rfl,rfl,by decide +kernel,rfl,by decide +kernel,by decide +kernel⟩
theorem OS(Df:Def K mg "reached" Tt)(B:P1 mg):Vj P w K mg base "reached" (["web"]:List Str) (Wg K YX 1) 1:=
 XI (O:=[1]) (k:=0) 4 XZ Df sc_reached (fun _ _ _ _ _ _ us hl=>match us,hl with | [_],_=>rfl) rfl rfl (by decide) (fun fa cdv A outer s H E hr=>
  (Zf (Zq (i:=1) sc_reached.nd rfl (Or.inr rfl) (Uh (YD (VE.pure Ze) XX)))
  (Zf (Zq (i:=2) sc_reached.nd rfl (Or.inl rfl) (VE.pure Ze))
  (Zf (LF PassesOwn.never (Sr (Zc (pv 2)) (Z3 YN X4 rfl B.len (by decide +kernel) (Zb (Zc (pv 1)) Zi))) (Zf (Zq (i:=3) sc_reached.nd rfl (Or.inl rfl) (VE.pure (Zr (Zc (pv 0)) (Zr (Zc (pv 1)) (Zc (pv 2))))))
  (Zf (Mu (Xz (Uu PySem.F.plainAttrs_list PySem.F.slot_list_extend PySem.F.type_list_extend Me (pv 1) (Yb (Jx (["house","times"]:List Str) (["found"]:List Str) [1] rfl (T4 false rfl B.enumerate (Zb (Zc (pv 3)) Zi)) (by kernel_rfl) (fun _ _ _ _ _=>(XH (n:=2) rfl (Zu (Zo (i:=0) (show((["house","times"]:List Str)++(["found"]:List Str)).Nodup by decide +kernel) rfl (Or.inl rfl) (.inr rfl)) (Zu (Zo (i:=1) (show((["house","times"]:List Str)++(["found"]:List Str)).Nodup by decide +kernel) rfl (Or.inl rfl) (.inr rfl)) Y1)))) (fun _ _ _ _ _=>(Jw (VW.vt (Vn (Nn (Zc (pv 1)) Ze) (We (Vr hr.units (Zc (pv 0)) (Zc (pv 2)))))))) (fun _ _ _ _ _=>(VE.pure (Zc (pv 0))))) Y9))))
  (Zj (Jz (Hm (i:=2) sc_reached.nd rfl (Or.inl rfl) Ze Hn))))))
  (Zj (ZX (VE.pure (YV Yf XC rfl B.tuple (by decide +kernel) (Zb (VM.ve (Pj US SW rfl B.sorted (by decide +kernel) (Zb (Zc (pv 1)) Zi))) Zi)))))))))
abbrev OT:Stmt:=P2 17
theorem JY:ZU (["rows","tie"]:List Str) (["rows","tie"]:List Str) (Zl OT):=⟨rfl,rfl,rfl,by decide +kernel,rfl,by decide +kernel,by decide +kernel⟩
theorem JZ(Df:Def K mg "fits" OT)(B:P1 mg)(Z_MOST_TIMES:H9 mg "MOST_TIMES" 9):Vj P w K mg base "fits" (["rows","tie"]:List Str) (Wg K ZV 2) 1:=
 XI (O:=[]) (k:=0) 2 W0 Df JY (fun _ _ _ _ _ _ us hl=>match us,hl with | [_,_],_=>rfl) rfl rfl (by decide) (fun fa cdv A outer s H E hr=>
  (Zf (Yg (Wo (MD Vf O5 O5 (Vl _) (Vl _) (Vl _) Ze (Zr (Zc (pv 1)) Ze) (Zr (Zc (pv 1)) Ze) (Z3 YN X4 rfl B.len (by decide +kernel) (Zb (Zc (pv 0)) Zi)))) (Zj (ZX (VE.pure Nj))) Zx)
  (Zj (ZX (VE.pure (Oo (LJ Vf Vf (Vl _) (Vl _) Ze (Zr (Zc (pv 1)) Ze) (QC rfl Z_MOST_TIMES)) (Om (Pp hr.units (Zr (Zr (Zc (pv 0)) (Zr (Zc (pv 1)) Ze)) (Zr (Zc (pv 1)) Ze)) Ze))))))))
abbrev UX:Stmt:=P2 16
theorem sc_web_of:ZU (["many","ties","rows","place","tie","web","houses"]:List Str) (["many","ties"]:List Str) (Zl UX):=⟨rfl,rfl,rfl,by decide +kernel,rfl,by decide +kernel,by decide +kernel⟩
theorem MY(Df:Def K mg "web_of" UX)(B:P1 mg)(Z_MOST_HOUSES:H9 mg "MOST_HOUSES" 7)(C_fits:Vj P w K mg base "fits" (["rows","tie"]:List Str) (Wg K ZV 2) 1)(C_reached:Vj P w K mg base "reached" (["web"]:List Str) (Wg K YX 1) 1):Vj P w K mg base "web_of" (["many","ties"]:List Str) (Wg K Z5 2) 3:=
 XI (O:=[2]) (k:=2) 7 UW Df sc_web_of (fun _ _ _ _ _ _ us hl=>match us,hl with | [_,_],_=>rfl) rfl rfl (by decide) (fun fa cdv A outer s H E hr=>
  (Zf (Yg (Wo (UN Vf Vf (Vl _) (Vl _) Ze (Zc (pv 0)) (QC rfl Z_MOST_HOUSES))) (Zj (XG (W:=[]))) Zx)
  (Zf (Qv (["house"]:List Str) (["many"]:List Str) [0] (i:=2) sc_web_of.nd rfl rfl rfl (YF rfl B.range (Zb (Zc (pv 0)) Zi)) (by kernel_rfl) (fun _ _ _ _ _=>(Zo (i:=0) (show((["house"]:List Str)++(["many"]:List Str)).Nodup by decide +kernel) rfl (Or.inl rfl) (.inr rfl))) (fun _ _ _ _ _=>WT) (fun _ _ _ _ _=>(OC (Xu (Zb Ze Zi)) (Zc (pv 1)))))
  (Zf (Xe PassesOwn.never rfl (T4 true rfl B.enumerate (Zb (Zc (pv 1)) Zi)) (XH (n:=2) rfl (Zu (Zo (i:=3) sc_web_of.nd rfl (Or.inl rfl)) (Zu (Zo (i:=4) sc_web_of.nd rfl (Or.inl rfl)) Y1))) (Zf (Yg (Wo (Tb (VM.ve (ZD C_fits (hr.mono (by decide)) rfl (Zb (Zc (pv 2)) (Zb (Zc (pv 4)) Zi)))))) (Zj (XG (W:=[]))) Zx)
  (Zf (Y5 (Wn (Zr (Zc (pv 4)) Ze) (Ve (V4 ix_list (pv 2) (Zr (Zc (pv 4)) Ze) (fun _ _=>rfl)) (Zr (Zc (pv 4)) Ze) XB)))
  (Zj (Y5 (Wn (Zr (Zc (pv 4)) Ze) (Ve (V4 ix_list (pv 2) (Zr (Zc (pv 4)) Ze) (fun _ _=>rfl)) (Zr (Zc (pv 4)) Ze) XB)))))))
  (Zf (Zq (i:=5) sc_web_of.nd rfl (Or.inl rfl) (VE.pure (YV Yf XC rfl B.tuple (by decide +kernel) (Zb (Qs (["row"]:List Str) ([]:List Str) [] rfl (UG (Zc (pv 2))) (by kernel_rfl) (fun _ _ _ _ _=>(Zo (i:=0) (show((["row"]:List Str)++([]:List Str)).Nodup by decide +kernel) rfl (Or.inl rfl) (.inr rfl))) (fun _ _ _ _ _=>WT) (fun _ _ _ _ _=>(YV Yf XC rfl B.tuple (by decide +kernel) (Zb (Zc (pv 0)) Zi)))) Zi))))
  (Zf (Zq (i:=6) sc_web_of.nd rfl (Or.inl rfl) (ZD C_reached (hr.mono (by decide)) rfl (Zb (Zc (pv 5)) Zi)))
  (Zf (Yg (Sr (Z3 YN X4 rfl B.len (by decide +kernel) (Zb (Zc (pv 6)) Zi)) (Zc (pv 0))) (Zj (XG (W:=[]))) Zx)
  (Zj (ZX (VE.pure (Zc (pv 5))))))))))))
theorem OU{Cw Ca Cb:Addr}(Df:Def K mg "web_of" UX)(B:P1 mg)(Q:VX.Q2 P w K mg base Cw Ca Cb)(Z_MOST_HOUSES:H9 mg "MOST_HOUSES" 7)(C_fits:Vj P w K mg base "fits" (["rows","tie"]:List Str) (Wg K ZV 2) 1)(C_reached:Vj P w K mg base "reached" (["web"]:List Str) (Wg K YX 1) 1):VX.CalX P w K mg base "web_of" (["many","ties"]:List Str) (VX.spY K Yu 2) 3:=
 VX.def_yr (O:=[2]) (k:=2) 7 (Xj (QK (Y3 (xB (UM TJ TJ (eC (.int 1)) (Za 0) (eC (.int 7))))) (WX "NoWeb" (eC .non)) Rn) (YC (Y3 (xB (UM TJ TJ (eC (.int 1)) (Za 0) (eC (.int 7))))) Yl Zp)
  (Xj Rn (Zm 2 (Z4 1 [0] (ZY [(Za 0)]) (.one 0) YO (Zh Ui (ZG [(eC (.int 0))]) (Za 1))))
  (Xj (OM [2] (Xr true [(Za 1)]) (.many [3,4]) (Xj (QK (Y3 (xB (Zg ZV [(Za 2),(Za 4)]))) (WX "NoWeb" (Za 3)) Rn) Yl Rn) (Zk (YC (Y3 (xB (Zg ZV [(Za 2),(Za 4)]))) Yl Zp)
  (Zk (ZM 2 (Zh Z2 (Za 4) (eC (.int 0))) (Zh Z2 (Za 4) (eC (.int 1))) (Zh Z2 (Za 4) (eC (.int 2))))
  (ZM 2 (Zh Z2 (Za 4) (eC (.int 1))) (Zh Z2 (Za 4) (eC (.int 0))) (Zh Z2 (Za 4) (eC (.int 2))))))) (YI [2] (Xr true [(Za 1)]) (.many [3,4]) (Zk (YC (Y3 (xB (Zg ZV [(Za 2),(Za 4)]))) Yl Zp)
  (Zk (ZM 2 (Zh Z2 (Za 4) (eC (.int 0))) (Zh Z2 (Za 4) (eC (.int 1))) (Zh Z2 (Za 4) (eC (.int 2))))
  (ZM 2 (Zh Z2 (Za 4) (eC (.int 1))) (Zh Z2 (Za 4) (eC (.int 0))) (Zh Z2 (Za 4) (eC (.int 2)))))))
  (Xj Rn (Zm 5 (eP (Zg Yq [(Z4 1 [] (Vo (Za 2)) (.one 0) YO (Zg Yq [(Za 0)]))])))
  (Xj Rn (Zm 6 (Zg YX [(Za 5)]))
  (Xj (QK (xB (Zh T1 (Zg YM [(Za 6)]) (Za 0))) (WX "Apart" (Za 6)) Rn) Yl Rn)))))) Df sc_web_of (fun _ _ _ _ _ _ us hl=>match us,hl with | [_,_],_=>rfl) rfl rfl (by decide) (fun fa cdv A outer s H E hr=>
  (X7 (LY (Wo (UN Vf Vf (Vl _) (Vl _) Ze (Zc (pv 0)) (QC rfl Z_MOST_HOUSES))) (QL (S4 F.excBase_ValueError Q.w.cf (hr.mono (by decide)) rfl Q.w.mgo Q.w.no rfl QM So)) S5) (Yg (Wo (UN Vf Vf (Vl _) (Vl _) Ze (Zc (pv 0)) (QC rfl Z_MOST_HOUSES))) (Zj (XG (W:=[]))) Zx)
  (X7 LX (Qv (["house"]:List Str) (["many"]:List Str) [0] (i:=2) sc_web_of.nd rfl rfl rfl (YF rfl B.range (Zb (Zc (pv 0)) Zi)) (by kernel_rfl) (fun _ _ _ _ _=>(Zo (i:=0) (show((["house"]:List Str)++(["many"]:List Str)).Nodup by decide +kernel) rfl (Or.inl rfl) (.inr rfl))) (fun _ _ _ _ _=>WT) (fun _ _ _ _ _=>(OC (Xu (Zb Ze Zi)) (Zc (pv 1)))))
  (X7 (Gg (PF QE) rfl (T4 true rfl B.enumerate (Zb (Zc (pv 1)) Zi)) (XH (n:=2) rfl (Zu (Zo (i:=3) sc_web_of.nd rfl (Or.inl rfl)) (Zu (Zo (i:=4) sc_web_of.nd rfl (Or.inl rfl)) Y1))) (Zf (Yg (Wo (Tb (VM.ve (ZD C_fits (hr.mono (by decide)) rfl (Zb (Zc (pv 2)) (Zb (Zc (pv 4)) Zi)))))) (Zj (XG (W:=[]))) Zx)
  (Zf (Y5 (Wn (Zr (Zc (pv 4)) Ze) (Ve (V4 ix_list (pv 2) (Zr (Zc (pv 4)) Ze) (fun _ _=>rfl)) (Zr (Zc (pv 4)) Ze) XB)))
  (Zj (Y5 (Wn (Zr (Zc (pv 4)) Ze) (Ve (V4 ix_list (pv 2) (Zr (Zc (pv 4)) Ze) (fun _ _=>rfl)) (Zr (Zc (pv 4)) Ze) XB)))))) (X7 (LY (Wo (Tb (VM.ve (ZD C_fits (hr.mono (by decide)) rfl (Zb (Zc (pv 2)) (Zb (Zc (pv 4)) Zi)))))) (QL (S4 F.excBase_ValueError Q.w.cf (hr.mono (by decide)) rfl Q.w.mgo Q.w.no rfl QM (Zc (pv 3)))) S5) (XG (W:=[])) S5)) (Xe (PF QE) rfl (T4 true rfl B.enumerate (Zb (Zc (pv 1)) Zi)) (XH (n:=2) rfl (Zu (Zo (i:=3) sc_web_of.nd rfl (Or.inl rfl)) (Zu (Zo (i:=4) sc_web_of.nd rfl (Or.inl rfl)) Y1))) (Zf (Yg (Wo (Tb (VM.ve (ZD C_fits (hr.mono (by decide)) rfl (Zb (Zc (pv 2)) (Zb (Zc (pv 4)) Zi)))))) (Zj (XG (W:=[]))) Zx)
  (Zf (Y5 (Wn (Zr (Zc (pv 4)) Ze) (Ve (V4 ix_list (pv 2) (Zr (Zc (pv 4)) Ze) (fun _ _=>rfl)) (Zr (Zc (pv 4)) Ze) XB)))
  (Zj (Y5 (Wn (Zr (Zc (pv 4)) Ze) (Ve (V4 ix_list (pv 2) (Zr (Zc (pv 4)) Ze) (fun _ _=>rfl)) (Zr (Zc (pv 4)) Ze) XB)))))))
  (X7 LX (Zq (i:=5) sc_web_of.nd rfl (Or.inl rfl) (VE.pure (YV Yf XC rfl B.tuple (by decide +kernel) (Zb (Qs (["row"]:List Str) ([]:List Str) [] rfl (UG (Zc (pv 2))) (by kernel_rfl) (fun _ _ _ _ _=>(Zo (i:=0) (show((["row"]:List Str)++([]:List Str)).Nodup by decide +kernel) rfl (Or.inl rfl) (.inr rfl))) (fun _ _ _ _ _=>WT) (fun _ _ _ _ _=>(YV Yf XC rfl B.tuple (by decide +kernel) (Zb (Zc (pv 0)) Zi)))) Zi))))
  (X7 LX (Zq (i:=6) sc_web_of.nd rfl (Or.inl rfl) (ZD C_reached (hr.mono (by decide)) rfl (Zb (Zc (pv 5)) Zi)))
  (X7 (LY (Sr (Z3 YN X4 rfl B.len (by decide +kernel) (Zb (Zc (pv 6)) Zi)) (Zc (pv 0))) (QL (S4 F.excBase_ValueError Q.a.cf (hr.mono (by decide)) rfl Q.a.mgo Q.a.no rfl QM (Zc (pv 6)))) S5) (XG (W:=[])) S5)))))))
abbrev Tu:Stmt:=P2 21
theorem OV:ZU (["_law_thing"]:List Str) (["_law_thing"]:List Str) (Zl Tu):=⟨rfl,rfl,rfl,by decide +kernel,rfl,by decide +kernel,by decide +kernel⟩
theorem OW(Df:Def K mg "_law_whole" Tu)(B:P1 mg):Vj P w K mg base "_law_whole" (["_law_thing"]:List Str) (Wg K Y6 1) 1:=
 XI (O:=[]) (k:=0) 1 To Df OV (fun _ _ _ _ _ _ us hl=>match us,hl with | [_],_=>rfl) rfl rfl (by decide) (fun fa cdv A outer s H E hr=>
  (Zj (ZX (VE.pure (Oo (Z3 TH Np rfl B.isinstance (by decide +kernel) (Zb (Zc (pv 0)) (Zb (Iw rfl B.int (by decide +kernel)) Zi))) (Om (HP (Z3 TH Np rfl B.isinstance (by decide +kernel) (Zb (Zc (pv 0)) (Zb (Iw rfl B.bool (by decide +kernel)) Zi))))))))))
abbrev Vy:Stmt:=P2 29
theorem sc_l_refused:ZU (["_law_many","_law_pairs","_law_caught","_law_e","_law_kind_here"]:List Str) (["_law_many","_law_pairs"]:List Str) (Zl Vy):=⟨rfl,rfl,rfl,by decide +kernel,rfl,by decide +kernel,by decide +kernel⟩
theorem QQ(Df:Def K mg "_law_refused" Vy)(B:P1 mg)(C_web_of:Vj P w K mg base "web_of" (["many","ties"]:List Str) (Wg K Z5 2) 3)(C_l_kind:Vj P w K mg base "_law_kind" (["_law_e"]:List Str) (Wg K Xm 1) 1)(C_l_whole:Vj P w K mg base "_law_whole" (["_law_thing"]:List Str) (Wg K Y6 1) 1){Cw Ca Cb:Addr}(Q:VX.Q2 P w K mg base Cw Ca Cb)(X_web_of:VX.CalX P w K mg base "web_of" (["many","ties"]:List Str) (VX.spY K Yu 2) 3):Vj P w K mg base "_law_refused" (["_law_many","_law_pairs"]:List Str) (Wg K Z6 2) 4:=
 XI (O:=[]) (k:=3) 5 TQ Df sc_l_refused (fun _ _ _ _ _ _ us hl=>match us,hl with | [_,_],_=>rfl) rfl rfl (by decide) (fun fa cdv A outer s H E hr=>
  (Zf (Zq (i:=2) sc_l_refused.nd rfl (Or.inl rfl) (VE.pure So))
  (Zf (FP (L7 Q X_web_of PK (hr.mono (by decide)) rfl (Zb (Zc (pv 0)) (Zb (VM.ve (Te WL Sw rfl B.list (by decide +kernel) (Zb (Zc (pv 1)) Zi))) Zi)) rfl rfl rfl sc_l_refused.nd rfl rfl rfl (fun _=>(Zj (Zq (i:=2) sc_l_refused.nd rfl (Or.inl rfl) (VE.pure (Zc (pv 3)))))) (by decide)) (JS (Zj (FQ (VM.ve (ZD C_web_of (hr.mono (by decide)) rfl (Zb (Zc (pv 0)) (Zb (VM.ve (Te WL Sw rfl B.list (by decide +kernel) (Zb (Zc (pv 1)) Zi))) Zi))))))))
  (Zf (Yg (Lx (Zc (pv 2))) (Zj (ZX (VE.pure So))) Zx)
  (Zf (Zq (i:=4) sc_l_refused.nd rfl (Or.inl rfl) (ZD C_l_kind (hr.mono (by decide)) rfl (Zb (Zc (pv 2)) Zi)))
  (Zf (Yg (Vq hr.units (Zc (pv 4)) Ze) (Zf (Yg (VW.vt (Vn (Qo (T7 Q.w.fl (Zc (pv 2)))) (We (Wo (Tb (VM.ve (ZD C_l_whole (hr.mono (by decide)) rfl (Zb (T7 Q.w.fl (Zc (pv 2))) Zi)))))))) (Zj (ZX (VE.pure (Z8 (Zb (Td Ze) (Zb Ze Zi)))))) Zx)
  (Zj (ZX (Ly (YD (VE.pure Ze) (YD (VE.pure (T7 Q.w.fl (Zc (pv 2)))) XX)))))) Zx)
  (Zf (Yg (Vq hr.units (Zc (pv 4)) Ze) (Zj (ZX (Ly (YD (VE.pure Ze) (YD (VE.pure (T7 Q.a.fl (Zc (pv 2)))) XX))))) Zx)
  (Zj (ZX (VE.pure (Z8 (Zb (Td Ze) (Zb (Zc (pv 4)) Zi)))))))))))))
abbrev Vz:Stmt:=P2 27
theorem sc_l_changed:ZU (["_law_pairs","_law_way","_law_x","_law_many","_law_at","_law_one","_law_other","_law_deep","_law_place","_law_thing"]:List Str) (["_law_pairs","_law_way","_law_x","_law_many"]:List Str) (Zl Vz):=⟨rfl,rfl,rfl,by decide +kernel,rfl,by decide +kernel,by decide +kernel⟩
theorem QR(Df:Def K mg "_law_changed" Vz)(B:P1 mg):Vj P w K mg base "_law_changed" (["_law_pairs","_law_way","_law_x","_law_many"]:List Str) (Wg K Y7 4) 1:=
 XI (O:=[]) (k:=0) 10 TR Df sc_l_changed (fun _ _ _ _ _ _ us hl=>match us,hl with | [_,_,_,_],_=>rfl) rfl rfl (by decide) (fun fa cdv A outer s H E hr=>
  (Zf (Yg (Vq hr.units (Z3 YN X4 rfl B.len (by decide +kernel) (Zb (Zc (pv 0)) Zi)) Ze) (Zj (ZX (Uh (YD (VE.pure (Z8 (Zb Ze (Zb (Yp (Zc (pv 2)) Ze) (Zb Ze Zi))))) XX)))) Zx)
  (Zf (Zq (i:=4) sc_l_changed.nd rfl (Or.inl rfl) (VE.pure (Yp (Zc (pv 2)) (Z3 YN X4 rfl B.len (by decide +kernel) (Zb (Zc (pv 0)) Zi)))))
  (Zf (Nu (T:=(.many [5,6,7])) (Wn (Zr (Zc (pv 0)) (Zc (pv 4))) (XH (n:=3) rfl (Zu (Zo (i:=5) sc_l_changed.nd rfl (Or.inl rfl)) (Zu (Zo (i:=6) sc_l_changed.nd rfl (Or.inl rfl)) (Zu (Zo (i:=7) sc_l_changed.nd rfl (Or.inl rfl)) Y1))))))
  (Zf (Zq (i:=2) sc_l_changed.nd rfl (Or.inl rfl) (VE.pure (Xb (Zc (pv 2)) (Z3 YN X4 rfl B.len (by decide +kernel) (Zb (Zc (pv 0)) Zi)))))
  (Zf (Yg (Vq hr.units (Zc (pv 1)) Ze) (Zj (ZX (Wj (Xv (Zc (pv 0)) VF (Wi (Zc (pv 4)))) (Xv (Zc (pv 0)) (Wi (YG (Zc (pv 4)) Ze)) VF)))) Zx)
  (Zf (Yg (Vq hr.units (Zc (pv 1)) Ze) (Zf (Zq (i:=8) sc_l_changed.nd rfl (Or.inl rfl) (VE.pure (Yp (Zc (pv 2)) (YG (Z3 YN X4 rfl B.len (by decide +kernel) (Zb (Zc (pv 0)) Zi)) Ze))))
  (Zj (ZX (Wj (VM.ve (Wj (Xv (Zc (pv 0)) VF (Wi (Zc (pv 8)))) (Xu (Zb (Z8 (Zb (Zc (pv 5)) (Zb (Zc (pv 6)) (Zb (YG Ze (Yp (Zc (pv 2)) Ze)) Zi)))) Zi)))) (Xv (Zc (pv 0)) (Wi (Zc (pv 8))) VF))))) Zx)
  (Zf (Zq (i:=9) sc_l_changed.nd rfl (Or.inl rfl) (VE.pure (Z8 (Zb (Zc (pv 6)) (Zb (Zc (pv 5)) (Zb (Zc (pv 7)) Zi))))))
  (Zf (Yg (Vq hr.units (Zc (pv 1)) Ze) (Zj (Zq (i:=9) sc_l_changed.nd rfl (Or.inl rfl) (VE.pure (Z8 (Zb (Ue (Td Ze) (Yp (Zc (pv 2)) Ze)) (Zb (Zc (pv 6)) (Zb (Zc (pv 7)) Zi))))))) Zx)
  (Zf (Yg (Vq hr.units (Zc (pv 1)) Ze) (Zj (Zq (i:=9) sc_l_changed.nd rfl (Or.inl rfl) (VE.pure (Z8 (Zb (Zc (pv 5)) (Zb (Zc (pv 5)) (Zb (Zc (pv 7)) Zi))))))) Zx)
  (Zf (Yg (Vq hr.units (Zc (pv 1)) Ze) (Zj (Zq (i:=9) sc_l_changed.nd rfl (Or.inl rfl) (VE.pure (Z8 (Zb (Zc (pv 5)) (Zb (YG (Zc (pv 3)) (Qk (Yp (Zc (pv 2)) Ze) (Ql Ze Ze))) (Zb (Zc (pv 7)) Zi))))))) Zx)
  (Zf (Yg (Vq hr.units (Zc (pv 1)) Ze) (Zj (Zq (i:=9) sc_l_changed.nd rfl (Or.inl rfl) (VE.pure (Z8 (Zb (Zc (pv 5)) (Zb (Zc (pv 6)) (Zb (Zr (Xu (Zb Ze (Zb Ze (Zb (Td Ze) (Zb (Ql Ze Ze) Zi))))) (Yp (Zc (pv 2)) Ze)) Zi))))))) Zx)
  (Zj (ZX (Wj (VM.ve (Wj (Xv (Zc (pv 0)) VF (Wi (Zc (pv 4)))) (Xu (Zb (Zc (pv 9)) Zi)))) (Xv (Zc (pv 0)) (Wi (YG (Zc (pv 4)) Ze)) VF))))))))))))))))
abbrev Uq:Stmt:=P2 25
theorem sc_l_square:ZU (["_law_times_here","_law_many","_law_rows","_law_one","_law_other"]:List Str) (["_law_times_here","_law_many"]:List Str) (Zl Uq):=⟨rfl,rfl,rfl,by decide +kernel,rfl,by decide +kernel,by decide +kernel⟩
theorem PL(Df:Def K mg "_law_square" Uq)(B:P1 mg):Vj P w K mg base "_law_square" (["_law_times_here","_law_many"]:List Str) (Wg K Yk 2) 1:=
 XI (O:=[2]) (k:=0) 5 WU Df sc_l_square (fun _ _ _ _ _ _ us hl=>match us,hl with | [_,_],_=>rfl) rfl rfl (by decide) (fun fa cdv A outer s H E hr=>
  (Zf (Qv (["_law_house"]:List Str) (["_law_many"]:List Str) [1] (i:=2) sc_l_square.nd rfl rfl rfl (YF rfl B.range (Zb (Zc (pv 1)) Zi)) (by kernel_rfl) (fun _ _ _ _ _=>(Zo (i:=0) (show((["_law_house"]:List Str)++(["_law_many"]:List Str)).Nodup by decide +kernel) rfl (Or.inl rfl) (.inr rfl))) (fun _ _ _ _ _=>WT) (fun _ _ _ _ _=>(OC (Xu (Zb Ze Zi)) (Zc (pv 1)))))
  (Zf (NA (Se PassesOwn.never rfl (TZ (pv 0)) (XH (n:=2) rfl (Zu (Zo (i:=3) sc_l_square.nd rfl (Or.inl rfl)) (Zu (Zo (i:=4) sc_l_square.nd rfl (Or.inl rfl)) Y1))) (Zf (Y5 (Wn (T5 (V5 hr) (Zc (pv 0)) (Z8 (Zb (Zc (pv 3)) (Zb (Zc (pv 4)) Zi)))) (Ve (V4 ix_list (pv 2) (Zc (pv 3)) (fun _ _=>rfl)) (Zc (pv 4)) XB)))
  (Zj (Y5 (Wn (T5 (V5 hr) (Zc (pv 0)) (Z8 (Zb (Zc (pv 3)) (Zb (Zc (pv 4)) Zi)))) (Ve (V4 ix_list (pv 2) (Zc (pv 4)) (fun _ _=>rfl)) (Zc (pv 3)) XB)))))))
  (Zj (ZX (VE.pure (YV Yf XC rfl B.tuple (by decide +kernel) (Zb (Qs (["_law_row"]:List Str) ([]:List Str) [] rfl (UG (Zc (pv 2))) (by kernel_rfl) (fun _ _ _ _ _=>(Zo (i:=0) (show((["_law_row"]:List Str)++([]:List Str)).Nodup by decide +kernel) rfl (Or.inl rfl) (.inr rfl))) (fun _ _ _ _ _=>WT) (fun _ _ _ _ _=>(YV Yf XC rfl B.tuple (by decide +kernel) (Zb (Zc (pv 0)) Zi)))) Zi))))))))
abbrev Ka:Stmt:=P2 30
theorem sc_law:ZU (["_law_script","_law_many","_law_times_here","_law_good","_law_pairs","_law_count","_law_k","_law_due_here","_law_told","_law_deep","_law_one","_law_other","_law_often"]:List Str) (["_law_script"]:List Str) (Zl Ka):=⟨rfl,rfl,rfl,by decide +kernel,rfl,by decide +kernel,by decide +kernel⟩
theorem Gi{ff:Addr}{fd:FuncData}(Fn:Fun K "law" "law" Ka ff fd)(B:P1 mg)(C_l_cell:Vj P w K mg base "_law_cell" (["_law_script","_law_k"]:List Str) (Wg K Zn 2) 1)(C_l_times:Vj P w K mg base "_law_times" (["_law_script","_law_at","_law_many"]:List Str) (Wg K Xy 3) 2)(C_l_changed:Vj P w K mg base "_law_changed" (["_law_pairs","_law_way","_law_x","_law_many"]:List Str) (Wg K Y7 4) 1)(C_l_due:Vj P w K mg base "_law_due" (["_law_many","_law_pairs"]:List Str) (Wg K Xl 2) 1)(C_l_refused:Vj P w K mg base "_law_refused" (["_law_many","_law_pairs"]:List Str) (Wg K Z6 2) 4)(C_web_of:Vj P w K mg base "web_of" (["many","ties"]:List Str) (Wg K Z5 2) 3)(C_l_square:Vj P w K mg base "_law_square" (["_law_times_here","_law_many"]:List Str) (Wg K Yk 2) 1):Vg P w K mg base QT 5 ff fd (["_law_script"]:List Str) (Wg K D_law 1):=
 HV (O:=[9]) (k:=4) 13 II Fn sc_law rfl rfl (by decide) (fun fa cdv A outer s H E hr=>
  (Zf (Zq (i:=1) sc_law.nd rfl (Or.inl rfl) (VE.pure (YG Ze (Yp (VM.ve (ZD C_l_cell (hr.mono (by decide)) rfl (Zb (Zc (pv 0)) (Zb Ze Zi)))) Ze))))
  (Zf (Zq (i:=2) sc_law.nd rfl (Or.inr rfl) (ZD C_l_times (hr.mono (by decide)) rfl (Zb (Zc (pv 0)) (Zb Ze (Zb (Zc (pv 1)) Zi)))))
  (Zf (LQ (["_law_one","_law_other"]:List Str) (["_law_times_here"]:List Str) [2] (i:=3) (j:=2) sc_law.nd rfl rfl rfl (TZ (pv 2)) (by kernel_rfl) (fun _ _ _ _ _=>(XH (n:=2) rfl (Zu (Zo (i:=0) (show((["_law_one","_law_other"]:List Str)++(["_law_times_here"]:List Str)).Nodup by decide +kernel) rfl (Or.inl rfl) (.inr rfl)) (Zu (Zo (i:=1) (show((["_law_one","_law_other"]:List Str)++(["_law_times_here"]:List Str)).Nodup by decide +kernel) rfl (Or.inl rfl) (.inr rfl)) Y1)))) (fun _ _ _ _ _=>WT) (fun _ _ _ _ _=>(VE.pure (Z8 (Zb (Zc (pv 0)) (Zb (Zc (pv 1)) (Zb (T5 (V5 hr) (Zc (pv 2)) (Z8 (Zb (Zc (pv 0)) (Zb (Zc (pv 1)) Zi)))) Zi)))))))
  (Zf (Zq (i:=4) sc_law.nd rfl (Or.inl rfl) (Te WL Sw rfl B.list (by decide +kernel) (Zb (Zc (pv 3)) Zi)))
  (Zf (Zq (i:=5) sc_law.nd rfl (Or.inl rfl) (VE.pure (Zc (pv 1))))
  (Zf (Xe PassesOwn.never rfl (YF rfl B.range (Zb (Yp (VM.ve (ZD C_l_cell (hr.mono (by decide)) rfl (Zb (Zc (pv 0)) (Zb Ze Zi)))) Ze) Zi)) (Zo (i:=6) sc_law.nd rfl (Or.inl rfl)) (Zj (Zq (i:=4) sc_law.nd rfl (Or.inl rfl) (ZD C_l_changed (hr.mono (by decide)) rfl (Zb (Zc (pv 4)) (Zb (Yp (VM.ve (ZD C_l_cell (hr.mono (by decide)) rfl (Zb (Zc (pv 0)) (Zb (YG Ze (Qk Ze (Zc (pv 6)))) Zi)))) Ze) (Zb (Yp (VM.ve (ZD C_l_cell (hr.mono (by decide)) rfl (Zb (Zc (pv 0)) (Zb (YG Ze (Qk Ze (Zc (pv 6)))) Zi)))) (Ql Ze Ze)) (Zb (Zc (pv 1)) Zi))))))))
  (Zf (Yg (Vq hr.units (Yp (VM.ve (ZD C_l_cell (hr.mono (by decide)) rfl (Zb (Zc (pv 0)) (Zb Ze Zi)))) Ze) Ze) (Zj (Zq (i:=5) sc_law.nd rfl (Or.inl rfl) (VE.pure (Zr (Xu (Zb Ze (Zb Ze (Zb (Td Ze) (Zb (Ql Ze Ze) (Zb (YG (Zc (pv 1)) Ze) Zi)))))) (Yp (Xb (VM.ve (ZD C_l_cell (hr.mono (by decide)) rfl (Zb (Zc (pv 0)) (Zb Ze Zi)))) Ze) Ze))))) Zx)
  (Zf (Zq (i:=7) sc_law.nd rfl (Or.inl rfl) (ZD C_l_due (hr.mono (by decide)) rfl (Zb (Zc (pv 5)) (Zb (Zc (pv 4)) Zi))))
  (Zf (Zq (i:=8) sc_law.nd rfl (Or.inl rfl) (ZD C_l_refused (hr.mono (by decide)) rfl (Zb (Zc (pv 5)) (Zb (Zc (pv 4)) Zi))))
  (Zf (Yg (Lx (Zc (pv 7))) (Zf (Yg (Qo (Zc (pv 8))) (Zj (ZX (VE.pure Nj))) Zx)
  (Zf (Zq (i:=9) sc_law.nd rfl (Or.inl rfl) UC)
  (Zf (Xe PassesOwn.never rfl (UG (Zc (pv 4))) (XH (n:=3) rfl (Zu (Zo (i:=10) sc_law.nd rfl (Or.inl rfl)) (Zu (Zo (i:=11) sc_law.nd rfl (Or.inl rfl)) (Zu (Zo (i:=12) sc_law.nd rfl (Or.inl rfl)) Y1)))) (Zj (UL (Ux (V5 hr) (pv 9) (Z8 (Zb (Zc (pv 10)) (Zb (Zc (pv 11)) Zi))) (Zc (pv 12)) rfl))))
  (Zj (ZX (VE.pure (Pp hr.units (VM.ve (ZD C_web_of (hr.mono (by decide)) rfl (Zb (Zc (pv 5)) (Zb (Zc (pv 4)) Zi)))) (VM.ve (ZD C_l_square (hr.mono (by decide)) rfl (Zb (Zc (pv 9)) (Zb (Zc (pv 5)) Zi))))))))))) Zx)
  (Zj (ZX (VE.pure (Oo (Pp hr.units (Zc (pv 8)) (Zc (pv 7))) (Om (Pp hr.units (VM.ve (ZD C_web_of (hr.mono (by decide)) rfl (Zb (Zc (pv 1)) (Zb (Zc (pv 3)) Zi)))) (VM.ve (ZD C_l_square (hr.mono (by decide)) rfl (Zb (Zc (pv 2)) (Zb (Zc (pv 1)) Zi)))))))))))))))))))))
end
end PW
namespace PW
open L2 VL
theorem Kb(l:List PV)(lo hi:Option Int):(V2 l lo hi).length<=l.length:=by
 unfold V2;rw[List.length_take,List.length_drop];omega
theorem MZ(ns:List Int)(k:Nat):Wv (V2 (iL ns) (some (k:Int)) (some ((k:Int)+1))++[PV.int 0]) 0=some (.int (Yr ns k)):=by
 have e1:((k:Int)+1)=((k+1:Nat):Int):=by omega
 rw[e1]
 refine WK (j:=0) ?_
 unfold V2;rw[HT.sIx_nat,HT.sIx_nat,List.length_map]
 by_cases h:k<ns.length
 ·rw[Nat.min_eq_left (by omega),Nat.min_eq_left (by omega),show k+1-k=1 by omega]
  rw[List.drop_eq_getElem_cons (by rw[List.length_map];exact h)]
  simp[Yr,List.getD_eq_getElem?_getD,List.getElem?_eq_getElem h]
 ·rw[Nat.min_eq_right (by omega),List.drop_eq_nil_of_le (by rw[List.length_map];omega)]
  simp[Yr,List.getD_eq_getElem?_getD,List.getElem?_eq_none (Nat.not_lt.mp h)]
theorem W3{ns:List Int}(h:ns.length<=63)(k:Nat):Zn [.cst (iL ns),.int (k:Int)]=some (.int (Yr ns k)):=by
 have hl:=Kb (iL ns) (some (k:Int)) (some ((k:Int)+1))
 rw[List.length_map] at hl
 have hp:Zv (V2 (iL ns) (some (k:Int)) (some ((k:Int)+1)))=true:=Ms _ _ (YE ns)
 have c:(V2 (iL ns) (some (k:Int)) (some ((k:Int)+1))).length+1<=10000:=by omega
 simp[Zn,SU,Wr,ZR,V8,Y8,Ym,hp,c,MZ]
theorem Kc(i:Int):Y6 [.int i]=some (.bl true):=by
 simp[Y6,To,Wr,ZR]
theorem J0(l:List Int):YZ (iL l)=(List.range l.length).map fun(i:Nat)=>.tup [.int (i:Int),.int (Yr l i)]:=by
 rw[Yz,List.length_map]
 apply List.map_congr_left
 intro i hi;rw[JC l i (List.mem_range.mp hi)]
def tk(e:ZP):List Ys:=[.inl (e.1:Int),.inl (e.2.1:Int)]
def dP(ts:List ZP):PV:=.dT (ts.map tk) (ts.map fun e=>.int e.2.2)
theorem RZ(ts:List ZP):Zv (ts.map fun e=>PV.int e.2.2)=true:=VP fun _ _=>rfl
theorem S8(a b:Int):SH (.tup [.int a,.int b])=some [.inl a,.inl b]:=rfl
theorem OX{e:ZP}{a b:Nat}(h:tk e=[.inl (a:Int),.inl (b:Int)]):e.1=a/\e.2.1=b:=Qj h
theorem PM(ts:List ZP):(ts.map tk).zip (ts.map fun e=>PV.int e.2.2)=ts.map fun e=>(tk e,PV.int e.2.2):=by
 induction ts with
 | nil=>rfl
 | cons e r ih=>rw[List.map_cons,List.map_cons,List.zip_cons_cons,ih];rfl
theorem J1{n:Nat}{ts:List ZP}(ok:DictOk n ts){a b:Nat}{t:Int}(h:(a,b,t)∈ts):Wa (ts.map tk) (ts.map fun e=>PV.int e.2.2) [.inl (a:Int),.inl (b:Int)]=some (.int t):=by
 unfold Wa;rw[PM];have nd:=ok.nd
 clear ok
 induction ts with
 | nil=>simp at h
 | cons e r ih=>
  rw[List.map_cons,List.find?_cons];rw[List.map_cons,List.nodup_cons] at nd
  rcases List.mem_cons.mp h with q | q
  ·subst q
   have:decide (tk (a,b,t)=[Sum.inl (a:Int),Sum.inl (b:Int)])=true:=decide_eq_true rfl
   simp only[this,Option.map_some]
  ·have:decide (tk e=[Sum.inl (a:Int),Sum.inl (b:Int)])=false:=decide_eq_false fun z=>by
    obtain⟨h1,h2⟩:=OX z
    exact nd.1 (List.mem_map.mpr ⟨_,q,by simp[h1,h2]⟩)
   simp only[this]
   exact ih q nd.2
theorem S9{n:Nat}{ts:List ZP}(ok:DictOk n ts){a b:Nat}{t:Int}(h:(a,b,t)∈ts):Xs (dP ts) (.tup [.int (a:Int),.int (b:Int)])=some (.int t):=by
 show(SH (.tup [.int (a:Int),.int (b:Int)])).bind (fun k=>Wa (ts.map tk) (ts.map fun e=>PV.int e.2.2) k)=_
 rw[S8];exact J1 ok h
theorem key_mem{ts:List ZP}{a b:Nat}:[Sum.inl (a:Int),Sum.inl (b:Int)]∈ts.map tk↔∃t,(a,b,t)∈ts:=by
 rw[List.mem_map];constructor
 ·rintro⟨e,he,z⟩
  obtain⟨h1,h2⟩:=OX z
  exact⟨e.2.2,by rw[<-h1,<-h2];exact he⟩
 ·rintro⟨t,ht⟩;exact⟨_,ht,rfl⟩
def P4(ts:List ZP)(a b:Nat):Prop:=∃t,(a,b,t)∈ts
def Ext(ts ts':List ZP):Prop:=∀c d,P4 ts c d->P4 ts' c d
theorem Ext.refl(ts:List ZP):Ext ts ts:=fun _ _ h=>h
theorem Ext.trans{a b c:List ZP}(h:Ext a b)(g:Ext b c):Ext a c:=fun x y z=>g x y (h x y z)
def XJ(ts:List ZP):Int:=(ts.map fun e=>e.2.2).sum
theorem R0(e:ZP)(r:List ZP):XJ (e::r)=e.2.2+XJ r:=by unfold XJ;rw[List.map_cons,List.sum_cons]
theorem PN(l:List ZP)(a b:Nat)(t:Int):XJ (l++[(a,b,t)])=XJ l+t:=by
 unfold XJ;rw[List.map_append,List.sum_append]
 simp
theorem NQ(a b:Nat){t:Int}(h0:0<=t):∀ts:List ZP,(ts.map fun e=>(e.1,e.2.1)).Nodup->(∀e∈ts,1<=e.2.2)->XJ (ts.map fun e=>if(e.1,e.2.1)=(a,b) then(e.1,e.2.1,t) else e)<=XJ ts+t
 | [],_,_=>by show(0:Int)<=0+t;omega
 | e::r,nd,h=>by
  rw[List.map_cons,List.nodup_cons] at nd
  have h1:=h e (by simp)
  rw[List.map_cons,R0,R0]
  by_cases q:(e.1,e.2.1)=(a,b)
  ·rw[if_pos q]
   have:(r.map fun e=>if(e.1,e.2.1)=(a,b) then((e.1,e.2.1,t):ZP) else e)=r:=by
    conv=>rhs;rw[<-List.map_id r]
    refine List.map_congr_left fun x hx=>?_
    rw[if_neg (fun z=>nd.1 (List.mem_map.mpr ⟨x,hx,z.trans q.symm⟩))];rfl
   rw[this]
   show t+XJ r<=_
   omega
  ·rw[if_neg q]
   have:=NQ a b h0 r nd.2 fun x hx=>h x (by simp[hx])
   omega
theorem Ra{n:Nat}{ts:List ZP}{a b:Nat}{t:Int}(ok:DictOk n ts)(hab:a<b)(hb:b<n)(h1:1<=t)(h9:t<=9)(hl:ts.length<=10000) :
  ∃ts',OB (dP ts) (.tup [.int (a:Int),.int (b:Int)]) (.int t)=some (dP ts')/\DictOk n ts'/\ts'.length<=ts.length+1/\P4 ts' a b/\Ext ts ts'/\XJ ts'<=XJ ts+t:=by
 have c:(Zv (ts.map fun e=>PV.int e.2.2)&&ZS (.int t)&&decide ((ts.map tk).length<=10000))=true:=by
  rw[RZ,List.length_map,decide_eq_true hl];rfl
 have e0:OB (dP ts) (.tup [.int (a:Int),.int (b:Int)]) (.int t)=some (.dT (WA (ts.map tk) [.inl (a:Int),.inl (b:Int)]) (WB (ts.map tk) (ts.map fun e=>PV.int e.2.2) [.inl (a:Int),.inl (b:Int)] (.int t))):=by
  show(gd _).bind _=_
  rw[VQ c,S8];rfl
 rw[e0]
 obtain⟨ts',p1,p2,p3⟩:=HL ok hab hb h1 h9
 by_cases hm:∃t',(a,b,t')∈ts
 ·refine⟨ts.map fun e=>if(e.1,e.2.1)=(a,b) then(e.1,e.2.1,t) else e,?_,⟨?_,?_⟩,by simp,?_,?_,NQ a b (by omega) ts ok.nd fun e he=>(ok.ok e he).2.2.1⟩
  ·unfold WA WB dP
   rw[if_pos (key_mem.mpr hm),if_pos (key_mem.mpr hm),PM,List.map_map,List.map_map,List.map_map]
   congr 2
   ·apply List.map_congr_left
    intro e _
    show tk e=tk (if(e.1,e.2.1)=(a,b) then(e.1,e.2.1,t) else e)
    split<;>rfl
   ·apply List.map_congr_left
    intro e _
    show(if tk e=[Sum.inl (a:Int),Sum.inl (b:Int)] then PV.int t else PV.int e.2.2)=PV.int (if(e.1,e.2.1)=(a,b) then((e.1,e.2.1,t):ZP) else e).2.2
    by_cases q:(e.1,e.2.1)=(a,b)
    ·rw[if_pos q,if_pos (by have:=Prod.mk.inj q;show [Sum.inl (e.1:Int),Sum.inl (e.2.1:Int)]=_;rw[this.1,this.2])]
    ·rw[if_neg q,if_neg (fun z=>q (by obtain⟨h1,h2⟩:=OX z;rw[h1,h2]))]
  ·intro e he
   obtain⟨e',he',rfl⟩:=List.mem_map.mp he
   have:=ok.ok e' he'
   split
   ·exact⟨this.1,this.2.1,h1,h9⟩
   ·exact this
  ·rw[List.map_map]
   have e:((fun e:ZP=>(e.1,e.2.1)) ∘ fun e:ZP=>if(e.1,e.2.1)=(a,b) then(e.1,e.2.1,t) else e)=fun e:ZP=>(e.1,e.2.1):=by
    funext e
    show((if(e.1,e.2.1)=(a,b) then((e.1,e.2.1,t):ZP) else e).1,(if(e.1,e.2.1)=(a,b) then((e.1,e.2.1,t):ZP) else e).2.1)=_
    split<;>rfl
   rw[e];exact ok.nd
  ·obtain⟨t',ht'⟩:=hm
   exact⟨t,List.mem_map.mpr ⟨(a,b,t'),ht',if_pos rfl⟩⟩
  ·rintro c d ⟨u,hu⟩
   by_cases q:(c,d)=(a,b)
   ·exact⟨t,List.mem_map.mpr ⟨(c,d,u),hu,if_pos q⟩⟩
   ·exact⟨u,List.mem_map.mpr ⟨(c,d,u),hu,if_neg q⟩⟩
 ·have hn:∀t',(a,b,t')∉ts:=fun t' h=>hm ⟨t',h⟩
  refine⟨ts++[(a,b,t)],?_,⟨?_,?_⟩,by simp,⟨t,by simp⟩,fun c d ⟨u,hu⟩=>⟨u,List.mem_append_left _ hu⟩,by rw[PN];exact Int.le_refl _⟩
  ·unfold WA WB dP
   rw[if_neg (fun z=>hm (key_mem.mp z)),if_neg (fun z=>hm (key_mem.mp z)),List.map_append,List.map_append];rfl
  ·intro e he
   rcases List.mem_append.mp he with q | q
   ·exact ok.ok e q
   ·rw[List.mem_singleton.mp q];exact⟨hab,hb,h1,h9⟩
  ·rw[List.map_append]
   refine Qf ok.nd ?_
   rw[List.mem_map]
   rintro⟨e,he,q⟩
   have:=Prod.mk.inj q
   obtain⟨a',b',t'⟩:=e
   simp only at this
   rw[this.1,this.2] at he
   exact hn t' he
theorem NR{n:Nat}{ts:List ZP}{a b:Nat}{t:Int}(ok:DictOk n ts)(hab:a<b)(hb:b<n)(h1:1<=t)(h9:t<=9)(hl:ts.length<=10000) :
  ∃ts',OB (dP ts) (.tup [.int (a:Int),.int (b:Int)]) (.int t)=some (dP ts')/\DictOk n ts'/\ts'.length<=ts.length+1/\P4 ts' a b/\Ext ts ts':=by
 obtain⟨ts',h2,h3,h4,h5,h6,_⟩:=Ra ok hab hb h1 h9 hl
 exact⟨ts',h2,h3,h4,h5,h6⟩
theorem VB{i:Nat}{fk fv:XE}{s:ZE}{d k v d':PV}(hv:fv s=some v)(hk:fk s=some k)(hd:(s[i]?).join=some d)(hp:OB d k v=some d'):VL.sDPut i fk fv s=some (.nx (s.set i (some d'))):=by
 unfold VL.sDPut;rw[hv,hk];simp only[Option.bind_some,hd,hp,Option.map_some]
theorem T8(ts:List ZP):V9 (dP ts)=some (ts.map fun e=>.tup [.int (e.1:Int),.int (e.2.1:Int)]):=by
 show some ((ts.map tk).map LK)=_
 rw[List.map_map];rfl
def Cl(ts:List ZP)(P:Nat->Prop):Prop:=∀a b,P4 ts a b->(P a↔P b)
def Hang(n:Nat)(ts:List ZP):Prop:=∀P:Nat->Prop,Cl ts P->∀i j,i<n->j<n->(P i↔P j)
def Gj(W:List (List Int)):Prop:=∀P:Nat->Prop,(∀a b,a<W.length->b<W.length->0<Xp W a b->(P a↔P b))->∀i j,i<W.length->j<W.length->(P i↔P j)
theorem VC{n:Nat}{M:List (List Int)}{e:ZP}(ok:MatOk n M)(h:e.1<e.2.1/\e.2.1<n/\1<=e.2.2/\e.2.2<=9)(i j:Nat):Xp (Zy M e) i j=if e.2.1=i/\e.1=j then e.2.2 else if e.1=i/\e.2.1=j then e.2.2 else Xp M i j:=by
 obtain⟨a,b,t⟩:=e
 simp only at h ⊢
 obtain⟨l1,r1⟩:=Xt (t:=t) (b:=b) ok.len ok.row (show a<n by omega)
 show Xp (YL (YL M a b t) b a t) i j=_
 rw[UA l1 r1 (by omega) (by omega),UA ok.len ok.row (by omega) (by omega)]
theorem J2{n:Nat}{ts:List ZP}(ok:DictOk n ts){a b:Nat}(h:P4 ts a b):a<n/\b<n/\0<Xp (Vc n ts) a b:=by
 have keep:∀(l:List ZP)(M:List (List Int)),(∀e∈l,e.1<e.2.1/\e.2.1<n/\1<=e.2.2/\e.2.2<=9)->MatOk n M->0<Xp M a b->0<Xp (l.foldl Zy M) a b:=by
  intro l
  induction l with
  | nil=>exact fun M _ _ h=>h
  | cons e r ih=>
   intro M hl hM hp
   have he:=hl e (by simp)
   refine ih _ (fun e' h'=>hl e' (by simp[h'])) (hM.step he) ?_
   rw[VC hM he]
   split
   ·omega
   ·split
    ·omega
    ·exact hp
 have gen:∀(l:List ZP)(M:List (List Int)),(∀e∈l,e.1<e.2.1/\e.2.1<n/\1<=e.2.2/\e.2.2<=9)->MatOk n M->P4 l a b->0<Xp (l.foldl Zy M) a b:=by
  intro l
  induction l with
  | nil=>rintro M _ _ ⟨t,ht⟩;simp at ht
  | cons e r ih=>
   rintro M hl hM ⟨t,ht⟩
   have he:=hl e (by simp)
   rcases List.mem_cons.mp ht with q | q
   ·refine keep r _ (fun e' h'=>hl e' (by simp[h'])) (hM.step he) ?_
    rw[VC hM he];subst q
    simp only at he
    split
    ·show 0<t;omega
    ·rw[if_pos ⟨rfl,rfl⟩];show 0<t;omega
   ·exact ih _ (fun e' h'=>hl e' (by simp[h'])) (hM.step he) ⟨t,q⟩
 obtain⟨t,ht⟩:=id h
 have:=ok.ok _ ht
 simp only at this
 exact⟨by omega,by omega,gen ts _ ok.ok (MatOk.zero n) h⟩
theorem Hang.conn{n:Nat}{ts:List ZP}(h:Hang n ts)(ok:DictOk n ts):Gj (Vc n ts):=by
 intro P hP i j hi hj
 have hl:=(X2 ok).len
 refine h P (fun a b hab=>?_) i j (by omega) (by omega)
 obtain⟨ha,hb,hp⟩:=J2 ok hab
 exact hP a b (by omega) (by omega) hp
theorem VD:∀{l m:List Int},l.Nodup->(∀x∈l,x∈m)->l.length<=m.length
 | [],m,_,_=>Nat.zero_le _
 | x::r,m,nd,h=>by
  have hx:x∈m:=h x (by simp)
  have nd':=List.nodup_cons.mp nd
  have:=VD (l:=r) (m:=m.erase x) nd'.2 fun y hy=>(List.mem_erase_of_ne (show y≠x from fun z=>nd'.1 (by rw[<-z];exact hy))).mpr (h y (by simp[hy]))
  rw[List.length_erase_of_mem hx] at this;have hp:=List.length_pos_of_mem hx
  rw[List.length_cons];omega
theorem FR{n:Nat}{l:List Int}(nd:l.Nodup)(h:∀x∈l,∃k:Nat,k<n/\x=(k:Int))(hl:l.length=n){j:Nat}(hj:j<n):(j:Int)∈l:=by
 by_cases q:(j:Int)∈l
 ·exact q
 ·have:=VD (l:=(j:Int)::l) (m:=(List.range n).map fun(k:Nat)=>(k:Int)) (List.nodup_cons.mpr ⟨q,nd⟩) (fun x hx=>by
   rcases List.mem_cons.mp hx with rfl | hx
   ·exact List.mem_map.mpr ⟨j,List.mem_range.mpr hj,rfl⟩
   ·obtain⟨k,hk,rfl⟩:=h x hx
    exact List.mem_map.mpr ⟨k,List.mem_range.mpr hk,rfl⟩)
  rw[List.length_cons,List.length_map,List.length_range] at this;omega
def rL(M:List (List Int)):List PV:=M.map fun r=>.lst (iL r)
theorem Ur{M:List (List Int)}{a:Nat}(h:a<M.length):(rL M)[a]?=some (.lst (iL (ZL M a))):=by
 unfold rL
 rw[List.getElem?_map,Pf h];rfl
theorem Tv{M:List (List Int)}{a b:Nat}{t:Int}:(rL M).set a (.lst ((iL (ZL M a)).set b (.int t)))=rL (YL M a b t):=by
 unfold rL YL;rw[List.map_set]
 show _=(List.map (fun r=>PV.lst (iL r)) M).set a (PV.lst (((ZL M a).set b t).map PV.int))
 rw[List.map_set]
theorem R1{n:Nat}{ts:List ZP}(ok:DictOk n ts)(hn:n<=7):Yk [dP ts,.int (n:Int)]=some (wP (Vc n ts)):=by
 have hc:Z4 1 [1] (ZY [Za 1]) (.one 0) YO (Zh Ui (ZG [eC (.int 0)]) (Za 1)) [some (dP ts),some (.int (n:Int)),none,none,none]=some (.lst (rL (List.replicate n (List.replicate n 0)))):=by
  rw[Xw (List.range n) (fun(i:Nat)=>.int (i:Int)) (fun _=>.lst (iL (List.replicate n 0))) (Yt (by simp) (by omega)) (by simp;omega) (fun i _=>⟨_,rfl,rfl,?_⟩)]
  ·unfold rL
   rw[List.map_const',List.length_range,List.map_replicate]
  ·have e:Ui (.lst [.int 0]) (.int (n:Int))=some (.lst (iL (List.replicate n 0))):=by
    show(if Zv [PV.int 0]=true/\(-1000000:Int)<=(n:Int)/\(n:Int)<=1000000/\[PV.int 0].length*((n:Int)).toNat<=10000 then some (PV.lst (List.replicate ((n:Int)).toNat [PV.int 0]).flatten) else none)=_
    rw[if_pos ⟨rfl,by omega,by omega,by simp;omega⟩,Int.toNat_natCast,Lq]
    simp
   simp[Yc,e]
 have mat:∀i,MatOk n ((ts.take i).foldl Zy (List.replicate n (List.replicate n 0))):=fun i=>X2 (ts:=ts.take i) ⟨fun e he=>ok.ok e (List.mem_of_mem_take he),by rw[List.map_take];exact ok.nd.sublist (List.take_sublist _ _)⟩
 obtain⟨s',h1,x,y,h2⟩:=ZW (T:=.many [3,4]) (fb:=Zk (ZM 2 (Za 3) (Za 4) (Zh Xs (Za 0) (ZJ [Za 3,Za 4]))) (ZM 2 (Za 4) (Za 3) (Zh Xs (Za 0) (ZJ [Za 3,Za 4])))) (ls:=ts.map fun e=>.tup [.int (e.1:Int),.int (e.2.1:Int)]) (s:=[some (dP ts),some (.int (n:Int)),some (.lst (rL (List.replicate n (List.replicate n 0)))),none,none])
  (fun i st=>∃x y,st=[some (dP ts),some (.int (n:Int)),some (.lst (rL ((ts.take i).foldl Zy (List.replicate n (List.replicate n 0))))),x,y]) ⟨none,none,rfl⟩ (fun i l st hl hJ=>by
   obtain⟨x,y,rfl⟩:=hJ
   rw[List.getElem?_map] at hl
   cases he:ts[i]? with
   | none=>rw[he] at hl;cases hl
   | some e=>
    rw[he] at hl;cases hl
    obtain⟨a,b,t⟩:=e
    have hmem:(a,b,t)∈ts:=List.mem_of_getElem? he
    obtain⟨hab,hbn,t1,t9⟩:=ok.ok _ hmem
    simp only at hab hbn t1 t9
    have mi:=mat i;have hg:=S9 ok hmem
    refine⟨_,_,rfl,?_,some (.int (a:Int)),some (.int (b:Int)),rfl⟩
    show Zk _ _ [some (dP ts),some (.int (n:Int)),some (.lst (rL ((ts.take i).foldl Zy (List.replicate n (List.replicate n 0))))),some (.int (a:Int)),some (.int (b:Int))]=_
    have sh:=Xt (t:=t) (b:=b) mi.len mi.row (show a<n by omega)
    have lenM:(rL ((ts.take i).foldl Zy (List.replicate n (List.replicate n 0)))).length=n:=by unfold rL;rw[List.length_map];exact mi.len
    have lenM2:(rL (YL ((ts.take i).foldl Zy (List.replicate n (List.replicate n 0))) a b t)).length=n:=by unfold rL;rw[List.length_map];exact sh.1
    rw[ZI,Xx (l:=.int t) (a:=(a:Int)) (b:=(b:Int)) (j:=a) (c:=b) (m:=rL ((ts.take i).foldl Zy (List.replicate n (List.replicate n 0)))) (n:=iL (ZL ((ts.take i).foldl Zy (List.replicate n (List.replicate n 0))) a)) (by simp[hg]) rfl rfl rfl (Y2 (by rw[lenM];omega)) (Ur (by rw[mi.len];omega)) (YE _) rfl (Y2 (by rw[List.length_map,mi.row a (by omega)];omega))]
    simp only[Option.bind_some,Tv]
    show ZM _ _ _ _ [some (dP ts),some (.int (n:Int)),some (.lst (rL (YL ((ts.take i).foldl Zy (List.replicate n (List.replicate n 0))) a b t))),some (.int (a:Int)),some (.int (b:Int))]=_
    rw[Xx (l:=.int t) (a:=(b:Int)) (b:=(a:Int)) (j:=b) (c:=a) (m:=rL (YL ((ts.take i).foldl Zy (List.replicate n (List.replicate n 0))) a b t)) (n:=iL (ZL (YL ((ts.take i).foldl Zy (List.replicate n (List.replicate n 0))) a b t) b)) (by simp[hg]) rfl rfl rfl (Y2 (by rw[lenM2];omega)) (Ur (by rw[sh.1];omega)) (YE _) rfl (Y2 (by rw[List.length_map,sh.2 b (by omega)];omega)),Tv]
    have e5:(ts.take (i+1)).foldl Zy (List.replicate n (List.replicate n 0))=Zy ((ts.take i).foldl Zy (List.replicate n (List.replicate n 0))) (a,b,t):=WN _ _ he
    rw[e5];rfl)
 rw[List.length_map,List.take_length] at h2
 have hsq:(ts.foldl Zy (List.replicate n (List.replicate n 0)))=Vc n ts:=rfl
 rw[hsq] at h2
 have hc2:Z4 1 [] (Vo (Za 2)) (.one 0) YO (Zg Yq [Za 0]) [some (dP ts),some (.int (n:Int)),some (.lst (rL (Vc n ts))),x,y]=some (.lst ((Vc n ts).map pP)):=by
  rw[Xw (Vc n ts) (fun r=>.lst (iL r)) pP (by simp[rL]) (by rw[(X2 ok).len];omega) (fun r _=>⟨_,rfl,rfl,by simp[Yc]⟩)]
 show Wr 5 WU [dP ts,.int (n:Int)]=_
 unfold WU;simp only[Wr,ZR,List.map_cons,List.map_nil,List.length_cons,List.length_nil,ZI,Zw]
 show(((Z4 1 [1] (ZY [Za 1]) (.one 0) YO (Zh Ui (ZG [eC (.int 0)]) (Za 1)) [some (dP ts),some (.int (n:Int)),none,none,none]).map _).bind _).bind Xf=_
 rw[hc];simp only[Option.map_some,Option.bind_some]
 show((SM 0 _ _ [some (dP ts),some (.int (n:Int)),some (.lst (rL (List.replicate n (List.replicate n 0)))),none,none]).bind _).bind Xf=_
 unfold SM
 show(((V9 (dP ts)).bind fun ls=>Xn _ _ ls [some (dP ts),some (.int (n:Int)),some (.lst (rL (List.replicate n (List.replicate n 0)))),none,none]).bind _).bind Xf=_
 rw[T8];simp only[Option.bind_some];rw[h1,h2];simp[hc2]
theorem Gk(l:List Int)(k:Nat)(x:Int):(iL l).take k++PV.int x::(iL l).drop k=iL (l.take k++x::l.drop k):=by
 show(l.map PV.int).take k++PV.int x::(l.map PV.int).drop k=(l.take k++x::l.drop k).map PV.int
 rw[List.map_append,List.map_cons,List.map_take,List.map_drop]
theorem PQ{n:Nat}{ts:List ZP}(ok:DictOk n ts)(hn:n<=7)(hl:ts.length<=1000)(c:Int):∃ts',XD [dP ts,.int c,.int (n:Int)]=some (dP ts')/\DictOk n ts'/\ts'.length<=ts.length/\(Hang n ts->Hang n ts')/\XJ ts'<=XJ ts:=by
 obtain⟨s1,h1,c1,x1,l1,e1,nk⟩:=ZW (T:=.one 4) (fb:=Zk (VN 3 (Zh ZO (Za 1) (Zh ZN (Za 4) (eC (.int 1)))) (Za 4)) (Zm 1 (eP (Zh Xa (Za 1) (Zh ZN (Za 4) (eC (.int 1))))))) (ls:=Yy n) (s:=[some (dP ts),some (.int c),some (.int (n:Int)),some (.lst []),none,none,none,none,none])
  (fun i st=>∃(c':Int) (x:Option PV) (l:List Int),st=[some (dP ts),some (.int c'),some (.int (n:Int)),some (.lst (iL l)),x,none,none,none,none]/\NamesOk i l) ⟨c,none,[],rfl,NamesOk.nil⟩ (fun i l st hl hJ=>by
   obtain⟨hi,rfl⟩:=X6 hl
   obtain⟨c',x,nl,rfl,nk⟩:=hJ
   have hd:0<(i:Int)+1:=by omega
   have hm0:=Int.emod_nonneg c' (show(i:Int)+1≠0 by omega)
   have hm1:=Int.emod_lt_of_pos c' hd
   refine⟨_,_,rfl,?_,c'/((i:Int)+1),some (.int (i:Int)),nl.take (c'%((i:Int)+1)).toNat++(i:Int)::nl.drop (c'%((i:Int)+1)).toNat,rfl,nk.ins _⟩
   show Zk _ _ [some (dP ts),some (.int c'),some (.int (n:Int)),some (.lst (iL nl)),some (.int (i:Int)),none,none,none,none]=_
   rw[ZI,OF (k:=c'%((i:Int)+1)) (l:=.int (i:Int)) (m:=iL nl) (by simp[hd]) rfl rfl (YE nl) rfl hm0 (by omega) (by rw[List.length_map,nk.len];omega),Gk]
   have hcd:U2 c' ((i:Int)+1):=Tn hd (by omega)
   simp[hcd])
 have nkn:=nk;rw[UQ] at nkn
 obtain⟨s2,h2,x6,x7,x8,ts',e2,ok',hle,hsu,hall⟩:=ZW (T:=.many [6,7]) (fb:=Zk (Zm 8 (eP (ZJ [Zg W6 [Zh Z2 (Za 3) (Za 6),Zh Z2 (Za 3) (Za 7)],Zg RL [Zh Z2 (Za 3) (Za 6),Zh Z2 (Za 3) (Za 7)]]))) (VL.sDPut 5 (Za 8) (Zh Xs (Za 0) (ZJ [Za 6,Za 7])))) (ls:=ts.map fun e=>.tup [.int (e.1:Int),.int (e.2.1:Int)])
  (s:=[some (dP ts),some (.int c1),some (.int (n:Int)),some (.lst (iL l1)),x1,some (dP []),none,none,none])
  (fun i st=>∃(x6 x7 x8:Option PV) (ts':List ZP),st=[some (dP ts),some (.int c1),some (.int (n:Int)),some (.lst (iL l1)),x1,some (dP ts'),x6,x7,x8]/\DictOk n ts'/\ts'.length<=i/\XJ ts'<=XJ (ts.take i)/\∀(j:Nat)(e:ZP),j<i->ts[j]?=some e->P4 ts' (Yr l1 e.1).toNat (Yr l1 e.2.1).toNat\/P4 ts' (Yr l1 e.2.1).toNat (Yr l1 e.1).toNat) ⟨none,none,none,[],rfl,DictOk.nil n,Nat.le_refl _,Int.le_refl _,fun j e hj _=>by omega⟩ (fun i l st hl' hJ=>by
   obtain⟨x6,x7,x8,ts',rfl,ok',hle,hsu,hall⟩:=hJ
   rw[List.getElem?_map] at hl'
   cases he:ts[i]? with
   | none=>rw[he] at hl';cases hl'
   | some e=>
    rw[he] at hl'
    cases hl'
    obtain⟨a,b,t⟩:=e
    have hil:=(List.getElem?_eq_some_iff.mp he).1
    have hmem:(a,b,t)∈ts:=List.mem_of_getElem? he
    obtain⟨hab,hbn,t1,t9⟩:=ok.ok _ hmem
    simp only at hab hbn t1 t9
    have hg:=S9 ok hmem;rw[UQ] at nk
    have na:=nk.at (x:=a) (by omega)
    have nb:=nk.at (x:=b) (by omega)
    have ne:=nk.ne (x:=a) (y:=b) (by omega) (by omega) (by omega)
    -- the pair
    obtain⟨p,q,ep,eq,hpq,hqn⟩:∃p q:Nat,(if Yr l1 b<Yr l1 a then Yr l1 b else Yr l1 a)=(p:Int)/\(if Yr l1 b>Yr l1 a then Yr l1 b else Yr l1 a)=(q:Int)/\p<q/\q<n:=by
     refine⟨(if Yr l1 b<Yr l1 a then Yr l1 b else Yr l1 a).toNat,(if Yr l1 b>Yr l1 a then Yr l1 b else Yr l1 a).toNat,?_,?_,?_,?_⟩<;>split<;>(try split)<;>omega
    obtain⟨ts2,pe,ok2,hle2,hh2,hx2,hs2⟩:=Ra (t:=t) ok' hpq hqn t1 t9 (by omega)
    have ia:=Qx (l:=l1) (k:=a) (by rw[nk.len];omega)
    have ib:=Qx (l:=l1) (k:=b) (by rw[nk.len];omega)
    refine⟨_,_,rfl,?_,some (.int (a:Int)),some (.int (b:Int)),some (.tup [.int (p:Int),.int (q:Int)]),ts2,rfl,ok2,by omega,by rw[List.take_add_one,he];show _<=XJ (ts.take i++[(a,b,t)]);rw[PN];omega,fun j e hj hje=>by
     by_cases hji:j<i
     ·exact(hall j e hji hje).imp (hx2 _ _) (hx2 _ _)
     ·have hj':j=i:=by omega
      subst hj'
      rw[he] at hje;cases hje
      show P4 ts2 (Yr l1 a).toNat (Yr l1 b).toNat\/P4 ts2 (Yr l1 b).toNat (Yr l1 a).toNat
      by_cases hlt:Yr l1 b<Yr l1 a
      ·rw[if_pos hlt] at ep
       rw[if_neg (by omega)] at eq
       exact .inr (by rw[ep,eq];exact hh2)
      ·rw[if_neg hlt] at ep
       rw[if_pos (by omega)] at eq
       exact .inl (by rw[ep,eq];exact hh2)⟩
    show Zk _ _ [some (dP ts),some (.int c1),some (.int (n:Int)),some (.lst (iL l1)),x1,some (dP ts'),some (.int (a:Int)),some (.int (b:Int)),x8]=_
    have hset:Zm 8 (eP (ZJ [Zg W6 [Zh Z2 (Za 3) (Za 6),Zh Z2 (Za 3) (Za 7)],Zg RL [Zh Z2 (Za 3) (Za 6),Zh Z2 (Za 3) (Za 7)]])) [some (dP ts),some (.int c1),some (.int (n:Int)),some (.lst (iL l1)),x1,some (dP ts'),some (.int (a:Int)),some (.int (b:Int)),x8]=some (.nx [some (dP ts),some (.int c1),some (.int (n:Int)),some (.lst (iL l1)),x1,some (dP ts'),some (.int (a:Int)),some (.int (b:Int)),some (.tup [.int (p:Int),.int (q:Int)])]):=by
     simp[ia,ib,ep,eq]
    rw[ZI,hset];simp only[Option.bind_some]
    rw[VB (v:=.int t) (k:=.tup [.int (p:Int),.int (q:Int)]) (d:=dP ts') (by simp[hg]) rfl rfl pe]
    rfl)
 rw[List.length_map] at hle hall hsu
 rw[List.take_length] at hsu
 refine⟨ts',?_,ok',hle,fun hg P hP i j hi hj=>?_,hsu⟩
 rotate_left
 ·have sur:∀k,k<n->∃x,x<n/\(Yr l1 x).toNat=k:=fun k hk=>by
   have hm:=FR nkn.nd (fun x hx=>⟨x.toNat,by have:=nkn.lo x hx;have:=nkn.hi x hx;omega,by have:=nkn.lo x hx;omega⟩) nkn.len hk
   obtain⟨x,hx,ex⟩:=List.getElem_of_mem hm
   refine⟨x,by rw[<-nkn.len];exact hx,?_⟩
   unfold Yr
   rw[List.getD_eq_getElem?_getD,List.getElem?_eq_getElem hx,ex];rfl
  obtain⟨x,hx,rfl⟩:=sur i hi
  obtain⟨y,hy,rfl⟩:=sur j hj
  refine hg (fun k=>P (Yr l1 k).toNat) (fun a b hab=>?_) x y hx hy
  obtain⟨t,ht⟩:=hab
  obtain⟨k,hk,ek⟩:=List.getElem_of_mem ht
  rcases hall k (a,b,t) hk (by rw[List.getElem?_eq_getElem hk,ek]) with q | q
  ·exact hP _ _ q
  ·exact(hP _ _ q).symm
 show Wr 9 Wk [dP ts,.int c,.int (n:Int)]=_
 unfold Wk;simp only[Wr,ZR,List.map_cons,List.map_nil,List.length_cons,List.length_nil,ZI,Zw]
 have hr:ZY [Za 2] (ZK [3,5] [some (dP ts),some (.int c),some (.int (n:Int)),some (.lst []),none,none,none,none,none])=some (Yy n):=Yt (by simp[ZK]) (by omega)
 show((YI [3,5] (ZY [Za 2]) (.one 4) _ [some (dP ts),some (.int c),some (.int (n:Int)),some (.lst []),none,none,none,none,none]).bind _).bind Xf=_
 rw[Yi,hr];simp only[Option.bind_some]
 rw[show(Xn (.one 4) (Zk (VN 3 (Zh ZO (Za 1) (Zh ZN (Za 4) (eC (.int 1)))) (Za 4)) (Zm 1 (eP (Zh Xa (Za 1) (Zh ZN (Za 4) (eC (.int 1))))))) (Yy n) [some (dP ts),some (.int c),some (.int (n:Int)),some (.lst []),none,none,none,none,none])=some (.nx s1) from h1,e1]
 show((SM 0 _ _ [some (dP ts),some (.int c1),some (.int (n:Int)),some (.lst (iL l1)),x1,some (dP []),none,none,none]).bind _).bind Xf=_
 unfold SM
 show(((V9 (dP ts)).bind fun ls=>Xn _ _ ls [some (dP ts),some (.int c1),some (.int (n:Int)),some (.lst (iL l1)),x1,some (dP []),none,none,none]).bind _).bind Xf=_
 rw[T8];simp only[Option.bind_some];rw[h2,e2];rfl
theorem OY{n:Nat}{ts:List ZP}(ok:DictOk n ts)(hn:n<=7)(hl:ts.length<=1000)(c:Int):∃ts',XD [dP ts,.int c,.int (n:Int)]=some (dP ts')/\DictOk n ts'/\ts'.length<=ts.length/\(Hang n ts->Hang n ts'):=by
 obtain⟨ts',h2,h3,h4,h5,_⟩:=PQ ok hn hl c
 exact⟨ts',h2,h3,h4,h5⟩
theorem Kd{r m:Int}(h1:1<=m)(h9:m<=9):0<=r%2*(1+r/2%m)/\r%2*(1+r/2%m)<=9:=by
 have a1:=Int.emod_nonneg (r/2) (show m≠0 by omega)
 have a2:=Int.emod_lt_of_pos (r/2) (show 0<m by omega)
 have a3:r%2=0\/r%2=1:=by omega
 rcases a3 with e | e<;>rw[e]<;>omega
theorem EC{x y:PV}(c:Int):Wv [x,y] (c%2)=some (if c%2=0 then x else y):=by
 have h:c%2=0\/c%2=1:=by omega
 rcases h with h | h<;>rw[h]<;>rfl
theorem Ke(neg:Bool)(a:Int)(l:List Int):V1 neg (.int a) (.lst (iL l))=some (.bl (if neg then !decide (a∈l) else decide (a∈l))):=by
 unfold V1
 have c:((iL l).all fun z=>Xd 8 z (.int a))=true:=by
  rw[List.all_map,List.all_eq_true]
  intro x _;rfl
 show(some (iL l)).bind _=_
 simp only[Option.bind_some,if_pos c]
 have:decide (PV.int a∈iL l)=decide (a∈l):=decide_eq_decide.mpr (by
  rw[List.mem_map];constructor
  ·rintro⟨x,hx,e⟩;cases e;exact hx
  ·intro h;exact⟨a,h,rfl⟩)
 rw[this]
noncomputable def IJ:XS:=(Zk (Zm 8 (eP (Zg W6 [(Zh V0 (Zh ZO (Za 0) (eC (.int 2))) (Zh ZN (eC (.int 1)) (Zh ZO (Zh Xa (Za 0) (eC (.int 2))) (Za 3)))),(Za 2)])))
  (Zk (Zm 0 (eP (Zh Z2 (ZG [(Zh Xa (Za 0) (eC (.int 2))),(Zh Xa (Zh Xa (Za 0) (eC (.int 2))) (Za 3))]) (Zh ZO (Za 0) (eC (.int 2))))))
  (YC (xB (Zh Mq (Za 8) (eC (.int 0)))) (Zk (VL.sDPut 4 (ZJ [(Za 6),(Za 7)]) (Za 8))
  (Zm 2 (eP (Zh W9 (Za 2) (Za 8))))) Zp)))
def XM(n:Nat)(most:Int)(ts:List ZP)(rest room:Int)(x6 x7 x8:Option Int)(x9:Option Int)(met:List Int):ZE:=
 [some (.int rest),some (.int (n:Int)),some (.int room),some (.int most),some (dP ts),some (.lst (iL met)),x6.map PV.int,x7.map PV.int,x8.map PV.int,x9.map PV.int]
theorem Gm{n:Nat}{most:Int}{ts:List ZP}{rest room:Int}{a b:Nat}{x8 x9:Option Int}{met:List Int}(h1:1<=most)(h9:most<=9)(ok:DictOk n ts)(hl:ts.length<=1000)(hab:a<b)(hb:b<n) :
  ∃ts' rest' room' x8',IJ (XM n most ts rest room (some (a:Int)) (some (b:Int)) x8 x9 met)=some (.nx (XM n most ts' rest' room' (some (a:Int)) (some (b:Int)) (some x8') x9 met))/\DictOk n ts'/\ts'.length<=ts.length+1/\(0<=room->0<=room'/\XJ ts'+room'<=XJ ts+room):=by
 obtain⟨d0,d9⟩:=Kd (r:=rest) h1 h9
 have cm:CMul (rest%2) (1+rest/2%most):=HZ (by omega) (by omega)
 have cd:U2 rest 2:=Tn (by omega) (by omega)
 have cd2:U2 (rest/2) most:=Tn (by omega) (by omega)
 have hm:0<most:=by omega
 generalize hdp:(if room<rest%2*(1+rest/2%most) then room else rest%2*(1+rest/2%most))=dp
 have hdp9:dp<=9:=by rw[<-hdp];split<;>omega
 have hdpr:dp<=room:=by rw[<-hdp];split<;>omega
 generalize hrs:(if rest%2=0 then rest/2 else rest/2/most)=rs
 have hif:(if rest%2=0 then PV.int (rest/2) else PV.int (rest/2/most))=PV.int rs:=by rw[<-hrs];split<;>rfl
 have first:(Zk (Zm 8 (eP (Zg W6 [(Zh V0 (Zh ZO (Za 0) (eC (.int 2))) (Zh ZN (eC (.int 1)) (Zh ZO (Zh Xa (Za 0) (eC (.int 2))) (Za 3)))),(Za 2)]))) (Zm 0 (eP (Zh Z2 (ZG [(Zh Xa (Za 0) (eC (.int 2))),(Zh Xa (Zh Xa (Za 0) (eC (.int 2))) (Za 3))]) (Zh ZO (Za 0) (eC (.int 2)))))))
   (XM n most ts rest room (some (a:Int)) (some (b:Int)) x8 x9 met)=some (.nx (XM n most ts rs room (some (a:Int)) (some (b:Int)) (some dp) x9 met)):=by
  simp[XM,cm,cd,cd2,hm,EC,hif,hdp]
 have split3:∀(f g h:XS)(s s1:ZE),Zk f g s=some (.nx s1)->Zk f (Zk g h) s=h s1:=fun f g h s s1 e=>by
  simp only[ZI] at e ⊢
  cases q:f s with
  | none=>rw[q] at e;cases e
  | some o=>
   rw[q] at e
   cases o with
   | nx s2=>
    simp only[Option.bind_some] at e ⊢
    rw[e];rfl
   | _=>cases e
 by_cases hpos:0<dp
 ·obtain⟨ts2,pe,ok2,hle2,_,_,hs2⟩:=Ra (t:=dp) ok hab hb (by omega) hdp9 (by omega)
  refine⟨ts2,rs,room-dp,dp,?_,ok2,hle2,fun _=>⟨by omega,by omega⟩⟩
  unfold IJ;rw[split3 _ _ _ _ _ first]
  have hput:=VB (i:=4) (fk:=ZJ [Za 6,Za 7]) (fv:=Za 8) (s:=XM n most ts rs room (some (a:Int)) (some (b:Int)) (some dp) x9 met) (v:=.int dp) (k:=.tup [.int (a:Int),.int (b:Int)]) (d:=dP ts) rfl (by simp[XM]) rfl pe
  have ht:xB (Zh Mq (Za 8) (eC (.int 0))) (XM n most ts rs room (some (a:Int)) (some (b:Int)) (some dp) x9 met)=some true:=by simp[XM,hpos]
  rw[ZQ,ht];simp only[Option.bind_some,if_true];rw[ZI,hput];simp[XM]
 ·refine⟨ts,rs,room,dp,?_,ok,by omega,fun h=>⟨h,Int.le_refl _⟩⟩
  unfold IJ;rw[split3 _ _ _ _ _ first]
  have ht:xB (Zh Mq (Za 8) (eC (.int 0))) (XM n most ts rs room (some (a:Int)) (some (b:Int)) (some dp) x9 met)=some false:=by simp[XM,hpos]
  rw[ZQ,ht]
  simp
theorem Kf{n:Nat}{most:Int}{a:Nat}{ts:List ZP}{rest room:Int}{x7 x8 x9:Option Int}{met:List Int}(h1:1<=most)(h9:most<=9)(ok:DictOk n ts)(hl:ts.length<=100)(ha:a<n)(hn:n<=7) :
  ∃ts' rest' room' y7 y8,Xn (.one 7) IJ (Wq ((a:Int)+1) (n-(a+1))) (XM n most ts rest room (some (a:Int)) x7 x8 x9 met)=some (.nx (XM n most ts' rest' room' (some (a:Int)) y7 y8 x9 met))/\DictOk n ts'/\ts'.length<=ts.length+7/\(0<=room->0<=room'/\XJ ts'+room'<=XJ ts+room):=by
 obtain⟨s',h,ts',rest',room',y7,y8,e,ok',hle,hsu⟩:=ZW (T:=.one 7) (fb:=IJ) (ls:=Wq ((a:Int)+1) (n-(a+1))) (s:=XM n most ts rest room (some (a:Int)) x7 x8 x9 met)
  (fun j st=>∃ts' rest' room' y7 y8,st=XM n most ts' rest' room' (some (a:Int)) y7 y8 x9 met/\DictOk n ts'/\ts'.length<=ts.length+j/\(0<=room->0<=room'/\XJ ts'+room'<=XJ ts+room)) ⟨ts,rest,room,x7,x8,rfl,ok,by omega,fun h=>⟨h,Int.le_refl _⟩⟩ (fun j l st hl' hJ=>by
   obtain⟨hj,rfl⟩:=SR hl'
   obtain⟨ts',rest',room',y7,y8,rfl,ok',hle,hsu⟩:=hJ
   have e1:(a:Int)+1+(j:Int)=((a+1+j:Nat):Int):=by omega
   rw[e1]
   obtain⟨ts2,r2,m2,z8,e2,ok2,hle2,hs2⟩:=Gm (rest:=rest') (room:=room') (x8:=y8) (x9:=x9) (met:=met) h1 h9 ok' (by omega) (show a<a+1+j by omega) (by omega)
   exact⟨_,_,rfl,e2,ts2,r2,m2,some ((a+1+j:Nat):Int),some z8,rfl,ok2,by omega,fun h=>by have a1:=hsu h;have a2:=hs2 a1.1;exact⟨a2.1,by omega⟩⟩)
 rw[SS] at hle
 exact⟨ts',rest',room',y7,y8,by rw[h,e],ok',by omega,hsu⟩
theorem Kg{n:Nat}{most:Int}{rest room:Int}{met:List Int}(h1:1<=most)(h9:most<=9)(hn:n<=7) :
  ∃ts' rest' room' y6 y7 y8,Xn (.one 6) (YI [4,5] (Xq [Zh ZN (Za 6) (eC (.int 1)),Za 1]) (.one 7) IJ) (Yy n) (XM n most [] rest room none none none none met)=some (.nx (XM n most ts' rest' room' y6 y7 y8 none met))/\DictOk n ts'/\ts'.length<=49/\(0<=room->XJ ts'<=room):=by
 obtain⟨s',h,ts',rest',room',y6,y7,y8,e,ok',hle,hsu⟩:=ZW (T:=.one 6) (fb:=YI [4,5] (Xq [Zh ZN (Za 6) (eC (.int 1)),Za 1]) (.one 7) IJ) (ls:=Yy n) (s:=XM n most [] rest room none none none none met)
  (fun i st=>∃ts' rest' room' y6 y7 y8,st=XM n most ts' rest' room' y6 y7 y8 none met/\DictOk n ts'/\ts'.length<=7*i/\(0<=room->0<=room'/\XJ ts'+room'<=room)) ⟨[],rest,room,none,none,none,rfl,DictOk.nil n,by simp,fun h=>⟨h,by show(0:Int)+room<=room;omega⟩⟩ (fun i l st hl' hJ=>by
   obtain⟨hi,rfl⟩:=X6 hl'
   obtain⟨ts',rest',room',y6,y7,y8,rfl,ok',hle,hsu⟩:=hJ
   obtain⟨ts2,r2,m2,z7,z8,e2,ok2,hle2,hs2⟩:=Kf (rest:=rest') (room:=room') (x7:=y7) (x8:=y8) (x9:=none) (met:=met) h1 h9 ok' (by omega) hi hn
   refine⟨_,_,rfl,?_,ts2,r2,m2,some (i:Int),z7,z8,rfl,ok2,by omega,fun h=>by have a1:=hsu h;have a2:=hs2 a1.1;exact⟨a2.1,by omega⟩⟩
   have hr:Xq [Zh ZN (Za 6) (eC (.int 1)),Za 1] (ZK [4,5] (XM n most ts' rest' room' (some (i:Int)) y7 y8 none met))=some (Wq ((i:Int)+1) (n-(i+1))):=by
    rw[Tj (i:=(i:Int)+1) (j:=(n:Int)) (by simp[ZK,XM]) (by simp[ZK,XM]) ⟨by omega,by omega⟩ ⟨by omega,by omega⟩]
    congr 2;omega
   show YI _ _ _ _ (XM n most ts' rest' room' (some (i:Int)) y7 y8 none met)=_
   rw[Yi,hr]
   exact e2)
 rw[UQ] at hle
 exact⟨ts',rest',room',y6,y7,y8,by rw[h,e],ok',by omega,fun h=>by have:=hsu h;omega⟩
noncomputable def OZ:XS:=(Zk (YC (XW (xB (Zh (V1 false) (Za 6) (Za 5))) (xB (Zh (V1 true) (Za 7) (Za 5)))) (YJ 5 (eP (Za 7))) Zp)
  (YC (XW (xB (Zh (V1 false) (Za 7) (Za 5))) (xB (Zh (V1 true) (Za 6) (Za 5)))) (YJ 5 (eP (Za 6))) Zp))
structure MetOk(n:Nat)(ts:List ZP)(met:List Int):Prop where
 nd:met.Nodup
 ok:∀m∈met,∃k:Nat,k<n/\m=(k:Int)/\∀P:Nat->Prop,Cl ts P->(P k↔P 0)
theorem MetOk.add{n:Nat}{ts:List ZP}{met:List Int}{a b:Nat}(h:MetOk n ts met)(hab:P4 ts a b\/P4 ts b a)(hb:b<n)(ha:(a:Int)∈met)(hnb:(b:Int)∉met):MetOk n ts (met++[(b:Int)]):=by
 refine⟨?_,fun m hm=>?_⟩
 ·rw[List.nodup_append]
  refine⟨h.nd,by simp,fun x hx y hy z=>?_⟩
  rw[List.mem_singleton.mp hy] at z
  exact hnb (z▸hx)
 ·rcases List.mem_append.mp hm with hm | hm
  ·exact h.ok m hm
  ·refine⟨b,hb,List.mem_singleton.mp hm,fun P hP=>?_⟩
   obtain⟨k,hk,e,q⟩:=h.ok _ ha
   have:a=k:=by omega
   subst this
   rcases hab with z | z
   ·exact(hP _ _ z).symm.trans (q P hP)
   ·exact(hP _ _ z).trans (q P hP)
theorem MetOk.hang{n:Nat}{ts:List ZP}{met:List Int}(h:MetOk n ts met)(hl:met.length=n):Hang n ts:=by
 have all:∀P,Cl ts P->∀i,i<n->(P i↔P 0):=fun P hP i hi=>by
  have hm:=FR h.nd (fun x hx=>by obtain⟨k,hk,e,_⟩:=h.ok x hx;exact⟨k,hk,e⟩) hl hi
  obtain⟨k,hk,e,q⟩:=h.ok _ hm
  have:i=k:=by omega
  subst this
  exact q P hP
 exact fun P hP i j hi hj=>(all P hP i hi).trans (all P hP j hj).symm
theorem PR{n:Nat}{most:Int}{ts:List ZP}{rest room:Int}{a b:Int}{x8 x9:Option Int}{met:List Int}(hl:met.length<=5000)(f g:Nat)(va vb:Int)(hf:∀met,(XM n most ts rest room (some a) (some b) x8 x9 met)[f]?=some (some (.int va)))(hg:∀met,(XM n most ts rest room (some a) (some b) x8 x9 met)[g]?=some (some (.int vb))) :
  ∃met',YC (XW (xB (Zh (V1 false) (Za f) (Za 5))) (xB (Zh (V1 true) (Za g) (Za 5)))) (YJ 5 (eP (Za g))) Zp (XM n most ts rest room (some a) (some b) x8 x9 met)=some (.nx (XM n most ts rest room (some a) (some b) x8 x9 met'))/\met'.length<=met.length+1/\(met'=met\/(va∈met/\vb∉met/\met'=met++[vb])):=by
 have h5:(XM n most ts rest room (some a) (some b) x8 x9 met)[5]?=some (some (.lst (iL met))):=rfl
 have t:XW (xB (Zh (V1 false) (Za f) (Za 5))) (xB (Zh (V1 true) (Za g) (Za 5))) (XM n most ts rest room (some a) (some b) x8 x9 met)=some (decide (va∈met)&&!decide (vb∈met)):=by
  simp only[WC,YS,ZF,Z9,hf,hg,h5,Option.join_some,Option.bind_some,Ke,HX]
  by_cases h:va∈met<;>simp[h]
 rw[ZQ,t];simp only[Option.bind_some]
 split
 ·rename_i hc
  refine⟨met++[vb],?_,by simp,.inr ⟨by simp at hc;exact hc.1,by simp at hc;exact hc.2,rfl⟩⟩
  rw[Um (l:=.int vb) (m:=iL met) (by simp only[YR,Z9,hg,Option.join_some,Option.bind_some,MA,if_true]) rfl (by rw[List.length_map];omega)]
  simp[XM]
 ·exact⟨met,rfl,by omega,.inl rfl⟩
theorem J3{n:Nat}{most:Int}{ts:List ZP}{rest room:Int}{a b:Int}{x8 x9:Option Int}{met:List Int}(hl:met.length<=4000) :
  ∃met',OZ (XM n most ts rest room (some a) (some b) x8 x9 met)=some (.nx (XM n most ts rest room (some a) (some b) x8 x9 met'))/\met'.length<=met.length+2/\(∀a' b':Nat,a=a'->b=b'->P4 ts a' b'->a'<n->b'<n->MetOk n ts met->MetOk n ts met'):=by
 obtain⟨m1,e1,l1,o1⟩:=PR (n:=n) (most:=most) (ts:=ts) (rest:=rest) (room:=room) (a:=a) (b:=b) (x8:=x8) (x9:=x9) (met:=met) (by omega) 6 7 a b (fun _=>rfl) (fun _=>rfl)
 obtain⟨m2,e2,l2,o2⟩:=PR (n:=n) (most:=most) (ts:=ts) (rest:=rest) (room:=room) (a:=a) (b:=b) (x8:=x8) (x9:=x9) (met:=m1) (by omega) 7 6 b a (fun _=>rfl) (fun _=>rfl)
 refine⟨m2,?_,by omega,fun a' b' ha hb hab han hbn mk=>?_⟩
 rotate_left
 ·subst ha hb
  have k1:MetOk n ts m1:=by
   rcases o1 with rfl | ⟨u,v,rfl⟩
   ·exact mk
   ·exact mk.add (.inl hab) hbn u v
  rcases o2 with rfl | ⟨u,v,rfl⟩
  ·exact k1
  ·exact k1.add (.inr hab) han u v
 unfold OZ;rw[ZI,e1];exact e2
theorem M0{n:Nat}{most:Int}{ts:List ZP}{rest room:Int}{x6 x7 x8 x9:Option Int}{met:List Int}:OD [4,5] (.nx (XM n most ts rest room x6 x7 x8 x9 met)) = .nx (XM n most ts rest room x6 x7 x8 x9 met):=by
 cases x6<;>cases x7<;>cases x8<;>cases x9<;>rfl
theorem Kh{n:Nat}{most:Int}{ts:List ZP}{rest room:Int}{x6 x7 x8 x9:Option Int}{met:List Int}(hl:met.length<=2000)(ht:ts.length<=49)(ok:DictOk n ts)(mk:MetOk n ts met) :
  ∃y6 y7 met',Uk [4,5] 4 (.many [6,7]) OZ (XM n most ts rest room x6 x7 x8 x9 met)=some (.nx (XM n most ts rest room y6 y7 x8 x9 met'))/\met'.length<=met.length+98/\MetOk n ts met':=by
 obtain⟨s',h,y6,y7,met',e,hle,mk'⟩:=ZW (T:=.many [6,7]) (fb:=OZ) (ls:=ts.map fun e=>.tup [.int (e.1:Int),.int (e.2.1:Int)]) (s:=XM n most ts rest room x6 x7 x8 x9 met)
  (fun j st=>∃y6 y7 met',st=XM n most ts rest room y6 y7 x8 x9 met'/\met'.length<=met.length+2*j/\MetOk n ts met') ⟨x6,x7,met,rfl,by omega,mk⟩ (fun j l st hl' hJ=>by
   obtain⟨y6,y7,met',rfl,hle,mk'⟩:=hJ
   rw[List.getElem?_map] at hl'
   cases he:ts[j]? with
   | none=>rw[he] at hl';cases hl'
   | some e=>
    rw[he] at hl'
    cases hl'
    have hj:=(List.getElem?_eq_some_iff.mp he).1
    have hmem:=List.mem_of_getElem? he
    have hoe:=ok.ok e hmem
    obtain⟨m2,e2,l2,o2⟩:=J3 (n:=n) (most:=most) (ts:=ts) (rest:=rest) (room:=room) (a:=(e.1:Int)) (b:=(e.2.1:Int)) (x8:=x8) (x9:=x9) (met:=met') (by omega)
    exact⟨_,_,rfl,e2,some (e.1:Int),some (e.2.1:Int),m2,rfl,by omega,o2 e.1 e.2.1 rfl rfl ⟨e.2.2,hmem⟩ (by omega) (by omega) mk'⟩)
 rw[List.length_map] at hle
 refine⟨y6,y7,met',?_,by omega,mk'⟩
 unfold Uk
 show((V9 (dP ts)).bind fun ls=>(Xn _ _ ls _).map (OD [4,5]))=_
 rw[T8];simp only[Option.bind_some];rw[h,e,Option.map_some,M0]
theorem J4{n:Nat}{most:Int}{ts:List ZP}{rest room:Int}{x6 x7 x8:Option Int}(ht:ts.length<=49)(hn:n<=7)(ok:DictOk n ts)(hn1:1<=n) :
  ∃y6 y7 y9 met',Xn (.one 9) (Uk [4,5] 4 (.many [6,7]) OZ) (Yy n) (XM n most ts rest room x6 x7 x8 none [0])=some (.nx (XM n most ts rest room y6 y7 x8 y9 met'))/\MetOk n ts met':=by
 obtain⟨s',h,y6,y7,y9,met',e,hle,mk⟩:=ZW (T:=.one 9) (fb:=Uk [4,5] 4 (.many [6,7]) OZ) (ls:=Yy n) (s:=XM n most ts rest room x6 x7 x8 none [0])
  (fun i st=>∃y6 y7 y9 met',st=XM n most ts rest room y6 y7 x8 y9 met'/\met'.length<=1+98*i/\MetOk n ts met') ⟨x6,x7,none,[0],rfl,by simp,⟨by simp,fun m hm=>⟨0,by omega,List.mem_singleton.mp hm,fun P _=>Iff.rfl⟩⟩⟩ (fun i l st hl' hJ=>by
   obtain⟨hi,rfl⟩:=X6 hl'
   obtain⟨y6,y7,y9,met',rfl,hle,mk⟩:=hJ
   obtain⟨z6,z7,m2,e2,l2,mk2⟩:=Kh (n:=n) (most:=most) (ts:=ts) (rest:=rest) (room:=room) (x6:=y6) (x7:=y7) (x8:=x8) (x9:=some (i:Int)) (met:=met') (by omega) ht ok mk
   exact⟨_,_,rfl,e2,z6,z7,some (i:Int),m2,rfl,by omega,mk2⟩)
 exact⟨y6,y7,y9,met',by rw[h,e],mk⟩
theorem Rb{n:Nat}{most rest room:Int}(h1:1<=most)(h9:most<=9)(hn:n<=7)(hn1:1<=n):∃r,Yj [.int rest,.int (n:Int),.int room,.int most]=some r/\(r = .non\/∃ts,r=dP ts/\DictOk n ts/\ts.length<=49/\Hang n ts/\(0<=room->XJ ts<=room)):=by
 obtain⟨ts,rest',room',y6,y7,y8,e1,ok,hle,hsu⟩:=Kg (n:=n) (rest:=rest) (room:=room) (met:=[0]) h1 h9 hn
 obtain⟨z6,z7,z9,met,e2,mk⟩:=J4 (n:=n) (most:=most) (ts:=ts) (rest:=rest') (room:=room') (x6:=y6) (x7:=y7) (x8:=y8) hle hn ok hn1
 refine⟨if met.length=n then dP ts else .non,?_,?_⟩
 ·show Wr 10 Xi [.int rest,.int (n:Int),.int room,.int most]=_
  have r1:ZY [Za 1] (ZK [4,5] (XM n most [] rest room none none none none [0]))=some (Yy n):=Yt (by simp[ZK,XM]) (by omega)
  have r2:ZY [Za 1] (ZK [4,5] (XM n most ts rest' room' y6 y7 y8 none [0]))=some (Yy n):=Yt (by simp[ZK,XM]) (by omega)
  unfold Xi;simp only[Wr,ZR,List.map_cons,List.map_nil,List.length_cons,List.length_nil,ZI,Zw]
  show((YI [4,5] (ZY [Za 1]) (.one 6) (YI [4,5] (Xq [Zh ZN (Za 6) (eC (.int 1)),Za 1]) (.one 7) IJ) (XM n most [] rest room none none none none [0])).bind _).bind Xf=_
  rw[Yi,r1];simp only[Option.bind_some];rw[e1];simp only[Option.bind_some]
  show((YI [4,5] (ZY [Za 1]) (.one 9) (Uk [4,5] 4 (.many [6,7]) OZ) (XM n most ts rest' room' y6 y7 y8 none [0])).bind _).bind Xf=_
  rw[Yi,r2];simp only[Option.bind_some];rw[e2];simp only[Option.bind_some];unfold Qw
  by_cases h:met.length=n
  ·simp[XM,h]
  ·have h':¬((met.length:Int)=(n:Int)):=by omega
   simp[XM,h,h']
 ·by_cases h:met.length=n
  ·rw[if_pos h];exact .inr ⟨ts,rfl,ok,hle,mk.hang h,hsu⟩
  ·rw[if_neg h];exact .inl rfl
theorem Ru{n:Nat}{most rest room:Int}(h1:1<=most)(h9:most<=9)(hn:n<=7)(hn1:1<=n):∃r,Yj [.int rest,.int (n:Int),.int room,.int most]=some r/\(r = .non\/∃ts,r=dP ts/\DictOk n ts/\ts.length<=49/\Hang n ts):=by
 obtain⟨r,h2,h3⟩:=Rb (rest:=rest) (room:=room) h1 h9 hn hn1
 exact⟨r,h2,h3.imp_right fun⟨ts,a,b,c,d,_⟩=>⟨ts,a,b,c,d⟩⟩
theorem ED(c:Int):∃v:Int,1<=v/\v<=9/\Wv [PV.int 1,PV.int 1,PV.int 1,PV.int 2,PV.int 3,PV.int 9] (c%6)=some (.int v):=by
 have h:c%6=0\/c%6=1\/c%6=2\/c%6=3\/c%6=4\/c%6=5:=by omega
 rcases h with h | h | h | h | h | h<;>rw[h]
 ·exact⟨1,by decide,by decide,rfl⟩
 ·exact⟨1,by decide,by decide,rfl⟩
 ·exact⟨1,by decide,by decide,rfl⟩
 ·exact⟨2,by decide,by decide,rfl⟩
 ·exact⟨3,by decide,by decide,rfl⟩
 ·exact⟨9,by decide,by decide,rfl⟩
theorem EE(c:Int):∃v:Int,0<=v/\v<=9/\Wv [PV.int 0,PV.int 0,PV.int 0,PV.int 1,PV.int 1,PV.int 2,PV.int 4,PV.int 9] (c%8)=some (.int v):=by
 have h:c%8=0\/c%8=1\/c%8=2\/c%8=3\/c%8=4\/c%8=5\/c%8=6\/c%8=7:=by omega
 rcases h with h | h | h | h | h | h | h | h<;>rw[h]
 ·exact⟨0,by decide,by decide,rfl⟩
 ·exact⟨0,by decide,by decide,rfl⟩
 ·exact⟨0,by decide,by decide,rfl⟩
 ·exact⟨1,by decide,by decide,rfl⟩
 ·exact⟨1,by decide,by decide,rfl⟩
 ·exact⟨2,by decide,by decide,rfl⟩
 ·exact⟨4,by decide,by decide,rfl⟩
 ·exact⟨9,by decide,by decide,rfl⟩
theorem Gn(ts:List ZP)(a b:Int):∃c,F7 (dP ts) (.tup [.int a,.int b])=some c:=⟨_,rfl⟩
def Xo(ns:List Int)(at0 n:Nat)(first:Int)(ts:List ZP)(room:Int)(x6 x7 x8 x9 x10 x11:Option Int):ZE:=
 [some (.cst (iL ns)),some (.int (at0:Int)),some (.int (n:Int)),some (.int first),some (dP ts),some (.int room),x6.map PV.int,x7.map PV.int,x8.map PV.int,x9.map PV.int,x10.map PV.int,x11.map PV.int]
noncomputable def FT:XS:=(Zk (Zm 7 (Zg Zn [(Za 0),(Zh ZN (Za 1) (Za 6))]))
  (Zk (Zm 8 (eP (Zg W6 [(Zh Z2 (ZG [(eC (.int 1)),(eC (.int 1)),(eC (.int 1)),(eC (.int 2)),(eC (.int 3)),(eC (.int 9))]) (Zh ZO (Zh Xa (Za 7) (Za 6)) (eC (.int 6)))),(Zh W9 (Za 5) (Zh W9 (Zh W9 (Za 2) (eC (.int 1))) (Za 6)))])))
  (Zk (VL.sDPut 4 (ZJ [(Zh ZO (Za 7) (Za 6)),(Za 6)]) (Za 8))
  (Zm 5 (eP (Zh W9 (Za 5) (Za 8)))))))
theorem FU{f g h k:XS}{s s1 s2 s3:ZE}(e1:f s=some (.nx s1))(e2:g s1=some (.nx s2))(e3:h s2=some (.nx s3)):Zk f (Zk g (Zk h k)) s=k s3:=by
 simp only[ZI,e1,e2,e3,Option.bind_some]
theorem Zz{f g:XS}{s s1:ZE}(e1:f s=some (.nx s1)):Zk f g s=g s1:=by
 simp only[ZI,e1,Option.bind_some]
theorem Gp{ns:List Int}{at0 n:Nat}{first:Int}{ts:List ZP}{room:Int}{x7 x8 x9 x10 x11:Option Int}{h:Nat}(hns:ns.length<=63)(ok:DictOk n ts)(hl:ts.length<=1000)(h1:1<=h)(hh:h<n)(hn:n<=7)(hr:(n:Int)-(h:Int)<=room) :
  ∃ts' room' y7 y8,FT (Xo ns at0 n first ts room (some (h:Int)) x7 x8 x9 x10 x11)=some (.nx (Xo ns at0 n first ts' room' (some (h:Int)) (some y7) (some y8) x9 x10 x11))/\DictOk n ts'/\ts'.length<=ts.length+1/\(n:Int)-((h:Int)+1)<=room'/\Ext ts ts'/\∃c,c<h/\P4 ts' c h:=by
 generalize hc:Yr ns (at0+h)=c
 have e1:Zm 7 (Zg Zn [(Za 0),(Zh ZN (Za 1) (Za 6))]) (Xo ns at0 n first ts room (some (h:Int)) x7 x8 x9 x10 x11)=some (.nx (Xo ns at0 n first ts room (some (h:Int)) (some c) x8 x9 x10 x11)):=by
  have z:(at0:Int)+(h:Int)=((at0+h:Nat):Int):=by omega
  have q:=W3 hns (at0+h)
  rw[hc] at q
  have q:Zn [PV.cst (ns.map PV.int),PV.int ((at0:Int)+(h:Int))]=some (PV.int c):=by rw[z];exact q
  simp[Xo,q]
 obtain⟨v,v1,v9,ev⟩:=ED (c/(h:Int))
 have cd:U2 c (h:Int):=Tn (by omega) (by omega)
 have hp:(0:Int)<(h:Int):=by omega
 generalize hd:(if room-((n:Int)-1-(h:Int))<v then room-((n:Int)-1-(h:Int)) else v)=dp
 have d1:1<=dp:=by rw[<-hd];split<;>omega
 have d9:dp<=9:=by rw[<-hd];split<;>omega
 have dr:dp<=room-((n:Int)-1-(h:Int)):=by rw[<-hd];split<;>omega
 have e2:Zm 8 (eP (Zg W6 [(Zh Z2 (ZG [(eC (.int 1)),(eC (.int 1)),(eC (.int 1)),(eC (.int 2)),(eC (.int 3)),(eC (.int 9))]) (Zh ZO (Zh Xa (Za 7) (Za 6)) (eC (.int 6)))),(Zh W9 (Za 5) (Zh W9 (Zh W9 (Za 2) (eC (.int 1))) (Za 6)))])) (Xo ns at0 n first ts room (some (h:Int)) (some c) x8 x9 x10 x11)=some (.nx (Xo ns at0 n first ts room (some (h:Int)) (some c) (some dp) x9 x10 x11)):=by
  simp[Xo,cd,ev,hd]
 have m0:=Int.emod_nonneg c (show(h:Int)≠0 by omega)
 have m1:=Int.emod_lt_of_pos c hp
 obtain⟨ts2,pe,ok2,hle2,hh2,hx2⟩:=NR (a:=(c%(h:Int)).toNat) (b:=h) (t:=dp) ok (by omega) hh d1 d9 (by omega)
 have hcast:(((c%(h:Int)).toNat:Nat):Int)=c%(h:Int):=by omega
 rw[hcast] at pe
 have e3:VL.sDPut 4 (ZJ [(Zh ZO (Za 7) (Za 6)),(Za 6)]) (Za 8) (Xo ns at0 n first ts room (some (h:Int)) (some c) (some dp) x9 x10 x11)=some (.nx (Xo ns at0 n first ts2 room (some (h:Int)) (some c) (some dp) x9 x10 x11)):=by
  rw[VB (v:=.int dp) (k:=.tup [.int (c%(h:Int)),.int (h:Int)]) (d:=dP ts) rfl (by simp[Xo,show 0<h by omega]) rfl pe]
  rfl
 refine⟨ts2,room-dp,c,dp,?_,ok2,hle2,by omega,hx2,(c%(h:Int)).toNat,by omega,hh2⟩
 unfold FT;rw[FU e1 e2 e3];simp[Xo]
noncomputable def GC:XS:=(Zk (Zm 8 (eP (Zh Z2 (ZG [(eC (.int 0)),(eC (.int 0)),(eC (.int 0)),(eC (.int 1)),(eC (.int 1)),(eC (.int 2)),(eC (.int 4)),(eC (.int 9))]) (Zh ZO (Zg Zn [(Za 0),(Za 9)]) (eC (.int 8))))))
  (Zk (Zm 9 (eP (Zh ZN (Za 9) (eC (.int 1)))))
  (YC (XW (xB (Oz true (ZJ [(Za 10),(Za 11)]) (Za 4))) (xB (UM T1 TJ (eC (.int 0)) (Za 8) (Za 5)))) (Zk (VL.sDPut 4 (ZJ [(Za 10),(Za 11)]) (Za 8))
  (Zm 5 (eP (Zh W9 (Za 5) (Za 8))))) Zp)))
theorem Ki{f g h:XS}{s s1 s2:ZE}(e1:f s=some (.nx s1))(e2:g s1=some (.nx s2)):Zk f (Zk g h) s=h s2:=by
 simp only[ZI,e1,e2,Option.bind_some]
theorem Gq{ns:List Int}{at0 n:Nat}{first:Int}{ts:List ZP}{room:Int}{x6 x7 x8:Option Int}{k a b:Nat}(hns:ns.length<=63)(ok:DictOk n ts)(hl:ts.length<=1000)(hab:a<b)(hb:b<n) :
  ∃ts' room' y8,GC (Xo ns at0 n first ts room x6 x7 x8 (some (k:Int)) (some (a:Int)) (some (b:Int)))=some (.nx (Xo ns at0 n first ts' room' x6 x7 (some y8) (some ((k+1:Nat):Int)) (some (a:Int)) (some (b:Int))))/\DictOk n ts'/\ts'.length<=ts.length+1/\Ext ts ts':=by
 obtain⟨v,v0,v9,ev⟩:=EE (Yr ns k)
 have e1:Zm 8 (eP (Zh Z2 (ZG [(eC (.int 0)),(eC (.int 0)),(eC (.int 0)),(eC (.int 1)),(eC (.int 1)),(eC (.int 2)),(eC (.int 4)),(eC (.int 9))]) (Zh ZO (Zg Zn [(Za 0),(Za 9)]) (eC (.int 8))))) (Xo ns at0 n first ts room x6 x7 x8 (some (k:Int)) (some (a:Int)) (some (b:Int)))=some (.nx (Xo ns at0 n first ts room x6 x7 (some v) (some (k:Int)) (some (a:Int)) (some (b:Int)))):=by
  have q:Zn [PV.cst (ns.map PV.int),PV.int (k:Int)]=some (PV.int (Yr ns k)):=W3 hns k
  simp[Xo,q,ev]
 have e2:Zm 9 (eP (Zh ZN (Za 9) (eC (.int 1)))) (Xo ns at0 n first ts room x6 x7 (some v) (some (k:Int)) (some (a:Int)) (some (b:Int)))=some (.nx (Xo ns at0 n first ts room x6 x7 (some v) (some ((k+1:Nat):Int)) (some (a:Int)) (some (b:Int)))):=by
  simp[Xo]
 obtain⟨cc,ec⟩:=Gn ts (a:Int) (b:Int)
 unfold GC;rw[Ki e1 e2]
 have tst:∃q:Bool,XW (xB (Oz true (ZJ [(Za 10),(Za 11)]) (Za 4))) (xB (UM T1 TJ (eC (.int 0)) (Za 8) (Za 5))) (Xo ns at0 n first ts room x6 x7 (some v) (some ((k+1:Nat):Int)) (some (a:Int)) (some (b:Int)))=some q/\(q=true->0<v):=by
  have t1:xB (Oz true (ZJ [(Za 10),(Za 11)]) (Za 4)) (Xo ns at0 n first ts room x6 x7 (some v) (some ((k+1:Nat):Int)) (some (a:Int)) (some (b:Int)))=some !cc:=by
   simp[Xo,Oz,ec]
  have t2:xB (UM T1 TJ (eC (.int 0)) (Za 8) (Za 5)) (Xo ns at0 n first ts room x6 x7 (some v) (some ((k+1:Nat):Int)) (some (a:Int)) (some (b:Int)))=some (decide (0<v)&&decide (v<=room)):=by
   by_cases hv:0<v
   ·simp[Xo,UM,hv]
   ·simp[Xo,UM,hv]
  rw[WC,t1,t2]
  cases cc with
  | true=>exact⟨false,rfl,fun z=>by cases z⟩
  | false=>exact⟨_,rfl,fun z=>by
    rw[Bool.and_eq_true] at z
    exact of_decide_eq_true z.1⟩
 obtain⟨q,eq,hq⟩:=tst
 rw[ZQ,eq];simp only[Option.bind_some]
 cases q with
 | false=>exact⟨ts,room,v,rfl,ok,by omega,Ext.refl ts⟩
 | true=>
  have hv:=hq rfl
  obtain⟨ts2,pe,ok2,hle2,_,hx2⟩:=NR (t:=v) ok hab hb (by omega) v9 (by omega)
  refine⟨ts2,room-v,v,?_,ok2,hle2,hx2⟩
  rw[if_pos rfl]
  have e3:VL.sDPut 4 (ZJ [(Za 10),(Za 11)]) (Za 8) (Xo ns at0 n first ts room x6 x7 (some v) (some ((k+1:Nat):Int)) (some (a:Int)) (some (b:Int)))=some (.nx (Xo ns at0 n first ts2 room x6 x7 (some v) (some ((k+1:Nat):Int)) (some (a:Int)) (some (b:Int)))):=by
   rw[VB (v:=.int v) (k:=.tup [.int (a:Int),.int (b:Int)]) (d:=dP ts) rfl (by simp[Xo]) rfl pe]
   rfl
  rw[Zz e3];simp[Xo]
theorem Kj{ns:List Int}{at0 n:Nat}(hns:ns.length<=63)(h1:1<=n)(hn:n<=7):∃ts,Xy [.cst (iL ns),.int (at0:Int),.int (n:Int)]=some (dP ts)/\DictOk n ts/\Hang n ts:=by
 generalize hf:Yr ns at0=first
 have hcell:Zn [PV.cst (ns.map PV.int),PV.int (at0:Int)]=some (PV.int first):=by rw[<-hf];exact W3 hns at0
 obtain⟨r,er,alt⟩:=Ru (n:=n) (most:=9) (rest:=first/2) (room:=30) (by omega) (by omega) hn h1
 have cd2:U2 first 2:=Tn (by omega) (by omega)
 -- the first test
 have hstart:Zm 3 (Zg Zn [(Za 0),(Za 1)]) [some (.cst (iL ns)),some (.int (at0:Int)),some (.int (n:Int)),none,none,none,none,none,none,none,none,none]=some (.nx [some (.cst (iL ns)),some (.int (at0:Int)),some (.int (n:Int)),some (.int first),none,none,none,none,none,none,none,none]):=by
  simp[hcell]
 have htest:XW (xB (Zh (XA false) (Zh ZO (Za 3) (eC (.int 2))) (eC (.int 1)))) (xB (X3 true (Zg Yj [(Zh Xa (Za 3) (eC (.int 2))),(Za 2),(eC (.int 30)),(eC (.int 9))]))) [some (.cst (iL ns)),some (.int (at0:Int)),some (.int (n:Int)),some (.int first),none,none,none,none,none,none,none,none]=some (decide (first%2=1)&&!Tc r):=by
  have eb:Lu true r=some (.bl (!Tc r)):=by cases r<;>rfl
  by_cases h:first%2=1
  ·simp[h,cd2,er,eb]
  ·simp[h]
 show ∃ts,Wr 12 VR [.cst (iL ns),.int (at0:Int),.int (n:Int)]=some (dP ts)/\DictOk n ts/\Hang n ts
 unfold VR;simp only[Wr,ZR,List.map_cons,List.map_nil,List.length_cons,List.length_nil]
 show ∃ts,(Zk (Zm 3 (Zg Zn [(Za 0),(Za 1)])) _ [some (.cst (iL ns)),some (.int (at0:Int)),some (.int (n:Int)),none,none,none,none,none,none,none,none,none]).bind Xf=some (dP ts)/\DictOk n ts/\Hang n ts
 rw[Zz hstart,ZI,ZQ,htest];simp only[Option.bind_some]
 by_cases hc:(decide (first%2=1)&&!Tc r)=true
 ·rw[if_pos hc]
  rw[Bool.and_eq_true] at hc
  rcases alt with rfl | ⟨ts,rfl,ok,_,hg⟩
  ·exact absurd hc.2 (by decide)
  ·exact⟨ts,by simp[cd2,er],ok,hg⟩
 ·rw[if_neg hc]
  simp only[Mz,Option.bind_some]
  -- the dict,the room
  have e45:∀g:XS,Zk (Zm 4 (eC (.dT [] []))) (Zk (Zm 5 (eP (eC (.int 30)))) g) [some (.cst (iL ns)),some (.int (at0:Int)),some (.int (n:Int)),some (.int first),none,none,none,none,none,none,none,none]=g (Xo ns at0 n first [] 30 none none none none none none):=fun g=>by
   rw[Ki (s1:=[some (.cst (iL ns)),some (.int (at0:Int)),some (.int (n:Int)),some (.int first),some (dP []),none,none,none,none,none,none,none]) (s2:=Xo ns at0 n first [] 30 none none none none none none) (by simp;rfl) (by simp[Xo])]
  rw[e45]
  -- the first loop
  obtain⟨s1,l1,ts1,room1,y6,y7,y8,es1,ok1,hle1,_,tree⟩:=ZW (T:=.one 6) (fb:=FT) (ls:=Wq 1 (n-1)) (s:=Xo ns at0 n first [] 30 none none none none none none)
   (fun i st=>∃ts room y6 y7 y8,st=Xo ns at0 n first ts room y6 y7 y8 none none none/\DictOk n ts/\ts.length<=i/\(n:Int)-((i:Int)+1)<=room/\∀h,1<=h->h<=i->∃c,c<h/\P4 ts c h) ⟨[],30,none,none,none,rfl,DictOk.nil n,Nat.le_refl _,by omega,fun h h1 h2=>by omega⟩ (fun i l st hl' hJ=>by
    obtain⟨hi,rfl⟩:=SR hl'
    obtain⟨ts,room,y6,y7,y8,rfl,ok,hle,hroom,tree⟩:=hJ
    have z:(1:Int)+(i:Int)=((i+1:Nat):Int):=by omega
    rw[z]
    obtain⟨ts2,room2,z7,z8,e2,ok2,hle2,hr2,hx2,hc2⟩:=Gp (at0:=at0) (first:=first) (room:=room) (x7:=y7) (x8:=y8) (x9:=none) (x10:=none) (x11:=none) (h:=i+1) hns ok (by omega) (by omega) (by omega) hn (by omega)
    exact⟨_,_,rfl,e2,ts2,room2,some ((i+1:Nat):Int),some z7,some z8,rfl,ok2,by omega,by omega,fun h h1 h2=>by
     by_cases q:h<=i
     ·obtain⟨c,a,b⟩:=tree h h1 q
      exact⟨c,a,hx2 _ _ b⟩
     ·have:h=i+1:=by omega
      subst this
      exact hc2⟩)
  rw[SS] at hle1 tree
  have r1:Xq [eC (.int 1),Za 2] (ZK [4] (Xo ns at0 n first [] 30 none none none none none none))=some (Wq 1 (n-1)):=by
   rw[Tj (i:=1) (j:=(n:Int)) rfl (by simp[ZK,Xo]) ⟨by omega,by omega⟩ ⟨by omega,by omega⟩]
   congr 2;omega
  have f1:YI [4] (Xq [eC (.int 1),Za 2]) (.one 6) FT (Xo ns at0 n first [] 30 none none none none none none)=some (.nx (Xo ns at0 n first ts1 room1 y6 y7 y8 none none none)):=by
   rw[Yi,r1]
   exact l1.trans (by rw[es1])
  have e9:Zm 9 (eP (Zh ZN (Za 1) (eC (.int 7)))) (Xo ns at0 n first ts1 room1 y6 y7 y8 none none none)=some (.nx (Xo ns at0 n first ts1 room1 y6 y7 y8 (some ((at0+7:Nat):Int)) none none)):=by simp[Xo]
  -- the second loops
  have inner:∀(a:Nat)(ts:List ZP)(room:Int)(x8:Option Int)(k:Nat)(x11:Option Int),a<n->DictOk n ts->ts.length<=500->∃ts' room' y8 k' y11,Xn (.one 11) GC (Wq ((a:Int)+1) (n-(a+1))) (Xo ns at0 n first ts room y6 y7 x8 (some (k:Int)) (some (a:Int)) x11)=some (.nx (Xo ns at0 n first ts' room' y6 y7 y8 (some ((k':Nat):Int)) (some (a:Int)) y11))/\DictOk n ts'/\ts'.length<=ts.length+7/\Ext ts ts':=by
   intro a ts room x8 k x11 ha ok hl
   obtain⟨s',h,ts',room',z8,k',z11,e,ok',hle,hx⟩:=ZW (T:=.one 11) (fb:=GC) (ls:=Wq ((a:Int)+1) (n-(a+1))) (s:=Xo ns at0 n first ts room y6 y7 x8 (some (k:Int)) (some (a:Int)) x11)
    (fun j st=>∃ts' room' z8 k' z11,st=Xo ns at0 n first ts' room' y6 y7 z8 (some ((k':Nat):Int)) (some (a:Int)) z11/\DictOk n ts'/\ts'.length<=ts.length+j/\Ext ts ts') ⟨ts,room,x8,k,x11,rfl,ok,by omega,Ext.refl ts⟩ (fun j l st hl' hJ=>by
     obtain⟨hj,rfl⟩:=SR hl'
     obtain⟨ts',room',z8,k',z11,rfl,ok',hle,hx⟩:=hJ
     have z:(a:Int)+1+(j:Int)=((a+1+j:Nat):Int):=by omega
     rw[z]
     obtain⟨ts2,room2,w8,e2,ok2,hle2,hx2⟩:=Gq (at0:=at0) (first:=first) (room:=room') (x6:=y6) (x7:=y7) (x8:=z8) (k:=k') hns ok' (by omega) (show a<a+1+j by omega) (by omega)
     exact⟨_,_,rfl,e2,ts2,room2,some w8,k'+1,some ((a+1+j:Nat):Int),rfl,ok2,by omega,hx.trans hx2⟩)
   rw[SS] at hle
   exact⟨ts',room',z8,k',z11,by rw[h,e],ok',by omega,hx⟩
  obtain⟨s2,l2,ts2,room2,w8,w9,w10,w11,es2,ok2,hle2,hx2⟩:=ZW (T:=.one 10) (fb:=YI [4] (Xq [Zh ZN (Za 10) (eC (.int 1)),Za 2]) (.one 11) GC) (ls:=Yy n) (s:=Xo ns at0 n first ts1 room1 y6 y7 y8 (some ((at0+7:Nat):Int)) none none)
   (fun i st=>∃ts room w8 k w10 w11,st=Xo ns at0 n first ts room y6 y7 w8 (some ((k:Nat):Int)) w10 w11/\DictOk n ts/\ts.length<=7+7*i/\Ext ts1 ts) ⟨ts1,room1,y8,at0+7,none,none,rfl,ok1,by omega,Ext.refl ts1⟩ (fun i l st hl' hJ=>by
    obtain⟨hi,rfl⟩:=X6 hl'
    obtain⟨ts,room,w8,k,w10,w11,rfl,ok,hle,hx⟩:=hJ
    obtain⟨ts',room',z8,k',z11,e2,ok',hle',hx'⟩:=inner i ts room w8 k w11 hi ok (by omega)
    refine⟨_,_,rfl,?_,ts',room',z8,k',some (i:Int),z11,rfl,ok',by omega,hx.trans hx'⟩
    have hr:Xq [Zh ZN (Za 10) (eC (.int 1)),Za 2] (ZK [4] (Xo ns at0 n first ts room y6 y7 w8 (some (k:Int)) (some (i:Int)) w11))=some (Wq ((i:Int)+1) (n-(i+1))):=by
     rw[Tj (i:=(i:Int)+1) (j:=(n:Int)) (by simp[ZK,Xo]) (by simp[ZK,Xo]) ⟨by omega,by omega⟩ ⟨by omega,by omega⟩]
     congr 2;omega
    show YI _ _ _ _ (Xo ns at0 n first ts room y6 y7 w8 (some (k:Int)) (some (i:Int)) w11)=_
    rw[Yi,hr]
    exact e2)
  rw[UQ] at hle2
  have r2:ZY [Za 2] (ZK [4] (Xo ns at0 n first ts1 room1 y6 y7 y8 (some ((at0+7:Nat):Int)) none none))=some (Yy n):=Yt (by simp[ZK,Xo]) (by omega)
  have f2:YI [4] (ZY [Za 2]) (.one 10) (YI [4] (Xq [Zh ZN (Za 10) (eC (.int 1)),Za 2]) (.one 11) GC) (Xo ns at0 n first ts1 room1 y6 y7 y8 (some ((at0+7:Nat):Int)) none none)=some (.nx (Xo ns at0 n first ts2 room2 y6 y7 w8 (some ((w9:Nat):Int)) w10 w11)):=by
   rw[Yi,r2]
   exact l2.trans (by rw[es2])
  have hg:Hang n ts2:=by
   have all:∀P,Cl ts2 P->∀i,i<n->(P i↔P 0):=by
    intro P hP i
    induction i using Nat.strongRecOn with
    | _ i ih=>
     intro hi
     by_cases h0:i=0
     ·subst h0;exact Iff.rfl
     ·obtain⟨c,hc,hb⟩:=tree i (by omega) (by omega)
      exact(hP _ _ (hx2 _ _ hb)).symm.trans (ih c hc (by omega))
   exact fun P hP i j hi hj=>(all P hP i hi).trans (all P hP j hj).symm
  obtain⟨ts',eR,okR,_,hgR⟩:=OY ok2 hn (by omega) (first/7)
  have cd7:U2 first 7:=Tn (by omega) (by omega)
  refine⟨ts',?_,okR,hgR hg⟩
  refine Eq.trans (congrArg (fun o=>Option.bind o Xf) (FU (f:=YI [4] (Xq [eC (.int 1),Za 2]) (.one 6) FT) f1 e9 f2)) ?_
  simp[Xo,hcell,cd7,eR]
theorem Ni{l:List Int}{h i:Nat}{v:Int}(hi:i<l.length):Yr (l.set h v) i=if i=h then v else Yr l i:=by
 unfold Yr;rw[List.getD_eq_getElem?_getD,List.getD_eq_getElem?_getD,List.getElem?_set]
 by_cases e:h=i
 ·subst e
  rw[if_pos rfl,if_pos rfl,if_pos hi];rfl
 ·rw[if_neg e,if_neg (Ne.symm e)]
theorem Kk(n:Nat)(c:Int):(List.replicate n [PV.int c]).flatten=iL (List.replicate n c):=by
 induction n with
 | zero=>rfl
 | succ n ih=>rw[List.replicate_succ,List.flatten_cons,ih,List.replicate_succ];rfl
theorem Kl{M:List (List Int)}{a:Nat}(h:a<M.length):Wv (rL M) (a:Int)=some (.lst (iL (ZL M a))):=WK (Ur h)
theorem NS{M:List (List Int)}{a b:Nat}{t:Int}(hr:∀i,i<M.length->(ZL M i).length=M.length)(hab:a<b)(hb:b<M.length)(h1:1<=t)(h9:t<=9)(h0:Xp M a b=0) :
  ZV [.lst (rL M),pP [(a:Int),(b:Int),t]]=some (.bl true):=by
 have g0:Wv [PV.int (a:Int),PV.int (b:Int),PV.int t] 0=some (.int (a:Int)):=rfl
 have g1:Wv [PV.int (a:Int),PV.int (b:Int),PV.int t] 1=some (.int (b:Int)):=rfl
 have g2:Wv [PV.int (a:Int),PV.int (b:Int),PV.int t] 2=some (.int t):=rfl
 have lr:(rL M).length=M.length:=by simp[rL]
 have ev:Wv (iL (ZL M a)) (b:Int)=some (.int 0):=by
  have:=Qx (l:=ZL M a) (k:=b) (by rw[hr a (by omega)];exact hb)
  rw[this];show some (PV.int (Xp M a b))=_;rw[h0]
 have p1:(0:Int)<=(a:Int):=by omega
 have p2:(a:Int)<(b:Int):=by omega
 have p3:(b:Int)<(M.length:Int):=by omega
 simp[ZV,W0,Wr,ZR,Rt,UM,g0,g1,g2,lr,hab,hb,h1,h9,Kl (show a<M.length by omega),ev]
theorem R3{c:XT}{fb:XS}(Jv:ZE->Prop)(μ:ZE->Nat)(step:∀st,Jv st->c st=some false\/(c st=some true/\∃s2,fb st=some (.nx s2)/\Jv s2/\μ s2<μ st)){s:ZE}(h0:Jv s) :
  ∃s',Th c fb s=some (.nx s')/\Jv s'/\c s'=some false:=by
 have gen:∀(k:Nat)(st:ZE),μ st<k->Jv st->∃s',YQ c fb k st=some (.nx s')/\Jv s'/\c s'=some false:=by
  intro k
  induction k with
  | zero=>intro st h;omega
  | succ k ih=>
   intro st hk hJ
   rcases step st hJ with hc | ⟨hc,s2,e,hJ2,hm⟩
   ·exact⟨st,by unfold YQ;rw[hc];rfl,hJ,hc⟩
   ·obtain⟨s',a,b,d⟩:=ih s2 (by omega) hJ2
    refine⟨s',?_,b,d⟩
    unfold YQ;rw[hc];simp only[Option.bind_some,if_true,e];exact a
 obtain⟨s',a,b,d⟩:=gen (μ s+1) s (by omega) h0
 exact⟨s',Mt a,b,d⟩
def Zt(l:List Nat):List Int:=l.map fun(i:Nat)=>(i:Int)
noncomputable abbrev bR:XS:=(Zk (Zm 3 (eP (Zh Z2 (Za 0) (Zh Z2 (Za 1) (Za 2)))))
  (Zk (VJ 1 (Z4 2 [1] (Xr false [(Za 3)]) (.many [0,1]) (XW (xB (Zh Mq (Za 1) (eC (.int 0)))) (xB (Zh (V1 true) (Za 0) (Za 2)))) (eP (Za 0))))
  (Mw 2 ZN (eC (.int 1)))))
structure Reach(W:List (List Int))(l:List Nat)(k:Nat):Prop where
 nd:l.Nodup
 lt:∀x∈l,x<W.length
 ze:0∈l
 kl:k<=l.length
 cl:∀m x,m<k->l[m]?=some x->∀y,y<W.length->0<Xp W x y->y∈l
def Rc(W:List (List Int))(l:List Nat)(x:Nat):List Nat:=(List.range W.length).filter fun y=>decide (0<Xp W x y)&&!decide (y∈l)
theorem Reach.step{W:List (List Int)}{l:List Nat}{k x:Nat}(h:Reach W l k)(hx:l[k]?=some x):Reach W (l++Rc W l x) (k+1):=by
 have hk:=(List.getElem?_eq_some_iff.mp hx).1
 have mem:∀y,y∈Rc W l x↔y<W.length/\0<Xp W x y/\y∉l:=fun y=>by
  unfold Rc;rw[List.mem_filter,List.mem_range]
  simp
 refine⟨?_,fun y hy=>?_,List.mem_append_left _ h.ze,by rw[List.length_append];omega,fun m z hm hz y hy hp=>?_⟩
 ·rw[List.nodup_append]
  refine⟨h.nd,List.Pairwise.filter _ List.nodup_range,fun y hy z hz e=>?_⟩
  subst e
  exact((mem y).mp hz).2.2 hy
 ·rcases List.mem_append.mp hy with hy | hy
  ·exact h.lt y hy
  ·exact((mem y).mp hy).1
 ·rw[List.getElem?_append_left (by omega)] at hz
  by_cases q:m=k
  ·subst q
   rw[hx] at hz;cases hz
   by_cases hl:y∈l
   ·exact List.mem_append_left _ hl
   ·exact List.mem_append_right _ ((mem y).mpr ⟨hy,hp,hl⟩)
  ·exact List.mem_append_left _ (h.cl m z (by omega) hz y hy hp)
theorem Reach.all{W:List (List Int)}{l:List Nat}(h:Reach W l l.length)(ok:Pg W)(cn:Gj W){i:Nat}(hi:i<W.length):i∈l:=by
 have:=cn (fun x=>x∈l) fun a b ha hb hp=>⟨fun z=>?_,fun z=>?_⟩
 ·exact(this 0 i ok.pos hi).mp h.ze
 ·obtain⟨m,hm,e⟩:=List.getElem_of_mem z
  exact h.cl m a hm (by rw[List.getElem?_eq_getElem hm,e]) b hb hp
 ·obtain⟨m,hm,e⟩:=List.getElem_of_mem z
  exact h.cl m b hm (by rw[List.getElem?_eq_getElem hm,e]) a ha (by rw[ok.sym b a hb ha];exact hp)
def sR(W:List (List Int))(l:List Nat)(k:Nat)(x3:Option PV):ZE:=[some (wP W),some (.lst (iL (Zt l))),some (.int (k:Int)),x3]
theorem T9(y:Nat)(l:List Nat):V1 true (.int (y:Int)) (.lst (iL (Zt l)))=some (.bl (!decide (y∈l))):=by
 rw[Ke]
 have:((y:Int)∈Zt l)↔y∈l:=by
  unfold Zt;rw[List.mem_map]
  exact⟨fun⟨a,h,e⟩=>by rw[show y=a by omega];exact h,fun h=>⟨y,h,rfl⟩⟩
 simp[this]
theorem IK{W:List (List Int)}{l:List Nat}{k x:Nat}{x3:Option PV}(ok:Pg W)(h:Reach W l k)(hx:l[k]?=some x) :
  ∃y3,bR (sR W l k x3)=some (.nx (sR W (l++Rc W l x) (k+1) y3)):=by
 have hf:=ok.few
 have hk:=(List.getElem?_eq_some_iff.mp hx).1
 have hxn:x<W.length:=h.lt x (List.mem_of_getElem? hx)
 have hl:l.length<=W.length:=by
  have nd:(Zt l).Nodup:=List.Pairwise.map _ (fun a b z=>by omega) h.nd
  have:=VD (l:=Zt l) (m:=Zt (List.range W.length)) nd fun y hy=>by
   obtain⟨a,ha,rfl⟩:=List.mem_map.mp hy
   exact List.mem_map.mpr ⟨a,List.mem_range.mpr (h.lt a ha),rfl⟩
  simpa [Zt] using this
 have ix:Wv (iL (Zt l)) (k:Int)=some (.int (x:Int)):=WK (by unfold Zt;rw[List.getElem?_map,List.getElem?_map,hx];rfl)
 have e1:Zm 3 (eP (Zh Z2 (Za 0) (Zh Z2 (Za 1) (Za 2)))) (sR W l k x3)=some (.nx (sR W l k (some (pP (ZL W x))))):=by
  simp[sR,ix,JB hxn]
 have lr:=ok.sq x hxn
 have en:Xr false [(Za 3)] (sR W l k (some (pP (ZL W x))))=some ((List.range W.length).map fun(i:Nat)=>.tup [.int (i:Int),.int (Xp W x i)]):=by
  have:=J0 (ZL W x)
  rw[lr] at this;simp[sR,this]
  exact fun _ _=>rfl
 have k2:Z4 2 [1] (Xr false [(Za 3)]) (.many [0,1]) (XW (xB (Zh Mq (Za 1) (eC (.int 0)))) (xB (Zh (V1 true) (Za 0) (Za 2)))) (eP (Za 0)) (sR W l k (some (pP (ZL W x))))=some (.lst (iL (Zt (Rc W l x)))):=by
  rw[Qy (List.range W.length) (fun(i:Nat)=>.tup [.int (i:Int),.int (Xp W x i)]) (fun(i:Nat)=>.int (i:Int)) (fun y=>decide (0<Xp W x y)&&!decide (y∈l)) en (by simp;omega) fun y hy=>⟨[some (.int (y:Int)),some (.int (Xp W x y)),some (.lst (iL (Zt l)))],rfl,?_,fun _=>by simp⟩]
  ·unfold Zt Rc iL
   rw[List.map_map];rfl
  ·by_cases q:0<Xp W x y
   ·simp[q,T9]
   ·simp[q]
 have e2:VJ 1 (Z4 2 [1] (Xr false [(Za 3)]) (.many [0,1]) (XW (xB (Zh Mq (Za 1) (eC (.int 0)))) (xB (Zh (V1 true) (Za 0) (Za 2)))) (eP (Za 0))) (sR W l k (some (pP (ZL W x))))=some (.nx (sR W (l++Rc W l x) k (some (pP (ZL W x))))):=by
  rw[OE (m:=iL (Zt l)) k2 rfl (by simp[Zt,Rc];have:=List.length_filter_le (fun y=>decide (0<Xp W x y)&&!decide (y∈l)) (List.range W.length);rw[List.length_range] at this;omega)]
  simp[sR,Zt]
 have e3:Mw 2 ZN (eC (.int 1)) (sR W (l++Rc W l x) k (some (pP (ZL W x))))=some (.nx (sR W (l++Rc W l x) (k+1) (some (pP (ZL W x))))):=by
  simp[sR,Mw]
 exact⟨_,by unfold bR;rw[Zz e1,Zz e2,e3]⟩
theorem Reach.len{W:List (List Int)}{l:List Nat}{k:Nat}(h:Reach W l k):l.length<=W.length:=by
 have nd:(Zt l).Nodup:=List.Pairwise.map _ (fun a b z=>by omega) h.nd
 have:=VD (l:=Zt l) (m:=Zt (List.range W.length)) nd fun y hy=>by
  obtain⟨a,ha,rfl⟩:=List.mem_map.mp hy
  exact List.mem_map.mpr ⟨a,List.mem_range.mpr (h.lt a ha),rfl⟩
 simpa [Zt] using this
theorem O0{W:List (List Int)}(ok:Pg W)(cn:Gj W):YX [wP W]=some (pP (Zt (List.range W.length))):=by
 have hf:=ok.few
 obtain⟨s',q1,⟨l,k,x3,rfl,hR⟩,q3⟩:=R3 (c:=xB (Zh T1 (Za 2) (Zg YM [(Za 1)]))) (fb:=bR) (fun st=>∃l k x3,st=sR W l k x3/\Reach W l k)
  (fun(st:ZE)=>match st[2]? with | some (some (PV.int k))=>W.length+1-k.toNat | _=>0) (by
   rintro st ⟨l,k,x3,rfl,hR⟩
   have hl:=hR.len
   by_cases q:k<l.length
   ·refine .inr ⟨by simp[sR,Zt,q],?_⟩
    obtain⟨y3,e⟩:=IK (x3:=x3) ok hR (List.getElem?_eq_getElem q)
    refine⟨_,e,⟨_,_,_,rfl,hR.step (List.getElem?_eq_getElem q)⟩,?_⟩
    show W.length+1-((k+1:Nat):Int).toNat<W.length+1-((k:Nat):Int).toNat
    omega
   ·exact .inl (by simp[sR,Zt,q])) (s:=sR W [0] 0 none) ⟨[0],0,none,rfl,⟨by simp,fun x hx=>by rw[List.mem_singleton.mp hx];exact ok.pos,by simp,by simp,fun m x hm=>by omega⟩⟩
 have hk:k=l.length:=by
  have h1:¬k<l.length:=fun q=>by
   have:(xB (Zh T1 (Za 2) (Zg YM [(Za 1)]))) (sR W l k x3)=some true:=by simp[sR,Zt,q]
   rw[q3] at this;cases this
  have:=hR.kl
  omega
 subst hk;have hl:=hR.len
 have srt:Vt (Zt l)=Zt (List.range W.length):=by
  refine(SV ?_ ?_).symm
  ·have nd1:(Zt (List.range W.length)).Nodup:=List.Pairwise.map _ (fun a b z=>by omega) List.nodup_range
   have nd2:(Zt l).Nodup:=List.Pairwise.map _ (fun a b z=>by omega) hR.nd
   rw[List.perm_iff_count];intro a;rw[nd1.count,nd2.count]
   congr 1
   refine propext ⟨fun h=>?_,fun h=>?_⟩
   ·obtain⟨i,hi,rfl⟩:=List.mem_map.mp h
    exact List.mem_map.mpr ⟨i,hR.all ok cn (List.mem_range.mp hi),rfl⟩
   ·obtain⟨i,hi,rfl⟩:=List.mem_map.mp h
    exact List.mem_map.mpr ⟨i,List.mem_range.mpr (hR.lt i hi),rfl⟩
  ·refine List.Pairwise.map _ (fun a b h=>?_) (List.pairwise_lt_range (n:=W.length))
   omega
 have gs:WV [.lst (iL (Zt l))]=some (.lst (iL (Zt (List.range W.length)))):=by
  show(Xc (iL (Zt l))).bind _=_
  rw[Y4];simp only[Option.bind_some]
  rw[if_pos (by simp[Zt];omega),srt]
 have e1:Zm 1 (ZG [(eP (eC (.int 0)))]) [some (wP W),none,none,none]=some (.nx [some (wP W),some (.lst [.int 0]),none,none]):=by simp
 have e2:Zm 2 (eP (eC (.int 0))) [some (wP W),some (.lst [.int 0]),none,none]=some (.nx (sR W [0] 0 none)):=by simp[sR,Zt]
 show Wr 4 XZ [wP W]=_
 unfold XZ
 show(Zk (Zm 1 _) _ [some (wP W),none,none,none]).bind Xf=_
 rw[Zz e1,Zz e2,Zz q1]
 generalize Zt (List.range W.length)=rl at gs
 simp[sR,gs]
abbrev Yv(n:Nat):List (List Int):=List.replicate n (List.replicate n 0)
theorem R4{n a b:Nat}(ha:a<n)(hb:b<n):Xp (Yv n) a b=0:=by
 unfold Xp ZL Yr;simp[List.getD_eq_getElem?_getD,List.getElem?_replicate,ha,hb]
theorem IL{n a b:Nat}(hab:a<b):∀(l:List ZP)(M:List (List Int)),(∀e∈l,e.1<e.2.1/\e.2.1<n/\1<=e.2.2/\e.2.2<=9)->(∀e∈l,(e.1,e.2.1)≠(a,b))->MatOk n M->Xp M a b=0->Xp (l.foldl Zy M) a b=0
 | [],M,_,_,_,h=>h
 | e::r,M,hl,hn,hM,h0=>by
  have he:=hl e (by simp)
  refine IL hab r _ (fun e' h'=>hl e' (by simp[h'])) (fun e' h'=>hn e' (by simp[h'])) (hM.step he) ?_
  rw[VC hM he,if_neg (by omega),if_neg (fun z=>hn e (by simp) (by rw[z.1,z.2])),h0]
theorem NT{n:Nat}{ts:List ZP}(ok:DictOk n ts){i a b:Nat}{t:Int}(he:ts[i]?=some (a,b,t)):Xp ((ts.take i).foldl Zy (Yv n)) a b=0:=by
 have hm:=ok.ok _ (List.mem_of_getElem? he)
 simp only at hm
 refine IL hm.1 _ _ (fun e h=>ok.ok e (List.mem_of_mem_take h)) (fun e h z=>?_) (MatOk.zero n) (R4 (by omega) (by omega))
 obtain⟨j,hj,ej⟩:=List.getElem_of_mem h
 rw[List.length_take] at hj
 have hi:=(List.getElem?_eq_some_iff.mp he).1
 have nd:=ok.nd;rw[List.getElem_take] at ej
 have e1:(ts.map fun e=>(e.1,e.2.1))[j]?=some (a,b):=by rw[List.getElem?_map,List.getElem?_eq_getElem (by omega),ej,Option.map_some,z]
 have e2:(ts.map fun e=>(e.1,e.2.1))[i]?=some (a,b):=by rw[List.getElem?_map,he];rfl
 have:=(List.getElem?_inj (by rw[List.length_map];omega) nd).mp (e1.trans e2.symm)
 omega
def Zs(e:ZP):PV:=.tup [.int (e.1:Int),.int (e.2.1:Int),.int e.2.2]
theorem Tw{n:Nat}{ts:List ZP}(ok:DictOk n ts)(hg:Hang n ts)(h1:1<=n)(hn:n<=7)(hl:ts.length<=1000):Z5 [.int (n:Int),.lst (ts.map Zs)]=some (wP (Vc n ts)):=by
 have wok:=(X2 ok).web h1 hn
 have wl:=(X2 ok).len
 have re:=O0 wok (hg.conn ok)
 have lr:(Zt (List.range (Vc n ts).length)).length=n:=by simp[Zt,wl]
 generalize Zt (List.range (Vc n ts).length)=rl at re lr
 have hrep:Ui (.lst [.int 0]) (.int (n:Int))=some (.lst (iL (List.replicate n 0))):=by
  unfold Ui
  simp only
  rw[if_pos ⟨rfl,by omega,by omega,by simp;omega⟩,Int.toNat_natCast,Kk]
 have hc:Z4 1 [0] (ZY [(Za 0)]) (.one 0) YO (Zh Ui (ZG [(eC (.int 0))]) (Za 1)) [some (.int (n:Int)),some (.lst (ts.map Zs)),none,none,none,none,none]=some (.lst (rL (Yv n))):=by
  rw[Xw (List.range n) (fun(i:Nat)=>.int (i:Int)) (fun _=>.lst (iL (List.replicate n 0))) (Yt (by simp) (by omega)) (by simp;omega) (fun i _=>⟨_,rfl,rfl,?_⟩)]
  ·unfold rL
   rw[List.map_const',List.length_range,List.map_replicate]
  ·simp only[ZF,ZG,Wf,Ul,Option.bind_some,Option.map_some,Yc,Z9]
   exact hrep
 have mat:∀i,MatOk n ((ts.take i).foldl Zy (Yv n)):=fun i=>X2 (ts:=ts.take i) ⟨fun e he=>ok.ok e (List.mem_of_mem_take he),by rw[List.map_take];exact ok.nd.sublist (List.take_sublist _ _)⟩
 obtain⟨s',q1,x,y,q2⟩:=ZW (T:=.many [3,4]) (fb:=(Zk (YC (Y3 (xB (Zg ZV [(Za 2),(Za 4)]))) Yl Zp)
  (Zk (ZM 2 (Zh Z2 (Za 4) (eC (.int 0))) (Zh Z2 (Za 4) (eC (.int 1))) (Zh Z2 (Za 4) (eC (.int 2))))
  (ZM 2 (Zh Z2 (Za 4) (eC (.int 1))) (Zh Z2 (Za 4) (eC (.int 0))) (Zh Z2 (Za 4) (eC (.int 2))))))) (ls:=YZ (ts.map Zs)) (s:=[some (.int (n:Int)),some (.lst (ts.map Zs)),some (.lst (rL (Yv n))),none,none,none,none])
  (fun i st=>∃x y,st=[some (.int (n:Int)),some (.lst (ts.map Zs)),some (.lst (rL ((ts.take i).foldl Zy (Yv n)))),x,y,none,none]) ⟨none,none,rfl⟩ (fun i l st hl hJ=>by
   obtain⟨x,y,rfl⟩:=hJ
   rw[Yz,List.getElem?_map,List.length_map] at hl
   by_cases hi:i<ts.length
   ·rw[List.getElem?_range hi,Option.map_some] at hl
    cases hl
    obtain⟨⟨a,b,t⟩,hte⟩:∃e,ts[i]=e:=⟨_,rfl⟩
    have he:ts[i]?=some (a,b,t):=by rw[List.getElem?_eq_getElem hi,hte]
    have hv:(ts.map Zs).getD i .non = .tup [.int (a:Int),.int (b:Int),.int t]:=by
     rw[List.getD_eq_getElem?_getD,List.getElem?_map,he];rfl
    rw[hv]
    obtain⟨hab,hbn,t1,t9⟩:=ok.ok _ (List.mem_of_getElem? he)
    simp only at hab hbn t1 t9
    have mi:=mat i;have b0:=NT ok he
    generalize hM:(ts.take i).foldl Zy (Yv n)=M at mi b0
    have fe:=NS (M:=M) (a:=a) (b:=b) (t:=t) (fun i hi=>by rw[mi.row i (by rw[<-mi.len];exact hi),mi.len]) hab (by rw[mi.len];exact hbn) t1 t9 b0
    have sh:=Xt (t:=t) (b:=b) mi.len mi.row (show a<n by omega)
    have lenM:(rL M).length=n:=by unfold rL;rw[List.length_map];exact mi.len
    have lenM2:(rL (YL M a b t)).length=n:=by unfold rL;rw[List.length_map];exact sh.1
    have fe':ZV [.lst (rL M),.tup [.int (a:Int),.int (b:Int),.int t]]=some (.bl true):=fe
    have g0:Wv [PV.int (a:Int),PV.int (b:Int),PV.int t] 0=some (.int (a:Int)):=rfl
    have g1:Wv [PV.int (a:Int),PV.int (b:Int),PV.int t] 1=some (.int (b:Int)):=rfl
    have g2:Wv [PV.int (a:Int),PV.int (b:Int),PV.int t] 2=some (.int t):=rfl
    refine⟨[some (.int (n:Int)),some (.lst (ts.map Zs)),some (.lst (rL M)),some (.int (i:Int)),some (.tup [.int (a:Int),.int (b:Int),.int t]),none,none],_,rfl,?_,some (.int (i:Int)),some (.tup [.int (a:Int),.int (b:Int),.int t]),rfl⟩
    have e1:YC (Y3 (xB (Zg ZV [(Za 2),(Za 4)]))) Yl Zp [some (.int (n:Int)),some (.lst (ts.map Zs)),some (.lst (rL M)),some (.int (i:Int)),some (.tup [.int (a:Int),.int (b:Int),.int t]),none,none]=some (.nx [some (.int (n:Int)),some (.lst (ts.map Zs)),some (.lst (rL M)),some (.int (i:Int)),some (.tup [.int (a:Int),.int (b:Int),.int t]),none,none]):=by
     simp[fe']
    have e2:ZM 2 (Zh Z2 (Za 4) (eC (.int 0))) (Zh Z2 (Za 4) (eC (.int 1))) (Zh Z2 (Za 4) (eC (.int 2))) [some (.int (n:Int)),some (.lst (ts.map Zs)),some (.lst (rL M)),some (.int (i:Int)),some (.tup [.int (a:Int),.int (b:Int),.int t]),none,none]=some (.nx [some (.int (n:Int)),some (.lst (ts.map Zs)),some (.lst (rL (YL M a b t))),some (.int (i:Int)),some (.tup [.int (a:Int),.int (b:Int),.int t]),none,none]):=by
     rw[Xx (l:=.int t) (a:=(a:Int)) (b:=(b:Int)) (j:=a) (c:=b) (m:=rL M) (n:=iL (ZL M a)) (by simp[g2]) (by simp[g0]) (by simp[g1]) rfl (Y2 (by rw[lenM];omega)) (Ur (by rw[mi.len];omega)) (YE _) rfl (Y2 (by rw[List.length_map,mi.row a (by omega)];omega)),Tv]
     rfl
    have e3:ZM 2 (Zh Z2 (Za 4) (eC (.int 1))) (Zh Z2 (Za 4) (eC (.int 0))) (Zh Z2 (Za 4) (eC (.int 2))) [some (.int (n:Int)),some (.lst (ts.map Zs)),some (.lst (rL (YL M a b t))),some (.int (i:Int)),some (.tup [.int (a:Int),.int (b:Int),.int t]),none,none]=some (.nx [some (.int (n:Int)),some (.lst (ts.map Zs)),some (.lst (rL (Zy M (a,b,t)))),some (.int (i:Int)),some (.tup [.int (a:Int),.int (b:Int),.int t]),none,none]):=by
     rw[Xx (l:=.int t) (a:=(b:Int)) (b:=(a:Int)) (j:=b) (c:=a) (m:=rL (YL M a b t)) (n:=iL (ZL (YL M a b t) b)) (by simp[g2]) (by simp[g1]) (by simp[g0]) rfl (Y2 (by rw[lenM2];omega)) (Ur (by rw[sh.1];omega)) (YE _) rfl (Y2 (by rw[List.length_map,sh.2 b (by omega)];omega)),Tv]
     rfl
    have e5:(ts.take (i+1)).foldl Zy (Yv n)=Zy M (a,b,t):=by rw[<-hM];exact WN _ _ he
    rw[Ki e1 e2,e3,e5]
   ·rw[List.getElem?_eq_none (by rw[List.length_range];omega)] at hl;cases hl)
 rw[Yz,List.length_map,List.length_range,List.length_map,List.take_length] at q2
 have hsq:ts.foldl Zy (Yv n)=Vc n ts:=rfl
 rw[hsq] at q2;subst q2
 have e0:YC (Y3 (xB (UM TJ TJ (eC (.int 1)) (Za 0) (eC (.int 7))))) Yl Zp [some (.int (n:Int)),some (.lst (ts.map Zs)),none,none,none,none,none]=some (.nx [some (.int (n:Int)),some (.lst (ts.map Zs)),none,none,none,none,none]):=by
  simp[UM,show(1:Int)<=(n:Int) by omega,show(n:Int)<=7 by omega]
 have e1:Zm 2 (Z4 1 [0] (ZY [(Za 0)]) (.one 0) YO (Zh Ui (ZG [(eC (.int 0))]) (Za 1))) [some (.int (n:Int)),some (.lst (ts.map Zs)),none,none,none,none,none]=some (.nx [some (.int (n:Int)),some (.lst (ts.map Zs)),some (.lst (rL (Yv n))),none,none,none,none]):=by
  rw[Zw,hc];rfl
 have en:Xr true [(Za 1)] (ZK [2] [some (.int (n:Int)),some (.lst (ts.map Zs)),some (.lst (rL (Yv n))),none,none,none,none])=some (YZ (ts.map Zs)):=by
  rw[Ti];rfl
 have k5:Z4 1 [] (Vo (Za 2)) (.one 0) YO (Zg Yq [(Za 0)]) [some (.int (n:Int)),some (.lst (ts.map Zs)),some (.lst (rL (Vc n ts))),x,y,none,none]=some (.lst ((Vc n ts).map pP)):=by
  rw[Xw (Vc n ts) (fun r=>.lst (iL r)) pP (by simp[rL]) (by rw[wl];omega) (fun r _=>⟨_,rfl,rfl,by simp[Yc]⟩)]
 generalize hW:Vc n ts=W at *
 have e5:Zm 5 (eP (Zg Yq [(Z4 1 [] (Vo (Za 2)) (.one 0) YO (Zg Yq [(Za 0)]))])) [some (.int (n:Int)),some (.lst (ts.map Zs)),some (.lst (rL W)),x,y,none,none]=some (.nx [some (.int (n:Int)),some (.lst (ts.map Zs)),some (.lst (rL W)),x,y,some (wP W),none]):=by
  simp[k5]
 have e6:Zm 6 (Zg YX [(Za 5)]) [some (.int (n:Int)),some (.lst (ts.map Zs)),some (.lst (rL W)),x,y,some (wP W),none]=some (.nx [some (.int (n:Int)),some (.lst (ts.map Zs)),some (.lst (rL W)),x,y,some (wP W),some (pP rl)]):=by
  simp[re]
 have e7:YC (xB (Zh T1 (Zg YM [(Za 6)]) (Za 0))) Yl Zp [some (.int (n:Int)),some (.lst (ts.map Zs)),some (.lst (rL W)),x,y,some (wP W),some (pP rl)]=some (.nx [some (.int (n:Int)),some (.lst (ts.map Zs)),some (.lst (rL W)),x,y,some (wP W),some (pP rl)]):=by
  simp[lr]
 show Wr 7 UW [.int (n:Int),.lst (ts.map Zs)]=_
 unfold UW
 show(Zk (YC _ _ _) _ [some (.int (n:Int)),some (.lst (ts.map Zs)),none,none,none,none,none]).bind Xf=_
 rw[Zz e0,Zz e1,ZI,Yi,en];simp only[Option.bind_some];rw[q1];simp only[Option.bind_some];rw[Zz e5,Zz e6,Zz e7]
 simp
theorem Km{n a b:Nat}{t:Int}(hab:a<b):∀(l:List ZP)(M:List (List Int)),(∀e∈l,e.1<e.2.1/\e.2.1<n/\1<=e.2.2/\e.2.2<=9)->(∀e∈l,(e.1,e.2.1)≠(a,b))->MatOk n M->Xp M a b=t->Xp (l.foldl Zy M) a b=t
 | [],M,_,_,_,h=>h
 | e::r,M,hl,hn,hM,h0=>by
  have he:=hl e (by simp)
  refine Km hab r _ (fun e' h'=>hl e' (by simp[h'])) (fun e' h'=>hn e' (by simp[h'])) (hM.step he) ?_
  rw[VC hM he,if_neg (by omega),if_neg (fun z=>hn e (by simp) (by rw[z.1,z.2])),h0]
theorem O1{n:Nat}{a b:Nat}{t:Int}:∀(l:List ZP)(M:List (List Int)),(∀e∈l,e.1<e.2.1/\e.2.1<n/\1<=e.2.2/\e.2.2<=9)->(l.map fun e=>(e.1,e.2.1)).Nodup->MatOk n M->(a,b,t)∈l->Xp (l.foldl Zy M) a b=t
 | [],M,_,_,_,h=>by simp at h
 | e::r,M,hl,nd,hM,h=>by
  have he:=hl e (by simp)
  rw[List.map_cons,List.nodup_cons] at nd
  rcases List.mem_cons.mp h with q | q
  ·subst q
   simp only at he
   refine Km he.1 r _ (fun e' h'=>hl e' (by simp[h'])) (fun e' h' z=>nd.1 (List.mem_map.mpr ⟨e',h',z⟩)) (hM.step he) ?_
   rw[VC hM he,if_neg (by simp only;omega),if_pos ⟨rfl,rfl⟩]
  ·exact O1 r _ (fun e' h'=>hl e' (by simp[h'])) nd.2 (hM.step he) q
theorem J5{n:Nat}{ts:List ZP}(ok:DictOk n ts){a b:Nat}(hab:a<b)(hb:b<n):(∃t,(a,b,t)∈ts/\Xp (Vc n ts) a b=t)\/((∀t,(a,b,t)∉ts)/\Xp (Vc n ts) a b=0):=by
 by_cases h:∃t,(a,b,t)∈ts
 ·obtain⟨t,ht⟩:=h
  exact .inl ⟨t,ht,O1 ts _ ok.ok ok.nd (MatOk.zero n) ht⟩
 ·refine .inr ⟨fun t ht=>h ⟨t,ht⟩,Km hab ts _ ok.ok (fun e he z=>h ⟨e.2.2,?_⟩) (MatOk.zero n) (R4 (by omega) hb)⟩
  have z1:=(Prod.mk.inj z).1
  have z2:=(Prod.mk.inj z).2
  rw[<-z1,<-z2];exact he
structure RSet(n:Nat)(J:Nat->Nat->Prop)(l:List Nat):Prop where
 nd:l.Nodup
 lt:∀x∈l,x<n
 ze:0∈l
 cl:∀x∈l,∀y,y<n->J x y->y∈l
 re:∀P:Nat->Prop,P 0->(∀a b,a<n->b<n->J a b->P a->P b)->∀x∈l,P x
theorem RSet.same{n:Nat}{J:Nat->Nat->Prop}{l m:List Nat}(h:RSet n J l)(k:RSet n J m)(x:Nat):x∈l↔x∈m:=
 ⟨fun z=>h.re (fun y=>y∈m) k.ze (fun a b ha hb hj q=>k.cl a q b hb hj) x z,fun z=>k.re (fun y=>y∈l) h.ze (fun a b ha hb hj q=>h.cl a q b hb hj) x z⟩
def Sa(n:Nat)(l:List Nat):List Nat:=(List.range n).filter fun i=>decide (i∈l)
theorem Kn{n:Nat}{J:Nat->Nat->Prop}{l m:List Nat}(h:RSet n J l)(k:RSet n J m):Sa n l=Sa n m:=by
 unfold Sa
 refine List.filter_congr fun x _=>?_
 rw[decide_eq_decide]
 exact h.same k x
theorem QS{n:Nat}{l:List Nat}(nd:l.Nodup)(lt:∀x∈l,x<n):Vt (Zt l)=Zt (Sa n l):=by
 refine(SV ?_ ?_).symm
 ·have nd1:(Zt (Sa n l)).Nodup:=List.Pairwise.map _ (fun a b z=>by omega) (List.Pairwise.filter _ List.nodup_range)
  have nd2:(Zt l).Nodup:=List.Pairwise.map _ (fun a b z=>by omega) nd
  rw[List.perm_iff_count];intro a;rw[nd1.count,nd2.count]
  congr 1
  refine propext ⟨fun h=>?_,fun h=>?_⟩
  ·obtain⟨i,hi,rfl⟩:=List.mem_map.mp h
   have:=(List.mem_filter.mp hi).2
   exact List.mem_map.mpr ⟨i,of_decide_eq_true this,rfl⟩
  ·obtain⟨i,hi,rfl⟩:=List.mem_map.mp h
   exact List.mem_map.mpr ⟨i,List.mem_filter.mpr ⟨List.mem_range.mpr (lt i hi),decide_eq_true hi⟩,rfl⟩
 ·refine List.Pairwise.map _ (fun a b h=>?_) (List.Pairwise.filter (fun i=>decide (i∈l)) (List.pairwise_lt_range (n:=n)))
  omega
theorem Rf{n:Nat}{l:List Nat}(nd:l.Nodup)(lt:∀x∈l,x<n):(Sa n l).length=l.length:=by
 have h:=QS nd lt
 have p:(Vt (Zt l)).length=(Zt l).length:=(Uo _).length_eq
 rw[h] at p
 simpa [Zt] using p
theorem VU{n:Nat}{l:List Nat}(nd:l.Nodup)(lt:∀x∈l,x<n):l.length<=n:=by
 rw[<-Rf nd lt]
 have:=List.length_filter_le (fun i=>decide (i∈l)) (List.range n)
 rw[List.length_range] at this;exact this
theorem RSet.all{n:Nat}{J:Nat->Nat->Prop}{l:List Nat}(h:RSet n J l)(hl:l.length=n){j:Nat}(hj:j<n):j∈l:=by
 by_cases q:j∈l
 ·exact q
 ·have:=VU (n:=n) (l:=j::l) (List.nodup_cons.mpr ⟨q,h.nd⟩) fun x hx=>by
   rcases List.mem_cons.mp hx with rfl | hx
   ·exact hj
   ·exact h.lt x hx
  rw[List.length_cons] at this;omega
theorem PU{W:List (List Int)}(ok:Pg W):∃l,RSet W.length (fun a b=>0<Xp W a b) l/\YX [wP W]=some (pP (Zt (Sa W.length l))):=by
 have hf:=ok.few
 obtain⟨s',q1,⟨l,k,x3,rfl,hR,hre⟩,q3⟩:=R3 (c:=xB (Zh T1 (Za 2) (Zg YM [(Za 1)]))) (fb:=bR) (fun st=>∃l k x3,st=sR W l k x3/\Reach W l k/\∀P:Nat->Prop,P 0->(∀a b,a<W.length->b<W.length->0<Xp W a b->P a->P b)->∀x∈l,P x)
  (fun(st:ZE)=>match st[2]? with | some (some (PV.int k))=>W.length+1-k.toNat | _=>0) (by
   rintro st ⟨l,k,x3,rfl,hR,hre⟩
   have hl:=hR.len
   by_cases q:k<l.length
   ·refine .inr ⟨by simp[sR,Zt,q],?_⟩
    obtain⟨y3,e⟩:=IK (x3:=x3) ok hR (List.getElem?_eq_getElem q)
    refine⟨_,e,⟨_,_,_,rfl,hR.step (List.getElem?_eq_getElem q),fun P h0 hc x hx=>?_⟩,?_⟩
    ·rcases List.mem_append.mp hx with hx | hx
     ·exact hre P h0 hc x hx
     ·unfold Rc at hx
      rw[List.mem_filter,List.mem_range] at hx
      obtain⟨h1,h2⟩:=hx
      simp only[Bool.and_eq_true,decide_eq_true_eq] at h2
      have hm:l[k]∈l:=List.getElem_mem q
      exact hc l[k] x (hR.lt _ hm) h1 h2.1 (hre P h0 hc _ hm)
    ·show W.length+1-((k+1:Nat):Int).toNat<W.length+1-((k:Nat):Int).toNat
     omega
   ·exact .inl (by simp[sR,Zt,q])) (s:=sR W [0] 0 none) ⟨[0],0,none,rfl,⟨by simp,fun x hx=>by rw[List.mem_singleton.mp hx];exact ok.pos,by simp,by simp,fun m x hm=>by omega⟩,fun P h0 _ x hx=>by rw[List.mem_singleton.mp hx];exact h0⟩
 have hk:k=l.length:=by
  have h1:¬k<l.length:=fun q=>by
   have:(xB (Zh T1 (Za 2) (Zg YM [(Za 1)]))) (sR W l k x3)=some true:=by simp[sR,Zt,q]
   rw[q3] at this;cases this
  have:=hR.kl
  omega
 subst hk;have hl:=hR.len
 refine⟨l,⟨hR.nd,hR.lt,hR.ze,fun x hx y hy hp=>?_,hre⟩,?_⟩
 ·obtain⟨m,hm,e⟩:=List.getElem_of_mem hx
  exact hR.cl m x hm (by rw[List.getElem?_eq_getElem hm,e]) y hy hp
 have gs:WV [.lst (iL (Zt l))]=some (.lst (iL (Zt (Sa W.length l)))):=by
  show(Xc (iL (Zt l))).bind _=_
  rw[Y4];simp only[Option.bind_some]
  rw[if_pos (by simp[Zt];omega),QS hR.nd hR.lt]
 have e1:Zm 1 (ZG [(eP (eC (.int 0)))]) [some (wP W),none,none,none]=some (.nx [some (wP W),some (.lst [.int 0]),none,none]):=by simp
 have e2:Zm 2 (eP (eC (.int 0))) [some (wP W),some (.lst [.int 0]),none,none]=some (.nx (sR W [0] 0 none)):=by simp[sR,Zt]
 show Wr 4 XZ [wP W]=_
 unfold XZ
 show(Zk (Zm 1 _) _ [some (wP W),none,none,none]).bind Xf=_
 rw[Zz e1,Zz e2,Zz q1]
 generalize Zt (Sa W.length l)=rl at gs
 simp[sR,gs]
abbrev ZT:=Int×Int×Int
def zP(e:ZT):PV:=.tup [.int e.1,.int e.2.1,.int e.2.2]
def J6(n:Nat)(ts:List ZP)(e:ZT):Prop:=0<=e.1/\e.1<e.2.1/\e.2.1<(n:Int)/\1<=e.2.2/\e.2.2<=9/\∀d∈ts,¬((d.1:Int)=e.1/\(d.2.1:Int)=e.2.1)
theorem Gr{n:Nat}{ts:List ZP}{e:ZT}(ok:DictOk n ts)(h:J6 n ts e):∃d:ZP,zP e=Zs d/\DictOk n (ts++[d]):=by
 obtain⟨a,b,t⟩:=e
 obtain⟨h1,h2,h3,h4,h5,h6⟩:=h
 simp only at h1 h2 h3 h4 h5 h6
 refine⟨(a.toNat,b.toNat,t),?_,?_,?_⟩
 ·unfold zP Zs
  simp only
  rw[Int.toNat_of_nonneg h1,Int.toNat_of_nonneg (by omega)]
 ·intro e he
  rcases List.mem_append.mp he with he | he
  ·exact ok.ok e he
  ·rw[List.mem_singleton.mp he]
   simp only
   omega
 ·rw[List.map_append,List.nodup_append]
  refine⟨ok.nd,by simp,fun x hx y hy z=>?_⟩
  subst z
  obtain⟨d,hd,e1⟩:=List.mem_map.mp hx
  simp only[List.map_cons,List.map_nil,List.mem_singleton] at hy;rw[hy] at e1;have e2:=congrArg Prod.fst e1;have e3:=congrArg Prod.snd e1
  simp only at e2 e3
  exact h6 d hd (by omega)
theorem Rg(n:Nat):∀(ps:List ZT)(ts:List ZP),DictOk n ts->(∃us,DictOk n (ts++us)/\ps.map zP=us.map Zs)\/∃us e rest,DictOk n (ts++us)/\ps.map zP=us.map Zs++zP e::rest/\¬J6 n (ts++us) e
 | [],ts,ok=>.inl ⟨[],by simpa using ok,rfl⟩
 | e::r,ts,ok=>by
  by_cases h:J6 n ts e
  ·obtain⟨d,hz,ok'⟩:=Gr ok h
   rcases Rg n r (ts++[d]) ok' with⟨us,ok2,h2⟩ | ⟨us,e',rest,ok2,h2,h3⟩
   ·exact .inl ⟨d::us,by simpa using ok2,by rw[List.map_cons,List.map_cons,hz,h2]⟩
   ·exact .inr ⟨d::us,e',rest,by simpa using ok2,by rw[List.map_cons,List.map_cons,hz,h2];rfl,by simpa using h3⟩
  ·exact .inr ⟨[],e,r.map zP,by simpa using ok,rfl,by simpa using h⟩
theorem J7{n:Nat}{ts:List ZP}{e:ZT}(ok:DictOk n ts)(h:¬J6 n ts e):ZV [.lst (rL (Vc n ts)),zP e]=some (.bl false):=by
 obtain⟨a,b,t⟩:=e
 have mo:=X2 ok
 have g0:Wv [PV.int a,PV.int b,PV.int t] 0=some (.int a):=rfl
 have g1:Wv [PV.int a,PV.int b,PV.int t] 1=some (.int b):=rfl
 have g2:Wv [PV.int a,PV.int b,PV.int t] 2=some (.int t):=rfl
 have lr:(rL (Vc n ts)).length=n:=by unfold rL;rw[List.length_map];exact mo.len
 show ZV [.lst (rL (Vc n ts)),.tup [.int a,.int b,.int t]]=_
 by_cases p1:0<=a
 case neg=>simp[ZV,W0,Wr,ZR,Rt,UM,g0,g1,g2,p1]
 by_cases p2:a<b
 case neg=>simp[ZV,W0,Wr,ZR,Rt,UM,g0,g1,g2,p1,p2]
 by_cases p3:b<(n:Int)
 case neg=>simp[ZV,W0,Wr,ZR,Rt,UM,g0,g1,g2,p1,p2,p3,lr]
 by_cases p4:1<=t
 case neg=>simp[ZV,W0,Wr,ZR,Rt,UM,g0,g1,g2,p1,p2,p3,lr,p4]
 by_cases p5:t<=9
 case neg=>simp[ZV,W0,Wr,ZR,Rt,UM,g0,g1,g2,p1,p2,p3,lr,p4,p5]
 obtain⟨i,rfl⟩:∃i:Nat,a=i:=⟨a.toNat,(Int.toNat_of_nonneg p1).symm⟩
 obtain⟨j,rfl⟩:∃j:Nat,b=j:=⟨b.toNat,(Int.toNat_of_nonneg (by omega)).symm⟩
 have hd:∃d∈ts,(d.1:Int)=i/\(d.2.1:Int)=j:=by
  by_cases q:∃d∈ts,(d.1:Int)=i/\(d.2.1:Int)=j
  ·exact q
  ·exact absurd ⟨p1,p2,p3,p4,p5,fun d hd z=>q ⟨d,hd,z⟩⟩ h
 obtain⟨⟨x,y,v⟩,hm,e1,e2⟩:=hd
 simp only at e1 e2
 obtain rfl:x=i:=by omega
 obtain rfl:y=j:=by omega
 have hv:=ok.ok _ hm
 simp only at hv
 have en:Xp (Vc n ts) x y=v:=O1 ts _ ok.ok ok.nd (MatOk.zero n) hm
 have ev:Wv (iL (ZL (Vc n ts) x)) (y:Int)=some (.int v):=by
  have:=Qx (l:=ZL (Vc n ts) x) (k:=y) (by rw[mo.row x (by omega)];omega)
  rw[this,<-en];rfl
 have hn0:¬v=0:=by omega
 simp[ZV,W0,Wr,ZR,Rt,UM,g0,g1,g2,p1,p2,p3,lr,p4,p5,Kl (show x<(Vc n ts).length by rw[mo.len];omega),ev,hn0]
end PW
namespace PW
open L2 VL VX
theorem Tx{T:Tgt}{fy:XF}{fb:XS}:∀(k:Nat){ls:List PV}{s:ZE}(Jv:Nat->ZE->Prop),k<=ls.length->Jv 0 s->(∀(i:Nat) l st,i<k->ls[i]?=some l->Jv i st->∃s1 s2,XN T l st=some s1/\fy s1=none/\fb s1=some (.nx s2)/\Jv (i+1) s2)->
  ∃s',Jv k s'/\Tq T fy fb ls s=Tq T fy fb (ls.drop k) s'
 | 0,ls,s,Jv,_,h0,_=>⟨s,h0,rfl⟩
 | k+1,[],s,Jv,hk,_,_=>by simp at hk
 | k+1,l::r,s,Jv,hk,h0,step=>by
  obtain⟨s1,s2,b1,y1,f1,j1⟩:=step 0 l s (by omega) rfl h0
  obtain⟨s',q1,q2⟩:=Tx k (ls:=r) (s:=s2) (fun i st=>Jv (i+1) st) (by simpa using hk) j1 fun i l' st hi hl hJ=>step (i+1) l' st (by omega) (by simpa using hl) hJ
  refine⟨s',q1,?_⟩
  rw[List.drop_succ_cons,<-q2]
  conv=>lhs;unfold Tq
  rw[b1];simp only[Option.bind_some,y1,f1]
def WE(n:Int)(L:List PV)(M:List (List Int))(x y:Option PV):ZE:=[some (.int n),some (.lst L),some (.lst (rL M)),x,y,none,none]
noncomputable abbrev GD:XS:=(Zk (YC (Y3 (xB (Zg ZV [(Za 2),(Za 4)]))) Yl Zp)
  (Zk (ZM 2 (Zh Z2 (Za 4) (eC (.int 0))) (Zh Z2 (Za 4) (eC (.int 1))) (Zh Z2 (Za 4) (eC (.int 2))))
  (ZM 2 (Zh Z2 (Za 4) (eC (.int 1))) (Zh Z2 (Za 4) (eC (.int 0))) (Zh Z2 (Za 4) (eC (.int 2))))))
noncomputable abbrev GF:XF:=(Xj (QK (Y3 (xB (Zg ZV [(Za 2),(Za 4)]))) (WX "NoWeb" (Za 3)) Rn) Yl Rn)
theorem Ko{n:Nat}{L:List PV}{M:List (List Int)}{d:ZP}{i:Int}(mi:MatOk n M)(hd:d.1<d.2.1/\d.2.1<n/\1<=d.2.2/\d.2.2<=9)(b0:Xp M d.1 d.2.1=0) :
  GF (WE n L M (some (.int i)) (some (Zs d)))=none/\GD (WE n L M (some (.int i)) (some (Zs d)))=some (.nx (WE n L (Zy M d) (some (.int i)) (some (Zs d)))):=by
 obtain⟨a,b,t⟩:=d
 obtain⟨hab,hbn,t1,t9⟩:=hd
 simp only at hab hbn t1 t9 b0
 have fe:=NS (M:=M) (a:=a) (b:=b) (t:=t) (fun i hi=>by rw[mi.row i (by rw[<-mi.len];exact hi),mi.len]) hab (by rw[mi.len];exact hbn) t1 t9 b0
 have sh:=Xt (t:=t) (b:=b) mi.len mi.row (show a<n by omega)
 have lenM:(rL M).length=n:=by unfold rL;rw[List.length_map];exact mi.len
 have lenM2:(rL (YL M a b t)).length=n:=by unfold rL;rw[List.length_map];exact sh.1
 have fe':ZV [.lst (rL M),.tup [.int (a:Int),.int (b:Int),.int t]]=some (.bl true):=fe
 have g0:Wv [PV.int (a:Int),PV.int (b:Int),PV.int t] 0=some (.int (a:Int)):=rfl
 have g1:Wv [PV.int (a:Int),PV.int (b:Int),PV.int t] 1=some (.int (b:Int)):=rfl
 have g2:Wv [PV.int (a:Int),PV.int (b:Int),PV.int t] 2=some (.int t):=rfl
 have c0:Y3 (xB (Zg ZV [(Za 2),(Za 4)])) (WE n L M (some (.int i)) (some (Zs (a,b,t))))=some false:=by
  simp[WE,Zs,fe']
 have e1:YC (Y3 (xB (Zg ZV [(Za 2),(Za 4)]))) Yl Zp (WE n L M (some (.int i)) (some (Zs (a,b,t))))=some (.nx (WE n L M (some (.int i)) (some (Zs (a,b,t))))):=by
  simp[WE,Zs,fe']
 have e2:ZM 2 (Zh Z2 (Za 4) (eC (.int 0))) (Zh Z2 (Za 4) (eC (.int 1))) (Zh Z2 (Za 4) (eC (.int 2))) (WE n L M (some (.int i)) (some (Zs (a,b,t))))=some (.nx (WE n L (YL M a b t) (some (.int i)) (some (Zs (a,b,t))))):=by
  rw[Xx (l:=.int t) (a:=(a:Int)) (b:=(b:Int)) (j:=a) (c:=b) (m:=rL M) (n:=iL (ZL M a)) (by simp[WE,Zs,g2]) (by simp[WE,Zs,g0]) (by simp[WE,Zs,g1]) rfl (Y2 (by rw[lenM];omega)) (Ur (by rw[mi.len];omega)) (YE _) rfl (Y2 (by rw[List.length_map,mi.row a (by omega)];omega)),Tv]
  rfl
 have e3:ZM 2 (Zh Z2 (Za 4) (eC (.int 1))) (Zh Z2 (Za 4) (eC (.int 0))) (Zh Z2 (Za 4) (eC (.int 2))) (WE n L (YL M a b t) (some (.int i)) (some (Zs (a,b,t))))=some (.nx (WE n L (Zy M (a,b,t)) (some (.int i)) (some (Zs (a,b,t))))):=by
  rw[Xx (l:=.int t) (a:=(b:Int)) (b:=(a:Int)) (j:=b) (c:=a) (m:=rL (YL M a b t)) (n:=iL (ZL (YL M a b t) b)) (by simp[WE,Zs,g2]) (by simp[WE,Zs,g1]) (by simp[WE,Zs,g0]) rfl (Y2 (by rw[lenM2];omega)) (Ur (by rw[sh.1];omega)) (YE _) rfl (Y2 (by rw[List.length_map,sh.2 b (by omega)];omega)),Tv]
  rfl
 refine⟨?_,?_⟩
 ·show Xj (QK _ _ _) Yl Rn _=none
  unfold Xj QK;rw[c0];rfl
 ·show Zk _ (Zk _ _) _=_
  rw[Ki e1 e2,e3]
theorem Kp{n:Nat}{ts:List ZP}(ok:DictOk n ts)(i:Nat):MatOk n ((ts.take i).foldl Zy (Yv n)):=X2 (ts:=ts.take i) ⟨fun e he=>ok.ok e (List.mem_of_mem_take he),by rw[List.map_take];exact ok.nd.sublist (List.take_sublist _ _)⟩
theorem Rh{n:Nat}{ts:List ZP}{L rest:List PV}(ok:DictOk n ts)(hL:L=ts.map Zs++rest)(i:Nat)(l:PV)(st:ZE)(hi:i<ts.length)(hl:(YZ L)[i]?=some l)(hJ:∃x y,st=WE n L ((ts.take i).foldl Zy (Yv n)) x y) :
  ∃s1 s2,XN (.many [3,4]) l st=some s1/\GF s1=none/\GD s1=some (.nx s2)/\∃x y,s2=WE n L ((ts.take (i+1)).foldl Zy (Yv n)) x y:=by
 obtain⟨x,y,rfl⟩:=hJ
 have hLl:L.length=ts.length+rest.length:=by rw[hL];simp
 rw[Yz,List.getElem?_map,List.getElem?_range (by omega),Option.map_some] at hl;cases hl
 have he:ts[i]?=some ts[i]:=List.getElem?_eq_getElem hi
 have hv:L.getD i .non=Zs ts[i]:=by
  rw[List.getD_eq_getElem?_getD,hL,List.getElem?_append_left (by simpa using hi),List.getElem?_map,he];rfl
 rw[hv]
 have b0:=NT ok (i:=i) (a:=ts[i].1) (b:=ts[i].2.1) (t:=ts[i].2.2) he
 obtain⟨w1,w2⟩:=Ko (L:=L) (i:=(i:Int)) (Kp ok i) (ok.ok _ (List.getElem_mem hi)) b0
 refine⟨WE n L ((ts.take i).foldl Zy (Yv n)) (some (.int (i:Int))) (some (Zs ts[i])),_,rfl,w1,w2,some (.int (i:Int)),some (Zs ts[i]),?_⟩
 rw[WN _ _ he]
theorem UY{i:Nat}(h:i<=1000):decide ((i:Int).natAbs.log2<1920)=true:=by
 rw[decide_eq_true_eq,Int.natAbs_natCast]
 have:=Nat.log2_le_self i
 omega
theorem R5{n:Nat}{L:List PV}(hn:n<=7):Z4 1 [0] (ZY [(Za 0)]) (.one 0) YO (Zh Ui (ZG [(eC (.int 0))]) (Za 1)) [some (.int (n:Int)),some (.lst L),none,none,none,none,none]=some (.lst (rL (Yv n))):=by
 have hrep:Ui (.lst [.int 0]) (.int (n:Int))=some (.lst (iL (List.replicate n 0))):=by
  unfold Ui
  simp only
  rw[if_pos ⟨rfl,by omega,by omega,by simp;omega⟩,Int.toNat_natCast,Kk]
 rw[Xw (List.range n) (fun(i:Nat)=>.int (i:Int)) (fun _=>.lst (iL (List.replicate n 0))) (Yt (by simp) (by omega)) (by simp;omega) (fun i _=>⟨_,rfl,rfl,?_⟩)]
 ·unfold rL
  rw[List.map_const',List.length_range,List.map_replicate]
 ·simp only[ZF,ZG,Wf,Ul,Option.bind_some,Option.map_some,Yc,Z9]
  exact hrep
theorem W4{f:XS}{g:XF}{f1:XF}{s s1:ZE}(h0:f1 s=none)(h:f s=some (.nx s1)):Xj f1 f g s=g s1:=by
 unfold Xj;rw[h0,h]
theorem Tz{f:XS}{g:XF}{f1:XF}{s:ZE}{c:PySem.Str×PV}(h:f1 s=some c):Xj f1 f g s=some c:=by
 unfold Xj;rw[h]
theorem M1{m:Int}{v:PV}(h:¬(1<=m/\m<=7)):Yu [.int m,v]=some (("NoWeb" : PySem.Str),PV.non):=by
 have c0:Y3 (xB (UM TJ TJ (eC (.int 1)) (Za 0) (eC (.int 7)))) [some (.int m),some v,none,none,none,none,none]=some true:=by
  by_cases p:1<=m
  ·have:¬m<=7:=fun z=>h ⟨p,z⟩
   simp[UM,p,this]
  ·simp[UM,p]
 show Xj (QK _ _ _) _ _ [some (.int m),some v,none,none,none,none,none]=_
 refine Tz ?_
 unfold QK;rw[c0];rfl
section
variable {n:Nat} (h1:1<=n) (hn:n<=7)
include h1 hn
theorem Kq(v:PV):Y3 (xB (UM TJ TJ (eC (.int 1)) (Za 0) (eC (.int 7)))) [some (.int (n:Int)),some v,none,none,none,none,none]=some false:=by
 simp[UM,show(1:Int)<=(n:Int) by omega,show(n:Int)<=7 by omega]
theorem M3{us:List ZP}{e:ZT}{rest:List PV}(ok:DictOk n us)(hb:¬J6 n us e)(hl:us.length<=1000):Yu [.int (n:Int),.lst (us.map Zs++zP e::rest)]=some (("NoWeb" : PySem.Str),PV.int (us.length:Int)):=by
 generalize hL:us.map Zs++zP e::rest=L
 have c0:=Kq h1 hn (.lst L)
 have lL:L.length=us.length+(rest.length+1):=by rw[<-hL];simp
 show Xj (QK _ _ _) _ _ [some (.int (n:Int)),some (.lst L),none,none,none,none,none]=_
 rw[W4 (s1:=[some (.int (n:Int)),some (.lst L),none,none,none,none,none]) (by unfold QK;rw[c0];rfl) (by unfold YC;rw[c0];rfl)]
 rw[W4 (s1:=WE n L (Yv n) none none) rfl (by rw[Zw,R5 hn];rfl)]
 refine Tz ?_
 unfold OM
 have en:Xr true [(Za 1)] (ZK [2] (WE n L (Yv n) none none))=some (YZ L):=by
  rw[Ti];rfl
 rw[en];simp only[Option.bind_some]
 obtain⟨s',⟨x,y,rfl⟩,q⟩:=Tx (T:=.many [3,4]) (fy:=GF) (fb:=GD) us.length (ls:=YZ L) (s:=WE n L (Yv n) none none) (fun i st=>∃x y,st=WE n L ((us.take i).foldl Zy (Yv n)) x y) (by rw[Yz];simp;omega) ⟨none,none,rfl⟩ (fun i l st hi hl hJ=>Rh ok hL.symm i l st hi hl hJ)
 rw[q]
 have hd:(YZ L).drop us.length = .tup [.int (us.length:Int),zP e]::(YZ L).drop (us.length+1):=by
  rw[List.drop_eq_getElem_cons (by rw[Yz];simp;omega)]
  congr 1
  have:(YZ L)[us.length]?=some (.tup [.int (us.length:Int),zP e]):=by
   rw[Yz,List.getElem?_map,List.getElem?_range (by omega),Option.map_some,List.getD_eq_getElem?_getD,<-hL,List.getElem?_append_right (by simp)]
   simp
  exact(List.getElem?_eq_some_iff.mp this).2
 rw[hd,List.take_length];unfold Tq
 show(Option.bind (some (WE n L (Vc n us) (some (.int (us.length:Int))) (some (zP e)))) _)=_
 have fn:=J7 ok hb
 have cb:Y3 (xB (Zg ZV [(Za 2),(Za 4)])) (WE n L (Vc n us) (some (.int (us.length:Int))) (some (zP e)))=some true:=by
  simp[WE,fn]
 have fy:GF (WE n L (Vc n us) (some (.int (us.length:Int))) (some (zP e)))=some (("NoWeb" : PySem.Str),PV.int (us.length:Int)):=by
  refine Tz ?_
  unfold QK;rw[cb]
  show(if Ua (.int (us.length:Int))=true then _ else none)=_
  rw[if_pos (show Ua (.int (us.length:Int))=true from UY hl)]
 simp only[Option.bind_some,fy]
theorem O2{ts:List ZP}(ok:DictOk n ts)(hl:ts.length<=1000):∃l,RSet n (fun a b=>0<Xp (Vc n ts) a b) l/\Yu [.int (n:Int),.lst (ts.map Zs)]=if l.length<n then some (("Apart" : PySem.Str),pP (Zt (Sa n l))) else none:=by
 have wok:=(X2 ok).web h1 hn
 have wl:=(X2 ok).len
 obtain⟨l,rs,re⟩:=PU wok
 rw[wl] at rs re
 refine⟨l,rs,?_⟩
 have ll:=Rf rs.nd rs.lt;have ln:=VU rs.nd rs.lt
 generalize hL:ts.map Zs=L
 have c0:=Kq h1 hn (.lst L)
 have lL:L.length=ts.length:=by rw[<-hL];simp
 show Xj (QK _ _ _) _ _ [some (.int (n:Int)),some (.lst L),none,none,none,none,none]=_
 rw[W4 (s1:=[some (.int (n:Int)),some (.lst L),none,none,none,none,none]) (by unfold QK;rw[c0];rfl) (by unfold YC;rw[c0];rfl)]
 rw[W4 (s1:=WE n L (Yv n) none none) rfl (by rw[Zw,R5 hn];rfl)]
 have en:Xr true [(Za 1)] (ZK [2] (WE n L (Yv n) none none))=some (YZ L):=by
  rw[Ti];rfl
 have hL':L=ts.map Zs++[]:=by rw[List.append_nil,hL]
 have le:(YZ L).length=ts.length:=by rw[Yz];simp[lL]
 have y3:OM [2] (Xr true [(Za 1)]) (.many [3,4]) GF GD (WE n L (Yv n) none none)=none:=by
  unfold OM;rw[en];simp only[Option.bind_some]
  obtain⟨s',_,q⟩:=Tx (T:=.many [3,4]) (fy:=GF) (fb:=GD) ts.length (ls:=YZ L) (s:=WE n L (Yv n) none none) (fun i st=>∃x y,st=WE n L ((ts.take i).foldl Zy (Yv n)) x y) (by omega) ⟨none,none,rfl⟩ (fun i l st hi hl hJ=>Rh ok hL' i l st hi hl hJ)
  rw[q,List.drop_of_length_le (by omega)];rfl
 obtain⟨s',q1,x,y,q2⟩:=ZW (T:=.many [3,4]) (fb:=GD) (ls:=YZ L) (s:=WE n L (Yv n) none none) (fun i st=>∃x y,st=WE n L ((ts.take i).foldl Zy (Yv n)) x y) ⟨none,none,rfl⟩ (fun i l st hl hJ=>by
  obtain⟨s1,s2,a1,_,a3,a4⟩:=Rh ok hL' i l st (by have:=(List.getElem?_eq_some_iff.mp hl).1;omega) hl hJ
  exact⟨s1,s2,a1,a3,a4⟩)
 rw[le,List.take_length] at q2;subst q2
 rw[W4 (s1:=WE n L (Vc n ts) x y) y3 (by rw[Yi,en];exact q1)]
 have k5:Z4 1 [] (Vo (Za 2)) (.one 0) YO (Zg Yq [(Za 0)]) (WE n L (Vc n ts) x y)=some (.lst ((Vc n ts).map pP)):=by
  rw[Xw (Vc n ts) (fun r=>.lst (iL r)) pP (by simp[rL,WE]) (by rw[wl];omega) (fun r _=>⟨_,rfl,rfl,by simp[Yc]⟩)]
 generalize hW:Vc n ts=W at *
 have e5:Zm 5 (eP (Zg Yq [(Z4 1 [] (Vo (Za 2)) (.one 0) YO (Zg Yq [(Za 0)]))])) (WE n L W x y)=some (.nx [some (.int (n:Int)),some (.lst L),some (.lst (rL W)),x,y,some (wP W),none]):=by
  rw[Zw,YR,ZH];simp only[Wf,k5,Option.bind_some,Option.map_some];simp[WE]
 rw[W4 (s1:=[some (.int (n:Int)),some (.lst L),some (.lst (rL W)),x,y,some (wP W),none]) rfl e5]
 have lr:(Zt (Sa n l)).length=l.length:=by simp[Zt,ll]
 have gsh:Ua (pP (Zt (Sa n l)))=true:=by
  show(match Xc (iL (Zt (Sa n l))) with | some is=>decide (is.length<=100)&&is.all fun i=>decide (i.natAbs.log2<1920) | none=>false)=true
  rw[Y4];simp only[Bool.and_eq_true,decide_eq_true_eq,List.all_eq_true]
  refine⟨by omega,fun i hi=>?_⟩
  obtain⟨j,hj,rfl⟩:=List.mem_map.mp hi
  have:=List.mem_range.mp (List.mem_filter.mp hj).1
  exact of_decide_eq_true (UY (by omega))
 generalize Zt (Sa n l)=rl at re lr gsh
 rw[W4 (s1:=[some (.int (n:Int)),some (.lst L),some (.lst (rL W)),x,y,some (wP W),some (pP rl)]) rfl (by simp[re])]
 have c6:xB (Zh T1 (Zg YM [(Za 6)]) (Za 0)) [some (.int (n:Int)),some (.lst L),some (.lst (rL W)),x,y,some (wP W),some (pP rl)]=some (decide (l.length<n)):=by
  simp[lr]
 unfold Xj QK;rw[c6]
 by_cases q:l.length<n
 ·rw[if_pos q]
  simp only[q,decide_true,Option.bind_some,if_true]
  show(match (if Ua (pP rl)=true then some (("Apart" : PySem.Str),pP rl) else none) with | some c=>some c | none=>_)=_
  rw[if_pos gsh]
 ·rw[if_neg q]
  simp only[q,decide_false,Option.bind_some];rfl
end
def JT(ts:List ZP)(a b:Nat):Prop:=∃t,(a,b,t)∈ts\/(b,a,t)∈ts
def hlf(a b:Nat)(m:List Nat):List Nat:=if a∈m/\b∉m then m++[b] else m
def bth(m:List Nat)(d:ZP):List Nat:=hlf d.2.1 d.1 (hlf d.1 d.2.1 m)
def F9(ts:List ZP)(m:List Nat):List Nat:=ts.foldl bth m
structure MSet(n:Nat)(ts:List ZP)(l:List Nat):Prop where
 nd:l.Nodup
 lt:∀x∈l,x<n
 ze:0∈l
 re:∀P:Nat->Prop,P 0->(∀a b,a<n->b<n->JT ts a b->P a->P b)->∀x∈l,P x
theorem MSet.hlf{n:Nat}{ts:List ZP}{m:List Nat}(h:MSet n ts m){a b:Nat}(hb:b<n)(hj:JT ts a b):MSet n ts (hlf a b m):=by
 unfold PW.hlf
 split
 ·rename_i q
  refine⟨?_,fun x hx=>?_,List.mem_append_left _ h.ze,fun P h0 hc x hx=>?_⟩
  ·rw[List.nodup_append]
   refine⟨h.nd,by simp,fun x hx y hy z=>?_⟩
   subst z;rw[List.mem_singleton.mp hy] at hx
   exact q.2 hx
  ·rcases List.mem_append.mp hx with hx | hx
   ·exact h.lt x hx
   ·rw[List.mem_singleton.mp hx];exact hb
  ·rcases List.mem_append.mp hx with hx | hx
   ·exact h.re P h0 hc x hx
   ·rw[List.mem_singleton.mp hx]
    exact hc a b (h.lt a q.1) hb hj (h.re P h0 hc a q.1)
 ·exact h
theorem MSet.bth{n:Nat}{ts:List ZP}{m:List Nat}(h:MSet n ts m)(ok:DictOk n ts){d:ZP}(hd:d∈ts):MSet n ts (bth m d):=by
 have hk:=ok.ok d hd
 exact(h.hlf (a:=d.1) (b:=d.2.1) hk.2.1 ⟨d.2.2,.inl hd⟩).hlf (by omega) ⟨d.2.2,.inr hd⟩
theorem Sb(a b:Nat)(m:List Nat):m.length<=(hlf a b m).length:=by
 unfold hlf
 split
 ·simp
 ·exact Nat.le_refl _
theorem NU(m:List Nat)(d:ZP):m.length<=(bth m d).length:=Nat.le_trans (Sb _ _ _) (Sb _ _ _)
theorem Ri:∀(us:List ZP)(m:List Nat),m.length<=(us.foldl bth m).length
 | [],m=>Nat.le_refl _
 | d::r,m=>Nat.le_trans (NU m d) (Ri r _)
theorem PX{a b:Nat}{m:List Nat}(h:(hlf a b m).length=m.length):hlf a b m=m/\(a∈m->b∈m):=by
 unfold hlf at h ⊢
 split
 ·rename_i q
  rw[if_pos q] at h
  simp at h
 ·rename_i q
  refine⟨rfl,fun ha=>?_⟩
  by_cases z:b∈m
  ·exact z
  ·exact absurd ⟨ha,z⟩ q
theorem Kr{m:List Nat}{d:ZP}(h:(bth m d).length=m.length):bth m d=m/\(d.1∈m↔d.2.1∈m):=by
 unfold bth at h ⊢
 have h1:=Sb d.1 d.2.1 m
 have h2:=Sb d.2.1 d.1 (hlf d.1 d.2.1 m)
 obtain⟨e1,i1⟩:=PX (a:=d.1) (b:=d.2.1) (m:=m) (by omega)
 rw[e1] at h ⊢
 obtain⟨e2,i2⟩:=PX (a:=d.2.1) (b:=d.1) (m:=m) h
 exact⟨e2,i1,i2⟩
theorem TB:∀{us:List ZP}{m:List Nat},(us.foldl bth m).length=m.length->us.foldl bth m=m/\∀d∈us,(d.1∈m↔d.2.1∈m)
 | [],m,_=>⟨rfl,fun d hd=>by simp at hd⟩
 | d::r,m,h=>by
  rw[List.foldl_cons] at h ⊢
  have h1:=NU m d
  have h2:=Ri r (bth m d)
  obtain⟨e1,i1⟩:=Kr (m:=m) (d:=d) (by omega)
  rw[e1] at h ⊢
  obtain⟨e2,i2⟩:=TB (us:=r) (m:=m) h
  refine⟨e2,fun x hx=>?_⟩
  rcases List.mem_cons.mp hx with rfl | hx
  ·exact i1
  ·exact i2 x hx
theorem MSet.fold{n:Nat}{ts:List ZP}(ok:DictOk n ts):∀{us:List ZP}{m:List Nat},(∀d∈us,d∈ts)->MSet n ts m->MSet n ts (us.foldl PW.bth m)
 | [],m,_,h=>h
 | d::r,m,hu,h=>MSet.fold ok (us:=r) (fun x hx=>hu x (by simp[hx])) (h.bth ok (hu d (by simp)))
def pasN(ts:List ZP):Nat->List Nat
 | 0=>[0]
 | k+1=>F9 ts (pasN ts k)
theorem MSet.pasN{n:Nat}{ts:List ZP}(ok:DictOk n ts)(h1:1<=n):∀k,MSet n ts (pasN ts k)
 | 0=>⟨by simp[PW.pasN],fun x hx=>by rw[show x=0 by simpa [PW.pasN] using hx];omega,by simp[PW.pasN],fun P h0 _ x hx=>by rw[show x=0 by simpa [PW.pasN] using hx];exact h0⟩
 | k+1=>MSet.fold ok (fun d hd=>hd) (MSet.pasN ok h1 k)
theorem R6(ts:List ZP):∀k,k+1<=(pasN ts k).length\/F9 ts (pasN ts k)=pasN ts k
 | 0=>.inl (by simp[pasN])
 | k+1=>by
  rcases R6 ts k with h | h
  ·have hl:=Ri ts (pasN ts k)
   by_cases q:(ts.foldl bth (pasN ts k)).length=(pasN ts k).length
   ·right
    have e:=(TB q).1
    have e':pasN ts (k+1)=pasN ts k:=e
    rw[e'];exact e
   ·left
    show k+1+1<=(ts.foldl bth (pasN ts k)).length
    omega
  ·right
   have e':pasN ts (k+1)=pasN ts k:=h
   rw[e'];exact h
theorem NV{n:Nat}{ts:List ZP}(ok:DictOk n ts)(h1:1<=n):RSet n (JT ts) (pasN ts n):=by
 have M:=MSet.pasN ok h1 n
 refine⟨M.nd,M.lt,M.ze,fun x hx y hy hj=>?_,M.re⟩
 have st:F9 ts (pasN ts n)=pasN ts n:=by
  rcases R6 ts n with h | h
  ·have:=VU M.nd M.lt
   omega
  ·exact h
 obtain⟨_,i⟩:=TB (us:=ts) (m:=pasN ts n) (congrArg List.length st)
 obtain⟨t,ht | ht⟩:=hj
 ·exact(i _ ht).mp hx
 ·exact(i _ ht).mpr hx
theorem RSet.congr{n:Nat}{J J':Nat->Nat->Prop}{l:List Nat}(h:RSet n J l)(hj:∀a b,a<n->b<n->(J a b↔J' a b)):RSet n J' l:=
 ⟨h.nd,h.lt,h.ze,fun x hx y hy z=>h.cl x hx y hy ((hj x y (h.lt x hx) hy).mpr z),fun P h0 hc=>h.re P h0 fun a b ha hb z=>hc a b ha hb ((hj a b ha hb).mp z)⟩
theorem Gs{n:Nat}{ts:List ZP}(ok:DictOk n ts){a b:Nat}(ha:a<n)(hb:b<n):0<Xp (Vc n ts) a b↔JT ts a b:=by
 have mo:=X2 ok
 have key:∀a b:Nat,a<b->b<n->(0<Xp (Vc n ts) a b↔JT ts a b):=fun a b hab hb=>by
  rcases J5 ok hab hb with⟨t,ht,e⟩ | ⟨hno,e⟩
  ·have:=(ok.ok _ ht).2.2.1
   rw[e]
   exact⟨fun _=>⟨t,.inl ht⟩,fun _=>by simp only at this;omega⟩
  ·rw[e]
   refine⟨fun z=>by omega,fun⟨t,z⟩=>?_⟩
   rcases z with z | z
   ·exact absurd z (hno t)
   ·have:=(ok.ok _ z).1
    simp only at this
    omega
 rcases Nat.lt_trichotomy a b with q | q | q
 ·exact key a b q hb
 ·subst q
  rw[mo.dia a ha]
  refine⟨fun z=>by omega,fun⟨t,z⟩=>?_⟩
  rcases z with z | z
  ·have:=(ok.ok _ z).1;simp only at this;omega
  ·have:=(ok.ok _ z).1;simp only at this;omega
 ·rw[mo.sym a b ha hb,key b a q ha]
  exact⟨fun⟨t,z⟩=>⟨t,z.symm⟩,fun⟨t,z⟩=>⟨t,z.symm⟩⟩
theorem J8{n:Nat}{ts:List ZP}{l:List Nat}(h:RSet n (JT ts) l)(hl:l.length=n):Hang n ts:=by
 intro P hP i j hi hj
 have key:∀k,k<n->(P 0↔P k):=fun k hk=>by
  refine h.re (fun x=>P 0↔P x) Iff.rfl (fun a b ha hb ⟨t,z⟩ q=>?_) k (h.all hl hk)
  rcases z with z | z
  ·exact q.trans (hP a b ⟨t,z⟩)
  ·exact q.trans (hP b a ⟨t,z⟩).symm
 exact(key i hi).symm.trans (key j hj)
theorem R7{T:Tgt}{fb:XS}:∀(k:Nat){ls:List PV}{s:ZE}(Jv:Nat->ZE->Prop),k<=ls.length->Jv 0 s->(∀(i:Nat) l st,i<k->ls[i]?=some l->Jv i st->∃s1 s2,XN T l st=some s1/\fb s1=some (.nx s2)/\Jv (i+1) s2)->
  ∃s',Jv k s'/\Xn T fb ls s=Xn T fb (ls.drop k) s'
 | 0,ls,s,Jv,_,h0,_=>⟨s,h0,rfl⟩
 | k+1,[],s,Jv,hk,_,_=>by simp at hk
 | k+1,l::r,s,Jv,hk,h0,step=>by
  obtain⟨s1,s2,b1,f1,j1⟩:=step 0 l s (by omega) rfl h0
  obtain⟨s',q1,q2⟩:=R7 k (ls:=r) (s:=s2) (fun i st=>Jv (i+1) st) (by simpa using hk) j1 fun i l' st hi hl hJ=>step (i+1) l' st (by omega) (by simpa using hl) hJ
  refine⟨s',q1,?_⟩
  rw[List.drop_succ_cons,<-q2]
  conv=>lhs;unfold Xn
  rw[b1];simp only[Option.bind_some,f1]
def kP(d:ZP):PV:=.tup [.int (d.1:Int),.int (d.2.1:Int)]
theorem Gu(a b:Int)(ts:List ZP):V1 false (.tup [.int a,.int b]) (.lst (ts.map kP))=some (.bl (decide (PV.tup [.int a,.int b]∈ts.map kP))):=by
 unfold V1
 have c:((ts.map kP).all fun z=>Xd 8 z (.tup [.int a,.int b]))=true:=by
  rw[List.all_map,List.all_eq_true]
  intro x _;rfl
 show(some (ts.map kP)).bind _=_
 simp only[Option.bind_some,if_pos c];rfl
theorem mem_kP{a b:Int}{ts:List ZP}:PV.tup [.int a,.int b]∈ts.map kP↔∃d∈ts,(d.1:Int)=a/\(d.2.1:Int)=b:=by
 rw[List.mem_map];constructor
 ·rintro⟨d,hd,e⟩
  unfold kP at e;simp only[PV.tup.injEq,List.cons.injEq,PV.int.injEq] at e
  exact⟨d,hd,e.1,e.2.1⟩
 ·rintro⟨d,hd,rfl,rfl⟩
  exact⟨d,hd,rfl⟩
def Vb(n:Int)(L:List PV)(S:List PV)(a b c d:Option PV):ZE:=[some (.int n),some (.lst L),some (.lst S),a,b,c,d,none,none]
noncomputable abbrev cD:XT:=(Qm (xB (Zh T1 (Za 4) (eC (.int 0)))) (Qm (xB (Zh TJ (Za 5) (Za 4))) (Qm (xB (Zh Eu (Za 5) (Za 0))) (Qm (xB (Zh T1 (Za 6) (eC (.int 1)))) (Qm (xB (Zh Mq (Za 6) (eC (.int 9)))) (xB (Zh (V1 false) (ZJ [(Za 4),(Za 5)]) (Za 2))))))))
noncomputable abbrev Gv:XS:=(Zk (TN (.many [4,5,6]) (Zh Z2 (Za 1) (Za 3)))
  (Zk (YC cD (Yd (eP (ZJ [(eC (.int 0)),(Za 3)]))) Zp)
  (YJ 2 (eP (ZJ [(Za 4),(Za 5)])))))
theorem IM{n:Nat}{L:List PV}{ts:List ZP}{x:Option PV}(e:ZT):cD (Vb n L (ts.map kP) x (some (.int e.1)) (some (.int e.2.1)) (some (.int e.2.2)))=some true/\¬J6 n ts e\/cD (Vb n L (ts.map kP) x (some (.int e.1)) (some (.int e.2.1)) (some (.int e.2.2)))=some false/\J6 n ts e:=by
 obtain⟨a,b,t⟩:=e
 by_cases p1:a<0
 ·exact .inl ⟨by simp[Vb,p1],fun h=>by have:=h.1;simp only at this;omega⟩
 by_cases p2:b<=a
 ·exact .inl ⟨by simp[Vb,p1,p2],fun h=>by have:=h.2.1;simp only at this;omega⟩
 by_cases p3:(n:Int)<=b
 ·exact .inl ⟨by simp[Vb,p1,p2,p3],fun h=>by have:=h.2.2.1;simp only at this;omega⟩
 by_cases p4:t<1
 ·exact .inl ⟨by simp[Vb,p1,p2,p3,p4],fun h=>by have:=h.2.2.2.1;simp only at this;omega⟩
 by_cases p5:9<t
 ·exact .inl ⟨by simp[Vb,p1,p2,p3,p4,p5],fun h=>by have:=h.2.2.2.2.1;simp only at this;omega⟩
 have g:=Gu a b ts
 by_cases p6:PV.tup [.int a,.int b]∈ts.map kP
 ·rw[decide_eq_true p6] at g
  refine .inl ⟨by simp[Vb,p1,p2,p3,p4,p5,g],fun h=>?_⟩
  obtain⟨d,hd,z⟩:=mem_kP.mp p6
  exact h.2.2.2.2.2 d hd z
 ·rw[decide_eq_false p6] at g
  exact .inr ⟨by simp[Vb,p1,p2,p3,p4,p5,g],by simp only;omega,by simp only;omega,by simp only;omega,by simp only;omega,by simp only;omega,fun d hd z=>p6 (mem_kP.mpr ⟨d,hd,z⟩)⟩
theorem NW{n:Int}{L S:List PV}{i:Nat}{b c d:Option PV}{e:ZT}(h:L[i]?=some (zP e)):TN (.many [4,5,6]) (Zh Z2 (Za 1) (Za 3)) (Vb n L S (some (.int (i:Int))) b c d)=some (.nx (Vb n L S (some (.int (i:Int))) (some (.int e.1)) (some (.int e.2.1)) (some (.int e.2.2)))):=by
 have g:Zh Z2 (Za 1) (Za 3) (Vb n L S (some (.int (i:Int))) b c d)=some (zP e):=by
  simp[Vb,WK h]
 unfold TN;rw[g];rfl
theorem O3{n:Nat}{ts:List ZP}(ok:DictOk n ts){i:Nat}(hi:i<ts.length):J6 n (ts.take i) ((ts[i].1:Int),(ts[i].2.1:Int),ts[i].2.2):=by
 have hk:=ok.ok _ (List.getElem_mem hi)
 refine⟨by simp only;omega,by simp only;omega,by simp only;omega,hk.2.2.1,hk.2.2.2,fun d hd z=>?_⟩
 simp only at z
 obtain⟨j,hj,ej⟩:=List.getElem_of_mem hd
 rw[List.length_take] at hj;rw[List.getElem_take] at ej
 have e1:(ts.map fun e=>(e.1,e.2.1))[j]?=some (ts[i].1,ts[i].2.1):=by
  rw[List.getElem?_map,List.getElem?_eq_getElem (by omega),ej,Option.map_some]
  have:=z.1;have:=z.2
  congr 1
  exact Prod.ext (by simp only;omega) (by simp only;omega)
 have e2:(ts.map fun e=>(e.1,e.2.1))[i]?=some (ts[i].1,ts[i].2.1):=by rw[List.getElem?_map,List.getElem?_eq_getElem hi];rfl
 have:=(List.getElem?_inj (by rw[List.length_map];omega) ok.nd).mp (e1.trans e2.symm)
 omega
theorem PY{n:Nat}{ts:List ZP}{L rest:List PV}(ok:DictOk n ts)(hL:L=ts.map Zs++rest)(hl1:ts.length<=1000)(i:Nat)(l:PV)(st:ZE)(hi:i<ts.length)(hl:(Yy L.length)[i]?=some l)(hJ:∃a b c d,st=Vb n L ((ts.take i).map kP) a b c d) :
  ∃s1 s2,XN (.one 3) l st=some s1/\Gv s1=some (.nx s2)/\∃a b c d,s2=Vb n L ((ts.take (i+1)).map kP) a b c d:=by
 obtain⟨a,b,c,d,rfl⟩:=hJ
 obtain⟨_,rfl⟩:=X6 hl
 have hLi:L[i]?=some (zP ((ts[i].1:Int),(ts[i].2.1:Int),ts[i].2.2)):=by
  rw[hL,List.getElem?_append_left (by simpa using hi),List.getElem?_map,List.getElem?_eq_getElem hi];rfl
 have e1:=NW (n:=(n:Int)) (S:=(ts.take i).map kP) (b:=b) (c:=c) (d:=d) hLi
 have e2:YC cD (Yd (eP (ZJ [(eC (.int 0)),(Za 3)]))) Zp (Vb n L ((ts.take i).map kP) (some (.int (i:Int))) (some (.int (ts[i].1:Int))) (some (.int (ts[i].2.1:Int))) (some (.int ts[i].2.2)))=some (.nx (Vb n L ((ts.take i).map kP) (some (.int (i:Int))) (some (.int (ts[i].1:Int))) (some (.int (ts[i].2.1:Int))) (some (.int ts[i].2.2)))):=by
  rcases IM (n:=n) (L:=L) (ts:=ts.take i) (x:=some (.int (i:Int))) ((ts[i].1:Int),(ts[i].2.1:Int),ts[i].2.2) with⟨_,q⟩ | ⟨q,_⟩
  ·exact absurd (O3 ok hi) q
  ·rw[ZQ,q];rfl
 have e3:YJ 2 (eP (ZJ [(Za 4),(Za 5)])) (Vb n L ((ts.take i).map kP) (some (.int (i:Int))) (some (.int (ts[i].1:Int))) (some (.int (ts[i].2.1:Int))) (some (.int ts[i].2.2)))=some (.nx (Vb n L ((ts.take (i+1)).map kP) (some (.int (i:Int))) (some (.int (ts[i].1:Int))) (some (.int (ts[i].2.1:Int))) (some (.int ts[i].2.2)))):=by
  rw[Um (l:=kP ts[i]) (m:=(ts.take i).map kP) rfl rfl (by rw[List.length_map,List.length_take];omega)]
  have:(ts.take (i+1)).map kP=(ts.take i).map kP++[kP ts[i]]:=by
   rw[List.take_succ_eq_append_getElem hi,List.map_append];rfl
  rw[this];rfl
 refine⟨Vb n L ((ts.take i).map kP) (some (.int (i:Int))) b c d,Vb n L ((ts.take (i+1)).map kP) (some (.int (i:Int))) (some (.int (ts[i].1:Int))) (some (.int (ts[i].2.1:Int))) (some (.int ts[i].2.2)),rfl,?_,_,_,_,_,rfl⟩
 show Zk _ (Zk _ _) _=_
 rw[Ki e1 e2,e3]
theorem J9{m:Int}{v:PV}(h:¬(1<=m/\m<=7)):Xl [.int m,v]=some (.tup [.int 0,.non]):=by
 show(Zk (YC _ _ _) _ [some (.int m),some v,none,none,none,none,none,none,none]).bind Xf=_
 by_cases p:m<1
 ·simp[p]
 ·have:7<m:=by omega
  simp[p,this]
section
variable {n:Nat} (h1:1<=n) (hn:n<=7)
include h1 hn
theorem Ks(v:PV):YC (Qm (xB (Zh T1 (Za 0) (eC (.int 1)))) (xB (Zh Mq (Za 0) (eC (.int 7))))) (Yd (eP (ZJ [(eC (.int 0)),(eC .non)]))) Zp [some (.int (n:Int)),some v,none,none,none,none,none,none,none]=some (.nx [some (.int (n:Int)),some v,none,none,none,none,none,none,none]):=by
 simp[show ¬(n:Int)<1 by omega,show ¬(7:Int)<(n:Int) by omega]
theorem Ia{us:List ZP}{e:ZT}{rest:List PV}(ok:DictOk n us)(hb:¬J6 n us e)(hl:(us.map Zs++zP e::rest).length<=1000):Xl [.int (n:Int),.lst (us.map Zs++zP e::rest)]=some (.tup [.int 0,.int (us.length:Int)]):=by
 generalize hL:us.map Zs++zP e::rest=L at *
 have lL:L.length=us.length+(rest.length+1):=by rw[<-hL];simp
 show(Zk (YC _ _ _) _ [some (.int (n:Int)),some (.lst L),none,none,none,none,none,none,none]).bind Xf=_
 have e1:Zm 2 (ZG []) [some (.int (n:Int)),some (.lst L),none,none,none,none,none,none,none]=some (.nx (Vb n L [] none none none none)):=rfl
 rw[Zz (Ks h1 hn _),Zz e1,ZI,Yi]
 have er:ZY [(Zg YM [(Za 1)])] (ZK [2,7] (Vb n L [] none none none none))=some (Yy L.length):=Yt (by simp[Vb,ZK]) (by omega)
 rw[er];simp only[Option.bind_some]
 obtain⟨s',⟨a,b,c,d,rfl⟩,q⟩:=R7 (T:=.one 3) (fb:=Gv) us.length (ls:=Yy L.length) (s:=Vb n L [] none none none none) (fun i st=>∃a b c d,st=Vb n L ((us.take i).map kP) a b c d) (by simp[Yy];omega) ⟨none,none,none,none,rfl⟩ (fun i l st hi hl hJ=>PY ok hL.symm (by omega) i l st hi hl hJ)
 have hd:(Yy L.length).drop us.length = .int (us.length:Int)::(Yy L.length).drop (us.length+1):=by
  rw[List.drop_eq_getElem_cons (by simp[Yy];omega)]
  simp[Yy]
 have hLi:L[us.length]?=some (zP e):=by
  rw[<-hL,List.getElem?_append_right (by simp)]
  simp
 have fb:Gv (Vb n L ((us.take us.length).map kP) (some (.int (us.length:Int))) b c d)=some (.rt (.tup [.int 0,.int (us.length:Int)])):=by
  have e1:=NW (n:=(n:Int)) (S:=(us.take us.length).map kP) (b:=b) (c:=c) (d:=d) hLi
  show Zk _ (Zk _ _) _=_
  rw[Zz e1,ZI]
  rcases IM (n:=n) (L:=L) (ts:=us.take us.length) (x:=some (.int (us.length:Int))) e with⟨z,_⟩ | ⟨_,z⟩
  ·rw[ZQ,z];rfl
  ·rw[List.take_length] at z;exact absurd z hb
 have ff:Xn (.one 3) Gv (Yy L.length) (Vb n L [] none none none none)=some (.rt (.tup [.int 0,.int (us.length:Int)])):=by
  rw[q,hd];unfold Xn
  show(Option.bind (some (Vb n L ((us.take us.length).map kP) (some (.int (us.length:Int))) b c d)) _)=_
  simp only[Option.bind_some,fb]
 have ff':=ff
 unfold Gv cD at ff'
 rw[ff'];rfl
end
theorem Rj(y:Nat)(l:List Nat):V1 false (.int (y:Int)) (.lst (iL (Zt l)))=some (.bl (decide (y∈l))):=by
 rw[Ke]
 have:((y:Int)∈Zt l)↔y∈l:=by
  unfold Zt;rw[List.mem_map]
  exact⟨fun⟨a,h,e⟩=>by rw[show y=a by omega];exact h,fun h=>⟨y,h,rfl⟩⟩
 simp[this]
def R8(n:Int)(L S:List PV)(a b c d:Option PV)(m:List Nat)(e:Option PV):ZE:=[some (.int n),some (.lst L),some (.lst S),a,b,c,d,some (.lst (iL (Zt m))),e]
noncomputable abbrev hM(i j:Nat):XS:=(YC (XW (xB (Zh (V1 false) (Za i) (Za 7))) (xB (Zh (V1 true) (Za j) (Za 7)))) (YJ 7 (eP (Za j))) Zp)
theorem IP{i j a b:Nat}{m:List Nat}{s:ZE}(hi:s[i]?=some (some (.int (a:Int))))(hj:s[j]?=some (some (.int (b:Int))))(h7:s[7]?=some (some (.lst (iL (Zt m)))))(hl:m.length<=1000):hM i j s=some (.nx (s.set 7 (some (.lst (iL (Zt (hlf a b m))))))):=by
 have vi:Za i s=some (.int (a:Int)):=by rw[Z9,hi];rfl
 have vj:Za j s=some (.int (b:Int)):=by rw[Z9,hj];rfl
 have v7:Za 7 s=some (.lst (iL (Zt m))):=by rw[Z9,h7];rfl
 have same:s.set 7 (some (.lst (iL (Zt m))))=s:=by
  have h:=(List.getElem?_eq_some_iff.mp h7).1
  have e:=(List.getElem?_eq_some_iff.mp h7).2
  rw[<-e,List.set_getElem_self]
 unfold hlf hM
 by_cases p:a∈m
 ·by_cases q:b∈m
  ·rw[if_neg (fun z=>z.2 q),same]
   rw[ZQ,WC,YS,YS,ZF,ZF,vi,vj,v7];simp[Rj,T9,p,q,M8]
  ·rw[if_pos ⟨p,q⟩]
   rw[ZQ,WC,YS,YS,ZF,ZF,vi,vj,v7];simp only[Option.bind_some,Rj,T9,p,q,decide_true,decide_false,Bool.not_false,M8,if_true]
   rw[Um (l:=.int (b:Int)) (m:=iL (Zt m)) (by rw[YR,vj];rfl) (by unfold LG;rw[h7]) (by simp[Zt];omega)]
   congr 3
   simp[Zt]
 ·rw[if_neg (fun z=>p z.1),same]
  rw[ZQ,WC,YS,YS,ZF,ZF,vi,vj,v7];simp[Rj,T9,p,M8]
theorem FV{n:Int}{L S:List PV}{x y e:Option PV}{m:List Nat}{d:ZP}(hl:m.length<=900):(Zk (hM 4 5) (hM 5 4)) (R8 n L S x (some (.int (d.1:Int))) (some (.int (d.2.1:Int))) y m e)=some (.nx (R8 n L S x (some (.int (d.1:Int))) (some (.int (d.2.1:Int))) y (bth m d) e)):=by
 have e1:=IP (i:=4) (j:=5) (a:=d.1) (b:=d.2.1) (m:=m) (s:=R8 n L S x (some (.int (d.1:Int))) (some (.int (d.2.1:Int))) y m e) rfl rfl rfl (by omega)
 have l1:(hlf d.1 d.2.1 m).length<=m.length+1:=by
  unfold hlf
  split
  ·simp
  ·omega
 have e2:=IP (i:=5) (j:=4) (a:=d.2.1) (b:=d.1) (m:=hlf d.1 d.2.1 m) (s:=R8 n L S x (some (.int (d.1:Int))) (some (.int (d.2.1:Int))) y (hlf d.1 d.2.1 m) e) rfl rfl rfl (by omega)
 rw[Zz (s1:=R8 n L S x (some (.int (d.1:Int))) (some (.int (d.2.1:Int))) y (hlf d.1 d.2.1 m) e) e1];exact e2
section
variable {n:Nat} (h1:1<=n) (hn:n<=7)
include h1 hn
theorem Ib{ts:List ZP}{L:List PV}{m:List Nat}{x a b y e:Option PV}(ok:DictOk n ts)(hm:MSet n ts m) :
  ∃a' b',YI [7] (Vo (Za 2)) (.many [4,5]) (Zk (hM 4 5) (hM 5 4)) (R8 n L (ts.map kP) x a b y m e)=some (.nx (R8 n L (ts.map kP) x a' b' y (F9 ts m) e)):=by
 obtain⟨s',q,a',b',rfl⟩:=ZW (T:=.many [4,5]) (fb:=Zk (hM 4 5) (hM 5 4)) (ls:=ts.map kP) (s:=R8 n L (ts.map kP) x a b y m e) (fun i st=>∃a' b',st=R8 n L (ts.map kP) x a' b' y ((ts.take i).foldl bth m) e) ⟨a,b,rfl⟩ (fun i l st hl hJ=>by
  obtain⟨a',b',rfl⟩:=hJ
  rw[List.getElem?_map] at hl
  cases he:ts[i]? with
  | none=>rw[he] at hl;cases hl
  | some d=>
   rw[he] at hl;cases hl
   have mi:MSet n ts ((ts.take i).foldl bth m):=MSet.fold ok (fun d hd=>List.mem_of_mem_take hd) hm
   have li:=VU mi.nd mi.lt
   refine⟨R8 n L (ts.map kP) x (some (.int (d.1:Int))) (some (.int (d.2.1:Int))) y ((ts.take i).foldl bth m) e,_,rfl,FV (by omega),some (.int (d.1:Int)),some (.int (d.2.1:Int)),?_⟩
   rw[WN _ _ he])
 refine⟨a',b',?_⟩
 rw[Yi]
 show Option.bind (some (ts.map kP)) _=_
 simp only[Option.bind_some];rw[q,List.length_map,List.take_length];rfl
theorem M4{ts:List ZP}{L:List PV}{x a b y:Option PV}(ok:DictOk n ts) :
  ∃a' b' e',YI [7] (ZY [(Za 0)]) (.one 8) (YI [7] (Vo (Za 2)) (.many [4,5]) (Zk (hM 4 5) (hM 5 4))) (R8 n L (ts.map kP) x a b y [0] none)=some (.nx (R8 n L (ts.map kP) x a' b' y (pasN ts n) e')):=by
 obtain⟨s',q,a',b',e',rfl⟩:=ZW (T:=.one 8) (fb:=YI [7] (Vo (Za 2)) (.many [4,5]) (Zk (hM 4 5) (hM 5 4))) (ls:=Yy n) (s:=R8 n L (ts.map kP) x a b y [0] none) (fun i st=>∃a' b' e',st=R8 n L (ts.map kP) x a' b' y (pasN ts i) e') ⟨a,b,none,rfl⟩ (fun i l st hl hJ=>by
  obtain⟨a',b',e',rfl⟩:=hJ
  obtain⟨_,rfl⟩:=X6 hl
  obtain⟨a2,b2,e2⟩:=Ib h1 hn (L:=L) (x:=x) (a:=a') (b:=b') (y:=y) (e:=some (.int (i:Int))) ok (MSet.pasN ok h1 i)
  exact⟨R8 n L (ts.map kP) x a' b' y (pasN ts i) (some (.int (i:Int))),_,rfl,e2,a2,b2,some (.int (i:Int)),rfl⟩)
 refine⟨a',b',e',?_⟩
 rw[Yi]
 have er:ZY [(Za 0)] (ZK [7] (R8 n L (ts.map kP) x a b y [0] none))=some (Yy n):=Yt (by simp[R8,ZK]) (by omega)
 rw[er];simp only[Option.bind_some];rw[q];simp[Yy]
theorem Kt{ts:List ZP}(ok:DictOk n ts)(hl:ts.length<=1000):Xl [.int (n:Int),.lst (ts.map Zs)]=some (if(pasN ts n).length<n then .tup [.int 1,pP (Zt (Sa n (pasN ts n)))] else .non):=by
 generalize hL:ts.map Zs=L
 have lL:L.length=ts.length:=by rw[<-hL];simp
 have hL':L=ts.map Zs++[]:=by rw[List.append_nil,hL]
 show(Zk (YC _ _ _) _ [some (.int (n:Int)),some (.lst L),none,none,none,none,none,none,none]).bind Xf=_
 have e1:Zm 2 (ZG []) [some (.int (n:Int)),some (.lst L),none,none,none,none,none,none,none]=some (.nx (Vb n L [] none none none none)):=rfl
 have er:ZY [(Zg YM [(Za 1)])] (ZK [2,7] (Vb n L [] none none none none))=some (Yy L.length):=Yt (by simp[Vb,ZK]) (by omega)
 obtain⟨s',q,a,b,c,d,rfl⟩:=ZW (T:=.one 3) (fb:=Gv) (ls:=Yy L.length) (s:=Vb n L [] none none none none) (fun i st=>∃a b c d,st=Vb n L ((ts.take i).map kP) a b c d) ⟨none,none,none,none,rfl⟩ (fun i l st hl2 hJ=>PY ok hL' hl i l st (by have:=(List.getElem?_eq_some_iff.mp hl2).1;simp[Yy] at this;omega) hl2 hJ)
 have ef:YI [2,7] (ZY [(Zg YM [(Za 1)])]) (.one 3) Gv (Vb n L [] none none none none)=some (.nx (Vb n L (ts.map kP) a b c d)):=by
  rw[Yi,er];simp only[Option.bind_some];rw[q];simp[Yy,lL]
 have e7:Zm 7 (ZG [(eP (eC (.int 0)))]) (Vb n L (ts.map kP) a b c d)=some (.nx (R8 n L (ts.map kP) a b c d [0] none)):=rfl
 obtain⟨b2,c2,e2,ep⟩:=M4 h1 hn (L:=L) (x:=a) (a:=b) (b:=c) (y:=d) ok
 rw[Zz (Ks h1 hn _),Zz e1,Zz ef,Zz e7,Zz ep];have R:=NV ok h1
 generalize hm:pasN ts n=m at *
 have ml:=VU R.nd R.lt
 have gs:WV [.lst (iL (Zt m))]=some (.lst (iL (Zt (Sa n m)))):=by
  show(Xc (iL (Zt m))).bind _=_
  rw[Y4];simp only[Option.bind_some]
  rw[if_pos (by simp[Zt];omega),QS R.nd R.lt]
 have lm:(Zt m).length=m.length:=by simp[Zt]
 generalize Zt (Sa n m)=rl at gs
 by_cases p:m.length<n
 ·rw[if_pos p]
  simp[R8,gs,p,lm]
 ·rw[if_neg p]
  simp[R8,p,lm]
end
def QX(l:List Bool):List PV:=l.map PV.bl
theorem FX(l:PV):Xm [.exf "NoWeb" l]=some (.int 0):=by
 have t':∀(cx:PySem.Str)(x:Option PV),Yh (WZ cx) (Za 0) [some (.exf "NoWeb" l),x]=some (.bl (decide (cx = "NoWeb"))):=fun cx x=>by
  simp[Yh,WZ]
 have v':∀(x:Option PV),Yh JV (Za 0) [some (.exf "NoWeb" l),x]=some (.bl true):=fun x=>by
  simp[Yh,JV]
 have e1:Zm 1 (ZG [(eP (Yh (WZ "NoWeb") (Za 0))),(eP (Yh (WZ "Apart") (Za 0))),(eP (Yh (WZ "NoText") (Za 0))),(eP (Yh (WZ "NoOrder") (Za 0)))]) [some (.exf "NoWeb" l),none]=some (.nx [some (.exf "NoWeb" l),some (.lst (QX [true,false,false,false]))]):=by
  rw[Zw];simp only[ZG,Wf,YR,t',Option.bind_some,ZS,if_true,Option.map_some];rfl
 have e2:Zm 1 (Zh Ym (Za 1) (ZG [(Yh (WZ "TooMany") (Za 0)),(Yh (WZ "NotSettled") (Za 0)),(Yh (WZ "NoTree") (Za 0))])) [some (.exf "NoWeb" l),some (.lst (QX [true,false,false,false]))]=some (.nx [some (.exf "NoWeb" l),some (.lst (QX [true,false,false,false,false,false,false]))]):=by
  rw[Zw,ZF];simp only[ZG,Wf,t',Option.bind_some,Option.map_some,Z9];rfl
 have e3:Zm 1 (Zh Ym (Za 1) (ZG [(Yh (WZ "NoTotal") (Za 0)),(Yh (WZ "NoEnds") (Za 0)),(Yh (WZ "NoRow") (Za 0)),(Yh (WZ "NoName") (Za 0))])) [some (.exf "NoWeb" l),some (.lst (QX [true,false,false,false,false,false,false]))]=some (.nx [some (.exf "NoWeb" l),some (.lst (QX [true,false,false,false,false,false,false,false,false,false,false]))]):=by
  rw[Zw,ZF];simp only[ZG,Wf,t',Option.bind_some,Option.map_some,Z9];rfl
 have c:Zh WY (Za 1) (eC (.bl true)) [some (.exf "NoWeb" l),some (.lst (QX [true,false,false,false,false,false,false,false,false,false,false]))]=some (.int 1):=rfl
 have x:Zh UU (Za 1) (eC (.bl true)) [some (.exf "NoWeb" l),some (.lst (QX [true,false,false,false,false,false,false,false,false,false,false]))]=some (.int 0):=rfl
 have e4:YC (Qm (Y3 (xB (Yh JV (Za 0)))) (xB (Zh (XA true) (Zh WY (Za 1) (eC (.bl true))) (eC (.int 1))))) (Yd (eP (Qp Va (eC (.int 1))))) Zp [some (.exf "NoWeb" l),some (.lst (QX [true,false,false,false,false,false,false,false,false,false,false]))]=some (.nx [some (.exf "NoWeb" l),some (.lst (QX [true,false,false,false,false,false,false,false,false,false,false]))]):=by
  rw[ZQ,NC,SO,YS,v'];simp only[Option.bind_some,M8,Option.map_some,Bool.not_true,Bool.false_eq_true,if_false];rw[YS,ZF,c]
  simp
 show Wr 2 WD _=_
 unfold WD
 show(Zk _ _ [some (.exf "NoWeb" l),none]).bind Xf=_
 rw[Zz e1,Zz e2,Zz e3,Zz e4,Xh,YR,x];rfl
theorem FY(l:PV):Xm [.exf "Apart" l]=some (.int 1):=by
 have t':∀(cx:PySem.Str)(x:Option PV),Yh (WZ cx) (Za 0) [some (.exf "Apart" l),x]=some (.bl (decide (cx = "Apart"))):=fun cx x=>by
  have ne:¬(("Apart" : PySem.Str) = "NoWeb"):=by decide
  simp[Yh,WZ,ne]
 have v':∀(x:Option PV),Yh JV (Za 0) [some (.exf "Apart" l),x]=some (.bl true):=fun x=>by
  simp[Yh,JV]
 have e1:Zm 1 (ZG [(eP (Yh (WZ "NoWeb") (Za 0))),(eP (Yh (WZ "Apart") (Za 0))),(eP (Yh (WZ "NoText") (Za 0))),(eP (Yh (WZ "NoOrder") (Za 0)))]) [some (.exf "Apart" l),none]=some (.nx [some (.exf "Apart" l),some (.lst (QX [false,true,false,false]))]):=by
  rw[Zw];simp only[ZG,Wf,YR,t',Option.bind_some,ZS,if_true,Option.map_some];rfl
 have e2:Zm 1 (Zh Ym (Za 1) (ZG [(Yh (WZ "TooMany") (Za 0)),(Yh (WZ "NotSettled") (Za 0)),(Yh (WZ "NoTree") (Za 0))])) [some (.exf "Apart" l),some (.lst (QX [false,true,false,false]))]=some (.nx [some (.exf "Apart" l),some (.lst (QX [false,true,false,false,false,false,false]))]):=by
  rw[Zw,ZF];simp only[ZG,Wf,t',Option.bind_some,Option.map_some,Z9];rfl
 have e3:Zm 1 (Zh Ym (Za 1) (ZG [(Yh (WZ "NoTotal") (Za 0)),(Yh (WZ "NoEnds") (Za 0)),(Yh (WZ "NoRow") (Za 0)),(Yh (WZ "NoName") (Za 0))])) [some (.exf "Apart" l),some (.lst (QX [false,true,false,false,false,false,false]))]=some (.nx [some (.exf "Apart" l),some (.lst (QX [false,true,false,false,false,false,false,false,false,false,false]))]):=by
  rw[Zw,ZF];simp only[ZG,Wf,t',Option.bind_some,Option.map_some,Z9];rfl
 have c:Zh WY (Za 1) (eC (.bl true)) [some (.exf "Apart" l),some (.lst (QX [false,true,false,false,false,false,false,false,false,false,false]))]=some (.int 1):=rfl
 have x:Zh UU (Za 1) (eC (.bl true)) [some (.exf "Apart" l),some (.lst (QX [false,true,false,false,false,false,false,false,false,false,false]))]=some (.int 1):=rfl
 have e4:YC (Qm (Y3 (xB (Yh JV (Za 0)))) (xB (Zh (XA true) (Zh WY (Za 1) (eC (.bl true))) (eC (.int 1))))) (Yd (eP (Qp Va (eC (.int 1))))) Zp [some (.exf "Apart" l),some (.lst (QX [false,true,false,false,false,false,false,false,false,false,false]))]=some (.nx [some (.exf "Apart" l),some (.lst (QX [false,true,false,false,false,false,false,false,false,false,false]))]):=by
  rw[ZQ,NC,SO,YS,v'];simp only[Option.bind_some,M8,Option.map_some,Bool.not_true,Bool.false_eq_true,if_false];rw[YS,ZF,c]
  simp
 show Wr 2 WD _=_
 unfold WD
 show(Zk _ _ [some (.exf "Apart" l),none]).bind Xf=_
 rw[Zz e1,Zz e2,Zz e3,Zz e4,Xh,YR,x];rfl
theorem IQ{L:List PV}(hp:Zv L=true):YH [.lst L]=some (.lst L):=by
 unfold YH;simp[Oq,hp]
section
variable {m:Int} {L:List PV} (hp:Zv L=true)
include hp
theorem UZ(x y z:Option PV):Wf [(Za 0),(Zg YH [(Za 1)])] [some (.int m),some (.lst L),x,y,z]=some [.int m,.lst L]:=by
 simp only[Wf,Z9,ZH];simp[IQ hp]
theorem PZ{l:PV}(hR:Yu [.int m,.lst L]=some (("NoWeb" : PySem.Str),l))(hg:Ua l=true)(hl:l = .non\/∃i:Int,l = .int i):Z6 [.int m,.lst L]=some (.tup [.int 0,l]):=by
 have e1:Zm 2 (eP (eC .non)) [some (.int m),some (.lst L),none,none,none]=some (.nx [some (.int m),some (.lst L),some .non,none,none]):=rfl
 have e2:JU (UT Yu [(Za 0),(Zg YH [(Za 1)])] 3 (Zm 2 (eP (Za 3)))) (GB (Zg Z5 [(Za 0),(Zg YH [(Za 1)])])) [some (.int m),some (.lst L),some .non,none,none]=some (.nx [some (.int m),some (.lst L),some (.exf "NoWeb" l),none,none]):=by
  unfold JU UT;rw[UZ hp];simp only[Option.bind_some,hR];rfl
 have e3:YC (xB (X3 false (Za 2))) (Yd (eP (eC .non))) Zp [some (.int m),some (.lst L),some (.exf "NoWeb" l),none,none]=some (.nx [some (.int m),some (.lst L),some (.exf "NoWeb" l),none,none]):=rfl
 have e4:Zm 4 (Zg Xm [(Za 2)]) [some (.int m),some (.lst L),some (.exf "NoWeb" l),none,none]=some (.nx [some (.int m),some (.lst L),some (.exf "NoWeb" l),none,some (.int 0)]):=by
  rw[Zw,ZH]
  show(Option.bind (some [PV.exf "NoWeb" l]) Xm).map _=_
  simp only[Option.bind_some,FX];rfl
 have fl:XQ "NoWeb" (Za 2) [some (.int m),some (.lst L),some (.exf "NoWeb" l),none,some (.int 0)]=some l:=by
  simp[XQ,hg]
 have pl:ZS l=true:=by
  rcases hl with rfl | ⟨i,rfl⟩<;>rfl
 have e5:YC (XW (xB (X3 true (XQ "NoWeb" (Za 2)))) (Y3 (xB (Zg Y6 [(XQ "NoWeb" (Za 2))])))) (Yd (eP (ZJ [(Qp Va (eC (.int 1))),(eC (.int 0))]))) Zp [some (.int m),some (.lst L),some (.exf "NoWeb" l),none,some (.int 0)]=some (.nx [some (.int m),some (.lst L),some (.exf "NoWeb" l),none,some (.int 0)]):=by
  have i0:X3 true (XQ "NoWeb" (Za 2)) [some (.int m),some (.lst L),some (.exf "NoWeb" l),none,some (.int 0)]=Lu true l:=by
   unfold X3;rw[fl];rfl
  have w0:Zg Y6 [(XQ "NoWeb" (Za 2))] [some (.int m),some (.lst L),some (.exf "NoWeb" l),none,some (.int 0)]=Y6 [l]:=by
   rw[ZH];simp only[Wf,fl,Option.bind_some,Option.map_some]
  rw[ZQ,WC,YS,SO,YS,i0,w0]
  rcases hl with rfl | ⟨i,rfl⟩
  ·rfl
  ·rw[Kc];rfl
 have e6:Yd (ZJ [(eP (eC (.int 0))),(eP (XQ "NoWeb" (Za 2)))]) [some (.int m),some (.lst L),some (.exf "NoWeb" l),none,some (.int 0)]=some (.rt (.tup [.int 0,l])):=by
  rw[Xh,UO];simp only[Wf,YR,fl,Option.bind_some,pl,if_true,Option.map_some,Ul];rfl
 show(Zk (Zm 2 _) _ [some (.int m),some (.lst L),none,none,none]).bind Xf=_
 rw[Zz e1,Zz e2,Zz e3,Zz e4,ZI,ZQ]
 have c0:xB (Zh (XA false) (Za 4) (eC (.int 0))) [some (.int m),some (.lst L),some (.exf "NoWeb" l),none,some (.int 0)]=some true:=by simp
 rw[c0];simp only[Option.bind_some,if_true];rw[Zz e5,e6];rfl
theorem Ku{l:List Int}(hR:Yu [.int m,.lst L]=some (("Apart" : PySem.Str),pP l))(hg:Ua (pP l)=true):Z6 [.int m,.lst L]=some (.tup [.int 1,pP l]):=by
 have e1:Zm 2 (eP (eC .non)) [some (.int m),some (.lst L),none,none,none]=some (.nx [some (.int m),some (.lst L),some .non,none,none]):=rfl
 have e2:JU (UT Yu [(Za 0),(Zg YH [(Za 1)])] 3 (Zm 2 (eP (Za 3)))) (GB (Zg Z5 [(Za 0),(Zg YH [(Za 1)])])) [some (.int m),some (.lst L),some .non,none,none]=some (.nx [some (.int m),some (.lst L),some (.exf "Apart" (pP l)),none,none]):=by
  unfold JU UT;rw[UZ hp];simp only[Option.bind_some,hR];rfl
 have e3:YC (xB (X3 false (Za 2))) (Yd (eP (eC .non))) Zp [some (.int m),some (.lst L),some (.exf "Apart" (pP l)),none,none]=some (.nx [some (.int m),some (.lst L),some (.exf "Apart" (pP l)),none,none]):=rfl
 have e4:Zm 4 (Zg Xm [(Za 2)]) [some (.int m),some (.lst L),some (.exf "Apart" (pP l)),none,none]=some (.nx [some (.int m),some (.lst L),some (.exf "Apart" (pP l)),none,some (.int 1)]):=by
  rw[Zw,ZH]
  show(Option.bind (some [PV.exf "Apart" (pP l)]) Xm).map _=_
  simp only[Option.bind_some,FY];rfl
 have fl:XQ "Apart" (Za 2) [some (.int m),some (.lst L),some (.exf "Apart" (pP l)),none,some (.int 1)]=some (pP l):=by
  simp[XQ,hg]
 have pl:ZS (pP l)=true:=YE l
 have e6:Yd (ZJ [(eP (eC (.int 1))),(eP (XQ "Apart" (Za 2)))]) [some (.int m),some (.lst L),some (.exf "Apart" (pP l)),none,some (.int 1)]=some (.rt (.tup [.int 1,pP l])):=by
  rw[Xh,UO];simp only[Wf,YR,fl,Option.bind_some,pl,if_true,Option.map_some,Ul];rfl
 show(Zk (Zm 2 _) _ [some (.int m),some (.lst L),none,none,none]).bind Xf=_
 have c0:xB (Zh (XA false) (Za 4) (eC (.int 0))) [some (.int m),some (.lst L),some (.exf "Apart" (pP l)),none,some (.int 1)]=some false:=by simp
 have c1:xB (Zh (XA false) (Za 4) (eC (.int 1))) [some (.int m),some (.lst L),some (.exf "Apart" (pP l)),none,some (.int 1)]=some true:=by simp
 have e5:∀f:XS,YC (xB (Zh (XA false) (Za 4) (eC (.int 0)))) f Zp [some (.int m),some (.lst L),some (.exf "Apart" (pP l)),none,some (.int 1)]=some (.nx [some (.int m),some (.lst L),some (.exf "Apart" (pP l)),none,some (.int 1)]):=fun f=>by
  rw[ZQ,c0];rfl
 rw[Zz e1,Zz e2,Zz e3,Zz e4,Zz (e5 _),ZI,ZQ,c1];simp only[Option.bind_some,if_true];rw[e6];rfl
theorem Kv{v:PV}(hR:Yu [.int m,.lst L]=none)(hD:Z5 [.int m,.lst L]=some v):Z6 [.int m,.lst L]=some .non:=by
 have e1:Zm 2 (eP (eC .non)) [some (.int m),some (.lst L),none,none,none]=some (.nx [some (.int m),some (.lst L),some .non,none,none]):=rfl
 have e2:JU (UT Yu [(Za 0),(Zg YH [(Za 1)])] 3 (Zm 2 (eP (Za 3)))) (GB (Zg Z5 [(Za 0),(Zg YH [(Za 1)])])) [some (.int m),some (.lst L),some .non,none,none]=some (.nx [some (.int m),some (.lst L),some .non,none,none]):=by
  unfold JU UT GB;rw[UZ hp,ZH,UZ hp];simp only[Option.bind_some,hR,Option.bind_none,hD];rfl
 show(Zk (Zm 2 _) _ [some (.int m),some (.lst L),none,none,none]).bind Xf=_
 rw[Zz e1,Zz e2];rfl
end
theorem NX{f g:XE}{s:ZE}{a b:Int}{C:Int->Int->Prop}[∀i j,Decidable (C i j)]{op:Int->Int->Int}(h1:f s=some (.int a))(h2:g s=some (.int b))(c:C a b):Zh (KD C op) f g s=some (.int (op a b)):=by
 rw[ZF,h1,h2];simp only[Option.bind_some,LN,if_pos c]
theorem NY(ps:List ZT)(lo hi:Option Int):∃qs:List ZT,V2 (ps.map zP) lo hi=qs.map zP/\qs.length<=ps.length:=by
 refine⟨(ps.drop (HT.sIx ps.length 0 lo)).take (HT.sIx ps.length ps.length hi-HT.sIx ps.length 0 lo),?_,?_⟩
 ·unfold V2
  rw[List.length_map,<-List.map_drop,<-List.map_take]
 ·rw[List.length_take,List.length_drop];omega
theorem W5(ps:List ZT):Zv (ps.map zP)=true:=VP fun _ _=>rfl
section
variable {ps:List ZT} {s:ZE} (h0:s[0]?=some (some (.lst (ps.map zP)))) (hl:ps.length<=1000) {f g h:XE} {i j:Int}
include h0
theorem IS(hf:f s=some (.int i)):U0 Y8 (Za 0) Tg (V8 f) s=some (.lst (V2 (ps.map zP) none (some i))):=by
 rw[NB,Z9,h0];simp[V8,hf,Y8]
theorem IT(hg:g s=some (.int j)):U0 Y8 (Za 0) (V8 g) Tg s=some (.lst (V2 (ps.map zP) (some j) none)):=by
 rw[NB,Z9,h0];simp[V8,hg,Y8]
include hl
theorem EF(hf:f s=some (.int i))(hg:g s=some (.int j)):∃qs:List ZT,Zh Ym (U0 Y8 (Za 0) Tg (V8 f)) (U0 Y8 (Za 0) (V8 g) Tg) s=some (.lst (qs.map zP))/\qs.length<=2*ps.length+1:=by
 obtain⟨q1,c1,l1⟩:=NY ps none (some i)
 obtain⟨q2,c2,l2⟩:=NY ps (some j) none
 refine⟨q1++q2,?_,by rw[List.length_append];omega⟩
 rw[ZF,IS h0 hf,IT h0 hg,c1,c2];simp only[Option.bind_some];unfold Ym
 simp only
 rw[if_pos ⟨by rw[List.length_map,List.length_map];omega,W5 _,W5 _⟩,List.map_append]
theorem FZ{e:ZT}(hf:f s=some (.int i))(hg:g s=some (.int j))(hh:h s=some (zP e)):∃qs:List ZT,Zh Ym (Zh Ym (U0 Y8 (Za 0) Tg (V8 f)) (ZG [h])) (U0 Y8 (Za 0) (V8 g) Tg) s=some (.lst (qs.map zP))/\qs.length<=2*ps.length+1:=by
 obtain⟨q1,c1,l1⟩:=NY ps none (some i)
 obtain⟨q2,c2,l2⟩:=NY ps (some j) none
 refine⟨q1++[e]++q2,?_,by simp only[List.length_append,List.length_cons,List.length_nil];omega⟩
 have a1:Zh Ym (U0 Y8 (Za 0) Tg (V8 f)) (ZG [h]) s=some (.lst ((q1++[e]).map zP)):=by
  rw[ZF,IS h0 hf,c1]
  have:ZG [h] s=some (.lst ([e].map zP)):=by
   unfold ZG;simp only[Wf,hh,Option.bind_some,Option.map_some,List.map_cons,List.map_nil]
  rw[this];simp only[Option.bind_some];unfold Ym
  simp only
  rw[if_pos ⟨by rw[List.length_map,List.length_map];simp;omega,W5 _,W5 _⟩,List.map_append]
 rw[ZF,a1,IT h0 hg,c2];simp only[Option.bind_some];unfold Ym
 simp only
 rw[if_pos ⟨by rw[List.length_map,List.length_map];simp;omega,W5 _,W5 _⟩,<-List.map_append]
end
theorem O4{ps:List ZT}{way x:Int}{n:Nat}(hl:ps.length<=1000):∃qs:List ZT,Y7 [.lst (ps.map zP),.int way,.int x,.int (n:Int)]=some (.lst (qs.map zP))/\qs.length<=2*ps.length+1:=by
 generalize hL:ps.map zP=L
 have lL:L.length=ps.length:=by rw[<-hL];simp
 let S0:ZE:=[some (.lst L),some (.int way),some (.int x),some (.int (n:Int)),none,none,none,none,none,none]
 by_cases z:ps.length=0
 ·refine⟨[(0,x%3,1)],?_,by simp⟩
  have c0:xB (Zh (XA false) (Zg YM [(Za 0)]) (eC (.int 0))) S0=some true:=by simp[S0,lL,z]
  show(Zk (YC _ _ _) _ S0).bind Xf=_
  rw[ZI,ZQ,c0];rfl
 have ln:∀s:ZE,s[0]?=some (some (.lst L))->Zg YM [(Za 0)] s=some (.int (ps.length:Int)):=fun s h=>by
  rw[ZH];simp only[Wf,Z9,h,Option.join_some,Option.bind_some,Option.map_some];rw[<-lL];rfl
 have c0:∀fr:XS,YC (xB (Zh (XA false) (Zg YM [(Za 0)]) (eC (.int 0)))) fr Zp S0=some (.nx S0):=fun fr=>by
  have:xB (Zh (XA false) (Zg YM [(Za 0)]) (eC (.int 0))) S0=some false:=by
   rw[YS,ZF,ln S0 rfl,Ul];simp only[Option.bind_some,HY,Bool.false_eq_true,if_false];rw[decide_eq_false (by omega)];rfl
  rw[ZQ,this];rfl
 have m1:=Int.emod_nonneg x (show(ps.length:Int)≠0 by omega)
 have m2:=Int.emod_lt_of_pos x (show(0:Int)<(ps.length:Int) by omega)
 obtain⟨j,hj⟩:∃j:Nat,x%(ps.length:Int)=(j:Int):=⟨(x%(ps.length:Int)).toNat,(Int.toNat_of_nonneg m1).symm⟩
 have hjl:j<ps.length:=by omega
 obtain⟨⟨a,b,t⟩,he⟩:∃e,ps[j]?=some e:=⟨_,List.getElem?_eq_getElem hjl⟩
 have hLj:L[j]?=some (zP (a,b,t)):=by rw[<-hL,List.getElem?_map,he];rfl
 have e1:Zm 4 (eP (Zh ZO (Za 2) (Zg YM [(Za 0)]))) S0=some (.nx [some (.lst L),some (.int way),some (.int x),some (.int (n:Int)),some (.int (j:Int)),none,none,none,none,none]):=by
  have m:=NX (C:=fun _ j=>0<j) (op:=(· % ·)) (show Za 2 S0=some (.int x) from rfl) (ln S0 rfl) (show(0:Int)<(ps.length:Int) by omega)
  rw[Zw,YR,m];simp only[Option.bind_some,hj];rfl
 have e2:TN (.many [5,6,7]) (Zh Z2 (Za 0) (Za 4)) [some (.lst L),some (.int way),some (.int x),some (.int (n:Int)),some (.int (j:Int)),none,none,none,none,none]=some (.nx [some (.lst L),some (.int way),some (.int x),some (.int (n:Int)),some (.int (j:Int)),some (.int a),some (.int b),some (.int t),none,none]):=by
  have g:Zh Z2 (Za 0) (Za 4) [some (.lst L),some (.int way),some (.int x),some (.int (n:Int)),some (.int (j:Int)),none,none,none,none,none]=some (zP (a,b,t)):=by
   simp[WK hLj]
  unfold TN;rw[g];rfl
 generalize hy:x/(ps.length:Int)=y
 have e3:Zm 2 (eP (Zh Xa (Za 2) (Zg YM [(Za 0)]))) [some (.lst L),some (.int way),some (.int x),some (.int (n:Int)),some (.int (j:Int)),some (.int a),some (.int b),some (.int t),none,none]=some (.nx [some (.lst L),some (.int way),some (.int y),some (.int (n:Int)),some (.int (j:Int)),some (.int a),some (.int b),some (.int t),none,none]):=by
  rw[Zw,YR,ZF,ln _ rfl]
  show((KD _ _ (.int x) (.int (ps.length:Int))).bind _).map _=_
  rw[LN,if_pos (show U2 x (ps.length:Int) from⟨by omega,by omega⟩)];simp only[Option.bind_some,hy];rfl
 let S3:Option PV->Option PV->ZE:=fun p q=>[some (.lst L),some (.int way),some (.int y),some (.int (n:Int)),some (.int (j:Int)),some (.int a),some (.int b),some (.int t),p,q]
 have h0:∀p q,(S3 p q)[0]?=some (some (.lst (ps.map zP))):=fun p q=>by rw[hL];rfl
 have cw:∀(k:Int)(p q),xB (Zh (XA false) (Za 1) (eC (.int k))) (S3 p q)=some (decide (way=k)):=fun k p q=>by simp[S3]
 have no:∀(k:Int)(fr:XS)(p q),way≠k->YC (xB (Zh (XA false) (Za 1) (eC (.int k)))) fr Zp (S3 p q)=some (.nx (S3 p q)):=fun k fr p q h=>by
  rw[ZQ,cw,decide_eq_false h];rfl
 have yes:∀(k:Int)(fr:XS)(p q),way=k->YC (xB (Zh (XA false) (Za 1) (eC (.int k)))) fr Zp (S3 p q)=fr (S3 p q):=fun k fr p q h=>by
  rw[ZQ,cw,decide_eq_true h];rfl
 have v4:∀p q,Za 4 (S3 p q)=some (.int (j:Int)):=fun p q=>rfl
 have v41:∀p q,Zh ZN (Za 4) (eC (.int 1)) (S3 p q)=some (.int ((j:Int)+1)):=fun p q=>rfl
 have v8:∀p q,Za 8 (S3 (some (.int p)) q)=some (.int p):=fun p q=>rfl
 by_cases w0:way=0
 ·obtain⟨qs,c,l⟩:=EF (h0 none none) hl (v4 none none) (v41 none none)
  refine⟨qs,?_,l⟩
  show(Zk (YC _ _ _) _ S0).bind Xf=_
  rw[Zz (c0 _),Zz e1,Zz e2,Zz e3,ZI]
  have:=yes 0 (Yd (Zh Ym (U0 Y8 (Za 0) Tg (V8 (Za 4))) (U0 Y8 (Za 0) (V8 (Zh ZN (Za 4) (eC (.int 1)))) Tg))) none none w0
  simp only[S3] at this c
  rw[this,Xh,c];rfl
 by_cases w1:way=1
 ·have e8:Zm 8 (eP (Zh ZO (Za 2) (Zh ZN (Zg YM [(Za 0)]) (eC (.int 1))))) (S3 none none)=some (.nx (S3 (some (.int (y%((ps.length:Int)+1)))) none)):=by
   have l1:Zh ZN (Zg YM [(Za 0)]) (eC (.int 1)) (S3 none none)=some (.int ((ps.length:Int)+1)):=by
    rw[ZF,ln _ rfl];rfl
   have m:=NX (C:=fun _ j=>0<j) (op:=(· % ·)) (show Za 2 (S3 none none)=some (.int y) from rfl) l1 (show(0:Int)<(ps.length:Int)+1 by omega)
   rw[Zw,YR,m];rfl
  obtain⟨qs,c,l⟩:=FZ (h:=ZJ [(Za 5),(Za 6),(Zh ZN (eC (.int 1)) (Zh ZO (Za 2) (eC (.int 9))))]) (e:=(a,b,1+y%9)) (h0 (some (.int (y%((ps.length:Int)+1)))) none) hl (v8 (y%((ps.length:Int)+1)) none) (v8 (y%((ps.length:Int)+1)) none) (by simp[S3,zP])
  refine⟨qs,?_,l⟩
  show(Zk (YC _ _ _) _ S0).bind Xf=_
  rw[Zz (c0 _),Zz e1,Zz e2,Zz e3]
  have i0:=no 0 (Yd (Zh Ym (U0 Y8 (Za 0) Tg (V8 (Za 4))) (U0 Y8 (Za 0) (V8 (Zh ZN (Za 4) (eC (.int 1)))) Tg))) none none w0
  have i1:=yes 1 (Zk (Zm 8 (eP (Zh ZO (Za 2) (Zh ZN (Zg YM [(Za 0)]) (eC (.int 1))))))
   (Yd (Zh Ym (Zh Ym (U0 Y8 (Za 0) Tg (V8 (Za 8))) (ZG [(ZJ [(Za 5),(Za 6),(Zh ZN (eC (.int 1)) (Zh ZO (Za 2) (eC (.int 9))))])])) (U0 Y8 (Za 0) (V8 (Za 8)) Tg)))) none none w1
  rw[Zz e8,Xh,c] at i1
  simp only[S3] at i0 i1
  rw[Zz i0,ZI,i1];rfl
 -- the tie is put anew
 have last:∀e:ZT,∃qs:List ZT,Yd (Zh Ym (Zh Ym (U0 Y8 (Za 0) Tg (V8 (Za 4))) (ZG [(Za 9)])) (U0 Y8 (Za 0) (V8 (Zh ZN (Za 4) (eC (.int 1)))) Tg)) (S3 none (some (zP e)))=some (.rt (.lst (qs.map zP)))/\qs.length<=2*ps.length+1:=fun e=>by
  obtain⟨qs,c,l⟩:=FZ (h:=Za 9) (e:=e) (h0 none (some (zP e))) hl (v4 none (some (zP e))) (v41 none (some (zP e))) rfl
  exact⟨qs,by rw[Xh,c];rfl,l⟩
 have t9:Zm 9 (eP (ZJ [(Za 6),(Za 5),(Za 7)])) (S3 none none)=some (.nx (S3 none (some (zP (b,a,t))))):=rfl
 have p28:∀s:ZE,Zh WO (eC (.int 10)) (eC (.int 28)) s=some (.int (10^28)):=fun s=>NX (a:=10) (b:=28) (C:=Q3) (op:=fun i j=>i^j.toNat) rfl rfl (by decide)
 have p29:∀s:ZE,Zh WO (eC (.int 10)) (eC (.int 29)) s=some (.int (10^29)):=fun s=>NX (a:=10) (b:=29) (C:=Q3) (op:=fun i j=>i^j.toNat) rfl rfl (by decide)
 have s2:∀e0:ZT,∃e:ZT,YC (xB (Zh (XA false) (Za 1) (eC (.int 2)))) (Zm 9 (eP (ZJ [(Zh W9 (Qp Va (eC (.int 1))) (Zh ZO (Za 2) (eC (.int 2)))),(Za 6),(Za 7)]))) Zp (S3 none (some (zP e0)))=some (.nx (S3 none (some (zP e)))):=fun e0=>by
  by_cases w:way=2
  ·exact⟨(-1-y%2,b,t),by rw[yes 2 _ _ _ w];rfl⟩
  ·exact⟨e0,no 2 _ _ _ w⟩
 have s3:∀e0:ZT,∃e:ZT,YC (xB (Zh (XA false) (Za 1) (eC (.int 3)))) (Zm 9 (eP (ZJ [(Za 5),(Za 5),(Za 7)]))) Zp (S3 none (some (zP e0)))=some (.nx (S3 none (some (zP e)))):=fun e0=>by
  by_cases w:way=3
  ·exact⟨(a,a,t),by rw[yes 3 _ _ _ w];rfl⟩
  ·exact⟨e0,no 3 _ _ _ w⟩
 have s4:∀e0:ZT,∃e:ZT,YC (xB (Zh (XA false) (Za 1) (eC (.int 4)))) (Zm 9 (eP (ZJ [(Za 5),(Zh ZN (Za 3) (Zh V0 (Zh ZO (Za 2) (eC (.int 2))) (Zh WO (eC (.int 10)) (eC (.int 28))))),(Za 7)]))) Zp (S3 none (some (zP e0)))=some (.nx (S3 none (some (zP e)))):=fun e0=>by
  by_cases w:way=4
  ·refine⟨(a,(n:Int)+y%2*10^28,t),?_⟩
   have hm:Zh V0 (Zh ZO (Za 2) (eC (.int 2))) (Zh WO (eC (.int 10)) (eC (.int 28))) (S3 none (some (zP e0)))=some (.int (y%2*10^28)):=NX (C:=CMul) (op:=(· * ·)) (a:=y%2) rfl (p28 _) (.inl ⟨by omega,by omega⟩)
   rw[yes 4 _ _ _ w,Zw,YR,UO]
   simp only[Wf,ZF] at hm ⊢
   rw[hm];rfl
  ·exact⟨e0,no 4 _ _ _ w⟩
 have s5:∀e0:ZT,∃e:ZT,YC (xB (Zh (XA false) (Za 1) (eC (.int 5)))) (Zm 9 (eP (ZJ [(Za 5),(Za 6),(Zh Z2 (ZG [(eC (.int 0)),(eC (.int 10)),(Qp Va (eC (.int 1))),(Zh WO (eC (.int 10)) (eC (.int 29)))]) (Zh ZO (Za 2) (eC (.int 4))))]))) Zp (S3 none (some (zP e0)))=some (.nx (S3 none (some (zP e)))):=fun e0=>by
  by_cases w:way=5
  ·have hx:∃v:Int,Zh Z2 (ZG [(eC (.int 0)),(eC (.int 10)),(Qp Va (eC (.int 1))),(Zh WO (eC (.int 10)) (eC (.int 29)))]) (Zh ZO (Za 2) (eC (.int 4))) (S3 none (some (zP e0)))=some (.int v):=by
    have el:ZG [(eC (.int 0)),(eC (.int 10)),(Qp Va (eC (.int 1))),(Zh WO (eC (.int 10)) (eC (.int 29)))] (S3 none (some (zP e0)))=some (.lst [.int 0,.int 10,.int (-1),.int (10^29)]):=by
     unfold ZG;simp only[Wf,p29,Option.bind_some,Option.map_some];rfl
    have em:Zh ZO (Za 2) (eC (.int 4)) (S3 none (some (zP e0)))=some (.int (y%4)):=rfl
    rw[ZF,el,em]
    have:y%4=0\/y%4=1\/y%4=2\/y%4=3:=by omega
    rcases this with q | q | q | q<;>rw[q]<;>exact⟨_,rfl⟩
   obtain⟨v,hx⟩:=hx
   refine⟨(a,b,v),?_⟩
   rw[yes 5 _ _ _ w,Zw,YR,UO];simp only[Wf];rw[hx];rfl
  ·exact⟨e0,no 5 _ _ _ w⟩
 obtain⟨f2,g2⟩:=s2 (b,a,t)
 obtain⟨f3,g3⟩:=s3 f2
 obtain⟨f4,g4⟩:=s4 f3
 obtain⟨f5,g5⟩:=s5 f4
 obtain⟨qs,g6,l⟩:=last f5
 refine⟨qs,?_,l⟩
 have i0:=no 0 (Yd (Zh Ym (U0 Y8 (Za 0) Tg (V8 (Za 4))) (U0 Y8 (Za 0) (V8 (Zh ZN (Za 4) (eC (.int 1)))) Tg))) none none w0
 have i1:=no 1 (Zk (Zm 8 (eP (Zh ZO (Za 2) (Zh ZN (Zg YM [(Za 0)]) (eC (.int 1))))))
   (Yd (Zh Ym (Zh Ym (U0 Y8 (Za 0) Tg (V8 (Za 8))) (ZG [(ZJ [(Za 5),(Za 6),(Zh ZN (eC (.int 1)) (Zh ZO (Za 2) (eC (.int 9))))])])) (U0 Y8 (Za 0) (V8 (Za 8)) Tg)))) none none w1
 show(Zk (YC _ _ _) _ S0).bind Xf=_
 rw[Zz (c0 _),Zz e1,Zz e2,Zz e3]
 simp only[S3] at i0 i1 t9 g2 g3 g4 g5 g6
 rw[Zz i0,Zz i1,Zz t9,Zz g2,Zz g3,Zz g4,Zz g5,g6];rfl
theorem Rk{v:PV}(neg:Bool)(h:Xd 8 v v=true):XA neg v v=some (.bl (!neg)):=by
 unfold XA;rw[if_pos h]
 cases neg<;>simp
theorem Kw{n:Nat}{ts:List ZP}(ok:DictOk n ts)(hn:n<=7):ts.length<=49:=by
 have nd:(ts.map fun e=>((e.1*7+e.2.1:Nat):Int)).Nodup:=by
  have h:=ok.nd
  rw[show(ts.map fun e=>((e.1*7+e.2.1:Nat):Int))=(ts.map fun e=>(e.1,e.2.1)).map (fun p=>((p.1*7+p.2:Nat):Int)) by rw[List.map_map];rfl]
  unfold List.Nodup at h ⊢
  rw[List.pairwise_map]
  refine List.Pairwise.imp_of_mem (fun{p q} hp hq hne z=>hne ?_) h
  obtain⟨e,he,rfl⟩:=List.mem_map.mp hp
  obtain⟨f,hf,rfl⟩:=List.mem_map.mp hq
  have h1:=ok.ok e he;have h2:=ok.ok f hf
  have z':e.1*7+e.2.1=f.1*7+f.2.1:=by simpa using(Int.ofNat_inj.mp z)
  show(e.1,e.2.1)=(f.1,f.2.1)
  have:e.1=f.1/\e.2.1=f.2.1:=by omega
  rw[this.1,this.2]
 have:=VD (m:=(List.range 49).map fun(i:Nat)=>(i:Int)) nd fun x hx=>by
  obtain⟨e,he,rfl⟩:=List.mem_map.mp hx
  have h1:=ok.ok e he
  exact List.mem_map.mpr ⟨_,List.mem_range.mpr (by omega),rfl⟩
 simpa using this
theorem Kx{ps:List ZT}{c:Int}(hl:ps.length<=1000) :
  (∃v,Xl [.int c,.lst (ps.map zP)]=some v/\Z6 [.int c,.lst (ps.map zP)]=some v/\Lu false v=some (.bl false)/\Xd 8 v v=true)\/
  ∃(M:Nat) (us:List ZP),c=(M:Int)/\1<=M/\M<=7/\DictOk M us/\Hang M us/\us.length<=1000/\ps.map zP=us.map Zs/\Xl [.int c,.lst (ps.map zP)]=some .non/\Z6 [.int c,.lst (ps.map zP)]=some .non:=by
 by_cases hc:1<=c/\c<=7
 ·obtain⟨M,rfl⟩:∃M:Nat,c=M:=⟨c.toNat,by omega⟩
  have h1:1<=M:=by omega
  have h7:M<=7:=by omega
  rcases Rg M ps [] (DictOk.nil M) with⟨us,ok,e⟩ | ⟨us,z,rest,ok,e,nf⟩
  ·rw[List.nil_append] at ok
   have lu:us.length=ps.length:=by
    have:=congrArg List.length e
    simpa using this.symm
   obtain⟨l,R,hR⟩:=O2 h1 h7 ok (by omega)
   have Rm:=NV ok h1
   have Rl:RSet M (JT us) l:=R.congr fun a b ha hb=>Gs ok ha hb
   have D:=Kt h1 h7 ok (by omega)
   have up:=Kn Rl Rm
   have ll:l.length=(pasN us M).length:=by
    rw[<-Rf Rl.nd Rl.lt,<-Rf Rm.nd Rm.lt,up]
   have pz:=W5 ps
   by_cases q:(pasN us M).length<M
   ·left
    rw[if_pos q] at D;rw[ll,if_pos q,up] at hR
    have gs:Ua (pP (Zt (Sa M (pasN us M))))=true:=by
     show(match Xc (iL (Zt (Sa M (pasN us M)))) with | some is=>decide (is.length<=100)&&is.all fun i=>decide (i.natAbs.log2<1920) | none=>false)=true
     rw[Y4];simp only[Bool.and_eq_true,decide_eq_true_eq,List.all_eq_true]
     have l2:(Zt (Sa M (pasN us M))).length=(pasN us M).length:=by simp[Zt,Rf Rm.nd Rm.lt]
     refine⟨by omega,fun i hi=>?_⟩
     obtain⟨j,hj,rfl⟩:=List.mem_map.mp hi
     have:=List.mem_range.mp (List.mem_filter.mp hj).1
     exact of_decide_eq_true (UY (by omega))
    rw[<-e] at D hR
    refine⟨_,D,Ku pz hR gs,rfl,?_⟩
    have:=NF 5 (Zt (Sa M (pasN us M))) (Zt (Sa M (pasN us M)))
    show(([PV.int 1,pP (Zt (Sa M (pasN us M)))].zip [PV.int 1,pP (Zt (Sa M (pasN us M)))]).all fun z=>Xd 7 z.1 z.2)=true
    simp only[List.zip_cons_cons,List.zip_nil_right,List.all_cons,List.all_nil,Bool.and_true,Bool.and_eq_true]
    exact⟨rfl,this⟩
   ·right
    have hg:=J8 Rm (by have:=VU Rm.nd Rm.lt;omega)
    rw[if_neg q] at D;rw[ll,if_neg q] at hR
    have W:=Tw ok hg h1 h7 (by omega)
    rw[<-e] at D hR W
    exact⟨M,us,rfl,h1,h7,ok,hg,by omega,e,D,Kv pz hR W⟩
  ·left
   rw[List.nil_append] at ok nf
   have le:=congrArg List.length e;simp only[List.length_map,List.length_append,List.length_cons] at le
   have D:=Ia h1 h7 (rest:=rest) ok nf (by rw[<-e,List.length_map];omega)
   have hR:=M3 h1 h7 (rest:=rest) ok nf (by omega)
   rw[<-e] at D hR
   exact⟨_,D,PZ (W5 ps) hR (UY (by omega)) (.inr ⟨_,rfl⟩),rfl,rfl⟩
 ·left
  exact⟨_,J9 hc,PZ (W5 ps) (M1 hc) rfl (.inl rfl),rfl,rfl⟩
theorem Ky{n:Nat}{ts:List ZP}{d:ZP}(ok:DictOk n (ts++[d]))(hl:ts.length<=1000):OB (dP ts) (.tup [.int (d.1:Int),.int (d.2.1:Int)]) (.int d.2.2)=some (dP (ts++[d])):=by
 have hm:¬ ∃t',(d.1,d.2.1,t')∈ts:=fun⟨t',h⟩=>by
  have nd:=ok.nd;rw[List.map_append,List.nodup_append] at nd
  exact nd.2.2 (d.1,d.2.1) (List.mem_map.mpr ⟨_,h,rfl⟩) (d.1,d.2.1) (by simp) rfl
 have c:(Zv (ts.map fun e=>PV.int e.2.2)&&ZS (.int d.2.2)&&decide ((ts.map tk).length<=10000))=true:=by
  rw[RZ,List.length_map,decide_eq_true (by omega)];rfl
 have e0:OB (dP ts) (.tup [.int (d.1:Int),.int (d.2.1:Int)]) (.int d.2.2)=some (.dT (WA (ts.map tk) [.inl (d.1:Int),.inl (d.2.1:Int)]) (WB (ts.map tk) (ts.map fun e=>PV.int e.2.2) [.inl (d.1:Int),.inl (d.2.1:Int)] (.int d.2.2))):=by
  show(gd _).bind _=_
  rw[VQ c,S8];rfl
 rw[e0];unfold WA WB dP;rw[if_neg (fun z=>hm (key_mem.mp z)),if_neg (fun z=>hm (key_mem.mp z)),List.map_append,List.map_append];rfl
theorem M5{us:List ZP}{M:Nat}{v0 v1 v2 v3 v4 v5 v6 v7 v8:Option PV}(ok:DictOk M us)(hl:us.length<=1000)(h4:v4=some (.lst (us.map Zs))) :
  ∃x y z,YI [9] (Vo (Za 4)) (.many [10,11,12]) (sDPut 9 (ZJ [(Za 10),(Za 11)]) (Za 12)) [v0,v1,v2,v3,v4,v5,v6,v7,v8,some (.dT [] []),none,none,none]=some (.nx [v0,v1,v2,v3,v4,v5,v6,v7,v8,some (dP us),x,y,z]):=by
 obtain⟨s',q,x,y,z,e⟩:=ZW (T:=.many [10,11,12]) (fb:=sDPut 9 (ZJ [(Za 10),(Za 11)]) (Za 12)) (ls:=us.map Zs) (s:=[v0,v1,v2,v3,v4,v5,v6,v7,v8,some (.dT [] []),none,none,none])
  (fun i st=>∃x y z,st=[v0,v1,v2,v3,v4,v5,v6,v7,v8,some (dP (us.take i)),x,y,z]) ⟨none,none,none,rfl⟩ (fun i l st hl' hJ=>by
   obtain⟨x,y,z,rfl⟩:=hJ
   rw[List.getElem?_map] at hl'
   cases he:us[i]? with
   | none=>rw[he] at hl';cases hl'
   | some d=>
    rw[he] at hl'
    cases hl'
    have hi:=(List.getElem?_eq_some_iff.mp he).1
    have ht:us.take (i+1)=us.take i++[d]:=by
     rw[List.take_succ_eq_append_getElem hi,(List.getElem?_eq_some_iff.mp he).2]
    have ok':DictOk M (us.take i++[d]):=by
     rw[<-ht]
     exact⟨fun e he=>ok.ok e (List.mem_of_mem_take he),by rw[List.map_take];exact ok.nd.sublist (List.take_sublist _ _)⟩
    have pd:=Ky ok' (by rw[List.length_take];omega)
    refine⟨[v0,v1,v2,v3,v4,v5,v6,v7,v8,some (dP (us.take i)),some (.int (d.1:Int)),some (.int (d.2.1:Int)),some (.int d.2.2)],_,rfl,VB (v:=.int d.2.2) (k:=.tup [.int (d.1:Int),.int (d.2.1:Int)]) (d:=dP (us.take i)) rfl rfl rfl pd,some (.int (d.1:Int)),some (.int (d.2.1:Int)),some (.int d.2.2),?_⟩
    rw[ht]
    rfl)
 subst e
 refine⟨x,y,z,?_⟩
 rw[Yi];subst h4
 show Option.bind (some (us.map Zs)) _=_
 simp only[Option.bind_some];rw[q,List.length_map,List.take_length]
def sL(ns:List Int)(n:Nat)(ts:List ZP)(ps:List ZT)(c:Int)(x6 x7 x8:Option PV):ZE:=
 [some (.cst (iL ns)),some (.int (n:Int)),some (dP ts),some (.lst (ts.map Zs)),some (.lst (ps.map zP)),some (.int c),x6,x7,x8,none,none,none,none]
def zT(d:ZP):ZT:=((d.1:Int),(d.2.1:Int),d.2.2)
theorem Gw(ts:List ZP):(ts.map zT).map zP=ts.map Zs:=by rw[List.map_map];rfl
noncomputable abbrev Ea:XS:=(Zm 4 (Zg Y7 [(Za 4),(Zh ZO (Zg Zn [(Za 0),(Zh ZN (eC (.int 30)) (Zh V0 (eC (.int 2)) (Za 6)))]) (eC (.int 7))),(Zh ZO (Zg Zn [(Za 0),(Zh ZN (eC (.int 31)) (Zh V0 (eC (.int 2)) (Za 6)))]) (Zh WO (eC (.int 10)) (eC (.int 9)))),(Za 1)]))
theorem Ic{ns:List Int}{n:Nat}{ts:List ZP}{ps:List ZT}{c:Int}{i:Nat}(hns:ns.length<=63)(hi:i<4)(hl:ps.length<=1000):∃qs:List ZT,Ea (sL ns n ts ps c (some (.int (i:Int))) none none)=some (.nx (sL ns n ts qs c (some (.int (i:Int))) none none))/\qs.length<=2*ps.length+1:=by
 have p9:∀s:ZE,Zh WO (eC (.int 10)) (eC (.int 9)) s=some (.int (10^9)):=fun s=>NX (a:=10) (b:=9) (C:=Q3) (op:=fun i j=>i^j.toNat) rfl rfl (by decide)
 have cl:∀(b:Int)(k:Nat),b+2*(i:Int)=(k:Int)->Zg Zn [(Za 0),(Zh ZN (eC (.int b)) (Zh V0 (eC (.int 2)) (Za 6)))] (sL ns n ts ps c (some (.int (i:Int))) none none)=some (.int (Yr ns k)):=fun b k hk=>by
  have m:Zh V0 (eC (.int 2)) (Za 6) (sL ns n ts ps c (some (.int (i:Int))) none none)=some (.int (2*(i:Int))):=NX (C:=CMul) (op:=(· * ·)) rfl rfl (.inl ⟨by omega,by omega⟩)
  have a:Zh ZN (eC (.int b)) (Zh V0 (eC (.int 2)) (Za 6)) (sL ns n ts ps c (some (.int (i:Int))) none none)=some (.int (k:Int)):=by
   rw[ZF,m,<-hk];rfl
  rw[ZH];simp only[Wf,a,Option.bind_some,Option.map_some]
  exact W3 hns k
 have c1:=cl 30 (30+2*i) (by omega)
 have c2:=cl 31 (31+2*i) (by omega)
 have w1:Zh ZO (Zg Zn [(Za 0),(Zh ZN (eC (.int 30)) (Zh V0 (eC (.int 2)) (Za 6)))]) (eC (.int 7)) (sL ns n ts ps c (some (.int (i:Int))) none none)=some (.int (Yr ns (30+2*i)%7)):=NX (C:=fun _ j=>0<j) (op:=(· % ·)) c1 rfl (by omega)
 have w2:Zh ZO (Zg Zn [(Za 0),(Zh ZN (eC (.int 31)) (Zh V0 (eC (.int 2)) (Za 6)))]) (Zh WO (eC (.int 10)) (eC (.int 9))) (sL ns n ts ps c (some (.int (i:Int))) none none)=some (.int (Yr ns (31+2*i)%10^9)):=NX (C:=fun _ j=>0<j) (op:=(· % ·)) c2 (p9 _) (by omega)
 obtain⟨qs,e,l⟩:=O4 (ps:=ps) (way:=Yr ns (30+2*i)%7) (x:=Yr ns (31+2*i)%10^9) (n:=n) hl
 refine⟨qs,?_,l⟩
 unfold Ea;rw[Zw,ZH];simp only[Wf,w1,w2,Option.bind_some,Option.map_some]
 show(Y7 [.lst (ps.map zP),.int (Yr ns (30+2*i)%7),.int (Yr ns (31+2*i)%10^9),.int (n:Int)]).map _=_
 rw[e];rfl
theorem law_true:∀ns:List Int,ns.length<=63->D_law [.cst (iL ns)]=some (.bl true):=by
 intro ns hns
 have c0:Zn [PV.cst (ns.map PV.int),PV.int 0]=some (PV.int (Yr ns 0)):=W3 hns 0
 obtain⟨n,hn1,hn7,en⟩:∃n:Nat,1<=n/\n<=7/\1+Yr ns 0%7=(n:Int):=⟨(1+Yr ns 0%7).toNat,by omega,by omega,by omega⟩
 have e1:Zm 1 (eP (Zh ZN (eC (.int 1)) (Zh ZO (Zg Zn [(Za 0),(eC (.int 0))]) (eC (.int 7))))) [some (.cst (iL ns)),none,none,none,none,none,none,none,none,none,none,none,none]=some (.nx [some (.cst (iL ns)),some (.int (n:Int)),none,none,none,none,none,none,none,none,none,none,none]):=by
  simp[c0,en]
 obtain⟨ts,et,ok,hg⟩:=Kj (ns:=ns) (at0:=1) (n:=n) hns hn1 hn7
 have et:Xy [PV.cst (ns.map PV.int),PV.int 1,PV.int (n:Int)]=some (dP ts):=et
 have hl:=Kw ok hn7
 have e2:Zm 2 (Zg Xy [(Za 0),(eC (.int 1)),(Za 1)]) [some (.cst (iL ns)),some (.int (n:Int)),none,none,none,none,none,none,none,none,none,none,none]=some (.nx [some (.cst (iL ns)),some (.int (n:Int)),some (dP ts),none,none,none,none,none,none,none,none,none,none]):=by
  rw[Zw,ZH]
  show((Xy [PV.cst (ns.map PV.int),PV.int 1,PV.int (n:Int)])).map _=_
  rw[et];rfl
 have k3:SX 2 [2] 2 (.many [0,1]) YO (eP (ZJ [(Za 0),(Za 1),(Zh Xs (Za 2) (ZJ [(Za 0),(Za 1)]))])) [some (.cst (iL ns)),some (.int (n:Int)),some (dP ts),none,none,none,none,none,none,none,none,none,none]=some (.lst (ts.map Zs)):=by
  unfold SX
  refine Xw ts (fun e=>.tup [.int (e.1:Int),.int (e.2.1:Int)]) Zs (T8 ts) (by omega) fun e he=>⟨[some (.int (e.1:Int)),some (.int (e.2.1:Int)),some (dP ts)],rfl,rfl,?_⟩
  have g:=S9 ok (a:=e.1) (b:=e.2.1) (t:=e.2.2) he
  simp[g,Zs]
 have e3:Zm 3 (SX 2 [2] 2 (.many [0,1]) YO (eP (ZJ [(Za 0),(Za 1),(Zh Xs (Za 2) (ZJ [(Za 0),(Za 1)]))]))) [some (.cst (iL ns)),some (.int (n:Int)),some (dP ts),none,none,none,none,none,none,none,none,none,none]=some (.nx [some (.cst (iL ns)),some (.int (n:Int)),some (dP ts),some (.lst (ts.map Zs)),none,none,none,none,none,none,none,none,none]):=by
  rw[Zw,k3];rfl
 have pu:Zv (ts.map Zs)=true:=VP fun e _=>by simp[Zs]
 have e4:Zm 4 (Zg YH [(Za 3)]) [some (.cst (iL ns)),some (.int (n:Int)),some (dP ts),some (.lst (ts.map Zs)),none,none,none,none,none,none,none,none,none]=some (.nx [some (.cst (iL ns)),some (.int (n:Int)),some (dP ts),some (.lst (ts.map Zs)),some (.lst (ts.map Zs)),none,none,none,none,none,none,none,none]):=by
  rw[Zw,ZH]
  show(YH [.lst (ts.map Zs)]).map _=_
  rw[IQ pu];rfl
 have e5:Zm 5 (eP (Za 1)) [some (.cst (iL ns)),some (.int (n:Int)),some (dP ts),some (.lst (ts.map Zs)),some (.lst (ts.map Zs)),none,none,none,none,none,none,none,none]=some (.nx (sL ns n ts (ts.map zT) (n:Int) none none none)):=by
  unfold sL;rw[Gw];rfl
 -- the ties are changed up to three times
 have c29:Zn [PV.cst (ns.map PV.int),PV.int 29]=some (PV.int (Yr ns 29)):=W3 hns 29
 obtain⟨k,hk,ek⟩:∃k:Nat,k<4/\Yr ns 29%4=(k:Int):=⟨(Yr ns 29%4).toNat,by omega,by omega⟩
 obtain⟨s',q6,ps,x6,es,hp⟩:=ZW (T:=.one 6) (fb:=Ea) (ls:=Yy k) (s:=sL ns n ts (ts.map zT) (n:Int) none none none) (fun i st=>∃ps x6,st=sL ns n ts ps (n:Int) x6 none none/\ps.length+1<=50*2^i) ⟨ts.map zT,none,rfl,by simp;omega⟩ (fun i l st hl' hJ=>by
  obtain⟨ps,x6,rfl,hp⟩:=hJ
  obtain⟨hi,rfl⟩:=X6 hl'
  have h8:(2:Nat)^i<=2^3:=Nat.pow_le_pow_right (by omega) (by omega)
  obtain⟨qs,e,l⟩:=Ic (n:=n) (ts:=ts) (ps:=ps) (c:=(n:Int)) (i:=i) hns (by omega) (by omega)
  refine⟨sL ns n ts ps (n:Int) (some (.int (i:Int))) none none,_,rfl,e,qs,some (.int (i:Int)),rfl,?_⟩
  rw[Nat.pow_succ]
  omega)
 have hpl:ps.length<=1000:=by
  have:(Yy k).length=k:=by simp[Yy]
  rw[this] at hp
  have h8:(2:Nat)^k<=2^3:=Nat.pow_le_pow_right (by omega) (by omega)
  omega
 subst es
 have e6:YI [9] (ZY [(Zh ZO (Zg Zn [(Za 0),(eC (.int 29))]) (eC (.int 4)))]) (.one 6) Ea (sL ns n ts (ts.map zT) (n:Int) none none none)=some (.nx (sL ns n ts ps (n:Int) x6 none none)):=by
  rw[Yi]
  have er:ZY [(Zh ZO (Zg Zn [(Za 0),(eC (.int 29))]) (eC (.int 4)))] (ZK [9] (sL ns n ts (ts.map zT) (n:Int) none none none))=some (Yy k):=by
   refine Yt ?_ (by omega)
   rw[<-ek]
   refine NX (C:=fun _ j=>0<j) (op:=(· % ·)) ?_ rfl (by omega)
   rw[ZH];exact c29
  rw[er];exact q6
 have c36:∀s:ZE,s[0]?=some (some (.cst (iL ns)))->Zg Zn [(Za 0),(eC (.int 36))] s=some (.int (Yr ns 36)):=fun s h=>by
  rw[ZH];simp only[Wf,Z9,h,Option.join_some,Option.bind_some,Option.map_some,Ul]
  exact W3 hns 36
 obtain⟨c,e7⟩:∃c:Int,YC (xB (Zh (XA false) (Zh ZO (Zg Zn [(Za 0),(eC (.int 36))]) (eC (.int 8))) (eC (.int 5)))) (Zm 5 (eP (Zh Z2 (ZG [(eC (.int 0)),(eC (.int 8)),(Qp Va (eC (.int 1))),(Zh WO (eC (.int 10)) (eC (.int 29))),(Zh ZN (Za 1) (eC (.int 1)))]) (Zh ZO (Zh Xa (Zg Zn [(Za 0),(eC (.int 36))]) (eC (.int 8))) (eC (.int 5)))))) Zp (sL ns n ts ps (n:Int) x6 none none)=some (.nx (sL ns n ts ps c x6 none none)):=by
  have a1:Zh ZO (Zg Zn [(Za 0),(eC (.int 36))]) (eC (.int 8)) (sL ns n ts ps (n:Int) x6 none none)=some (.int (Yr ns 36%8)):=NX (C:=fun _ j=>0<j) (op:=(· % ·)) (c36 _ rfl) rfl (by omega)
  have a2:Zh ZO (Zh Xa (Zg Zn [(Za 0),(eC (.int 36))]) (eC (.int 8))) (eC (.int 5)) (sL ns n ts ps (n:Int) x6 none none)=some (.int (Yr ns 36/8%5)):=NX (C:=fun _ j=>0<j) (op:=(· % ·)) (NX (C:=U2) (op:=(· / ·)) (c36 _ rfl) rfl ⟨by omega,by omega⟩) rfl (by omega)
  have t:xB (Zh (XA false) (Zh ZO (Zg Zn [(Za 0),(eC (.int 36))]) (eC (.int 8))) (eC (.int 5))) (sL ns n ts ps (n:Int) x6 none none)=some (decide (Yr ns 36%8=5)):=by
   rw[YS,ZF,a1,Ul]
   simp
  by_cases q:Yr ns 36%8=5
  ·rw[ZQ,t,decide_eq_true q]
   simp only[Option.bind_some,if_true]
   have p29:∀s:ZE,Zh WO (eC (.int 10)) (eC (.int 29)) s=some (.int (10^29)):=fun s=>NX (a:=10) (b:=29) (C:=Q3) (op:=fun i j=>i^j.toNat) rfl rfl (by decide)
   have el:ZG [(eC (.int 0)),(eC (.int 8)),(Qp Va (eC (.int 1))),(Zh WO (eC (.int 10)) (eC (.int 29))),(Zh ZN (Za 1) (eC (.int 1)))] (sL ns n ts ps (n:Int) x6 none none)=some (.lst [.int 0,.int 8,.int (-1),.int (10^29),.int ((n:Int)+1)]):=by
    unfold ZG;simp only[Wf,p29,Option.bind_some,Option.map_some];rfl
   have hx:∃v:Int,Zh Z2 (ZG [(eC (.int 0)),(eC (.int 8)),(Qp Va (eC (.int 1))),(Zh WO (eC (.int 10)) (eC (.int 29))),(Zh ZN (Za 1) (eC (.int 1)))]) (Zh ZO (Zh Xa (Zg Zn [(Za 0),(eC (.int 36))]) (eC (.int 8))) (eC (.int 5))) (sL ns n ts ps (n:Int) x6 none none)=some (.int v):=by
    rw[ZF,el,a2]
    have:Yr ns 36/8%5=0\/Yr ns 36/8%5=1\/Yr ns 36/8%5=2\/Yr ns 36/8%5=3\/Yr ns 36/8%5=4:=by omega
    rcases this with q | q | q | q | q<;>rw[q]<;>exact⟨_,rfl⟩
   obtain⟨v,hx⟩:=hx
   refine⟨v,?_⟩
   rw[Zw,YR,hx];rfl
  ·refine⟨(n:Int),?_⟩
   rw[ZQ,t,decide_eq_false q];rfl
 have ew:=Tw ok hg hn1 hn7 (by omega)
 have sq:=R1 ok hn7
 show(Zk (Zm 1 _) _ [some (.cst (iL ns)),none,none,none,none,none,none,none,none,none,none,none,none]).bind Xf=_
 rw[Zz e1,Zz e2,Zz e3,Zz e4,Zz e5,Zz e6,Zz e7]
 have e8:∀v,Xl [.int c,.lst (ps.map zP)]=some v->Zm 7 (Zg Xl [(Za 5),(Za 4)]) (sL ns n ts ps c x6 none none)=some (.nx (sL ns n ts ps c x6 (some v) none)):=fun v h=>by
  rw[Zw,ZH]
  show(Xl [.int c,.lst (ps.map zP)]).map _=_
  rw[h];rfl
 have e9:∀v u,Z6 [.int c,.lst (ps.map zP)]=some u->Zm 8 (Zg Z6 [(Za 5),(Za 4)]) (sL ns n ts ps c x6 (some v) none)=some (.nx (sL ns n ts ps c x6 (some v) (some u))):=fun v u h=>by
  rw[Zw,ZH]
  show(Z6 [.int c,.lst (ps.map zP)]).map _=_
  rw[h];rfl
 rcases Kx (ps:=ps) (c:=c) hpl with⟨v,hd,ht,hnn,hcc⟩ | ⟨M,us,rfl,h1,h7,oku,hgu,lu,eu,hd,ht⟩
 ·rw[Zz (e8 v hd),Zz (e9 v v ht)]
  have i0:∀fr:XS,YC (xB (X3 false (Za 7))) fr Zp (sL ns n ts ps c x6 (some v) (some v))=some (.nx (sL ns n ts ps c x6 (some v) (some v))):=fun fr=>by
   have:X3 false (Za 7) (sL ns n ts ps c x6 (some v) (some v))=some (.bl false):=by
    unfold X3
    show(some v).bind _=_
    exact hnn
   rw[ZQ,YS,this];rfl
  rw[Zz (i0 _)]
  have g1:Zh (XA false) (Za 8) (Za 7) (sL ns n ts ps c x6 (some v) (some v))=some (.bl true):=by
   show XA false v v=_
   exact Rk false hcc
  have g2:Zh (XA false) (Zg Z5 [(Za 1),(Za 3)]) (Zg Yk [(Za 2),(Za 1)]) (sL ns n ts ps c x6 (some v) (some v))=some (.bl true):=by
   rw[ZF,ZH,ZH]
   show(Z5 [.int (n:Int),.lst (ts.map Zs)]).bind (fun a=>(Yk [dP ts,.int (n:Int)]).bind fun b=>XA false a b)=_
   rw[ew,sq]
   exact Rk false (NG 5 _ _)
  have g3:Ph (Zh (XA false) (Za 8) (Za 7)) (Zh (XA false) (Zg Z5 [(Za 1),(Za 3)]) (Zg Yk [(Za 2),(Za 1)])) (sL ns n ts ps c x6 (some v) (some v))=some (.bl true):=by
   unfold Ph;rw[YS,g1,g2];rfl
  rw[Xh,YR,g3];rfl
 ·rw[Zz (e8 _ hd),Zz (e9 _ _ ht)]
  have W:=Tw oku hgu h1 h7 lu;have SQ:=R1 oku h7
  obtain⟨x,y,z,el⟩:=M5 (v0:=some (.cst (iL ns))) (v1:=some (.int (n:Int))) (v2:=some (dP ts)) (v3:=some (.lst (ts.map Zs))) (v4:=some (.lst (ps.map zP))) (v5:=some (.int (M:Int))) (v6:=x6) (v7:=some .non) (v8:=some .non) oku lu (by rw[eu])
  have i1:YC (xB (X3 true (Za 8))) (Yd (eP (eC (.bl false)))) Zp (sL ns n ts ps (M:Int) x6 (some .non) (some .non))=some (.nx (sL ns n ts ps (M:Int) x6 (some .non) (some .non))):=rfl
  have i2:Zm 9 (eC (.dT [] [])) (sL ns n ts ps (M:Int) x6 (some .non) (some .non))=some (.nx [some (.cst (iL ns)),some (.int (n:Int)),some (dP ts),some (.lst (ts.map Zs)),some (.lst (ps.map zP)),some (.int (M:Int)),x6,some .non,some .non,some (.dT [] []),none,none,none]):=rfl
  have i3:Yd (eP (Zh (XA false) (Zg Z5 [(Za 5),(Za 4)]) (Zg Yk [(Za 9),(Za 5)]))) [some (.cst (iL ns)),some (.int (n:Int)),some (dP ts),some (.lst (ts.map Zs)),some (.lst (ps.map zP)),some (.int (M:Int)),x6,some .non,some .non,some (dP us),x,y,z]=some (.rt (.bl true)):=by
   have:Zh (XA false) (Zg Z5 [(Za 5),(Za 4)]) (Zg Yk [(Za 9),(Za 5)]) [some (.cst (iL ns)),some (.int (n:Int)),some (dP ts),some (.lst (ts.map Zs)),some (.lst (ps.map zP)),some (.int (M:Int)),x6,some .non,some .non,some (dP us),x,y,z]=some (.bl true):=by
    rw[ZF,ZH,ZH]
    show(Z5 [.int (M:Int),.lst (ps.map zP)]).bind (fun a=>(Yk [dP us,.int (M:Int)]).bind fun b=>XA false a b)=_
    rw[eu,W,SQ]
    exact Rk false (NG 5 _ _)
   rw[Xh,YR,this];rfl
  have t0:xB (X3 false (Za 7)) (sL ns n ts ps (M:Int) x6 (some .non) (some .non))=some true:=rfl
  rw[ZI,ZQ,t0];simp only[Option.bind_some,if_true];rw[Zz i1,Zz i2,Zz el,i3];rfl
end PW
namespace PW
open PySem L2 VL
theorem cst_mk{K:PySem.W.Frag}{h:Heap}{mg:Str->Option Value}{x:Str}{v:Int}{t:Tok}(X:K.In h)(G:h.Ns mainGlobals mg)(y:PySem.W.nsIn K mainGlobals x=some (some (.int v t))):H9 mg x v:=⟨t,PySem.W.mg_of X G y⟩
section
open PySem.Spec PyProof.Rows VX
variable {P:Program} {w:World} {K:PySem.W.Frag} {mg:Str->Option Value} {base:Heap}
abbrev VV:Stmt:=IH 0 (P2 2)
theorem Kz{C Cb fI:Addr}{fd:FuncData}(Fn:Fun K "__init__" "NoWeb.__init__" VV fI fd)(ex:exiIn K C veT "ValueError.__new__" fI=true)(BI:BInit K Cb "ValueError.__init__")(mB:mg "PurseError" = some (.ref Cb))(sa:PySem.W.findIn K (.ref C) "__setattr__" = some (some (.builtin "object.__setattr__")))(ve:veOver K C=true)(tk:PySem.W.takerIn K C "place" = some none)(hd:(PySem.W.clsIn K C).any (·.hasDict)=true) :
  Vg P w K mg base QT 1 fI fd ["self","place"] (FH C "place"):=
 Fn.ok (k:=0) (N:=["self","place"]) ⟨rfl,rfl,rfl,by decide +kernel,rfl,by decide +kernel,by decide +kernel⟩ (fun _ _ _ _ h=>h.1) fun cdv A outer s H vs Q E hr h=>by
  refine⟨_,Vd (Xz (Pw (pl:=?pl) F.excBase_ValueError BI ex rfl mB rfl (Yb (pv 0) (Yb (NN hr (pv 1)) Y9)))) (TY (NM ex sa ve tk hd rfl (pv 0) (pv 1))),?_⟩
  exact RY (a:="self") (b:="place") h
abbrev VZ:Stmt:=IH 0 (P2 3)
theorem KA{C Cb fI:Addr}{fd:FuncData}(Fn:Fun K "__init__" "Apart.__init__" VZ fI fd)(ex:exiIn K C veT "ValueError.__new__" fI=true)(BI:BInit K Cb "ValueError.__init__")(mB:mg "PurseError" = some (.ref Cb))(sa:PySem.W.findIn K (.ref C) "__setattr__" = some (some (.builtin "object.__setattr__")))(ve:veOver K C=true)(tk:PySem.W.takerIn K C "houses" = some none)(hd:(PySem.W.clsIn K C).any (·.hasDict)=true) :
  Vg P w K mg base QT 1 fI fd ["self","houses"] (FH C "houses"):=
 Fn.ok (k:=0) (N:=["self","houses"]) ⟨rfl,rfl,rfl,by decide +kernel,rfl,by decide +kernel,by decide +kernel⟩ (fun _ _ _ _ h=>h.1) fun cdv A outer s H vs Q E hr h=>by
  refine⟨_,Vd (Xz (Pw (pl:=?pl) F.excBase_ValueError BI ex rfl mB rfl (Yb (pv 0) (Yb (NN hr (pv 1)) Y9)))) (TY (NM ex sa ve tk hd rfl (pv 0) (pv 1))),?_⟩
  exact RY (a:="self") (b:="houses") h
end
theorem all_mk{P:Program}{w:World}{K:PySem.W.Frag}{h:Heap}{mg:Str->Option Value}{fa:Addr}(X:K.In h)(G:h.Ns mainGlobals mg)(hfa:mg "law" = some (.ref fa))(B:P1 mg)
  (Z_MOST_HOUSES:H9 mg "MOST_HOUSES" 7)
  (Z_MOST_TIMES:H9 mg "MOST_TIMES" 9)
  (d0:Def K mg "_law_cell" S6)
  (d1:Def K mg "_law_renamed" Vx)
  (d2:Def K mg "_law_read_times" X9)
  (d3:Def K mg "_law_times" Ts)
  (d4:Def K mg "_law_due" QP)
  (d5:Def K mg "_law_kind" S7)
  (d6:Def K mg "reached" Tt)
  (d7:Def K mg "fits" OT)
  (d8:Def K mg "web_of" UX)
  (d9:Def K mg "_law_whole" Tu)
  (d10:Def K mg "_law_refused" Vy)
  (d11:Def K mg "_law_changed" Vz)
  (d12:Def K mg "_law_square" Uq)
  (d13:Def K mg "law" Ka)
  {CNoWeb CApart CNoText CNoOrder CTooMany CNotSettled CNoTree CNoTotal CNoEnds CNoRow CNoName Cb fW fA:Addr} {odW anW odA anA:Option Addr} {slW slA:Array (Option Value)} {kVW dcW pmW cdW ctW kVA dcA pmA cdA ctA:Value}
  (qNoWeb:PySem.W.nsIn K mainGlobals "NoWeb" = some (some (.ref CNoWeb)))
  (qApart:PySem.W.nsIn K mainGlobals "Apart" = some (some (.ref CApart)))
  (qNoText:PySem.W.nsIn K mainGlobals "NoText" = some (some (.ref CNoText)))
  (qNoOrder:PySem.W.nsIn K mainGlobals "NoOrder" = some (some (.ref CNoOrder)))
  (qTooMany:PySem.W.nsIn K mainGlobals "TooMany" = some (some (.ref CTooMany)))
  (qNotSettled:PySem.W.nsIn K mainGlobals "NotSettled" = some (some (.ref CNotSettled)))
  (qNoTree:PySem.W.nsIn K mainGlobals "NoTree" = some (some (.ref CNoTree)))
  (qNoTotal:PySem.W.nsIn K mainGlobals "NoTotal" = some (some (.ref CNoTotal)))
  (qNoEnds:PySem.W.nsIn K mainGlobals "NoEnds" = some (some (.ref CNoEnds)))
  (qNoRow:PySem.W.nsIn K mainGlobals "NoRow" = some (some (.ref CNoRow)))
  (qNoName:PySem.W.nsIn K mainGlobals "NoName" = some (some (.ref CNoName)))
  (qB:PySem.W.nsIn K mainGlobals "PurseError" = some (some (.ref Cb)))
  (xB:PySem.W.ktsIn K Cb "BaseException" = true)
  (g1:PySem.W.specialIn K (.ref Cb) "__getattribute__" = some (some (.builtin "type.__getattribute__")))
  (g2:PySem.W.readsIn K Cb (.type "type")=true)
  (g3:PySem.W.findCls K (.ref Cb) (.type "type") "__init__" = some (.val (.builtin "ValueError.__init__")))
  (iW:PySem.W.findIn K (.ref CNoWeb) "__init__" = some (some (.ref fW)))
  (lW:K.lookup fW=some ⟨.type "function",odW,.func (PySem.W.fnOf "__init__" "NoWeb.__init__" (YT VV) (Z7 VV) (Zl VV) .none kVW dcW pmW anW cdW ctW),slW⟩)
  (cW:PySem.W.codeIn K cdW "NoWeb.__init__" = true)
  (kW:PySem.W.keepIn K (.ref fW)=true)
  (eW:VX.exiIn K CNoWeb VX.veT "ValueError.__new__" fW=true)
  (sW:PySem.W.findIn K (.ref CNoWeb) "__setattr__" = some (some (.builtin "object.__setattr__")))
  (vW:VX.veOver K CNoWeb=true)
  (uW:PySem.W.takerIn K CNoWeb "place" = some none)
  (hW:(PySem.W.clsIn K CNoWeb).any (·.hasDict)=true)
  (bW:VX.belowIn K CNoWeb Cb=true)
  (nW:PySem.W.findIn K (.ref CNoWeb) "place" = some none)
  (x1W:PySem.W.ktsIn K CNoWeb "BaseException" = true)
  (x4W:PySem.W.findIn K (.ref CNoWeb) "__getattribute__" = some (some (.builtin "BaseException.__getattribute__")))
  (x5W:PySem.W.findIn K (.ref CNoWeb) "__getattr__" = some none)
  (x6W:PySem.W.findIn K (.ref CNoWeb) "__class__" = some (some (.builtin "object.__class__")))
  (x7W:PySem.W.mroIn K CNoWeb (.type "object")=some true)
  (x8W:PySem.W.kitOne K (.ref CNoWeb) (.type "ValueError")=some true)
  (tNoWebW:PySem.W.kitOne K (.ref CNoWeb) (.ref CNoWeb)=some true)
  (tApartW:PySem.W.kitOne K (.ref CNoWeb) (.ref CApart)=some false)
  (tNoTextW:PySem.W.kitOne K (.ref CNoWeb) (.ref CNoText)=some false)
  (tNoOrderW:PySem.W.kitOne K (.ref CNoWeb) (.ref CNoOrder)=some false)
  (tTooManyW:PySem.W.kitOne K (.ref CNoWeb) (.ref CTooMany)=some false)
  (tNotSettledW:PySem.W.kitOne K (.ref CNoWeb) (.ref CNotSettled)=some false)
  (tNoTreeW:PySem.W.kitOne K (.ref CNoWeb) (.ref CNoTree)=some false)
  (tNoTotalW:PySem.W.kitOne K (.ref CNoWeb) (.ref CNoTotal)=some false)
  (tNoEndsW:PySem.W.kitOne K (.ref CNoWeb) (.ref CNoEnds)=some false)
  (tNoRowW:PySem.W.kitOne K (.ref CNoWeb) (.ref CNoRow)=some false)
  (tNoNameW:PySem.W.kitOne K (.ref CNoWeb) (.ref CNoName)=some false)
  (iA:PySem.W.findIn K (.ref CApart) "__init__" = some (some (.ref fA)))
  (lA:K.lookup fA=some ⟨.type "function",odA,.func (PySem.W.fnOf "__init__" "Apart.__init__" (YT VZ) (Z7 VZ) (Zl VZ) .none kVA dcA pmA anA cdA ctA),slA⟩)
  (cA:PySem.W.codeIn K cdA "Apart.__init__" = true)
  (kA:PySem.W.keepIn K (.ref fA)=true)
  (eA:VX.exiIn K CApart VX.veT "ValueError.__new__" fA=true)
  (sA:PySem.W.findIn K (.ref CApart) "__setattr__" = some (some (.builtin "object.__setattr__")))
  (vA:VX.veOver K CApart=true)
  (uA:PySem.W.takerIn K CApart "houses" = some none)
  (hA:(PySem.W.clsIn K CApart).any (·.hasDict)=true)
  (bA:VX.belowIn K CApart Cb=true)
  (nA:PySem.W.findIn K (.ref CApart) "houses" = some none)
  (x1A:PySem.W.ktsIn K CApart "BaseException" = true)
  (x4A:PySem.W.findIn K (.ref CApart) "__getattribute__" = some (some (.builtin "BaseException.__getattribute__")))
  (x5A:PySem.W.findIn K (.ref CApart) "__getattr__" = some none)
  (x6A:PySem.W.findIn K (.ref CApart) "__class__" = some (some (.builtin "object.__class__")))
  (x7A:PySem.W.mroIn K CApart (.type "object")=some true)
  (x8A:PySem.W.kitOne K (.ref CApart) (.type "ValueError")=some true)
  (tNoWebA:PySem.W.kitOne K (.ref CApart) (.ref CNoWeb)=some false)
  (tApartA:PySem.W.kitOne K (.ref CApart) (.ref CApart)=some true)
  (tNoTextA:PySem.W.kitOne K (.ref CApart) (.ref CNoText)=some false)
  (tNoOrderA:PySem.W.kitOne K (.ref CApart) (.ref CNoOrder)=some false)
  (tTooManyA:PySem.W.kitOne K (.ref CApart) (.ref CTooMany)=some false)
  (tNotSettledA:PySem.W.kitOne K (.ref CApart) (.ref CNotSettled)=some false)
  (tNoTreeA:PySem.W.kitOne K (.ref CApart) (.ref CNoTree)=some false)
  (tNoTotalA:PySem.W.kitOne K (.ref CApart) (.ref CNoTotal)=some false)
  (tNoEndsA:PySem.W.kitOne K (.ref CApart) (.ref CNoEnds)=some false)
  (tNoRowA:PySem.W.kitOne K (.ref CApart) (.ref CNoRow)=some false)
  (tNoNameA:PySem.W.kitOne K (.ref CApart) (.ref CNoName)=some false)
  : ∃fd:FuncData,(∀(s:Shared)(u:Value),BindsTo s fd ⟨[u],[]⟩ [("_law_script",u)])/\∀base:Heap,K.In base->base.Ns mainGlobals mg->Vg P w K mg base QT 5 fa fd ["_law_script"] (Wg K D_law 1):=by
 have mB:=PySem.W.mg_of X G qB
 have BI:VX.BInit K Cb "ValueError.__init__":=⟨g1,g2,g3⟩
 have FW:Fun K "__init__" "NoWeb.__init__" VV fW _:=Oi (st:=VV) lW cW kW
 have QW:∀base:Heap,VX.QF "NoWeb" P w K mg base CNoWeb Cb:=fun base=>
  ⟨qNoWeb,PySem.W.mg_of X G qNoWeb,⟨fW,_,_,eW,lW,rfl,FW.binds (fun _ _ _ _ _ _ us hl=>match us,hl with | [_,_],_=>rfl),Kz FW eW BI mB sW vW uW hW⟩,⟨qNoWeb,⟨x4W,x5W,x6W,x7W,x1W⟩,nW,hW⟩,bW,fun cx hc=>by
   unfold VX.nms at hc;simp only[List.mem_cons,List.not_mem_nil,or_false] at hc
   rcases hc with rfl | rfl | rfl | rfl | rfl | rfl | rfl | rfl | rfl | rfl | rfl
   ·exact⟨CNoWeb,PySem.W.mg_of X G qNoWeb,tNoWebW⟩
   ·exact⟨CApart,PySem.W.mg_of X G qApart,tApartW⟩
   ·exact⟨CNoText,PySem.W.mg_of X G qNoText,tNoTextW⟩
   ·exact⟨CNoOrder,PySem.W.mg_of X G qNoOrder,tNoOrderW⟩
   ·exact⟨CTooMany,PySem.W.mg_of X G qTooMany,tTooManyW⟩
   ·exact⟨CNotSettled,PySem.W.mg_of X G qNotSettled,tNotSettledW⟩
   ·exact⟨CNoTree,PySem.W.mg_of X G qNoTree,tNoTreeW⟩
   ·exact⟨CNoTotal,PySem.W.mg_of X G qNoTotal,tNoTotalW⟩
   ·exact⟨CNoEnds,PySem.W.mg_of X G qNoEnds,tNoEndsW⟩
   ·exact⟨CNoRow,PySem.W.mg_of X G qNoRow,tNoRowW⟩
   ·exact⟨CNoName,PySem.W.mg_of X G qNoName,tNoNameW⟩,x8W⟩
 have FA:Fun K "__init__" "Apart.__init__" VZ fA _:=Oi (st:=VZ) lA cA kA
 have QA:∀base:Heap,VX.QF "Apart" P w K mg base CApart Cb:=fun base=>
  ⟨qApart,PySem.W.mg_of X G qApart,⟨fA,_,_,eA,lA,rfl,FA.binds (fun _ _ _ _ _ _ us hl=>match us,hl with | [_,_],_=>rfl),KA FA eA BI mB sA vA uA hA⟩,⟨qApart,⟨x4A,x5A,x6A,x7A,x1A⟩,nA,hA⟩,bA,fun cx hc=>by
   unfold VX.nms at hc;simp only[List.mem_cons,List.not_mem_nil,or_false] at hc
   rcases hc with rfl | rfl | rfl | rfl | rfl | rfl | rfl | rfl | rfl | rfl | rfl
   ·exact⟨CNoWeb,PySem.W.mg_of X G qNoWeb,tNoWebA⟩
   ·exact⟨CApart,PySem.W.mg_of X G qApart,tApartA⟩
   ·exact⟨CNoText,PySem.W.mg_of X G qNoText,tNoTextA⟩
   ·exact⟨CNoOrder,PySem.W.mg_of X G qNoOrder,tNoOrderA⟩
   ·exact⟨CTooMany,PySem.W.mg_of X G qTooMany,tTooManyA⟩
   ·exact⟨CNotSettled,PySem.W.mg_of X G qNotSettled,tNotSettledA⟩
   ·exact⟨CNoTree,PySem.W.mg_of X G qNoTree,tNoTreeA⟩
   ·exact⟨CNoTotal,PySem.W.mg_of X G qNoTotal,tNoTotalA⟩
   ·exact⟨CNoEnds,PySem.W.mg_of X G qNoEnds,tNoEndsA⟩
   ·exact⟨CNoRow,PySem.W.mg_of X G qNoRow,tNoRowA⟩
   ·exact⟨CNoName,PySem.W.mg_of X G qNoName,tNoNameA⟩,x8A⟩
 refine LM d13 hfa (fun _ _ _ _ _ _ _=>rfl) fun base f fd _ _ F=>?_
 have Q:VX.Q2 P w K mg base CNoWeb CApart Cb:=⟨mB,xB,QW base,QA base⟩
 have C_l_cell:=MW (P:=P) (w:=w) (base:=base) d0 B
 have C_l_renamed:=QO (P:=P) (w:=w) (base:=base) d1 B
 have C_l_read_times:=TX (P:=P) (w:=w) (base:=base) d2 B
 have C_l_times:=OR (P:=P) (w:=w) (base:=base) d3 B C_l_cell C_l_read_times C_l_renamed
 have C_l_due:=L9 (P:=P) (w:=w) (base:=base) d4 B
 have C_l_kind:=MX (P:=P) (w:=w) (base:=base) d5 B  Q
 have C_reached:=OS (P:=P) (w:=w) (base:=base) d6 B
 have C_fits:=JZ (P:=P) (w:=w) (base:=base) d7 B Z_MOST_TIMES
 have C_web_of:=MY (P:=P) (w:=w) (base:=base) d8 B Z_MOST_HOUSES C_fits C_reached
 have X_web_of:=OU (P:=P) (w:=w) (base:=base) d8 B Q Z_MOST_HOUSES C_fits C_reached
 have C_l_whole:=OW (P:=P) (w:=w) (base:=base) d9 B
 have C_l_refused:=QQ (P:=P) (w:=w) (base:=base) d10 B C_web_of C_l_kind C_l_whole Q X_web_of
 have C_l_changed:=QR (P:=P) (w:=w) (base:=base) d11 B
 have C_l_square:=PL (P:=P) (w:=w) (base:=base) d12 B
 exact Gi F B C_l_cell C_l_times C_l_changed C_l_due C_l_refused C_web_of C_l_square
end PW
def PySem.W.Fast.tw11702465018267142115:Unit:=()
def PySem.W.Fast.tw12139480962847315916:Unit:=()
def PySem.W.Fast.tw2379042803233025990:Unit:=()
def PySem.W.Fast.tw13352967277643665827:Unit:=()
def PySem.W.Fast.tw443733793790639025:Unit:=()
def PySem.W.Fast.tw14024228520118311214:Unit:=()
def PySem.W.Fast.tw12674907965345724254:Unit:=()
def PySem.W.Fast.tw15218672103465666235:Unit:=()
def PySem.W.Fast.tw8472964739146086435:Unit:=()
def PySem.W.Fast.tw1075808382211469715:Unit:=()
def PySem.W.Fast.tw104913906810361999:Unit:=()
def PySem.W.Fast.tw6922097340335687890:Unit:=()
def PySem.W.Fast.tw15342464988485839908:Unit:=()
def PySem.W.Fast.tw3579315347924218258:Unit:=()
open PySem PySem.W PyProof.Rows
set_option maxRecDepth 100000 in
set_option maxHeartbeats 0 in
theorem PySem.Challenge.cw_purseweb_k02_webs_refused_holds : PySem.Challenge.rw_purseweb_k02_webs_refused.Holds := by
 w_on;o_law;k_head;(case hw=>w_witness2)
 k_fill
 refine VL.law_walk (l:=PySem.Challenge.rw_purseweb_k02_webs_refused) (D:=PW.D_law) (x:="_law_script") 5 rfl rfl ⟨rfl,by decide,by decide,rfl⟩ PW.law_true (fun w h Y=>PySem.W.kIn_of Y) ?F
 case F=>
  intro w mg fa h KX G hmg
  refine' PW.all_mk KX G hmg ?B ?Z0 ?Z1 ?d0 ?d1 ?d2 ?d3 ?d4 ?d5 ?d6 ?d7 ?d8 ?d9 ?d10 ?d11 ?d12 ?d13 ?qNoWeb ?qApart ?qNoText ?qNoOrder ?qTooMany ?qNotSettled ?qNoTree ?qNoTotal ?qNoEnds ?qNoRow ?qNoName ?qB ?xB ?g1 ?g2 ?g3 ?iW ?lW ?cW ?kW ?eW ?sW ?vW ?uW ?hW ?bW ?nW ?x1W ?x4W ?x5W ?x6W ?x7W ?x8W ?tNoWebW ?tApartW ?tNoTextW ?tNoOrderW ?tTooManyW ?tNotSettledW ?tNoTreeW ?tNoTotalW ?tNoEndsW ?tNoRowW ?tNoNameW ?iA ?lA ?cA ?kA ?eA ?sA ?vA ?uA ?hA ?bA ?nA ?x1A ?x4A ?x5A ?x6A ?x7A ?x8A ?tNoWebA ?tApartA ?tNoTextA ?tNoOrderA ?tTooManyA ?tNotSettledA ?tNoTreeA ?tNoTotalA ?tNoEndsA ?tNoRowA ?tNoNameA
  case B=>constructor<;>(refine PySem.W.mg_none_of KX G ?_;k_is)
  case Z0 | Z1=>(refine' PW.cst_mk KX G ?y;(case y=>k_is))
  case d0 | d1 | d2 | d3 | d4 | d5 | d6 | d7 | d8 | d9 | d10 | d11 | d12 | d13=>(refine' L2.def_mk KX G ?a ?l ?c ?k;(case a=>k_is);(case l=>k_is);(case c=>k_is);(case k=>k_is))
  (case qNoWeb=>k_is)
  (case qApart=>k_is)
  (case qNoText=>k_is)
  (case qNoOrder=>k_is)
  (case qTooMany=>k_is)
  (case qNotSettled=>k_is)
  (case qNoTree=>k_is)
  (case qNoTotal=>k_is)
  (case qNoEnds=>k_is)
  (case qNoRow=>k_is)
  (case qNoName=>k_is)
  (case qB=>k_is)
  (case xB=>kernel_rfl)
  (case g1=>kernel_rfl)
  (case g2=>kernel_rfl)
  (case g3=>kernel_rfl)
  (case iW=>k_is)
  (case lW=>k_is)
  (case cW=>k_is)
  (case kW=>k_is)
  (case eW=>kernel_rfl)
  (case sW=>k_is)
  (case vW=>kernel_rfl)
  (case uW=>kernel_rfl)
  (case hW=>kernel_rfl)
  (case bW=>kernel_rfl)
  (case nW=>k_is)
  (case x1W=>kernel_rfl)
  (case x4W=>k_is)
  (case x5W=>k_is)
  (case x6W=>k_is)
  (case x7W=>k_is)
  (case x8W=>kernel_rfl)
  (case tNoWebW=>kernel_rfl)
  (case tApartW=>kernel_rfl)
  (case tNoTextW=>kernel_rfl)
  (case tNoOrderW=>kernel_rfl)
  (case tTooManyW=>kernel_rfl)
  (case tNotSettledW=>kernel_rfl)
  (case tNoTreeW=>kernel_rfl)
  (case tNoTotalW=>kernel_rfl)
  (case tNoEndsW=>kernel_rfl)
  (case tNoRowW=>kernel_rfl)
  (case tNoNameW=>kernel_rfl)
  (case iA=>k_is)
  (case lA=>k_is)
  (case cA=>k_is)
  (case kA=>k_is)
  (case eA=>kernel_rfl)
  (case sA=>k_is)
  (case vA=>kernel_rfl)
  (case uA=>kernel_rfl)
  (case hA=>kernel_rfl)
  (case bA=>kernel_rfl)
  (case nA=>k_is)
  (case x1A=>kernel_rfl)
  (case x4A=>k_is)
  (case x5A=>k_is)
  (case x6A=>k_is)
  (case x7A=>k_is)
  (case x8A=>kernel_rfl)
  (case tNoWebA=>kernel_rfl)
  (case tApartA=>kernel_rfl)
  (case tNoTextA=>kernel_rfl)
  (case tNoOrderA=>kernel_rfl)
  (case tTooManyA=>kernel_rfl)
  (case tNotSettledA=>kernel_rfl)
  (case tNoTreeA=>kernel_rfl)
  (case tNoTotalA=>kernel_rfl)
  (case tNoEndsA=>kernel_rfl)
  (case tNoRowA=>kernel_rfl)
  (case tNoNameA=>kernel_rfl)
