import PyProof.Rows.All
import Wide.All
import OpenK.AllK
import Wide.FinOn
import Lean
import PyProof.EqAt
import PyProof.EqKinds
import PyProof.TupleCall
import PyProof.NeKinds
import PyProof.ListMulRoad
import PyProof.WalkInts
import PyProof.ListRange
import KE.KRevIter
import PySem.Challenge.RW_purseweb_k03_webs_written
set_option Elab.async false
set_option linter.all false
set_option maxRecDepth 100000
namespace L2
open PySem PySem.Spec PyProof.Rows
abbrev Yi:=Sum Int Str
def SU:Yi->Value->Bool
 | .inl k,v=>Value.isInt k v
 | .inr x,v=>Value.isStrOf x v
def Gn(w:World):Yi->Int
 | .inl k=>hashInt k
 | .inr x=>hashStr w x
theorem Z7:∀{k:Yi}{v:Value},SU k v=true->(∃i t,k=Sum.inl i/\v=Value.int i t)\/(∃x t,k=Sum.inr x/\v=Value.str x t)
 | .inl i,v,h=>by
  obtain⟨t,e⟩:=Value.isInt_shape (k:=i) (v:=v) h
  exact .inl ⟨i,t,rfl,e⟩
 | .inr x,v,h=>by
  obtain⟨t,e⟩:=Value.isStrOf_shape (x:=x) (v:=v) h
  exact .inr ⟨x,t,rfl,e⟩
theorem O9(i:Int)(t:Tok):SU (.inl i) (.int i t)=true:=by simp[SU,Value.isInt]
theorem Na(x:Str)(t:Tok):SU (.inr x) (.str x t)=true:=by simp[SU,Value.isStrOf]
theorem Jy(a b:Int):decide ((Sum.inl a:Yi)=Sum.inl b)=(a==b):=by
 by_cases e:a=b
 ·subst e;simp
 ·have h:¬(Sum.inl a:Yi)=Sum.inl b:=fun q=>e (Sum.inl.inj q)
  rw[decide_eq_false h]
  exact(beq_eq_false_iff_ne.mpr e).symm
theorem Jz(a b:Str):decide ((Sum.inr a:Yi)=Sum.inr b)=decide (a=b):=by
 by_cases e:a=b
 ·subst e;simp
 ·have h:¬(Sum.inr a:Yi)=Sum.inr b:=fun q=>e (Sum.inr.inj q)
  rw[decide_eq_false h,decide_eq_false e]
theorem JA(a:Int)(b:Str):decide ((Sum.inl a:Yi)=Sum.inr b)=false:=decide_eq_false (fun q=>nomatch q)
theorem JB(a:Str)(b:Int):decide ((Sum.inr a:Yi)=Sum.inl b)=false:=decide_eq_false (fun q=>nomatch q)
def Ym(prog:Program)(w:World):PySem.KeyKind prog w Yi where
 is:=SU
 hash:=Gn w
 inj:=fun v a b ha hb=>by
  rcases Z7 ha with⟨i,t,rfl,rfl⟩ | ⟨x,t,rfl,rfl⟩
  ·rcases Z7 hb with⟨j,u,rfl,e⟩ | ⟨y,u,rfl,e⟩
   ·injection e with e1 _;rw[e1]
   ·exact nomatch e
  ·rcases Z7 hb with⟨j,u,rfl,e⟩ | ⟨y,u,rfl,e⟩
   ·exact nomatch e
   ·injection e with e1 _;rw[e1]
 byValue:=fun k v h=>by
  rcases Z7 h with⟨i,t,rfl,rfl⟩ | ⟨x,t,rfl,rfl⟩<;>rfl
 pyHash:=fun hv h=>by
  rcases Z7 hv with⟨i,t,rfl,rfl⟩ | ⟨x,t,rfl,rfl⟩
  ·exact wpAny_pyHash_int h
  ·exact wpAny_pyHash_str h
 eqBool:=fun hu hv h=>by
  rcases Z7 hu with⟨i,t,rfl,rfl⟩ | ⟨x,t,rfl,rfl⟩
  ·rcases Z7 hv with⟨j,u,rfl,rfl⟩ | ⟨y,u,rfl,rfl⟩
   ·rw[Jy] at h;exact wpAny_eqBool_int h
   ·rw[JA] at h;exact SeqAt.EqAt.int_str i t y u _ _ _ _ h
  ·rcases Z7 hv with⟨j,u,rfl,rfl⟩ | ⟨y,u,rfl,rfl⟩
   ·rw[JB] at h;exact SeqAt.EqAt.str_int x t j u _ _ _ _ h
   ·rw[Jz] at h;exact wpAny_eqBool_str h
 «strs»:=fun k x t v h=>by
  rcases Z7 h with⟨i,u,rfl,e⟩ | ⟨y,u,rfl,e⟩
  ·exact nomatch e
  ·injection e with e1 _
   subst e1
   cases v<;>rfl
theorem Qj(prog:Program)(w:World)(i:Int)(t:Tok):(Ym prog w).is (.inl i) (.int i t)=true:=O9 i t
theorem Qk(prog:Program)(w:World)(x:Str)(t:Tok):(Ym prog w).is (.inr x) (.str x t)=true:=Na x t
inductive V where
 | non | bl (b:Bool) | int (i:Int) | str (x:Str) | byt (b:Array UInt8) | flt (b:UInt64) | ref (a:Addr) | ty (n:String)
 deriving DecidableEq
def RelV:V->Value->Prop
 | .non,u=>u=Value.none
 | .bl b,u=>u=Value.bool b
 | .int i,u=>∃t,u=Value.int i t
 | .str x,u=>∃t,u=Value.str x t
 | .byt b,u=>∃t,u=Value.bytes b t
 | .flt b,u=>∃t,u=Value.float b t
 | .ref a,u=>u=Value.ref a
 | .ty n,u=>u=Value.type n
abbrev Vals:List V->List Value->Prop:=Paired RelV
theorem Vals.length{xs:List V}{us:List Value}(r:Vals xs us):xs.length=us.length:=Paired.length r
theorem Vals.get:∀{xs:List V}{us:List Value}{i:Nat}{x:V},Vals xs us->xs[i]?=some x->∃u,us[i]?=some u/\RelV x u
 | _,_,_,_,.nil,e=>by simp at e
 | _,_,0,_,.cons r _,e=>by simp at e;subst e;exact⟨_,rfl,r⟩
 | _,_,i+1,x,.cons _ t,e=>by
  obtain⟨u,h1,h2⟩:=Vals.get (i:=i) (x:=x) t (by simpa using e)
  exact⟨u,by simpa using h1,h2⟩
theorem Vals.set{x:V}{u:Value}(r:RelV x u):∀{xs:List V}{us:List Value}(i:Nat),Vals xs us->Vals (xs.set i x) (us.set i u)
 | _,_,_,.nil=>.nil
 | _,_,0,.cons _ t=>.cons r t
 | _,_,i+1,.cons q t=>.cons q (Vals.set r i t)
theorem Vals.append:∀{xs ys:List V}{us ws:List Value},Vals xs us->Vals ys ws->Vals (xs++ys) (us++ws)
 | _,_,_,_,.nil,s=>s
 | _,_,_,_,.cons r t,s=>.cons r (Vals.append t s)
theorem Vals.take:∀{xs:List V}{us:List Value}(n:Nat),Vals xs us->Vals (xs.take n) (us.take n)
 | _,_,0,_=>.nil
 | _,_,_+1,.nil=>.nil
 | _,_,n+1,.cons r t=>.cons r (Vals.take n t)
theorem Vals.drop:∀{xs:List V}{us:List Value}(n:Nat),Vals xs us->Vals (xs.drop n) (us.drop n)
 | _,_,0,r=>r
 | _,_,_+1,.nil=>.nil
 | _,_,n+1,.cons _ t=>Vals.drop n t
def RelO:Option V->Option Value->Prop
 | some v,some u=>RelV v u
 | none,none=>True
 | _,_=>False
def KV{κ:Type}:List (κ×V)->List (κ×Value)->Prop:=Paired fun(p:κ×V) (q:κ×Value)=>p.1=q.1/\RelV p.2 q.2
def kV:Yi->V
 | .inl i=>.int i
 | .inr x=>.str x
inductive HO where
 /-- a list -/
 | lst (xs:List V)
 /-- a tuple (never changes) -/
 | tup (xs:List V)
 /-- a dict whose keys are ints and texts;one whose keys are tuples of ints and texts (the empty one is both) -/
 | dK (kvs:List (Yi×V)) | dT (kvs:List (List Yi×V))
 /-- a set of ints: its members,its size -/
 | set (S:Int->Bool) (n:Nat)
 /-- an instance of the class at C,its dict at dx,its attributes -/
 | ins (C dx:Addr) (fs:List (Str×V))
 /-- the dict of the instance at x -/
 | own (x:Addr)
 /-- the dict of an exception -/
 | xd (fs:List (Str×V))
 /-- a bound method,f of x -/
 | met (f x:Addr)
 /-- a range object lo,lo+1,.. below hi -/
 | rng (lo hi:Int)
 /-- a thing that is known to the object (the script;a dict while a loop walks it): read,never written while it is so -/
 | frz (o:Obj) (u:HO)
 /-- a code object's table -/
 | tbl (ps:Array Value)
 /-- any other thing,by what is true of its one object (a def of one's own: SetO a S n:=HO.ext fun h=>..) -/
 | ext (φ:Heap->Prop)
abbrev Hp:=Addr->Option HO
def upd(H:Hp)(a:Addr)(o:HO):Hp:=fun b=>if b=a then some o else H b
theorem upd_same{H:Hp}{a:Addr}{o:HO}:upd H a o a=some o:=by unfold upd;rw[if_pos rfl]
theorem upd_ne{H:Hp}{a b:Addr}{o:HO}(h:b≠a):upd H a o b=H b:=by unfold upd;rw[if_neg h]
theorem IX{H:Hp}{a b:Addr}{o u:HO}(h:H a=some o)(h':H b=some u)(d:o≠u):a≠b:=by
 intro e;subst e;rw[h] at h';exact d (Option.some.inj h')
theorem ZC{H:Hp}{a b:Addr}{o:HO}(h:H a=some o)(h':H b=none):a≠b:=by
 intro e;subst e;rw[h] at h';cases h'
section
variable (P:Program) (w:World)
def ObjOk(H:Hp)(h:Heap)(a:Addr):HO->Prop
 | .lst xs=>xs.length<=sizeLine/\∃(its:List Value) (n:Nat),Vals xs its/\h.get? a=some { cls:=.type "list",data:=.seq its.toArray n }
 | .tup xs=>xs.length<=sizeLine/\∃its:List Value,Vals xs its/\IsTup h a its.toArray
 | .dK kvs=>kvs.length<=sizeLine/\(a==sysModules)=false/\∃vs,KV kvs vs/\h.DictOf (Ym P w) a vs
 | .dT kvs=>kvs.length<=sizeLine/\(a==sysModules)=false/\∃xs:List (List Yi×Addr×Value),
   Paired (fun(p:List Yi×V) (q:List Yi×Addr×Value)=>p.1=q.1/\H q.2.1=some (.tup (p.1.map kV))/\RelV p.2 q.2.2) kvs xs/\
   ∃o es ep,h.get? a=some o/\o.ExactDict/\o.data = .dict es ep/\es.toList=xs.map (entryOfKey (tupleKind (Ym P w)))/\(xs.map (·.1)).Nodup
 | .set S n=>h.SetOf (intKind P w) a S n
 | .ins C dx fs=>H dx=some (.own a)/\fs.length<=1000/\dx≠a/\h.get? a=some (PySem.W.instObj C dx)/\
   ∃mA,h.Ns1 dx mA/\(∀f,RelO (fs.lookup f) (mA f))/\PySem.Within mA (fs.map (·.1))
 | .own _=>∃o,h.get? a=some o
 | .xd fs=>∃mA,h.Ns1 a mA/\∀f,RelO (fs.lookup f) (mA f)
 | .rng lo hi=>∃t u v,h.get? a=some { cls:=.type "range",data:=.fields #[.int lo t,.int hi u,.int 1 v] }
 | .frz o u=>h.get? a=some o/\ObjOk H h a u
 | .tbl ps=>h.get? a=some { cls:=.none,data:=.fields ps }
 | .met f x=>h.get? a=some (PySem.W.methodObj (.ref f) (.ref x))
 | .ext φ=>φ h/\(∃o,h.get? a=some o)/\∀h1 h2:Heap,φ h1->(∀o,h1.get? a=some o->h2.get? a=some o)->φ h2
def HOk(H:Hp)(h:Heap):Prop:=∀a o,H a=some o->ObjOk P w H h a o
end
section
variable {P:Program} {w:World} {H H':Hp} {h h':Heap} {a:Addr} {o:HO}
theorem ObjOk.lt(x:ObjOk P w H h a o):a<h.objs.size:=by
 cases o with
 | lst xs=>obtain⟨_,_,_,_,e⟩:=x;exact Heap.lt_size e
 | tup xs=>obtain⟨_,_,_,p⟩:=x;exact p.lt
 | dK kvs=>obtain⟨_,_,_,_,o,_,_,e,_⟩:=x;exact Heap.lt_size e
 | dT kvs=>obtain⟨_,_,_,_,o,_,_,e,_⟩:=x;exact Heap.lt_size e
 | set S n=>obtain⟨o,_,_,_,e,_⟩:=x;exact Heap.lt_size e
 | ins C dx fs=>obtain⟨_,_,_,e,_⟩:=x;exact Heap.lt_size e
 | own y=>obtain⟨_,e⟩:=x;exact Heap.lt_size e
 | xd fs=>obtain⟨_,⟨_,_,_,e,_⟩,_⟩:=x;exact Heap.lt_size e
 | rng lo hi=>obtain⟨_,_,_,e⟩:=x;exact Heap.lt_size e
 | frz ob u=>obtain⟨e,_⟩:=x;exact Heap.lt_size e
 | tbl ps=>exact Heap.lt_size (show h.get? a=some _ from x)
 | met f y=>exact Heap.lt_size (show h.get? a=some _ from x)
 | ext φ=>obtain⟨_,⟨_,e⟩,_⟩:=x;exact Heap.lt_size e
theorem Paired.mapP{α β:Type}{F G:α->β->Prop}:∀{l₁:List α}{l₂:List β},Paired F l₁ l₂->(∀a b,F a b->G a b)->Paired G l₁ l₂
 | _,_,.nil,_=>.nil
 | _,_,.cons r t,f=>.cons (f _ _ r) (Paired.mapP t f)
theorem ObjOk.stay(x:ObjOk P w H h a o)(k:∀b u,(b=a\/H b=some (.own a))->h.get? b=some u->h'.get? b=some u)
  (ho:∀b,H b=some (.own a)->H' b=some (.own a)) (ht:∀b xs,H b=some (.tup xs)->H' b=some (.tup xs)):ObjOk P w H' h' a o:=by
 induction o with
 | lst xs=>obtain⟨z,its,n,r,e⟩:=x;exact⟨z,its,n,r,k _ _ (.inl rfl) e⟩
 | tup xs=>obtain⟨z,its,r,ob,e,c⟩:=x;exact⟨z,its,r,ob,k _ _ (.inl rfl) e,c⟩
 | dK kvs=>obtain⟨z,y,vs,r,ob,es,ep,e,c⟩:=x;exact⟨z,y,vs,r,ob,es,ep,k _ _ (.inl rfl) e,c⟩
 | dT kvs=>
  obtain⟨z,y,xs,r,ob,es,ep,e,c⟩:=x
  exact⟨z,y,xs,Paired.mapP r fun p q z=>⟨z.1,ht _ _ z.2.1,z.2.2⟩,ob,es,ep,k _ _ (.inl rfl) e,c⟩
 | set S n=>obtain⟨ob,es,ep,t,e,c⟩:=x;exact⟨ob,es,ep,t,k _ _ (.inl rfl) e,c⟩
 | ins C dx fs=>
  obtain⟨d,z,ne,e,mA,⟨od,es,ep,e2,c⟩,r⟩:=x
  exact⟨ho _ d,z,ne,k _ _ (.inl rfl) e,mA,⟨od,es,ep,k _ _ (.inr d) e2,c⟩,r⟩
 | own y=>obtain⟨ob,e⟩:=x;exact⟨ob,k _ _ (.inl rfl) e⟩
 | xd fs=>obtain⟨mA,⟨od,es,ep,e,c⟩,r⟩:=x;exact⟨mA,⟨od,es,ep,k _ _ (.inl rfl) e,c⟩,r⟩
 | rng lo hi=>obtain⟨t,u,v,e⟩:=x;exact⟨t,u,v,k _ _ (.inl rfl) e⟩
 | frz ob u ih=>obtain⟨e,q⟩:=x;exact⟨k _ _ (.inl rfl) e,ih q⟩
 | tbl ps=>
  have e:h.get? a=some { cls:=.none,data:=.fields ps }:=x
  show h'.get? a=some { cls:=.none,data:=.fields ps }
  exact k a _ (.inl rfl) e
 | met f y=>
  have e:h.get? a=some (PySem.W.methodObj (.ref f) (.ref y)):=x
  show h'.get? a=some (PySem.W.methodObj (.ref f) (.ref y))
  exact k a _ (.inl rfl) e
 | ext φ=>obtain⟨p,⟨o,e⟩,st⟩:=x;exact⟨st _ _ p fun o q=>k _ _ (.inl rfl) q,⟨o,k _ _ (.inl rfl) e⟩,st⟩
theorem HOk.lt(x:HOk P w H h)(e:H a=some o):a<h.objs.size:=(x a o e).lt
theorem HOk.fresh(x:HOk P w H h)(e:h.objs.size<=a):H a=none:=by
 cases q:H a with
 | none=>rfl
 | some u=>exact absurd (Nat.lt_of_lt_of_le (x.lt q) e) (Nat.lt_irrefl _)
theorem HOk.kept(x:HOk P w H h)(k:∀b u,h.get? b=some u->h'.get? b=some u):HOk P w H h':=fun a o e=>
 (x a o e).stay (fun b u _ q=>k b u q) (fun _ q=>q) fun _ _ q=>q
theorem HOk.laid(x:HOk P w H h)(k:∀b u,h.get? b=some u->h'.get? b=some u)(hp:h.objs.size<=a)(new:ObjOk P w (upd H a o) h' a o):HOk P w (upd H a o) h':=fun b u e=>by
 have hn:=x.fresh hp
 by_cases hb:b=a
 ·subst hb;rw[upd_same] at e;cases e;exact new
 ·rw[upd_ne hb] at e
  exact(x b u e).stay (fun c v _ q=>k c v q) (fun c q=>by rw[upd_ne (ZC q hn)];exact q) fun c xs q=>by rw[upd_ne (ZC q hn)];exact q
end
def Rd(H:Hp)(a:Addr)(u:HO):Prop:=H a=some u\/∃o,H a=some (.frz o u)
theorem Rd.ok{P:Program}{w:World}{H:Hp}{h:Heap}{a:Addr}{u:HO}(r:Rd H a u)(x:HOk P w H h):ObjOk P w H h a u:=by
 rcases r with r | ⟨o,r⟩
 ·exact x a u r
 ·obtain⟨_,q⟩:=x a _ r
  exact q
def Wj:Option HO->Prop
 | some (.lst _)=>True
 | some (.dK _)=>True
 | some (.dT _)=>True
 | some (.set _ _)=>True
 | some (.ins _ _ _)=>True
 | some (.ext _)=>True
 | _=>False
section
variable {P:Program} {w:World} {H:Hp} {h h':Heap} {x e:Addr} {o':HO}
theorem HOk.write(ok:HOk P w H h)(mu:Wj (H x))(he:e=x\/H e=some (.own x))(k:∀b u,b≠e->h.get? b=some u->h'.get? b=some u)(heo:∃u,h'.get? e=some u)
  (new:ObjOk P w (upd H x o') h' x o'):HOk P w (upd H x o') h':=fun b u q=>by
 have nown:∀c y,H c=some (.own y)->c≠x:=fun c y r z=>by subst z;rw[r] at mu;exact mu
 have ntup:∀c xs,H c=some (.tup xs)->c≠x:=fun c xs r z=>by subst z;rw[r] at mu;exact mu
 by_cases hb:b=x
 ·subst hb;rw[upd_same] at q;cases q;exact new
 ·rw[upd_ne hb] at q
  by_cases hbe:b=e
  ·have q':H b=some (.own x):=by
    rcases he with z | z
    ·exact absurd (hbe.trans z) hb
    ·rw[hbe];exact z
   rw[q] at q';cases q'
   obtain⟨v,hv⟩:=heo
   exact⟨v,by rw[hbe];exact hv⟩
  ·refine(ok b u q).stay (fun c v hc r=>k c v ?_ r) (fun c r=>by rw[upd_ne (nown c b r)];exact r) fun c xs r=>by rw[upd_ne (ntup c xs r)];exact r
   rcases hc with rfl | hc
   ·exact hbe
   ·rintro rfl
    rcases he with z | z
    ·exact nown c b hc z
    ·rw[hc] at z;cases z;exact hb rfl
end
structure Un(fs ex:List Addr)(H H':Hp)(h h':Heap):Prop where
 keep:∀b o,h.get? b=some o->H b=none->b∉fs->b∉ex->h'.get? b=some o
 slot:∀b o,h.get? b=some o->H b=none->b∈fs->b∉ex->∃sl,h'.get? b=some { o with slots:=sl }
 free:∀b o,h.get? b=some o->H b=none->b∉ex->H' b=none
 there:∀b o,h.get? b=some o->b∉ex->∃o',h'.get? b=some o'
 tups:∀b xs,H b=some (.tup xs)->H' b=some (.tup xs)
 frzs:∀b o u,H b=some (.frz o u)->H' b=some (.frz o u)
 tbls:∀b ps,H b=some (.tbl ps)->∃more,H' b=some (.tbl (ps++more))
section
variable {fs fs' ex ex':List Addr} {H H1 H2:Hp} {h h1 h2 h':Heap} {a x e:Addr} {o:HO}
theorem Un.any(u:Un fs ex H H1 h h1){b:Addr}{ob:Obj}(q:h.get? b=some ob)(n:H b=none)(hx:b∉ex):∃sl,h1.get? b=some { ob with slots:=sl }:=by
 by_cases hb:b∈fs
 ·exact u.slot b ob q n hb hx
 ·exact⟨ob.slots,u.keep b ob q n hb hx⟩
theorem Un.kept(k:∀b u,h.get? b=some u->h'.get? b=some u):Un fs ex H H h h':=
 ⟨fun b ob q _ _ _=>k b ob q,fun b ob q _ _ _=>⟨ob.slots,k b ob q⟩,fun _ _ _ n _=>n,fun b ob q _=>⟨ob,k b ob q⟩,fun _ _ q=>q,fun _ _ _ q=>q,fun _ ps q=>⟨#[],by rw[q];simp⟩⟩
theorem Un.refl:Un fs ex H H h h:=Un.kept fun _ _ q=>q
theorem Un.laid(k:∀b u,h.get? b=some u->h'.get? b=some u)(hp:h.objs.size<=a)(hn:H a=none):Un fs ex H (upd H a o) h h' where
 keep:=fun b u q _ _ _=>k b u q
 slot:=fun b u q _ _ _=>⟨u.slots,k b u q⟩
 free:=fun b u q n _=>by rw[upd_ne (Nat.ne_of_lt (Nat.lt_of_lt_of_le (Heap.lt_size q) hp))];exact n
 there:=fun b u q _=>⟨u,k b u q⟩
 tups:=fun b xs q=>by rw[upd_ne (ZC q hn)];exact q
 frzs:=fun b u xs q=>by rw[upd_ne (ZC q hn)];exact q
 tbls:=fun b ps q=>⟨#[],by rw[upd_ne (ZC q hn),q];simp⟩
theorem Un.write(mu:Wj (H x))(he:e=x\/H e=some (.own x))(k:∀b u,b≠e->h.get? b=some u->h'.get? b=some u)(heo:∃u,h'.get? e=some u):Un fs ex H (upd H x o) h h':=by
 have hx:∀b,H b=none->b≠x:=fun b n z=>by subst z;rw[n] at mu;exact mu
 have hb:∀b,H b=none->b≠e:=fun b n z=>by
  subst z
  rcases he with r | r
  ·exact hx b n r
  ·rw[n] at r;cases r
 have hm:∀b u,H b=some u->¬Wj (some u)->b≠x:=fun b u q nm z=>by subst z;rw[q] at mu;exact nm mu
 refine⟨fun b u q n _ _=>k b u (hb b n) q,fun b u q n _ _=>⟨u.slots,k b u (hb b n) q⟩,fun b u q n _=>by rw[upd_ne (hx b n)];exact n,fun b u q _=>?_,
  fun b xs q=>by rw[upd_ne (hm b _ q fun z=>z)];exact q,fun b u xs q=>by rw[upd_ne (hm b _ q fun z=>z)];exact q,fun b ps q=>⟨#[],by rw[upd_ne (hm b _ q fun z=>z),q];simp⟩⟩
 by_cases hbe:b=e
 ·subst hbe;exact heo
 ·exact⟨u,k b u hbe q⟩
end
def Gb(h:Heap)(H:Hp):List Addr:=(List.range h.objs.size).filter fun a=>(H a).isSome
def RE(h:Heap)(H:Hp):Heap:=PySem.W.hideAll h (Gb h H)
theorem Nb(h:Heap)(H:Hp):(RE h H).objs.size=h.objs.size:=PySem.W.hideAll_size _ _
theorem Mk{h:Heap}{H:Hp}{b:Addr}{o:Obj}(e:h.get? b=some o)(n:H b=none):(RE h H).get? b=some o:=
 PySem.W.hideAll_get _ e fun hm=>by
  have q:(H b).isSome=true:=(List.mem_filter.mp hm).2
  rw[n] at q;simp at q
theorem LH{h:Heap}{H:Hp}{b:Addr}{o:Obj}(e:(RE h H).get? b=some o):h.get? b=some o/\H b=none:=by
 have e':h.get? b=some o:=PySem.W.of_hideAll (Gb h H) e
 refine⟨e',?_⟩
 cases q:H b with
 | none=>rfl
 | some x=>
  have hm:b∈Gb h H:=List.mem_filter.mpr ⟨List.mem_range.mpr (Heap.lt_size e'),by simp[q]⟩
  have z:(RE h H).get? b=none:=PySem.W.hideAll_none (Gb h H) hm
  rw[z] at e;cases e
def LI(g h:Heap)(L:Addr):List (Addr×Obj):=(List.range h.objs.size).filterMap fun a=>if a=L\/(g.get? a).isSome=true then none else(h.get? a).map fun o=>(a,o)
def Zn(g h:Heap)(L d:Addr):List (Addr×Obj):=(LI g h L).filter fun p=>decide (p.1≠d)
structure Mod(K:PySem.W.Frag)(mg:Str->Option Value)(base:Heap):Prop where
 kin:K.In base
 glob:base.Ns mainGlobals mg
 blt:∃mb,base.Ns builtinsNs mb/\∀x:Str,x≠"__name__"->mb x=bootBuiltins x
 nolimit:base.NoLimit
structure Cx where
 prog:Program
 w:World
 K:PySem.W.Frag
 mg:Str->Option Value
 base:Heap
 A:Around
 N:List Str
 s₀:Shared
 H₀:Hp
 env:Env
 outer:List Env
 stack:List Env
 ex:List Addr
 fn:Str->Bool
 calm:Bool
 pn:List (Addr×Obj)
 xe:Value->Shared->Prop
def Oa(l:List Env):List Addr:=l.filterMap (·.frame)
abbrev Cx.fs(X:Cx):List Addr:=Oa X.outer
def Gd(sc:Scope)(x:Str):Prop:=sc.names.lookup x=some .local\/sc.names.lookup x=some .cell\/sc.names.lookup x=some .free
def IV(sc:Scope)(x:Str):Prop:=sc.names.lookup x=some .local\/sc.names.lookup x=some .cell
def Gp(env:Env)(h:Heap)(m:Str->Option Value)(x:Str)(u:Value):Prop:=
 (env.kindOf x=some .local/\m x=some u)\/((env.kindOf x=some .cell\/env.kindOf x=some .free)/\∃c,env.cells.lookup x=some c/\h.IsCell c (some u))
structure Cx.Ok(X:Cx):Prop where
 mod:Mod X.K X.mg X.base
 kind:X.env.scope.kind = .function
 glob:X.env.globals=mainGlobals
 blt:X.env.builtins=builtinsNs
 above:X.s₀.heap.objs.size<=X.env.locals
 inj:∀x y c,X.env.cells.lookup x=some c->X.env.cells.lookup y=some c->x=y
 has:∀x,(X.env.kindOf x=some .cell\/X.env.kindOf x=some .free)->∃c,X.env.cells.lookup x=some c
 cab:∀x c,X.fn x=true->X.env.cells.lookup x=some c->X.s₀.heap.objs.size<=c
 hd:X.calm=true->X.A.handled=none
 frames:X.A.frames=some X.stack
 stk:X.stack=X.outer\/(X.stack=X.env::X.outer/\X.env.frame=some X.env.locals)
 exf:∀b∈X.ex,b≠X.env.locals/\∀x c,X.env.cells.lookup x=some c->c≠b
 bs:∀b o,X.base.get? b=some o->X.s₀.heap.get? b=some o/\X.H₀ b=none
 bsz:X.base.objs.size<=X.s₀.heap.objs.size
 noex:∀b o,X.base.get? b=some o->b∉X.ex
 exfs:∀b∈X.ex,b∉X.fs
 funs:X.s₀.heap.FunFrames X.base X.outer
 frf:∀b∈X.fs,X.H₀ b=none
structure Inv(X:Cx)(pins:List (Addr×Obj))(Z:List (Option V))(H:Hp)(s:Shared):Prop where
 ok:X.Ok
 os:s.os=X.s₀.os
 bare:AllBare s.gens
 base:Un X.fs X.ex X.H₀ H X.s₀.heap s.heap
 loc:∃m,s.heap.Ns X.env.locals m/\∀(i:Nat)(x:Str)(v:V),X.N[i]?=some x->Z[i]?=some (some v)->Gd X.env.scope x->∃u,RelV v u/\Gp X.env s.heap m x u
 cell:∀x c,X.env.cells.lookup x=some c->∃v,s.heap.IsCell c v
 free:H X.env.locals=none
 freeC:∀x c,X.env.cells.lookup x=some c->H c=none
 pin:∀p∈X.pn++pins,s.heap.get? p.1=some p.2/\H p.1=none/\p.1≠X.env.locals/\p.1∉X.fs/\∀v,p.2.data≠.cell v
 hok:HOk X.prog X.w H s.heap
 len:Z.length=X.N.length
section
variable {X:Cx} {pins:List (Addr×Obj)} {Z:List (Option V)} {H H':Hp} {s:Shared} {h':Heap}
theorem Cx.Ok.nofr(ok:X.Ok){b:Addr}{o:Obj}(e:X.base.get? b=some o):b∉X.fs:=fun hb=>by
 have:=(ok.funs.mem hb).1
 rw[e] at this;cases this
theorem Inv.bs(I:Inv X pins Z H s):∀b o,X.base.get? b=some o->s.heap.get? b=some o/\H b=none:=fun b o e=>
 ⟨I.base.keep b o (I.ok.bs b o e).1 (I.ok.bs b o e).2 (I.ok.nofr e) (I.ok.noex b o e),I.base.free b o (I.ok.bs b o e).1 (I.ok.bs b o e).2 (I.ok.noex b o e)⟩
theorem Inv.bk(I:Inv X pins Z H s):∀b o,X.base.get? b=some o->s.heap.get? b=some o:=fun b o e=>(I.bs b o e).1
theorem Inv.mod(I:Inv X pins Z H s):Mod X.K X.mg X.base:=I.ok.mod
theorem Inv.kIn(I:Inv X pins Z H s):X.K.In s.heap:=I.ok.mod.kin.keeps I.bk
theorem Inv.fr(I:Inv X pins Z H s):∃m,Fr X.base X.env.locals s.heap m:=
 let⟨m,hn,_⟩:=I.loc
 ⟨m,hn,I.bk,Nat.le_trans I.ok.bsz I.ok.above⟩
theorem Inv.lt(I:Inv X pins Z H s):X.env.locals<s.heap.objs.size:=let⟨_,hn,_⟩:=I.loc;hn.lt
theorem Inv.sz(I:Inv X pins Z H s):X.s₀.heap.objs.size<=s.heap.objs.size:=Nat.le_trans I.ok.above (Nat.le_of_lt I.lt)
theorem Inv.nofs(I:Inv X pins Z H s){a:Addr}(h:s.heap.objs.size<=a):a∉X.fs:=fun hb=>by
 obtain⟨_,o,ho,_⟩:=I.ok.funs.mem hb
 exact absurd (Nat.lt_of_lt_of_le (Heap.lt_size ho) (Nat.le_trans I.sz h)) (Nat.lt_irrefl _)
theorem Inv.cne(I:Inv X pins Z H s):∀x c,X.env.cells.lookup x=some c->c≠X.env.locals:=fun x c e z=>by
 obtain⟨v,o,ho,hd⟩:=I.cell x c e
 obtain⟨m,⟨o',es,ep,ho',hd',_⟩,_⟩:=I.loc
 rw[z,ho'] at ho;cases ho;rw[hd'] at hd;cases hd
theorem Inv.funs(I:Inv X pins Z H s):s.heap.FunFrames X.base X.outer:=by
 have all:∀(l:List Env),(∀b∈Oa l,b∈X.fs)->X.s₀.heap.FunFrames X.base l->s.heap.FunFrames X.base l:=by
  intro l
  induction l with
  | nil=>intro _ _;trivial
  | cons env r ih=>
   intro hs hl
   obtain⟨hk,⟨L,o,hf,hn,ho,hd⟩,hr⟩:=hl
   have hL:L∈X.fs:=hs L (by unfold Oa;rw[List.filterMap_cons,hf];exact List.mem_cons_self)
   obtain⟨sl,e⟩:=I.base.slot L o ho (I.ok.frf L hL) hL fun z=>I.ok.exfs L z hL
   exact⟨hk,⟨L,_,hf,hn,e,hd⟩,ih (fun b hb=>hs b (by unfold Oa;rw[List.filterMap_cons,hf];exact List.mem_cons_of_mem _ hb)) hr⟩
 exact all X.outer (fun _ hb=>hb) I.ok.funs
theorem Inv.stack(I:Inv X pins Z H s):s.heap.FunFrames X.base X.stack:=by
 rcases I.ok.stk with e | ⟨e,hf⟩
 ·rw[e];exact I.funs
 ·rw[e]
  obtain⟨m,hn,_⟩:=I.loc
  refine .cons (by rw[I.ok.kind];decide) hf hn ?_ I.funs
  exact Heap.get?_none_of_le (Nat.le_trans I.ok.bsz I.ok.above)
theorem Inv.stkSub(I:Inv X pins Z H s):∀b∈Oa X.stack,b∈X.env.locals::X.fs:=fun b hb=>by
 rcases I.ok.stk with e | ⟨e,hf⟩
 ·rw[e] at hb;exact List.mem_cons_of_mem _ hb
 ·rw[e] at hb
  unfold Oa at hb;rw[List.filterMap_cons,hf] at hb;exact hb
theorem Inv.stkFree(I:Inv X pins Z H s):∀b∈Oa X.stack,H b=none:=fun b hb=>by
 rcases List.mem_cons.mp (I.stkSub b hb) with e | hb
 ·rw[e];exact I.free
 ·obtain⟨_,o,ho,_⟩:=I.ok.funs.mem hb
  exact I.base.free b o ho (I.ok.frf b hb) fun z=>I.ok.exfs b z hb
theorem Inv.step{g':Array GenState}{t':Nat}{d':Drawn}{ch:List Addr}(I:Inv X pins Z H s)
  (hch:∀b∈ch,(b∈X.ex\/X.s₀.heap.objs.size<=b)/\b≠X.env.locals/\(∀x c,X.env.cells.lookup x=some c->c≠b)/\∀p∈X.pn++pins,p.1≠b)
  (keep:∀b o,b≠X.env.locals->b∉X.fs->b∉ch->s.heap.get? b=some o->H b=none->h'.get? b=some o)
  (slot:∀b o,b≠X.env.locals->b∈X.fs->b∉ch->s.heap.get? b=some o->H b=none->∃sl,h'.get? b=some { o with slots:=sl }) (free:∀b o,b∉ch->s.heap.get? b=some o->H b=none->H' b=none)
  (there:∀b o,b∉ch->s.heap.get? b=some o->∃o',h'.get? b=some o')
  (tups:∀b xs,H b=some (.tup xs)->H' b=some (.tup xs)) (frzs:∀b o u,H b=some (.frz o u)->H' b=some (.frz o u)) (tbls:∀b ps,H b=some (.tbl ps)->∃more,H' b=some (.tbl (ps++more)))
  (ns:∀m,s.heap.Ns X.env.locals m->h'.Ns X.env.locals m) (hok:HOk X.prog X.w H' h') (hg:AllBare g') :
  Inv X pins Z H' { s with heap:=h',gens:=g',drawn:=d',toks:=t' }:=by
 have neL:∀b o,X.s₀.heap.get? b=some o->b≠X.env.locals:=fun b o e=>Nat.ne_of_lt (Nat.lt_of_lt_of_le (Heap.lt_size e) I.ok.above)
 have neC:∀b o,X.s₀.heap.get? b=some o->b∉X.ex->b∉ch:=fun b o e hx hb=>by
  rcases(hch b hb).1 with z | z
  ·exact hx z
  ·exact absurd (Nat.lt_of_lt_of_le (Heap.lt_size e) z) (Nat.lt_irrefl _)
 have cellK:∀x c,X.env.cells.lookup x=some c->∀v,s.heap.IsCell c v->h'.IsCell c v:=fun x c e v ⟨o,ho,hd⟩=>by
  have nch:c∉ch:=fun z=>(hch c z).2.2.1 x c e rfl
  by_cases hc:c∈X.fs
  ·obtain⟨sl,q⟩:=slot c o (I.cne x c e) hc nch ho (I.freeC x c e)
   exact⟨_,q,hd⟩
  ·exact⟨o,keep c o (I.cne x c e) hc nch ho (I.freeC x c e),hd⟩
 refine⟨I.ok,I.os,hg,⟨fun b o e n hb hx=>?_,fun b o e n hb hx=>?_,fun b o e n hx=>?_,fun b o e hx=>?_,fun b xs e=>tups b xs (I.base.tups b xs e),fun b o xs e=>frzs b o xs (I.base.frzs b o xs e),fun b ps e=>?_⟩,?_,fun x c e=>?_,?_,fun x c e=>?_,fun p hp=>?_,hok,I.len⟩
 ·exact keep b o (neL b o e) hb (neC b o e hx) (I.base.keep b o e n hb hx) (I.base.free b o e n hx)
 ·obtain⟨sl,e1⟩:=I.base.slot b o e n hb hx
  obtain⟨sl',e2⟩:=slot b _ (neL b o e) hb (neC b o e hx) e1 (I.base.free b o e n hx)
  exact⟨sl',e2⟩
 ·obtain⟨o',e1⟩:=I.base.there b o e hx
  exact free b o' (neC b o e hx) e1 (I.base.free b o e n hx)
 ·obtain⟨o',e1⟩:=I.base.there b o e hx
  exact there b o' (neC b o e hx) e1
 ·obtain⟨m1,e1⟩:=I.base.tbls b ps e
  obtain⟨m2,e2⟩:=tbls b _ e1
  exact⟨m1++m2,by rw[e2,Array.append_assoc]⟩
 ·obtain⟨m,hn,hl⟩:=I.loc
  refine⟨m,ns m hn,fun i x v e1 e2 e3=>?_⟩
  obtain⟨u,r,l⟩:=hl i x v e1 e2 e3
  refine⟨u,r,?_⟩
  rcases l with l | ⟨k,c,e,z⟩
  ·exact .inl l
  ·exact .inr ⟨k,c,e,cellK x c e _ z⟩
 ·obtain⟨v,z⟩:=I.cell x c e
  exact⟨v,cellK x c e v z⟩
 ·obtain⟨m,⟨o,_,_,ho,_⟩,_⟩:=I.loc
  exact free _ o (fun z=>(hch _ z).2.1 rfl) ho I.free
 ·obtain⟨v,o,ho,hd⟩:=I.cell x c e
  exact free c o (fun z=>(hch c z).2.2.1 x c e rfl) ho (I.freeC x c e)
 ·obtain⟨e,n,ne,nf,d⟩:=I.pin p hp
  have nch:p.1∉ch:=fun z=>(hch p.1 z).2.2.2 p hp rfl
  exact⟨keep p.1 p.2 ne nf nch e n,free p.1 p.2 nch e n,ne,nf,d⟩
theorem Inv.un{t':Nat}(I:Inv X pins Z H s)(u:Un X.fs [] H H' s.heap h')(hok:HOk X.prog X.w H' h'):Inv X pins Z H' { s with heap:=h',toks:=t' }:=by
 obtain⟨m,⟨o,es,ep,ho,r⟩,_⟩:=id I.loc
 obtain⟨sl,hL⟩:=u.any ho I.free (by simp)
 exact I.step (g':=s.gens) (d':=s.drawn) (ch:=[]) (fun _ z=>nomatch z) (fun b o _ hb _ e n=>u.keep b o e n hb (by simp)) (fun b o _ hb _ e n=>u.slot b o e n hb (by simp)) (fun b o _ e n=>u.free b o e n (by simp)) (fun b o _ e=>u.there b o e (by simp)) u.tups u.frzs u.tbls (fun m' hm=>by
  obtain⟨o',es',ep',ho',r'⟩:=hm
  rw[ho] at ho';cases ho'
  exact⟨_,es',ep',hL,r'⟩) hok I.bare
theorem Inv.call{g':Array GenState}{t':Nat}{d':Drawn}{ch:List Addr}(I:Inv X pins Z H s)(u:Un (Oa X.stack) ch H H' s.heap h')(hok:HOk X.prog X.w H' h')(hg:AllBare g')
  (hch:∀b∈ch,(b∈X.ex\/X.s₀.heap.objs.size<=b)/\b≠X.env.locals/\(∀x c,X.env.cells.lookup x=some c->c≠b)/\∀p∈X.pn++pins,p.1≠b) :
  Inv X pins Z H' { s with heap:=h',gens:=g',drawn:=d',toks:=t' }:=by
 obtain⟨m,⟨o,es,ep,ho,r⟩,_⟩:=id I.loc
 obtain⟨sl,hL⟩:=u.any ho I.free fun z=>(hch _ z).2.1 rfl
 exact I.step (ch:=ch) hch (fun b o hL hb hc e n=>u.keep b o e n (fun z=>(List.mem_cons.mp (I.stkSub b z)).elim hL hb) hc) (fun b o _ _ hc e n=>u.any e n hc) (fun b o hc e n=>u.free b o e n hc) (fun b o hc e=>u.there b o e hc) u.tups u.frzs u.tbls (fun m' hm=>by
  obtain⟨o',es',ep',ho',r'⟩:=hm
  rw[ho] at ho';cases ho'
  exact⟨_,es',ep',hL,r'⟩) hok hg
theorem Inv.turned{t':Nat}{it:Addr}(I:Inv X pins Z H s)(k:∀b o,b≠it->s.heap.get? b=some o->h'.get? b=some o)(hn:H it=none)(hL:it≠X.env.locals)
  (h1:it∈X.ex\/X.s₀.heap.objs.size<=it) (h2:∀x c,X.env.cells.lookup x=some c->c≠it) (h3:∀p∈X.pn++pins,p.1≠it):Inv X pins Z H { s with heap:=h',toks:=t' }:=by
 have nit:∀b u,H b=some u->b≠it:=fun b u e z=>by rw[z,hn] at e;cases e
 refine I.step (g':=s.gens) (d':=s.drawn) (ch:=[it]) (fun b hb=>?_) (fun b o _ _ hc e _=>k b o (fun z=>hc (by simp[z])) e) (fun b o _ _ hc e _=>⟨o.slots,k b o (fun z=>hc (by simp[z])) e⟩) (fun _ _ _ _ n=>n)
  (fun b o hc e=>⟨o,k b o (fun z=>hc (by simp[z])) e⟩) (fun _ _ e=>e) (fun _ _ _ e=>e) (fun b ps e=>⟨#[],by rw[e];simp⟩) (fun m hm=>?_) (fun b u e=>?_) I.bare
 ·have e:b=it:=by simpa using hb
  subst e
  exact⟨h1,hL,h2,h3⟩
 ·obtain⟨o,es,ep,ho,r⟩:=hm
  exact⟨o,es,ep,k _ o (Ne.symm hL) ho,r⟩
 ·refine(I.hok b u e).stay (fun c v hc q=>k c v ?_ q) (fun _ q=>q) fun _ _ q=>q
  rcases hc with z | z
  ·rw[z];exact nit b u e
  ·exact nit c _ z
theorem Inv.tok(I:Inv X pins Z H s)(t:Nat):Inv X pins Z H { s with toks:=t }:=I.un (h':=s.heap) (t':=t) Un.refl I.hok
theorem Inv.kept{t':Nat}(I:Inv X pins Z H s)(k:∀b u,s.heap.get? b=some u->h'.get? b=some u):Inv X pins Z H { s with heap:=h',toks:=t' }:=I.un (Un.kept k) (I.hok.kept k)
theorem Inv.laid{a:Addr}{o:HO}{t':Nat}(I:Inv X pins Z H s)(k:∀b u,s.heap.get? b=some u->h'.get? b=some u)(hp:s.heap.objs.size<=a)(new:ObjOk X.prog X.w (upd H a o) h' a o) :
  Inv X pins Z (upd H a o) { s with heap:=h',toks:=t' }:=I.un (Un.laid k hp (I.hok.fresh hp)) (I.hok.laid k hp new)
theorem Inv.write{x e:Addr}{o:HO}{t':Nat}(I:Inv X pins Z H s)(mu:Wj (H x))(he:e=x\/H e=some (.own x))(k:∀b u,b≠e->s.heap.get? b=some u->h'.get? b=some u)(heo:∃u,h'.get? e=some u)
  (new:ObjOk X.prog X.w (upd H x o) h' x o):Inv X pins Z (upd H x o) { s with heap:=h',toks:=t' }:=I.un (Un.write mu he k heo) (I.hok.write mu he k heo new)
theorem Inv.weak{Z':List (Option V)}(I:Inv X pins Z H s)(hl:Z'.length=Z.length)(w:∀(i:Nat) v,Z'[i]?=some (some v)->Z[i]?=some (some v)):Inv X pins Z' H s:=
 ⟨I.ok,I.os,I.bare,I.base,let⟨m,hn,hl'⟩:=I.loc;⟨m,hn,fun i x v e1 e2 e3=>hl' i x v e1 (w i v e2) e3⟩,I.cell,I.free,I.freeC,I.pin,I.hok,hl.trans I.len⟩
theorem Inv.pins_of{pins':List (Addr×Obj)}(I:Inv X pins Z H s)(h:∀p∈pins',s.heap.get? p.1=some p.2/\H p.1=none/\p.1≠X.env.locals/\p.1∉X.fs/\∀v,p.2.data≠.cell v):Inv X pins' Z H s:=
 ⟨I.ok,I.os,I.bare,I.base,I.loc,I.cell,I.free,I.freeC,fun p hp=>(List.mem_append.mp hp).elim (fun z=>I.pin p (List.mem_append_left _ z)) (h p),I.hok,I.len⟩
theorem Ql{N:List Str}(hN:N.Nodup){i j:Nat}{x:Str}(a:N[i]?=some x)(b:N[j]?=some x):i=j:=by
 obtain⟨h1,e1⟩:=List.getElem?_eq_some_iff.mp a
 obtain⟨h2,e2⟩:=List.getElem?_eq_some_iff.mp b
 exact(List.getElem_inj hN).mp (e1.trans e2.symm)
theorem Nc{M:Model}{A:Around}{E:Value->Shared->Prop}{i:Nat}{x:Str}{v:V}{u:Value}{Q:Unit->Shared->Prop}(I:Inv X pins Z H s)(hN:X.N.Nodup)(hi:X.N[i]?=some x)(hx:IV X.env.scope x)(r:RelV v u)
  (h:∀s',Inv X pins (Z.set i (some v)) H s'->(∃a,Heap.SameBut a s.heap s'.heap/\(a=X.env.locals\/X.env.cells.lookup x=some a))->Q () s') (hf:X.fn x=true\/X.env.scope.names.lookup x=some .local:=by first | exact .inl rfl | exact .inr rfl | assumption):wpAny M A (storeName X.env x u) Q E s:=by
 obtain⟨m,hn,hl⟩:=id I.loc
 have hcls:(X.env.scope.kind==.class || (X.env.scope.kind==.module&&X.env.locals != X.env.globals))=false:=by rw[I.ok.kind];rfl
 have hiZ:i<Z.length:=by rw[I.len];exact(List.getElem?_eq_some_iff.mp hi).1
 have cne:=I.cne
 have tracked:∀{a:Addr}{h':Heap},(∃o,s.heap.get? a=some o/\H a=none)->Heap.SameBut a s.heap h'->HOk X.prog X.w H h':=fun{a h'} ha hs b ob e=>by
  obtain⟨_,_,hfree⟩:=ha
  refine(I.hok b ob e).stay (fun c w' hc q=>(hs.2 c ?_).trans q) (fun _ q=>q) fun _ _ q=>q
  rintro rfl
  rcases hc with rfl | hc
  ·rw[hfree] at e;cases e
  ·rw[hfree] at hc;cases hc
 rcases hx with hk | hk
 ·refine wpAny_storeName_local hk hn (fun h' hn' hs=>?_) hcls
  obtain⟨oL,_,_,hoL,_⟩:=id hn
  refine h _ ⟨I.ok,I.os,I.bare,⟨fun b o e n hb hx=>?_,fun b o e n hb hx=>?_,I.base.free,fun b o e hx=>?_,I.base.tups,I.base.frzs,I.base.tbls⟩,⟨_,hn',fun j y v' e1 e2 e3=>?_⟩,fun y c e=>?_,I.free,I.freeC,fun p hp=>?_,tracked ⟨oL,hoL,I.free⟩ hs,by simpa using I.len⟩ ⟨_,hs,.inl rfl⟩
  ·exact(hs.2 b (Nat.ne_of_lt (Nat.lt_of_lt_of_le (Heap.lt_size e) I.ok.above))).trans (I.base.keep b o e n hb hx)
  ·obtain⟨sl,e1⟩:=I.base.slot b o e n hb hx
   exact⟨sl,(hs.2 b (Nat.ne_of_lt (Nat.lt_of_lt_of_le (Heap.lt_size e) I.ok.above))).trans e1⟩
  ·obtain⟨o',e1⟩:=I.base.there b o e hx
   exact⟨o',(hs.2 b (Nat.ne_of_lt (Nat.lt_of_lt_of_le (Heap.lt_size e) I.ok.above))).trans e1⟩
  ·by_cases hj:j=i
   ·subst hj
    rw[hi] at e1;cases e1;rw[List.getElem?_set_self hiZ] at e2;cases e2
    exact⟨u,r,.inl ⟨hk,by simp⟩⟩
   ·rw[List.getElem?_set_ne (Ne.symm hj)] at e2
    obtain⟨u',r',q⟩:=hl j y v' e1 e2 e3
    refine⟨u',r',?_⟩
    rcases q with⟨k,e⟩ | ⟨k,c,e,z⟩
    ·refine .inl ⟨k,?_⟩
     have:y≠x:=fun e=>hj (Ql hN e1 (e▸hi))
     simp[this,e]
    ·exact .inr ⟨k,c,e,z.sameBut hs (cne y c e)⟩
  ·obtain⟨w',z⟩:=I.cell y c e
   exact⟨w',z.sameBut hs (cne y c e)⟩
  ·obtain⟨e,n,ne,nf,d⟩:=I.pin p hp
   exact⟨(hs.2 p.1 ne).trans e,n,ne,nf,d⟩
 ·have hfn:X.fn x=true:=by
   rcases hf with z | z
   ·exact z
   ·rw[z] at hk;cases hk
  obtain⟨c,hc⟩:=I.ok.has x (.inl hk)
  obtain⟨w',z⟩:=I.cell x c hc
  refine wpAny_storeName_cell I.ok.kind hk hc z (fun h' hc' hs=>?_)
  obtain⟨oc,hoc,hocd⟩:=id z
  refine h { s with heap:=h' } ⟨I.ok,I.os,I.bare,⟨fun b o e n hb hx=>?_,fun b o e n hb hx=>?_,I.base.free,fun b o e hx=>?_,I.base.tups,I.base.frzs,I.base.tbls⟩,⟨m,hn.sameBut hs (Ne.symm (cne x c hc)),fun j y v' e1 e2 e3=>?_⟩,fun y c' e=>?_,I.free,I.freeC,fun p hp=>?_,tracked ⟨oc,hoc,I.freeC x c hc⟩ hs,by simpa using I.len⟩ ⟨c,hs,.inr hc⟩
  ·exact(hs.2 b (Nat.ne_of_lt (Nat.lt_of_lt_of_le (Heap.lt_size e) (I.ok.cab x c hfn hc)))).trans (I.base.keep b o e n hb hx)
  ·obtain⟨sl,e1⟩:=I.base.slot b o e n hb hx
   exact⟨sl,(hs.2 b (Nat.ne_of_lt (Nat.lt_of_lt_of_le (Heap.lt_size e) (I.ok.cab x c hfn hc)))).trans e1⟩
  ·obtain⟨o',e1⟩:=I.base.there b o e hx
   exact⟨o',(hs.2 b (Nat.ne_of_lt (Nat.lt_of_lt_of_le (Heap.lt_size e) (I.ok.cab x c hfn hc)))).trans e1⟩
  ·by_cases hj:j=i
   ·subst hj
    rw[hi] at e1;cases e1;rw[List.getElem?_set_self hiZ] at e2;cases e2
    exact⟨u,r,.inr ⟨.inl hk,c,hc,hc'⟩⟩
   ·rw[List.getElem?_set_ne (Ne.symm hj)] at e2
    obtain⟨u',r',q⟩:=hl j y v' e1 e2 e3
    refine⟨u',r',?_⟩
    rcases q with q | ⟨k,c',e,z'⟩
    ·exact .inl q
    ·refine .inr ⟨k,c',e,z'.sameBut hs ?_⟩
     rintro rfl
     exact hj (Ql hN e1 (I.ok.inj _ _ _ e hc▸hi))
  ·by_cases hcc:c'=c
   ·subst hcc;exact⟨_,hc'⟩
   ·obtain⟨w2,z2⟩:=I.cell y c' e
    exact⟨w2,z2.sameBut hs hcc⟩
  ·obtain⟨e,n,ne,nf,d⟩:=I.pin p hp
   refine⟨(hs.2 p.1 ?_).trans e,n,ne,nf,d⟩
   intro q;rw[q,hoc] at e
   have q':oc=p.2:=Option.some.inj e
   exact d w' (by rw[<-q'];exact hocd)
theorem VY{M:Model}{A:Around}{E:Value->Shared->Prop}{i:Nat}{x:Str}{v:V}{u:Value}{Q:Unit->Shared->Prop}(I:Inv X pins Z H s)(hN:X.N.Nodup)(hi:X.N[i]?=some x)(hx:IV X.env.scope x)(r:RelV v u)
  (h:∀s',Inv X pins (Z.set i (some v)) H s'->Q () s') (hf:X.fn x=true\/X.env.scope.names.lookup x=some .local:=by first | exact .inl rfl | exact .inr rfl | assumption):wpAny M A (storeName X.env x u) Q E s:=
 Nc I hN hi hx r (fun s' I' _=>h s' I') hf
theorem Inv.call'{s':Shared}{ch:List Addr}(I:Inv X pins Z H s)(ho:s'.os=s.os)(u:Un (Oa X.stack) ch H H' s.heap s'.heap)(hok:HOk X.prog X.w H' s'.heap)(hg:AllBare s'.gens)
  (hch:∀b∈ch,(b∈X.ex\/X.s₀.heap.objs.size<=b)/\b≠X.env.locals/\(∀x c,X.env.cells.lookup x=some c->c≠b)/\∀p∈X.pn++pins,p.1≠b):Inv X pins Z H' s':=by
 obtain⟨h',g',d',t',o'⟩:=s'
 have e:o'=s.os:=ho
 subst e
 exact I.call (g':=g') (t':=t') (d':=d') u hok hg hch
end
abbrev XK:=Value->Option Addr->Hp->Prop
abbrev St:=List (Option V)
abbrev VK:=V->Hp->Prop
abbrev TE:=St->Hp->VK->Prop
abbrev TT:=St->Hp->(Bool->Hp->Prop)->Prop
abbrev TA:=St->Hp->(List V->Hp->Prop)->Prop
structure VZ where
 nx:St->Hp->Prop
 rt:VK
 bk:St->Hp->Prop:=fun _ _=>False
 ct:St->Hp->Prop:=fun _ _=>False
abbrev TS:=VZ->St->Hp->Prop
def EP(X:Cx)(pins:List (Addr×Obj))(Z:St)(Q:VK)(u:Value)(s':Shared):Prop:=∃v H',Inv X pins Z H' s'/\RelV v u/\Q v H'
def TP(X:Cx)(pins:List (Addr×Obj))(Z:St)(Q:Bool->Hp->Prop)(b:Bool)(s':Shared):Prop:=∃H',Inv X pins Z H' s'/\Q b H'
def AP(X:Cx)(pins:List (Addr×Obj))(Z:St)(Q:List V->Hp->Prop)(us:List Value)(s':Shared):Prop:=∃vs H',Inv X pins Z H' s'/\Vals vs us/\Q vs H'
def SP(X:Cx)(pins:List (Addr×Obj))(D:VZ)(f:Flow)(s':Shared):Prop:=
 match f with
 | .next=>∃Z' H',Inv X pins Z' H' s'/\D.nx Z' H'
 | .brk=>∃Z' H',Inv X pins Z' H' s'/\D.bk Z' H'
 | .cont=>∃Z' H',Inv X pins Z' H' s'/\D.ct Z' H'
 | .ret u=>∃v Z' H',Inv X pins Z' H' s'/\RelV v u/\D.rt v H'
def PE(X:Cx)(e:Expr)(t:TE):Prop:=
 ∀(pins:List (Addr×Obj))(s:Shared)(Z:St)(H:Hp)(Q:VK),Inv X pins Z H s->t Z H Q->wpAny (model X.prog X.w) X.A (eval e X.env) (EP X pins Z Q) X.xe s
def PT(X:Cx)(e:Expr)(t:TT):Prop:=
 ∀(pins:List (Addr×Obj))(s:Shared)(Z:St)(H:Hp)(Q:Bool->Hp->Prop),Inv X pins Z H s->t Z H Q->wpAny (model X.prog X.w) X.A (isTrue e X.env (eval e X.env)) (TP X pins Z Q) X.xe s
def PW(X:Cx)(e:Expr)(t:TT):Prop:=
 ∀(whole:Sem Value)(pins:List (Addr×Obj))(s:Shared)(Z:St)(H:Hp)(Q:Bool->Hp->Prop),Inv X pins Z H s->t Z H Q->wpAny (model X.prog X.w) X.A (isTrue e X.env whole) (TP X pins Z Q) X.xe s
theorem PW.pt{X:Cx}{e:Expr}{t:TT}(h:PW X e t):PT X e t:=h _
def PA(X:Cx)(es:List Expr)(t:TA):Prop:=
 ∀(pos:Pos)(pins:List (Addr×Obj))(s:Shared)(Z:St)(H:Hp)(Q:List V->Hp->Prop),Inv X pins Z H s->t Z H Q->wpAny (model X.prog X.w) X.A (spliced (backTo pos (starEach es X.env))) (AP X pins Z Q) X.xe s
def PS(X:Cx)(st:Stmt)(t:TS):Prop:=
 ∀(pins:List (Addr×Obj))(s:Shared)(Z:St)(H:Hp)(D:VZ),Inv X pins Z H s->t D Z H->wpAny (model X.prog X.w) X.A (exec st X.env) (SP X pins D) X.xe s
def PSs(X:Cx)(st:List Stmt)(t:TS):Prop:=
 ∀(pins:List (Addr×Obj))(s:Shared)(Z:St)(H:Hp)(D:VZ),Inv X pins Z H s->t D Z H->wpAny (model X.prog X.w) X.A (execs st X.env) (SP X pins D) X.xe s
theorem ZT{α:Type}{t:Sem α}{Q Q':α->Shared->Prop}{M:Model}{A:Around}{E:Value->Shared->Prop}{s:Shared}(h:wpAny M A t Q E s)(hQ:∀a s,Q a s->Q' a s):wpAny M A t Q' E s:=wpAny_mono h hQ fun _ _ x=>x
section
variable {X:Cx}
theorem bin{a b:Expr}{ta tb:TE}(ha:PE X a ta)(hb:PE X b tb){pins:List (Addr×Obj)}{s:Shared}{Z:St}{H:Hp}{R:V->V->Hp->Prop}(I:Inv X pins Z H s)(h:ta Z H fun x H1=>tb Z H1 fun y H2=>R x y H2)
  {α:Type} {Q:α->Shared->Prop} {f:Value->Value->Sem α}
  (hf:∀v u s2 x y H2,Inv X pins Z H2 s2->RelV x v->RelV y u->R x y H2->wpAny (model X.prog X.w) X.A (f v u) Q X.xe s2) :
  wpAny (model X.prog X.w) X.A (eval a X.env) (fun v s₁=>wpAny (model X.prog X.w) X.A (eval b X.env) (fun u s₂=>wpAny (model X.prog X.w) X.A (f v u) Q X.xe s₂) X.xe s₁) X.xe s:=by
 refine ZT (ha pins s Z H _ I h) fun v s1 ⟨x,H1,I1,r1,q1⟩=>?_
 refine ZT (hb pins s1 Z H1 _ I1 q1) fun u s2 ⟨y,H2,I2,r2,q2⟩=>?_
 exact hf v u s2 x y H2 I2 r1 r2 q2
def UA(i:Nat):TE:=fun Z H Q=>∃v,Z[i]?=some (some v)/\Q v H
def tC(v:V):TE:=fun _ H Q=>Q v H
theorem JC{i:Nat}{x:Str}{pos:Pos}(hN:X.N[i]?=some x)(hv:Gd X.env.scope x)(hd:(x==("__debug__" : Str))=false:=by decide)(hcd:(x==("__classdict__" : Str))=false:=by decide):PE X (.Name x pos) (UA i):=by
 intro pins s Z H Q I h
 obtain⟨v,e,h⟩:=h
 obtain⟨m,hn,hl⟩:=I.loc
 obtain⟨u,r,l⟩:=hl i x v hN e hv
 have fin:EP X pins Z Q u s:=⟨v,H,I,r,h⟩
 rcases l with⟨hk,hm⟩ | ⟨hk,c,hc,hcell⟩
 ·exact wpAny_Name (wpAny_loadName_local I.ok.kind hk hn hm fin) hd
 ·rcases hk with hk | hk
  ·exact wpAny_Name (wpAny_loadName_cell I.ok.kind hk hc hcell fin) hd
  ·exact wpAny_Name (wpAny_loadName_free I.ok.kind hk hc hcell fin hcd) hd
theorem JD{i j pos}:PE X (.Constant (.int i) j pos) (tC (.int i)):=fun _ _ _ H _ I h=>wpAny_Constant_int ⟨.int i,H,I.tok _,⟨_,rfl⟩,h⟩
theorem IY{b j pos}:PE X (.Constant (.bool b) j pos) (tC (.bl b)):=fun _ _ _ H _ I h=>Constant_bool ⟨.bl b,H,I,rfl,h⟩
theorem JE{j pos}:PE X (.Constant .none j pos) (tC .non):=fun _ _ _ H _ I h=>Constant_none ⟨.non,H,I,rfl,h⟩
theorem JF{x j pos}:PE X (.Constant (.str x) j pos) (tC (.str x)):=fun _ _ _ H _ I h=>Calls.Constant_str ⟨.str x,H,I.tok _,⟨_,rfl⟩,h⟩
def Gl(X:Cx)(x:Str):Prop:=X.env.kindOf x=some .globalImplicit
theorem Ob{E:Value->Shared->Prop}{pins:List (Addr×Obj)}{s:Shared}{Z:St}{H:Hp}{x:Str}{u:Value}{pos:Pos}{Q:Value->Shared->Prop}(I:Inv X pins Z H s)(hg:Gl X x)(hm:X.mg x=some u)(h:Q u s)
  (hd:(x==("__debug__" : Str))=false:=by decide):wpAny (model X.prog X.w) X.A (eval (.Name x pos) X.env) Q E s:=
 Calls.Name_function_global I.ok.kind hg (Calls.loadGlobal_global (by rw[I.ok.glob];exact I.mod.glob.keeps I.bk) hm h) hd
theorem UB{E:Value->Shared->Prop}{pins:List (Addr×Obj)}{s:Shared}{Z:St}{H:Hp}{x:Str}{u:Value}{pos:Pos}{Q:Value->Shared->Prop}(I:Inv X pins Z H s)(hg:Gl X x)(hm:X.mg x=none)(hv:bootBuiltins x=some u)(h:Q u s)
  (hn:x≠"__name__":=by decide) (hd:(x==("__debug__" : Str))=false:=by decide):wpAny (model X.prog X.w) X.A (eval (.Name x pos) X.env) Q E s:=by
 obtain⟨mb,h1,h2⟩:=I.mod.blt
 exact Calls.Name_function_global I.ok.kind hg (Calls.loadGlobal_builtin (by rw[I.ok.glob];exact I.mod.glob.keeps I.bk) hm (by rw[I.ok.blt];exact h1.keeps I.bk) ((h2 x hn).trans hv) h) hd
theorem Oc{x:Str}{v:V}{u:Value}{pos:Pos}(hg:Gl X x)(hm:X.mg x=some u)(r:RelV v u)(hd:(x==("__debug__" : Str))=false:=by decide):PE X (.Name x pos) (tC v):=
 fun _ _ _ H _ I h=>Ob I hg hm ⟨v,H,I,r,h⟩ hd
theorem LJ{x:Str}{v:V}{u:Value}{pos:Pos}(hg:Gl X x)(hm:X.mg x=none)(hv:bootBuiltins x=some u)(r:RelV v u)(hn:x≠"__name__":=by decide)(hd:(x==("__debug__" : Str))=false:=by decide):PE X (.Name x pos) (tC v):=
 fun _ _ _ H _ I h=>UB I hg hm hv ⟨v,H,I,r,h⟩ hn hd
variable {a b:Expr} {ta tb:TE} {pos:Pos}
def PC(X:Cx)(op:CmpOp)(a b:Expr)(t:TE):Prop:=
 ∀(pins:List (Addr×Obj))(s:Shared)(Z:St)(H:Hp)(Q:VK),Inv X pins Z H s->t Z H Q->
  wpAny (model X.prog X.w) X.A (eval a X.env) (fun v s₁=>wpAny (model X.prog X.w) X.A (eval b X.env) (fun u s₂=>wpAny (model X.prog X.w) X.A (compareOp op v u) (EP X pins Z Q) X.xe s₂) X.xe s₁) X.xe s
theorem Ml(b:Expr){op:CmpOp}(h:op≠.In)(h2:op≠.NotIn):behindInMarks op b=false:=by
 have e1:(op==CmpOp.In)=false:=by cases op<;>first | rfl | exact absurd rfl h
 have e2:(op==CmpOp.NotIn)=false:=by cases op<;>first | rfl | exact absurd rfl h2
 cases b<;>simp[behindInMarks,e1,e2]
def K8(ta:TE):TE:=fun Z H Q=>ta Z H fun x H1=>Q (.bl (!decide (x = .non))) H1
theorem RelV.none_iff{x:V}{v:Value}(r:RelV x v):(v==Value.none)=decide (x = .non):=by
 cases x with
 | non=>cases r;rfl
 | bl _=>cases r;rfl
 | int _=>obtain⟨t,rfl⟩:=r;rfl
 | str _=>obtain⟨t,rfl⟩:=r;rfl
 | byt _=>obtain⟨t,rfl⟩:=r;rfl
 | flt _=>obtain⟨t,rfl⟩:=r;rfl
 | ref _=>cases r;rfl
 | ty _=>cases r;rfl
theorem LK{j pos'}(ha:PE X a ta):PC X .IsNot a (.Constant .none j pos') (K8 ta):=by
 intro pins s Z H Q I h
 refine ZT (ha pins s Z H _ I h) fun v s1 ⟨x,H1,I1,r1,q1⟩=>?_
 exact Constant_none (isnot_none_gen ⟨.bl _,H1,I1,by rw[r1.none_iff];rfl,q1⟩)
def tB(t:TE):TT:=fun Z H Q=>t Z H fun x H1=>∃c,x = .bl c/\Q c H1
theorem Mm{op:CmpOp}{t:TE}(h:PC X op a b t)(h1:behindInMarks op b=false:=by first | exact Ml _ (by decide) (by decide) | rfl):PT X (.Compare a [op] [b] pos) (tB t):=by
 intro pins s Z H Q I hw
 refine wpAny_isTrue_Compare1 (ZT (h pins s Z H _ I hw) fun v s1 h1=>ZT h1 fun u s2 h2=>ZT h2 fun c s3 ⟨x,H1,I1,r1,q1⟩=>?_) h1
 obtain⟨d,rfl,q⟩:=q1
 cases r1
 exact wpAny_truthy_bool ⟨H1,I1,q⟩
theorem JG{e:Expr}{t:TE}(h:PE X e t)(he:∀whole,isTrue e X.env whole=(do let v <-whole;standAt e.pos;holding [v] (truthy v)):=by intro _;rfl):PT X e (tB t):=by
 intro pins s Z H Q I hw
 refine isTrue_plain (ZT (h pins s Z H _ I hw) fun v s1 ⟨x,H1,I1,r1,q1⟩=>?_) (he _)
 obtain⟨d,rfl,q⟩:=q1
 cases r1
 exact wpAny_truthy_bool ⟨H1,I1,q⟩
variable {tA tB':TT} {Zn:List Expr}
def IZ(t u:TT):TT:=fun Z H Q=>t Z H fun c H1=>if c=true then u Z H1 Q else Q false H1
def GX(t u:TT):TT:=fun Z H Q=>t Z H fun c H1=>if c=true then Q true H1 else u Z H1 Q
def Gq(t:TT):TT:=fun Z H Q=>t Z H fun c H1=>Q (!c) H1
theorem LL(ha:PT X a tA):PW X (.BoolOp .And [a] pos) tA:=by
 intro wh pins s Z H Q I h
 refine isTrue_and (ZT (ha pins s Z H Q I h) fun c s1 e=>?_)
 cases c with
 | true=>exact isTrue_and_nil e
 | false=>exact e
theorem JH(ha:PT X a tA):PW X (.BoolOp .Or [a] pos) tA:=by
 intro wh pins s Z H Q I h
 refine isTrue_or (ZT (ha pins s Z H Q I h) fun c s1 e=>?_)
 cases c with
 | false=>exact isTrue_or_nil e
 | true=>exact e
theorem JI(ha:PT X a tA)(hb:PW X (.BoolOp .And (b::Zn) pos) tB'):PW X (.BoolOp .And (a::b::Zn) pos) (IZ tA tB'):=by
 intro wh pins s Z H Q I h
 refine isTrue_and (ZT (ha pins s Z H _ I h) fun c s1 ⟨H1,I1,q1⟩=>?_)
 cases c with
 | true=>exact hb wh pins s1 Z H1 Q I1 q1
 | false=>exact⟨H1,I1,q1⟩
theorem Ha(ha:PT X a tA)(hb:PW X (.BoolOp .Or (b::Zn) pos) tB'):PW X (.BoolOp .Or (a::b::Zn) pos) (GX tA tB'):=by
 intro wh pins s Z H Q I h
 refine isTrue_or (ZT (ha pins s Z H _ I h) fun c s1 ⟨H1,I1,q1⟩=>?_)
 cases c with
 | true=>exact⟨H1,I1,q1⟩
 | false=>exact hb wh pins s1 Z H1 Q I1 q1
theorem JJ(ha:PT X a tA):PT X (.UnaryOp .Not a pos) (Gq tA):=by
 intro pins s Z H Q I h
 exact isTrue_not (ha pins s Z H (fun c H1=>Q (!c) H1) I h)
def Hb(ta tb:TE):TE:=fun Z H Q=>ta Z H fun x H1=>∃c,x = .bl c/\if c=true then tb Z H1 Q else Q (.bl false) H1
def Gr(ta tb:TE):TE:=fun Z H Q=>ta Z H fun x H1=>∃c,x = .bl c/\if c=true then Q (.bl true) H1 else tb Z H1 Q
def Hd(ta:TE):TE:=fun Z H Q=>ta Z H fun x H1=>∃c,x = .bl c/\Q (.bl (!c)) H1
theorem JK{op}{t:TE}(h:PE X a t):PE X (.BoolOp op [a] pos) t:=fun pins s Z H Q I hw=>BoolOp_one (h pins s Z H Q I hw)
theorem JL(ha:PE X a ta)(hb:PE X (.BoolOp .And (b::Zn) pos) tb):PE X (.BoolOp .And (a::b::Zn) pos) (Hb ta tb):=by
 intro pins s Z H Q I h
 refine BoolOp_and (ZT (ha pins s Z H _ I h) fun v s1 ⟨x,H1,I1,r1,q1⟩=>?_)
 obtain⟨c,rfl,q1⟩:=q1
 cases r1
 refine wpAny_truthy_bool ?_
 cases c with
 | true=>exact hb pins s1 Z H1 Q I1 q1
 | false=>exact⟨.bl false,H1,I1,rfl,q1⟩
theorem He(ha:PE X a ta)(hb:PE X (.BoolOp .Or (b::Zn) pos) tb):PE X (.BoolOp .Or (a::b::Zn) pos) (Gr ta tb):=by
 intro pins s Z H Q I h
 refine BoolOp_or (ZT (ha pins s Z H _ I h) fun v s1 ⟨x,H1,I1,r1,q1⟩=>?_)
 obtain⟨c,rfl,q1⟩:=q1
 cases r1
 refine wpAny_truthy_bool ?_
 cases c with
 | false=>exact hb pins s1 Z H1 Q I1 q1
 | true=>exact⟨.bl true,H1,I1,rfl,q1⟩
theorem JM(ha:PE X a ta):PE X (.UnaryOp .Not a pos) (Hd ta):=by
 intro pins s Z H Q I h
 refine UnaryOp_ (ZT (ha pins s Z H _ I h) fun v s1 ⟨x,H1,I1,r1,q1⟩=>?_)
 obtain⟨c,rfl,q1⟩:=q1
 cases r1
 exact not_of (wpAny_truthy_bool ⟨.bl (!c),H1,I1,rfl,q1⟩)
def G5(t:TT)(ta tb:TE):TE:=fun Z H Q=>t Z H fun c H1=>if c=true then ta Z H1 Q else tb Z H1 Q
theorem Mn{c:Expr}(hc:PT X c tA)(ha:PE X a ta)(hb:PE X b tb):PE X (.IfExp c a b pos) (G5 tA ta tb):=by
 intro pins s Z H Q I h
 refine wpAny_IfExp (ZT (hc pins s Z H _ I h) fun d s1 ⟨H1,I1,q1⟩=>?_)
 cases d with
 | true=>exact ha pins s1 Z H1 Q I1 q1
 | false=>exact hb pins s1 Z H1 Q I1 q1
end
def SqL(K:PySem.W.Frag)(H:Hp)(a:Addr)(xs:List V):Prop:=
 Rd H a (.lst xs)\/
  ∃(o:Obj) (its:Array Value) (n:Nat),K.lookup a=some o/\o.cls = .type "list"/\o.dict=none/\o.data = .seq its n/\its.size<=sizeLine/\Vals xs its.toList
def SqT(K:PySem.W.Frag)(H:Hp)(a:Addr)(xs:List V):Prop:=
 Rd H a (.tup xs)\/
  ∃(o:Obj) (its:Array Value) (n:Nat),K.lookup a=some o/\o.cls = .type "tuple"/\o.data = .seq its n/\its.size<=sizeLine/\Vals xs its.toList
def Gs:Value->Option V
 | .none=>some .non
 | .bool b=>some (.bl b)
 | .int i _=>some (.int i)
 | .str x _=>some (.str x)
 | .bytes b _=>some (.byt b)
 | .float b _=>some (.flt b)
 | .ref a=>some (.ref a)
 | .type n=>some (.ty n)
 | _=>none
theorem RelV.abs{x:V}{u:Value}(r:RelV x u):Gs u=some x:=by
 cases x with
 | non=>cases r;rfl
 | bl _=>cases r;rfl
 | int _=>obtain⟨t,rfl⟩:=r;rfl
 | str _=>obtain⟨t,rfl⟩:=r;rfl
 | byt _=>obtain⟨t,rfl⟩:=r;rfl
 | flt _=>obtain⟨t,rfl⟩:=r;rfl
 | ref _=>cases r;rfl
 | ty _=>cases r;rfl
theorem RelV.inj{x y:V}{u:Value}(r:RelV x u)(q:RelV y u):x=y:=Option.some.inj (r.abs.symm.trans q.abs)
theorem Vals.inj:∀{xs ys:List V}{us:List Value},Vals xs us->Vals ys us->xs=ys
 | _,_,_,.nil,.nil=>rfl
 | _,_,_,.cons r t,.cons r' t'=>by rw[r.inj r',Vals.inj t t']
section
variable {X:Cx} {pins:List (Addr×Obj)} {Z:St} {H:Hp} {s:Shared} {a:Addr} {xs ys:List V}
theorem SqL.of{K:PySem.W.Frag}(h:H a=some (.lst xs)):SqL K H a xs:=.inl (.inl h)
theorem SqT.of{K:PySem.W.Frag}(h:H a=some (.tup xs)):SqT K H a xs:=.inl (.inl h)
theorem Inv.list(I:Inv X pins Z H s)(h:SqL X.K H a xs):∃its:List Value,Vals xs its/\PlainL s.heap a its.toArray/\xs.length<=sizeLine:=by
 rcases h with h | ⟨o,its,n,hk,hc,hd,hs,hz,r⟩
 ·obtain⟨z,its,n,r,e⟩:=h.ok I.hok
  exact⟨its,r,⟨_,n,e,rfl,rfl,rfl⟩,z⟩
 ·refine⟨its.toList,r,⟨o,n,I.kIn a o hk,hc,hd,by simpa using hs⟩,?_⟩
  have e:=r.length;simp only[Array.length_toList] at e;omega
theorem Inv.tuple(I:Inv X pins Z H s)(h:SqT X.K H a xs):∃its:List Value,Vals xs its/\IsTup s.heap a its.toArray/\xs.length<=sizeLine:=by
 rcases h with h | ⟨o,its,n,hk,hc,hs,hz,r⟩
 ·obtain⟨z,its,r,p⟩:=h.ok I.hok
  exact⟨its,r,p,z⟩
 ·refine⟨its.toList,r,⟨o,I.kIn a o hk,hc,n,by simpa using hs⟩,?_⟩
  have e:=r.length;simp only[Array.length_toList] at e;omega
theorem Inv.list_inj(I:Inv X pins Z H s)(h:SqL X.K H a xs)(h':SqL X.K H a ys):xs=ys:=by
 obtain⟨its,r,⟨o,n,e,_,_,d⟩,_⟩:=I.list h
 obtain⟨its',r',⟨o',n',e',_,_,d'⟩,_⟩:=I.list h'
 rw[e] at e';cases e'
 rw[d] at d'
 injection d' with d1 _
 have:its=its':=by simpa using congrArg Array.toList d1
 subst this
 exact r.inj r'
theorem Inv.tuple_inj(I:Inv X pins Z H s)(h:SqT X.K H a xs)(h':SqT X.K H a ys):xs=ys:=by
 obtain⟨its,r,⟨o,e,_,n,d⟩,_⟩:=I.tuple h
 obtain⟨its',r',⟨o',e',_,n',d'⟩,_⟩:=I.tuple h'
 rw[e] at e';cases e'
 rw[d] at d'
 injection d' with d1 _
 have:its=its':=by simpa using congrArg Array.toList d1
 subst this
 exact r.inj r'
end
abbrev Cx.wish(X:Cx)(E:Value->Shared->Prop):Cx:={ X with xe:=E }
abbrev Cx.nox(X:Cx):Cx:=X.wish fun _ _=>False
theorem Cx.Ok.wish{X:Cx}(ok:X.Ok)(E:Value->Shared->Prop):(X.wish E).Ok:=
 ⟨ok.mod,ok.kind,ok.glob,ok.blt,ok.above,ok.inj,ok.has,ok.cab,ok.hd,ok.frames,ok.stk,ok.exf,ok.bs,ok.bsz,ok.noex,ok.exfs,ok.funs,ok.frf⟩
theorem Cx.Ok.unwish{X:Cx}{E:Value->Shared->Prop}(ok:(X.wish E).Ok):X.Ok:=
 ⟨ok.mod,ok.kind,ok.glob,ok.blt,ok.above,ok.inj,ok.has,ok.cab,ok.hd,ok.frames,ok.stk,ok.exf,ok.bs,ok.bsz,ok.noex,ok.exfs,ok.funs,ok.frf⟩
section
variable {X:Cx} {pins:List (Addr×Obj)} {Z:St} {H:Hp} {s:Shared} {E:Value->Shared->Prop}
theorem Inv.wish(I:Inv X pins Z H s)(E:Value->Shared->Prop):Inv (X.wish E) pins Z H s:=⟨I.ok.wish E,I.os,I.bare,I.base,I.loc,I.cell,I.free,I.freeC,I.pin,I.hok,I.len⟩
theorem Inv.unwish(I:Inv (X.wish E) pins Z H s):Inv X pins Z H s:=⟨I.ok.unwish,I.os,I.bare,I.base,I.loc,I.cell,I.free,I.freeC,I.pin,I.hok,I.len⟩
theorem SP.unwish{D:VZ}{f:Flow}{s':Shared}(h:SP (X.wish E) pins D f s'):SP X pins D f s':=by
 cases f with
 | next=>obtain⟨Z',H',I,q⟩:=h;exact⟨Z',H',I.unwish,q⟩
 | brk=>obtain⟨Z',H',I,q⟩:=h;exact⟨Z',H',I.unwish,q⟩
 | cont=>obtain⟨Z',H',I,q⟩:=h;exact⟨Z',H',I.unwish,q⟩
 | ret u=>obtain⟨v,Z',H',I,r,q⟩:=h;exact⟨v,Z',H',I.unwish,r,q⟩
theorem PSs.nox{st:List Stmt}{t:TS}(h:PSs X.nox st t):PSs X st t:=fun pins s Z H D I hw=>
 wpAny_mono (h pins s Z H D (I.wish _) hw) (fun _ _ q=>q.unwish) fun _ _ z=>False.elim z
end
section
variable {X:Cx} {st:Stmt} {Zn:List Stmt} {t u:TS} {e:Expr} {te:TE} {pos:Pos}
def K9:TS:=fun D Z H=>D.nx Z H
def Gu(t u:TS):TS:=fun D Z H=>t { D with nx:=u D } Z H
theorem LM:PSs X [] K9:=fun _ _ Z H _ I h=>wpAny_execs_nil ⟨Z,H,I,h⟩
theorem Mo(h1:PS X st t)(h2:PSs X Zn u):PSs X (st::Zn) (Gu t u):=by
 intro pins s Z H D I h
 refine wpAny_execs_cons (ZT (h1 pins s Z H { D with nx:=u D } I h) fun f s1 q=>?_)
 cases f with
 | next=>
  obtain⟨Z',H',I',q⟩:=q
  exact h2 pins s1 Z' H' D I' q
 | ret v=>exact q
 | brk=>exact q
 | cont=>exact q
theorem LN(h1:PS X st t):PSs X [st] t:=by
 intro pins s Z H D I h
 refine wpAny_execs_cons (ZT (h1 pins s Z H D I h) fun f s1 q=>?_)
 cases f with
 | next=>exact wpAny_execs_nil q
 | ret v=>exact q
 | brk=>exact q
 | cont=>exact q
theorem Inv.quiet{pins:List (Addr×Obj)}{Z:St}{H:Hp}{s:Shared}(I:Inv X pins Z H s):interactive X.env=false:=by simp[interactive,I.ok.kind]
def Od(te:TE):TS:=fun D Z H=>te Z H fun _ H1=>D.nx Z H1
theorem Wr(he:PE X e te)(hs:swapsWith e none pos.line X.env=pure false:=by rfl):PS X (.Expr e pos) (Od te):=by
 intro pins s Z H D I h
 exact wpAny_Expr_any (ZT (he pins s Z H _ I h) fun v s1 ⟨x,H1,I1,r1,q1⟩=>⟨Z,H1,I1,q1⟩) I.quiet hs
def Gv(te:TE):TS:=fun D Z H=>te Z H D.rt
theorem Q9(he:PE X e te):PS X (.Return (some e) pos) (Gv te):=by
 intro pins s Z H D I h
 exact wpAny_Return_some (ZT (he pins s Z H _ I h) fun v s1 ⟨x,H1,I1,r1,q1⟩=>⟨x,Z,H1,I1,r1,q1⟩)
def Gw(c:TT)(t u:TS):TS:=fun D Z H=>c Z H fun b H1=>if b=true then t D Z H1 else u D Z H1
theorem Hf{c:Expr}{a b:List Stmt}{tc:TT}(hc:PT X c tc)(ha:PSs X a t)(hb:PSs X b u):PS X (.If c a b pos) (Gw tc t u):=by
 intro pins s Z H D I h
 refine wpAny_If (ZT (hc pins s Z H _ I h) fun d s1 ⟨H1,I1,q1⟩=>?_)
 cases d with
 | true=>exact ha pins s1 Z H1 D I1 q1
 | false=>exact hb pins s1 Z H1 D I1 q1
end
abbrev TG:=V->St->Hp->(St->Hp->Prop)->Prop
abbrev Ja:=List V->St->Hp->(St->Hp->Prop)->Prop
def PG(X:Cx)(target:Expr)(t:TG):Prop:=
 ∀(pins:List (Addr×Obj))(s:Shared)(Z:St)(H:Hp)(v:V)(u:Value)(Q:St->Hp->Prop),Inv X pins Z H s->RelV v u->t v Z H Q->
  wpAny (model X.prog X.w) X.A (assign target X.env u) (fun _ s'=>∃Z' H',Inv X pins Z' H' s'/\Q Z' H') X.xe s
def Ge(X:Cx)(ts:List Expr)(t:Ja):Prop:=
 ∀(pins:List (Addr×Obj))(s:Shared)(Z:St)(H:Hp)(vs:List V)(us:List Value)(Q:St->Hp->Prop),Inv X pins Z H s->Vals vs us->t vs Z H Q->
  wpAny (model X.prog X.w) X.A (assignInOrder ((assignEach ts X.env).map (·.2)) us) (fun _ s'=>∃Z' H',Inv X pins Z' H' s'/\Q Z' H') X.xe s
abbrev JN:=V->V->V->Hp->(Hp->Prop)->Prop
def Hg(X:Cx)(t:JN):Prop:=
 ∀(pins:List (Addr×Obj))(s:Shared)(Z:St)(H:Hp)(o i v:V)(ov iv u:Value)(Q:Hp->Prop),Inv X pins Z H s->RelV o ov->RelV i iv->RelV v u->t o i v H Q->
  wpAny (model X.prog X.w) X.A (setItem ov iv u) (fun _ s'=>∃H',Inv X pins Z H' s'/\Q H') X.xe s
abbrev Gf:=V->V->Hp->VK->Prop
def GY(X:Cx)(op:Operator)(t:Gf):Prop:=
 ∀(pins:List (Addr×Obj))(s:Shared)(Z:St)(H:Hp)(x y:V)(v u:Value)(Q:VK),Inv X pins Z H s->RelV x v->RelV y u->t x y H Q->
  wpAny (model X.prog X.w) X.A (inplaceOp op v u) (EP X pins Z Q) X.xe s
section
variable {X:Cx} {pos:Pos}
def U6(i:Nat):TG:=fun v Z H Q=>Q (Z.set i (some v)) H
theorem Zx{i:Nat}{x:Str}(hN:X.N.Nodup)(hi:X.N[i]?=some x)(hx:IV X.env.scope x)(hf:X.fn x=true\/X.env.scope.names.lookup x=some .local:=by first | exact .inl rfl | exact .inr rfl | assumption):PG X (.Name x pos) (U6 i):=by
 intro pins s Z H v u Q I r h
 exact wpAny_assign_Name (VY I hN hi hx r (fun s' I'=>⟨_,H,I',h⟩) hf)
def Hh:Ja:=fun vs Z H Q=>vs=[]/\Q Z H
def Jb(t:TG)(u:Ja):Ja:=fun vs Z H Q=>∃v r,vs=v::r/\t v Z H fun Z' H'=>u r Z' H' Q
theorem Vi:Ge X [] Hh:=by
 intro pins s Z H vs us Q I r h
 obtain⟨e,h⟩:=h
 subst e;cases r
 exact assignInOrder_nil ⟨Z,H,I,h⟩
theorem Yp{e:Expr}{es:List Expr}{t:TG}{u:Ja}(h1:PG X e t)(h2:Ge X es u)
  (hs:(assignEach (e::es) X.env).map (·.2)=assign e X.env::(assignEach es X.env).map (·.2):=by rfl):Ge X (e::es) (Jb t u):=by
 intro pins s Z H vs us Q I r h
 obtain⟨v,vr,e1,h⟩:=h
 subst e1
 cases r with
 | cons r rr=>
  rw[hs]
  refine assignInOrder_cons (ZT (h1 pins s Z H _ _ _ I r h) fun _ s1 ⟨Z1,H1,I1,q1⟩=>?_)
  exact h2 pins s1 Z1 H1 _ _ Q I1 rr q1
def Hi(K:PySem.W.Frag)(n:Nat)(t:Ja):TG:=fun v Z H Q=>∃a xs,v = .ref a/\SqT K H a xs/\xs.length=n/\t xs Z H Q
theorem UC{es:List Expr}{k:Nat}{t:Ja}{n:Nat}(hc:X.calm=true)(h:Ge X es t)
  (hn:(assignEach es X.env).length=n:=by rfl) (hst:(assignEach es X.env).findIdx? (·.1)=none:=by rfl):PG X (.Tuple es k pos) (Hi X.K n t):=by
 intro pins s Z H v u Q I r hw
 obtain⟨a,xs,e1,hq,hl,hw⟩:=hw
 subst e1;cases r
 obtain⟨its,rv,ht,hz⟩:=I.tuple hq
 refine assign_Tuple_tuple (I.ok.hd hc) ht (by simp[hn,<-hl,rv.length]) hst fun h' hx=>?_
 have I1:Inv X pins Z H { s with heap:=h' }:=I.kept (t':=s.toks) fun b o e=>hx b o (Nat.ne_of_lt (Heap.lt_size e)) e
 exact h pins _ Z H xs _ Q I1 (by simpa using rv) hw
def Hj(to ti:TE)(t:JN):TG:=fun v Z H Q=>to Z H fun o H1=>ti Z H1 fun i H2=>t o i v H2 fun H3=>Q Z H3
theorem RF{o i:Expr}{to ti:TE}{t:JN}(ho:PE X o to)(hi:PE X i ti)(hs:Hg X t)
  (ha:∀v,assign (.Subscript o i pos) X.env v=(do
   let ov <-holding [v] (eval o X.env)
   let iv <-holding [v,ov] (eval i X.env)
   standAt pos
   holding [v,ov,iv] (setItem ov iv v)
   release [v,ov,iv] []):=by intro _;rfl):PG X (.Subscript o i pos) (Hj to ti t):=by
 intro pins s Z H v u Q I r h;rw[ha]
 refine wpAny_bind (wpAny_holding (ZT (ho pins s Z H _ I h) fun ov s1 ⟨x,H1,I1,r1,q1⟩=>?_))
 refine wpAny_bind (wpAny_holding (ZT (hi pins s1 Z H1 _ I1 q1) fun iv s2 ⟨y,H2,I2,r2,q2⟩=>?_))
 refine wpAny_bind (wpAny_standAt (wpAny_bind (wpAny_holding (ZT (hs pins s2 Z H2 x y v ov iv u _ I2 r1 r2 r q2) fun _ s3 ⟨H3,I3,q3⟩=>?_))))
 exact wpAny_release ⟨Z,H3,I3,q3⟩
def Nd(te:TE)(g:TG):TS:=fun D Z H=>te Z H fun x H1=>g x Z H1 D.nx
theorem RG{tg e:Expr}{te:TE}{g:TG}(he:PE X e te)(hg:PG X tg g)(hs:swapsWithSole [tg] e pos.line X.env=pure false:=by rfl)(hw:swappedStores [tg] e X.env=pure none:=by rfl)
  (h1:(assignEach [tg] X.env).map (·.2)=[assign tg X.env]:=by rfl):PS X (.Assign [tg] e pos) (Nd te g):=by
 intro pins s Z H D I h
 refine wpAny_Assign_stores (ZT (he pins s Z H _ I h) fun v s1 ⟨x,H1,I1,r1,q1⟩=>?_) hs hw
 rw[h1]
 exact ZT (hg pins s1 Z H1 x v _ I1 r1 q1) fun _ s2 q=>q
theorem JO{i:Nat}{x:Str}{e:Expr}{te:TE}{pos':Pos}(hN:X.N.Nodup)(hi:X.N[i]?=some x)(hx:IV X.env.scope x)(he:PE X e te)(hs:swapsWith e (some (.Name x pos')) pos.line X.env=pure false:=by rfl)(hf:X.fn x=true\/X.env.scope.names.lookup x=some .local:=by first | exact .inl rfl | exact .inr rfl | assumption) :
  PS X (.Assign [.Name x pos'] e pos) (Nd te (U6 i)):=by
 intro pins s Z H D I h
 refine wpAny_Assign_Name (ZT (he pins s Z H _ I h) fun v s1 ⟨y,H1,I1,r1,q1⟩=>?_) hs
 exact VY I1 hN hi hx r1 (fun s2 I2=>⟨_,H1,I2,q1⟩) hf
def Hk(i:Nat)(te:TE)(ti:Gf):TS:=fun D Z H=>∃x,Z[i]?=some (some x)/\te Z H fun y H1=>ti x y H1 fun z H2=>D.nx (Z.set i (some z)) H2
theorem JP{i:Nat}{x:Str}{e:Expr}{te:TE}{op:Operator}{ti:Gf}{pos':Pos}(hN:X.N.Nodup)(hi:X.N[i]?=some x)(hx:IV X.env.scope x)(he:PE X e te)(ho:GY X op ti)(hf:X.fn x=true\/X.env.scope.names.lookup x=some .local:=by first | exact .inl rfl | exact .inr rfl | assumption) :
  PS X (.AugAssign (.Name x pos') op e pos) (Hk i te ti):=by
 intro pins s Z H D I h
 obtain⟨v,e1,h⟩:=h
 obtain⟨m,hn,hl⟩:=I.loc
 have vis:Gd X.env.scope x:=by rcases hx with k | k;exact .inl k;exact .inr (.inl k)
 obtain⟨u,r,l⟩:=hl i x v hi e1 vis
 refine wpAny_AugAssign_Name ?_
 have go:wpAny (model X.prog X.w) X.A (eval e X.env) (fun w s₂=>wpAny (model X.prog X.w) X.A (inplaceOp op u w) (fun r s₃=>wpAny (model X.prog X.w) X.A (storeName X.env x r) (fun _=>SP X pins D .next) X.xe s₃) X.xe s₂) X.xe s:=by
  refine ZT (he pins s Z H _ I h) fun w s1 ⟨y,H1,I1,r1,q1⟩=>?_
  refine ZT (ho pins s1 Z H1 v y u w _ I1 r r1 q1) fun z s2 ⟨zv,H2,I2,r2,q2⟩=>?_
  exact VY I2 hN hi hx r2 (fun s3 I3=>⟨_,H2,I3,q2⟩) hf
 rcases l with⟨hk,hm⟩ | ⟨hk,c,hc,hcell⟩
 ·exact wpAny_loadName_local I.ok.kind hk hn hm go
 ·rcases hk with hk | hk
  ·exact wpAny_loadName_cell I.ok.kind hk hc hcell go
  ·rcases hx with k | k
   ·have:X.env.scope.names.lookup x=some .free:=hk
    rw[k] at this;cases this
   ·have:X.env.scope.names.lookup x=some .free:=hk
    rw[k] at this;cases this
def GZ(f:Int->Int->Int):Gf:=fun x y H Q=>∃i j,x = .int i/\y = .int j/\Q (.int (f i j)) H
theorem JQ:GY X .Add (GZ fun i j=>i+j):=by
 intro pins s Z H x y v u Q I r1 r2 h
 obtain⟨i,j,e1,e2,q⟩:=h
 subst e1;subst e2
 obtain⟨t,rfl⟩:=r1
 obtain⟨t',rfl⟩:=r2
 exact iadd_int ⟨.int _,H,I.tok _,⟨_,rfl⟩,q⟩
end
section
variable {X:Cx} {pos:Pos}
def JR(c:TT)(tb:TS):TS:=fun D Z H=>∃W:Nat->St->Hp->Prop,(∃m,W m Z H)/\∀m Z H,W m Z H->
 c Z H fun b H1=>if b=true then ∃N:St->Hp->Prop,(∀Z' H',N Z' H'->∃m',m'<m/\W m' Z' H')/\tb { D with nx:=N,ct:=N,bk:=D.nx } Z H1 else D.nx Z H1
theorem Mp{c:Expr}{body:List Stmt}{tc:TT}{tb:TS}(hp:PassesOwn (model X.prog X.w) X.A X.env X.xe)(hc:PT X c tc)(hb:PSs X body tb):PS X (.While c body [] pos) (JR tc tb):=by
 intro pins s Z H D I h
 obtain⟨W,⟨m0,w0⟩,turn⟩:=h
 refine wpAny_While (codeAny_whileLoop (fun n s'=>∃Z' H',Inv X pins Z' H' s'/\W n Z' H') ?_ m0 ⟨Z,H,I,w0⟩)
 rintro n s1 ⟨Z1,H1,I1,w1⟩
 refine wpAny_passesOwn hp (ZT (hc pins s1 Z1 H1 _ I1 (turn n Z1 H1 w1)) fun b s2 ⟨H2,I2,q2⟩=>?_)
 cases b with
 | true=>
  obtain⟨N,hN,q2⟩:=q2
  rw[if_pos rfl]
  refine wpAny_passesOwn hp (ZT (hb pins s2 Z1 H2 _ I2 q2) fun f s3 q3=>?_)
  cases f with
  | next=>
   obtain⟨Z3,H3,I3,n3⟩:=q3
   obtain⟨m',hm,w3⟩:=hN Z3 H3 n3
   exact⟨m',hm,Z3,H3,I3,w3⟩
  | cont=>
   obtain⟨Z3,H3,I3,n3⟩:=q3
   obtain⟨m',hm,w3⟩:=hN Z3 H3 n3
   exact⟨m',hm,Z3,H3,I3,w3⟩
  | brk=>exact q3
  | ret v=>exact q3
 | false=>
  rw[if_neg Bool.false_ne_true]
  exact wpAny_execs_nil ⟨Z1,H2,I2,q2⟩
end
structure It where
 go:Nat->Hp->Prop
 yld:Nat->Hp->V->Hp->Prop
 stop:Nat->Hp->Prop
def UD(X:Cx)(pins:List (Addr×Obj))(H:Hp)(b:Addr):Prop:=
 H b=none/\b≠X.env.locals/\b∉X.fs/\(b∈X.ex\/X.s₀.heap.objs.size<=b)/\(∀x c,X.env.cells.lookup x=some c->c≠b)/\∀p∈X.pn++pins,p.1≠b
theorem Inv.fpOk{X:Cx}{pins:List (Addr×Obj)}{Z:St}{H H':Hp}{s:Shared}{b:Addr}(I:Inv X pins Z H s)(hb:s.heap.objs.size<=b)(hn:H' b=none):UD X pins H' b:=by
 refine⟨hn,Nat.ne_of_gt (Nat.lt_of_lt_of_le I.lt hb),I.nofs hb,.inr (Nat.le_trans I.sz hb),fun x c e z=>?_,fun p hp z=>?_⟩
 ·obtain⟨v,q⟩:=I.cell x c e
  exact absurd (Nat.lt_of_lt_of_le q.lt (by rw[z];exact hb)) (Nat.lt_irrefl _)
 ·exact absurd (Nat.lt_of_lt_of_le (Heap.lt_size (I.pin p hp).1) (by rw[z];exact hb)) (Nat.lt_irrefl _)
structure Qm(P:Program)(w:World)(K:PySem.W.Frag)(tg:Expr)(J:It)(fp:List Addr)(it:Addr)(tn:Nat->Heap->Prop):Prop where
 mem:it∈fp
 obj:∀i h,tn i h->∀b∈fp,∃o,h.get? b=some o/\∀v,o.data≠.cell v
 keep:∀i h h',tn i h->(∀b∈fp,∀o,h.get? b=some o->h'.get? b=some o)->tn i h'
 item:∀(X:Cx),X.prog=P->X.w=w->X.K=K->X.calm=true->∀(i:Nat)(pins:List (Addr×Obj))(s:Shared)(Z:St)(H:Hp)(E:Value->Shared->Prop),Inv X pins Z H s->(∀b∈fp,UD X pins H b)->tn i s.heap->J.go i H->
  wpAny (model P w) X.A (pyNext (.ref it)) (fun r s1=>∃u,r=some u/\
   wpAny (model P w) X.A (letOwnedTupleGo tg (.ref it) u) (fun _ s2=>∃x H',Inv X pins Z H' s2/\RelV x u/\J.yld i H x H'/\tn (i+1) s2.heap/\∀b∈fp,H' b=none) E s1) E s
 done:∀(X:Cx),X.prog=P->X.w=w->X.K=K->X.calm=true->∀(i:Nat)(pins:List (Addr×Obj))(s:Shared)(Z:St)(H:Hp)(E:Value->Shared->Prop),Inv X pins Z H s->(∀b∈fp,UD X pins H b)->tn i s.heap->J.stop i H->
  wpAny (model P w) X.A (pyNext (.ref it)) (fun r s1=>r=none/\Inv X pins Z H s1) E s
 self:∀(A:Around)(i:Nat)(s:Shared)(Q:Value->Shared->Prop)(E:Value->Shared->Prop),tn i s.heap->Q (.ref it) s->wpAny (model P w) A (pyIter (.ref it)) Q E s
abbrev TI:=St->Hp->(It->Hp->Prop)->Prop
def Gx(X:Cx)(pins:List (Addr×Obj))(Z:St)(tg:Expr)(R:It->Hp->Prop)(itv:Value)(s2:Shared):Prop:=
 ∃(it:Addr) (fp:List Addr) (tn:Nat->Heap->Prop) (J:It) (H':Hp),itv = .ref it/\Inv X pins Z H' s2/\Qm X.prog X.w X.K tg J fp it tn/\tn 0 s2.heap/\(∀b∈fp,UD X pins H' b)/\R J H'
def PI(X:Cx)(tg iter:Expr)(wi:TI):Prop:=
 ∀(pins:List (Addr×Obj))(s:Shared)(Z:St)(H:Hp)(R:It->Hp->Prop),Inv X pins Z H s->wi Z H R->
  wpAny (model X.prog X.w) X.A (eval iter X.env) (fun v s1=>wpAny (model X.prog X.w) X.A (pyIter v) (Gx X pins Z tg R) X.xe s1) X.xe s
theorem Qn{M:Model}{A:Around}{E:Value->Shared->Prop}{s:Shared}{tg:Expr}{it:Addr}{u:Value}{o:Obj}{n:String}{vs:Array Value}{Q:Unit->Shared->Prop}(ho:s.heap.get? it=some o)(hc:o.cls = .type n)(hd:o.data = .fields vs)
    (hn:["enumerate","zip","dict_itemiterator","dict_reverseitemiterator","odict_iterator","itertools.zip_longest","itertools.pairwise"].contains n=false) (hQ:Q () s):wpAny M A (letOwnedTupleGo tg (.ref it) u) Q E s:=by
  unfold letOwnedTupleGo
  cases tg<;>first
    | exact wpAny_pure hQ
    | (cases u<;>first
        | exact wpAny_pure hQ
        | (refine wpAny_bind (wpAny_load ho ?_)
           rw[hc,hd]
           show wpAny M A (if(["enumerate","zip","dict_itemiterator","dict_reverseitemiterator","odict_iterator","itertools.zip_longest","itertools.pairwise"].contains n&&vs[0]?==some (rawInt _))=true then _ else _) Q E s
           rw[if_neg (by intro h;rw[hn,Bool.false_and] at h;cases h)]
           exact wpAny_pure hQ))
def Gy(K:PySem.W.Frag)(a:Addr):It:=
 ⟨fun i H=>∃xs x,SqL K H a xs/\xs[i]?=some x,fun i H x H'=>H'=H/\∀xs,SqL K H a xs->xs[i]?=some x,fun i H=>∃xs,SqL K H a xs/\xs.length<=i⟩
def G0(K:PySem.W.Frag)(a:Addr):It:=
 ⟨fun i H=>∃xs x,SqT K H a xs/\xs[i]?=some x,fun i H x H'=>H'=H/\∀xs,SqT K H a xs->xs[i]?=some x,fun i H=>∃xs,SqT K H a xs/\xs.length<=i⟩
def Hl(lo:Int)(n:Nat):It:=⟨fun i _=>i<n,fun i H x H'=>H'=H/\x = .int (lo+i),fun i _=>n<=i⟩
theorem Nf{P:Program}{w:World}{K:PySem.W.Frag}{tg:Expr}(a it:Addr):Qm P w K tg (Gy K a) [it] it (fun i h=>h.IsListIter it a i) where
 mem:=by simp
 obj:=fun i h st b hb=>by
  have e:b=it:=by simpa using hb
  subst e
  obtain⟨o,e,c,d⟩:=st
  exact⟨o,e,fun v z=>by rw[d] at z;cases z⟩
 keep:=fun i h h' st k=>st.at fun o e=>k it (by simp) o e
 item:=by
  intro X hP hw hK hc i pins s Z H E I hf st hg
  subst hP hw hK
  obtain⟨xs,x,hq,hx⟩:=hg
  obtain⟨its,rv,p,hz⟩:=I.list hq
  obtain⟨u,hu,ru⟩:=rv.get hx
  obtain⟨f0,f1,f2,f3,f4,f5⟩:=hf it (by simp)
  refine wpAny_pyNext_list_item st p.isList (x:=u) (by simpa using hu) fun h' st' sb=>?_
  have I1:Inv X pins Z H { s with heap:=h' }:=I.turned (t':=s.toks) (fun b o hb e=>(sb.2 b hb).trans e) f0 f1 f3 f4 f5
  obtain⟨o,e,c,d⟩:=id st'
  exact⟨u,rfl,Qn (s:={ s with heap:=h' }) e c d (by decide) ⟨x,H,I1,ru,⟨rfl,fun ys hy=>by rw[I.list_inj hy hq];exact hx⟩,st',fun b hb=>(hf b hb).1⟩⟩
 done:=by
  intro X hP hw hK hc i pins s Z H E I hf st hg
  subst hP hw hK
  obtain⟨xs,hq,hx⟩:=hg
  obtain⟨its,rv,p,hz⟩:=I.list hq
  obtain⟨f0,f1,f2,f3,f4,f5⟩:=hf it (by simp)
  have hl:=rv.length
  exact wpAny_pyNext_list_end (I.ok.hd hc) st p.isList (by simp;omega) fun h' eb=>⟨rfl,I.turned (t':=s.toks) (fun b o hb e=>eb b o hb e) f0 f1 f3 f4 f5⟩
 self:=fun _ _ _ _ _ st h=>wpAny_pyIter_listiter st h
theorem Pa{P:Program}{w:World}{K:PySem.W.Frag}{tg:Expr}(a it:Addr):Qm P w K tg (G0 K a) [it] it (fun i h=>h.IsTupleIter it a i) where
 mem:=by simp
 obj:=fun i h st b hb=>by
  have e:b=it:=by simpa using hb
  subst e
  obtain⟨o,e,c,d⟩:=st
  exact⟨o,e,fun v z=>by rw[d] at z;cases z⟩
 keep:=fun i h h' st k=>st.at fun o e=>k it (by simp) o e
 item:=by
  intro X hP hw hK hc i pins s Z H E I hf st hg
  subst hP hw hK
  obtain⟨xs,x,hq,hx⟩:=hg
  obtain⟨its,rv,p,hz⟩:=I.tuple hq
  obtain⟨u,hu,ru⟩:=rv.get hx
  obtain⟨f0,f1,f2,f3,f4,f5⟩:=hf it (by simp)
  refine wpAny_pyNext_tuple_item st (show s.heap.IsTuple a its.toArray from p) (x:=u) (by simpa using hu) fun h' st' sb=>?_
  have I1:Inv X pins Z H { s with heap:=h' }:=I.turned (t':=s.toks) (fun b o hb e=>(sb.2 b hb).trans e) f0 f1 f3 f4 f5
  obtain⟨o,e,c,d⟩:=id st'
  exact⟨u,rfl,Qn (s:={ s with heap:=h' }) e c d (by decide) ⟨x,H,I1,ru,⟨rfl,fun ys hy=>by rw[I.tuple_inj hy hq];exact hx⟩,st',fun b hb=>(hf b hb).1⟩⟩
 done:=by
  intro X hP hw hK hc i pins s Z H E I hf st hg
  subst hP hw hK
  obtain⟨xs,hq,hx⟩:=hg
  obtain⟨its,rv,p,hz⟩:=I.tuple hq
  obtain⟨f0,f1,f2,f3,f4,f5⟩:=hf it (by simp)
  have hl:=rv.length
  exact wpAny_pyNext_tuple_end (I.ok.hd hc) st (show s.heap.IsTuple a its.toArray from p) (by simp;omega) fun h' eb=>⟨rfl,I.turned (t':=s.toks) (fun b o hb e=>eb b o hb e) f0 f1 f3 f4 f5⟩
 self:=fun _ _ _ _ _ st h=>wpAny_pyIter_tupleiter st h
theorem Pb{P:Program}{w:World}{K:PySem.W.Frag}{tg:Expr}(it:Addr)(lo:Int)(n:Nat):Qm P w K tg (Hl lo n) [it] it (fun i h=>IsRangeIter h it (lo+(i:Nat)*1) ((n:Int)-(i:Nat)) 1) where
 mem:=by simp
 obj:=fun i h st b hb=>by
  have e:b=it:=by simpa using hb
  subst e
  exact⟨_,st,fun v z=>by
   have z':Data.fields _=Data.cell v:=z
   cases z'⟩
 keep:=fun i h h' st k=>k it (by simp) _ st
 item:=by
  intro X hP hw hK hc i pins s Z H E I hf st hg
  subst hP hw hK
  obtain⟨f0,f1,f2,f3,f4,f5⟩:=hf it (by simp)
  have W:=Walks.range (prog:=X.prog) (w:=X.w) (I.ok.hd hc) it lo 1 n
  refine W.item i s _ _ hg st fun v h' tk hv st' kk=>?_
  obtain⟨t,rfl⟩:=hv
  have I1:Inv X pins Z H { s with heap:=h',toks:=tk }:=I.turned (fun b o hb e=>kk b o (by simpa using hb) e) f0 f1 f3 f4 f5
  refine⟨_,rfl,Qn (s:={ s with heap:=h',toks:=tk }) (n:="range_iterator") st' rfl rfl (by decide) ⟨.int (lo+i),H,I1,⟨t,?_⟩,⟨rfl,rfl⟩,st',fun b hb=>(hf b hb).1⟩⟩
  rw[Int.mul_one]
 done:=by
  intro X hP hw hK hc i pins s Z H E I hf st hg
  subst hP hw hK
  obtain⟨f0,f1,f2,f3,f4,f5⟩:=hf it (by simp)
  exact wpAny_pyNext_range_end (I.ok.hd hc) st (by have:n<=i:=hg;omega) fun h' eb=>⟨rfl,I.turned (t':=s.toks) (fun b o hb e=>eb b o hb e) f0 f1 f3 f4 f5⟩
 self:=fun _ _ _ _ _ st h=>wpAny_pyIter_rangeiter st h
section
variable {X:Cx} {tg:Expr}
def Hm(K:PySem.W.Frag)(tl:TE):TI:=fun Z H R=>tl Z H fun x H1=>∃a,x = .ref a/\(∃xs,SqL K H1 a xs)/\R (Gy K a) H1
def Gz(K:PySem.W.Frag)(tl:TE):TI:=fun Z H R=>tl Z H fun x H1=>∃a,x = .ref a/\(∃xs,SqT K H1 a xs)/\R (G0 K a) H1
theorem LO{l:Expr}{tl:TE}(hl:PE X l tl):PI X tg l (Hm X.K tl):=by
 intro pins s Z H R I h
 refine ZT (hl pins s Z H _ I h) fun v s1 ⟨x,H1,I1,r1,q1⟩=>?_
 obtain⟨a,e,⟨xs,hq⟩,q⟩:=q1
 subst e;cases r1
 obtain⟨its,rv,p,hz⟩:=I1.list hq
 refine wpAny_pyIter_list p.isList ?_
 refine⟨s1.heap.objs.size,[s1.heap.objs.size],_,_,H1,rfl,I1.kept (t':=s1.toks) fun b o e=>Heap.get?_push_of_some _ e,Nf a _,⟨_,Heap.get?_push_size _ rfl,rfl,rfl⟩,fun b hb=>?_,q⟩
 have e:b=s1.heap.objs.size:=by simpa using hb
 subst e
 exact I1.fpOk (Nat.le_refl _) (I1.hok.fresh (Nat.le_refl _))
theorem JS{l:Expr}{tl:TE}(hl:PE X l tl):PI X tg l (Gz X.K tl):=by
 intro pins s Z H R I h
 refine ZT (hl pins s Z H _ I h) fun v s1 ⟨x,H1,I1,r1,q1⟩=>?_
 obtain⟨a,e,⟨xs,hq⟩,q⟩:=q1
 subst e;cases r1
 obtain⟨its,rv,p,hz⟩:=I1.tuple hq
 refine wpAny_pyIter_tuple (show s1.heap.IsTuple a its.toArray from p) ?_
 refine⟨s1.heap.objs.size,[s1.heap.objs.size],_,_,H1,rfl,I1.kept (t':=s1.toks) fun b o e=>Heap.get?_push_of_some _ e,Pa a _,⟨_,Heap.get?_push_size _ rfl,rfl,rfl⟩,fun b hb=>?_,q⟩
 have e:b=s1.heap.objs.size:=by simpa using hb
 subst e
 exact I1.fpOk (Nat.le_refl _) (I1.hok.fresh (Nat.le_refl _))
theorem Qo{pins:List (Addr×Obj)}{Z:St}{H:Hp}{s:Shared}{R:It->Hp->Prop}{E:Value->Shared->Prop}{lo hi:Int}{t u v:Tok}{tk:Nat}(I:Inv X pins Z H s)(h1 : -(2^62)<=lo)(h2:lo<2^62)(h3 : -(2^62)<=hi)(h4:hi<2^62)
  (q:R (Hl lo (hi-lo).toNat) H):wpAny (model X.prog X.w) X.A (pyIter (.ref s.heap.objs.size)) (Gx X pins Z tg R) E { s with heap:=s.heap.push { cls:=.type "range",data:=.fields #[.int lo t,.int hi u,.int 1 v] },toks:=tk }:=by
 refine wpAny_pyIter_range (IsRange.new ..) (small_one h1 h2 h3 h4) ?_
 have I1:Inv X pins Z H { s with heap:=s.heap.push { cls:=.type "range",data:=.fields #[.int lo t,.int hi u,.int 1 v] },toks:=tk }:=I.kept fun b o e=>Heap.get?_push_of_some _ e
 refine⟨(s.heap.push { cls:=.type "range",data:=.fields #[.int lo t,.int hi u,.int 1 v] }).objs.size,[(s.heap.push { cls:=.type "range",data:=.fields #[.int lo t,.int hi u,.int 1 v] }).objs.size],_,_,H,rfl,
  I1.kept (t':=tk) fun b o e=>Heap.get?_push_of_some _ e,Pb _ lo (hi-lo).toNat,?_,fun b hb=>?_,q⟩
 ·have e1:lo+((0:Nat):Int)*1=lo:=by simp
  have e2:(((hi-lo).toNat:Nat):Int)-((0:Nat):Int)=Builtin.Range.rangeSize lo hi 1:=by rw[rangeSize_one];split<;>omega
  show IsRangeIter _ _ (lo+((0:Nat):Int)*1) ((((hi-lo).toNat:Nat):Int)-((0:Nat):Int)) 1
  rw[e1,e2]
  exact Heap.get?_push_size _ rfl
 ·have e:b=(s.heap.push { cls:=.type "range",data:=.fields #[.int lo t,.int hi u,.int 1 v] }).objs.size:=by simpa using hb
  subst e
  exact I1.fpOk (Nat.le_refl _) (I1.hok.fresh (Nat.le_refl _))
def Hn(ta:TA):TI:=fun Z H R=>ta Z H fun vs H1=>∃j:Int,vs=[.int j]/\-(2^62)<=j/\j<2^62/\R (Hl 0 j.toNat) H1
def Ho(ta:TA):TI:=fun Z H R=>ta Z H fun vs H1=>∃i j:Int,vs=[.int i,.int j]/\(-(2^62)<=i/\i<2^62/\-(2^62)<=j/\j<2^62)/\R (Hl i (j-i).toNat) H1
theorem Ng{a:Expr}{ta:TA}{p pos:Pos}(hg:Gl X "range")(hm:X.mg "range" = none)(ha:PA X [a] ta)(hs:starEach [a] X.env=[(false,eval a X.env)]:=by rfl):PI X tg (.Call (.Name "range" p) [a] [] pos) (Hn ta):=by
 intro pins s Z H R I h
 refine Call_ (UB I hg hm boot_range (PyProof.Rows.callWith_type1 (ZT (ha pos pins s Z H _ I h) fun us s1 ⟨vs,H1,I1,r1,q1⟩=>?_) hs rfl))
 obtain⟨j,e,q1,q2,q⟩:=q1
 subst e
 cases r1 with
 | cons r rr=>
  cases rr
  obtain⟨t,rfl⟩:=r
  exact call_range_1 (Qo I1 (by omega) (by omega) q1 q2 (by simpa using q))
theorem Nh{a b:Expr}{ta:TA}{p pos:Pos}(hg:Gl X "range")(hm:X.mg "range" = none)(ha:PA X [a,b] ta)(hs:starEach [a,b] X.env=[(false,eval a X.env),(false,eval b X.env)]:=by rfl)(hs2:starEach [b] X.env=[(false,eval b X.env)]:=by rfl) :
  PI X tg (.Call (.Name "range" p) [a,b] [] pos) (Ho ta):=by
 intro pins s Z H R I h
 refine Call_ (UB I hg hm boot_range (PyProof.Rows.callWith_type1 (ZT (ha pos pins s Z H _ I h) fun us s1 ⟨vs,H1,I1,r1,q1⟩=>?_) (by rw[hs,hs2]) (by rw[hs2];rfl)))
 obtain⟨i,j,e,⟨q1,q2,q3,q4⟩,q⟩:=q1
 subst e
 cases r1 with
 | cons r rr=>
  cases rr with
  | cons r' rr=>
   cases rr
   obtain⟨t,rfl⟩:=r
   obtain⟨t',rfl⟩:=r'
   exact call_range_2 (Qo I1 q1 q2 q3 q4 q)
def LP(wi:TI)(g:TG)(tb:TS):TS:=fun D Z H=>wi Z H fun J H1=>∃W:Nat->Nat->St->Hp->Prop,(∃m,W 0 m Z H1)/\∀i m Z H,W i m Z H->
 (J.stop i H/\D.nx Z H)\/(J.go i H/\∃N:St->Hp->Prop,(∀Z' H',N Z' H'->∃m',m'<m/\W (i+1) m' Z' H')/\∀x H',J.yld i H x H'->g x Z H' fun Z2 H2=>tb { D with nx:=N,ct:=N,bk:=D.nx } Z2 H2)
def UE(fp:List Addr)(h:Heap):List (Addr×Obj):=fp.filterMap fun b=>(h.get? b).map fun o=>(b,o)
theorem Ws{fp:List Addr}{h:Heap}{b:Addr}{o:Obj}(hb:b∈fp)(e:h.get? b=some o):(b,o)∈UE fp h:=List.mem_filterMap.mpr ⟨b,hb,by rw[e];rfl⟩
theorem Ni{fp:List Addr}{h:Heap}{p:Addr×Obj}(hp:p∈UE fp h):p.1∈fp/\h.get? p.1=some p.2:=by
 obtain⟨b,hb,e⟩:=List.mem_filterMap.mp hp
 cases q:h.get? b with
 | none=>rw[q] at e;cases e
 | some o=>
  rw[q] at e
  have e':(b,o)=p:=Option.some.inj e
  subst e'
  exact⟨hb,q⟩
theorem Inv.pinned{pins:List (Addr×Obj)}{Z:St}{H:Hp}{s:Shared}{fp:List Addr}(I:Inv X pins Z H s)(hf:∀b∈fp,UD X pins H b)(ho:∀b∈fp,∃o,s.heap.get? b=some o/\∀v,o.data≠.cell v):Inv X (pins++UE fp s.heap) Z H s:=
 I.pins_of fun p hp=>(List.mem_append.mp hp).elim (fun z=>I.pin p (List.mem_append_right _ z)) fun z=>by
  obtain⟨hb,e⟩:=Ni z
  obtain⟨f0,f1,f2,_⟩:=hf p.1 hb
  obtain⟨o,e',d⟩:=ho p.1 hb
  rw[e] at e';cases e'
  exact⟨e,f0,f1,f2,d⟩
theorem Inv.unpinned{pins pl:List (Addr×Obj)}{Z:St}{H:Hp}{s:Shared}(I:Inv X (pins++pl) Z H s):Inv X pins Z H s:=I.pins_of fun p hp=>I.pin p (List.mem_append_right _ (List.mem_append_left _ hp))
theorem RH{iter:Expr}{body:List Stmt}{wi:TI}{g:TG}{tb:TS}{pos:Pos}(hp:PassesOwn (model X.prog X.w) X.A X.env X.xe)(hc:X.calm=true)(hi:PI X tg iter wi)(hg:PG X tg g)(hb:PSs X body tb)
  (hs:∀x,foldedSetIterable iter X.env x=pure x:=by intro _;rfl):PS X (.For tg iter body [] pos) (LP wi g tb):=by
 intro pins s Z H D I h
 refine wpAny_For (ZT (hi pins s Z H _ I h) fun v s1 h1=>ZT h1 fun itv s2 h2=>?_) hs
 obtain⟨it,fp,tn,J,H2,e,I2,T,st2,f2,W,⟨m0,w0⟩,turn⟩:=h2
 subst e
 -- what stays true of the iterator's objects through the loop
 have stat:∀{H':Hp},(∀b∈fp,H' b=none)->∀b∈fp,UD X pins H' b:=fun hn b hb=>⟨hn b hb,(f2 b hb).2⟩
 refine codeAny_forLoop_any (fun n s'=>∃i Z' H',Inv X pins Z' H' s'/\tn i s'.heap/\(∀b∈fp,H' b=none)/\W i n Z' H') ?_ m0 ⟨0,Z,H2,I2,st2,fun b hb=>(f2 b hb).1,w0⟩
 rintro n s3 ⟨i,Z3,H3,I3,st3,fr3,w3⟩
 rcases turn i n Z3 H3 w3 with⟨stop,qn⟩ | ⟨go,N,hN,step⟩
 ·refine wpAny_passesOwn hp (ZT (T.done X rfl rfl rfl hc i pins s3 Z3 H3 X.xe I3 (stat fr3) st3 stop) fun r s4 ⟨hr,I4⟩=>?_)
  subst hr
  exact wpAny_execs_nil ⟨Z3,H3,I4,qn⟩
 ·refine wpAny_passesOwn hp (ZT (T.item X rfl rfl rfl hc i pins s3 Z3 H3 X.xe I3 (stat fr3) st3 go) fun r s4 ⟨u,hr,h4⟩=>?_)
  subst hr
  refine wpAny_passesOwn hp (ZT h4 fun _ s5 ⟨x,H5,I5,r5,y5,st5,fr5⟩=>?_)
  have I5':=I5.pinned (stat fr5) (T.obj _ _ st5)
  refine wpAny_passesOwn hp (ZT (hg _ s5 Z3 H5 x u _ I5' r5 (step x H5 y5)) fun _ s6 ⟨Z6,H6,I6,q6⟩=>?_)
  refine wpAny_passesOwn hp (ZT (hb _ s6 Z6 H6 _ I6 q6) fun f s7 q7=>?_)
  have again:∀{Z7:St}{H7:Hp},Inv X (pins++UE fp s5.heap) Z7 H7 s7->N Z7 H7->∃m,m<n/\∃i Z' H',Inv X pins Z' H' s7/\tn i s7.heap/\(∀b∈fp,H' b=none)/\W i m Z' H':=fun{Z7 H7} I7 n7=>by
   obtain⟨m',hm,w7⟩:=hN Z7 H7 n7
   refine⟨m',hm,i+1,Z7,H7,I7.unpinned,T.keep _ _ _ st5 fun b hb o e=>(I7.pin (b,o) (List.mem_append_right _ (List.mem_append_right _ (Ws hb e)))).1,fun b hb=>?_,w7⟩
   obtain⟨o,e,d⟩:=T.obj _ _ st5 b hb
   exact(I7.pin (b,o) (List.mem_append_right _ (List.mem_append_right _ (Ws hb e)))).2.1
  cases f with
  | next=>obtain⟨Z7,H7,I7,n7⟩:=q7;exact again I7 n7
  | cont=>obtain⟨Z7,H7,I7,n7⟩:=q7;exact again I7 n7
  | brk=>obtain⟨Z7,H7,I7,q7⟩:=q7;exact⟨Z7,H7,I7.unpinned,q7⟩
  | ret v=>obtain⟨x7,Z7,H7,I7,r7,q7⟩:=q7;exact⟨x7,Z7,H7,I7.unpinned,r7,q7⟩
end
abbrev R2:=V->V->Hp->VK->Prop
def Wt(X:Cx)(f:Value->Value->Sem Value)(r:R2):Prop:=
 ∀(pins:List (Addr×Obj))(s:Shared)(Z:St)(H:Hp)(x y:V)(v u:Value)(Q:VK),Inv X pins Z H s->RelV x v->RelV y u->r x y H Q->
  wpAny (model X.prog X.w) X.A (f v u) (EP X pins Z Q) X.xe s
def GA(X:Cx)(f:Value->Sem Value)(r:V->Hp->VK->Prop):Prop:=
 ∀(pins:List (Addr×Obj))(s:Shared)(Z:St)(H:Hp)(x:V)(v:Value)(Q:VK),Inv X pins Z H s->RelV x v->r x H Q->
  wpAny (model X.prog X.w) X.A (f v) (EP X pins Z Q) X.xe s
def Xy(X:Cx)(f:Value)(r:List V->Hp->VK->Prop):Prop:=
 ∀(pins:List (Addr×Obj))(s:Shared)(Z:St)(H:Hp)(xs:List V)(us:List Value)(Q:VK),Inv X pins Z H s->Vals xs us->r xs H Q->
  wpAny (model X.prog X.w) X.A (call f us) (EP X pins Z Q) X.xe s
def GB(X:Cx)(r:V->Hp->(Bool->Hp->Prop)->Prop):Prop:=
 ∀(pins:List (Addr×Obj))(s:Shared)(Z:St)(H:Hp)(x:V)(v:Value)(Q:Bool->Hp->Prop),Inv X pins Z H s->RelV x v->r x H Q->
  wpAny (model X.prog X.w) X.A (truthy v) (TP X pins Z Q) X.xe s
def JT(r:R2)(ta tb:TE):TE:=fun Z H Q=>ta Z H fun x H1=>tb Z H1 fun y H2=>r x y H2 Q
def G6(r:V->Hp->VK->Prop)(ta:TE):TE:=fun Z H Q=>ta Z H fun x H1=>r x H1 Q
def rI(C:Int->Int->Prop)(g:Int->Int->V):R2:=fun x y H Q=>∃i j,x = .int i/\y = .int j/\C i j/\Q (g i j) H
def LQ(g:Int->Int->V):R2:=fun x y H Q=>∃i j,x = .int i/\y = .int j/\Q (g i j) H
def rU(g:Int->V):V->Hp->VK->Prop:=fun x H Q=>∃i,x = .int i/\Q (g i) H
section
variable {X:Cx} {a b c:Expr} {ta tb tc:TE} {pos:Pos}
theorem JU(ha:PE X a ta)(hb:PE X b tb){pins:List (Addr×Obj)}{s:Shared}{Z:St}{H:Hp}{R:V->V->Hp->Prop}(I:Inv X pins Z H s)
  (h:ta Z H fun x H1=>tb Z H1 fun y H2=>R x y H2) {Q:Value->Shared->Prop} {f:Value->Value->Sem Value}
  (hf:∀v u s2 x y H2,Inv X pins Z H2 s2->RelV x v->RelV y u->R x y H2->wpAny (model X.prog X.w) X.A (f v u) Q X.xe s2) :
  wpAny (model X.prog X.w) X.A (eval a X.env) (fun v s₁=>wpAny (model X.prog X.w) X.A (eval b X.env) (fun u s₂=>wpAny (model X.prog X.w) X.A (f v u) Q X.xe s₂) X.xe s₁) X.xe s:=by
 refine ZT (ha pins s Z H _ I h) fun v s1 ⟨x,H1,I1,r1,q1⟩=>?_
 refine ZT (hb pins s1 Z H1 _ I1 q1) fun u s2 ⟨y,H2,I2,r2,q2⟩=>?_
 exact hf v u s2 x y H2 I2 r1 r2 q2
theorem Mq{op:Operator}{r:R2}(ho:Wt X (binaryOp op) r)(ha:PE X a ta)(hb:PE X b tb):PE X (.BinOp a op b pos) (JT r ta tb):=by
 intro pins s Z H Q I h
 exact wpAny_BinOp (JU ha hb I h fun v u s2 x y H2 I2 rx ry q=>ho pins s2 Z H2 x y v u Q I2 rx ry q)
theorem Hq{op:UnaryOp}{r:V->Hp->VK->Prop}(ho:GA X (unaryOp op) r)(ha:PE X a ta):PE X (.UnaryOp op a pos) (G6 r ta):=by
 intro pins s Z H Q I h
 exact UnaryOp_ (ZT (ha pins s Z H _ I h) fun v s1 ⟨x,H1,I1,r1,q1⟩=>ho pins s1 Z H1 x v Q I1 r1 q1)
theorem GC{f:Value->Value->Sem Value}{C:Int->Int->Prop}{g:Int->Int->Int}
  (rule:∀(i j:Int)(t u:Tok)(s:Shared)(Q:Value->Shared->Prop)(E:Value->Shared->Prop),C i j->Q (.int (g i j) s.toks) { s with toks:=s.toks+1 }->wpAny (model X.prog X.w) X.A (f (.int i t) (.int j u)) Q E s) :
  Wt X f (rI C fun i j=>.int (g i j)):=by
 intro pins s Z H x y v u Q I rx ry h
 obtain⟨i,j,rfl,rfl,hc,q⟩:=h
 obtain⟨t,rfl⟩:=rx
 obtain⟨t',rfl⟩:=ry
 exact rule i j t t' s _ _ hc ⟨.int (g i j),H,I.tok _,⟨_,rfl⟩,q⟩
theorem Hr{f:Value->Value->Sem Value}{g:Int->Int->Int}
  (rule:∀(i j:Int)(t u:Tok)(s:Shared)(Q:Value->Shared->Prop)(E:Value->Shared->Prop),Q (.int (g i j) s.toks) { s with toks:=s.toks+1 }->wpAny (model X.prog X.w) X.A (f (.int i t) (.int j u)) Q E s) :
  Wt X f (LQ fun i j=>.int (g i j)):=by
 intro pins s Z H x y v u Q I rx ry h
 obtain⟨i,j,rfl,rfl,q⟩:=h
 obtain⟨t,rfl⟩:=rx
 obtain⟨t',rfl⟩:=ry
 exact rule i j t t' s _ _ ⟨.int (g i j),H,I.tok _,⟨_,rfl⟩,q⟩
theorem JV{f:Value->Value->Sem Value}{g:Int->Int->Bool}
  (rule:∀(i j:Int)(t u:Tok)(s:Shared)(Q:Value->Shared->Prop)(E:Value->Shared->Prop),Q (.bool (g i j)) s->wpAny (model X.prog X.w) X.A (f (.int i t) (.int j u)) Q E s) :
  Wt X f (LQ fun i j=>.bl (g i j)):=by
 intro pins s Z H x y v u Q I rx ry h
 obtain⟨i,j,rfl,rfl,q⟩:=h
 obtain⟨t,rfl⟩:=rx
 obtain⟨t',rfl⟩:=ry
 exact rule i j t t' s _ _ ⟨.bl (g i j),H,I,rfl,q⟩
def VD(i j:Int):Prop:=0<j/\j<1073741824
def Jc(i j:Int):Prop:=j≠0/\j.natAbs<1073741824
def Hs(i j:Int):Prop:=0<=j/\j<=1000000/\i.natAbs<2^64
def CMul(i j:Int):Prop:=(-(2^64)<i/\i<2^64)\/(-(2^64)<j/\j<2^64)
theorem CMul.ok{i j:Int}(h:CMul i j):IntMulOk i j:=by
 rcases h with⟨h1,h2⟩ | ⟨h1,h2⟩
 ·exact .of_left (intBits_le_64 h1 h2)
 ·exact .of_right (intBits_le_64 h1 h2)
theorem JW:Wt X (binaryOp .Add) (LQ fun i j=>.int (i+j)):=Hr fun _ _ _ _ _ _ _ q=>add_int q
theorem JX:Wt X (binaryOp .Sub) (LQ fun i j=>.int (i-j)):=Hr fun _ _ _ _ _ _ _ q=>sub_int q
theorem JY:Wt X (binaryOp .Mult) (rI CMul fun i j=>.int (i*j)):=GC fun _ _ _ _ _ _ _ hc q=>mul_int q hc.ok
theorem LR:Wt X (binaryOp .FloorDiv) (rI VD fun i j=>.int (i/j)):=GC fun i j _ _ _ _ _ hc q=>by
 have h1:(0:Int)<j:=hc.1
 have h2:j<1073741824:=hc.2
 exact floordiv_int (by omega) (by rw[Int.fdiv_eq_ediv_of_nonneg i (by omega)];exact q) (.inl (PyProof.noPylong_small (by omega)))
theorem JZ:Wt X (binaryOp .Mod) (rI (fun _ j=>0<j) fun i j=>.int (i%j)):=GC fun i j _ _ _ _ _ hc q=>by
 have h1:(0:Int)<j:=hc
 exact mod_int' (by omega) (by rw[Int.fmod_eq_emod_of_nonneg i (by omega)];exact q)
theorem G7{f:Value->Sem Value}{g:Int->Int}
  (rule:∀(i:Int)(t:Tok)(s:Shared)(Q:Value->Shared->Prop)(E:Value->Shared->Prop),Q (.int (g i) s.toks) { s with toks:=s.toks+1 }->wpAny (model X.prog X.w) X.A (f (.int i t)) Q E s) :
  GA X f (rU fun i=>.int (g i)):=by
 intro pins s Z H x v Q I rx h
 obtain⟨i,rfl,q⟩:=h
 obtain⟨t,rfl⟩:=rx
 exact rule i t s _ _ ⟨.int (g i),H,I.tok _,⟨_,rfl⟩,q⟩
theorem J0:GA X (unaryOp .USub) (rU fun i=>.int (-i)):=G7 fun _ _ _ _ _ q=>neg_int q
end
section
variable {X:Cx} {a b c:Expr} {ta tb tc:TE} {pos:Pos}
theorem J1{pins:List (Addr×Obj)}{Z:St}{H:Hp}{s:Shared}{Q:VK}{k k':Bool}(I:Inv X pins Z H s)(q:Q (.bl k) H)(e:k=k'):EP X pins Z Q (.bool k') s:=by
 subst e
 exact⟨.bl k,H,I,rfl,q⟩
theorem Oe:Wt X (compareOp .Lt) (LQ fun i j=>.bl (decide (i<j))):=JV fun _ _ _ _ _ _ _ q=>lt_int q
theorem U7:Wt X (compareOp .LtE) (LQ fun i j=>.bl (decide (i<=j))):=JV fun _ _ _ _ _ _ _ q=>le_int q
theorem Ht:Wt X (compareOp .Gt) (LQ fun i j=>.bl (decide (j<i))):=JV fun _ _ _ _ _ _ _ q=>gt_int q
theorem Nj:Wt X (compareOp .In) (fun x y H Q=>∃i j,x = .str i/\y = .str j/\Q (.bl (!(Builtin.Str.occurrences j i 0 j.length 1).isEmpty)) H):=by
 intro pins s Z H x y v u Q I rx ry h
 obtain⟨i,j,rfl,rfl,q⟩:=h
 obtain⟨t,rfl⟩:=rx
 obtain⟨t',rfl⟩:=ry
 exact in_str (J1 I q rfl)
theorem UG(b:Expr){op:CmpOp}(h:op≠.In:=by decide)(h2:op≠.NotIn:=by decide):behindInMarks op b=false:=by
 have e1:(op==CmpOp.In)=false:=by cases op<;>first | rfl | exact absurd rfl h
 have e2:(op==CmpOp.NotIn)=false:=by cases op<;>first | rfl | exact absurd rfl h2
 cases b<;>simp[behindInMarks,e1,e2]
theorem LS{op:CmpOp}{r:R2}(ho:Wt X (compareOp op) r)(ha:PE X a ta)(hb:PE X b tb)(hm:behindInMarks op b=false):PE X (.Compare a [op] [b] pos) (JT r ta tb):=by
 intro pins s Z H Q I h
 exact wpAny_Compare1 (JU ha hb I h fun v u s2 x y H2 I2 rx ry q=>ho pins s2 Z H2 x y v u Q I2 rx ry q) hm
def SV(t:TE):TT:=fun Z H Q=>t Z H fun x H'=>∃k,x = .bl k/\Q k H'
theorem LU{op:CmpOp}{r:R2}(ho:Wt X (compareOp op) r)(ha:PE X a ta)(hb:PE X b tb)(hm:behindInMarks op b=false):PT X (.Compare a [op] [b] pos) (SV (JT r ta tb)):=by
 intro pins s Z H Q I h
 refine wpAny_isTrue_Compare1 (ZT (ha pins s Z H _ I h) fun v s1 ⟨x,H1,I1,r1,q1⟩=>ZT (hb pins s1 Z H1 _ I1 q1) fun u s2 ⟨y,H2,I2,r2,q2⟩=>
  ZT (ho pins s2 Z H2 x y v u _ I2 r1 r2 q2) fun c s3 ⟨z,H3,I3,r3,k,e,q3⟩=>?_) hm
 subst e;cases r3
 exact wpAny_truthy_bool ⟨H3,I3,q3⟩
def Pc(r r':R2)(ta tb tc:TE):TE:=fun Z H Q=>ta Z H fun x H1=>tb Z H1 fun y H2=>r x y H2 fun z H3=>∃k,z = .bl k/\
 (if k=true then tc Z H3 fun w' H4=>r' y w' H4 Q else Q (.bl false) H3)
theorem Mr{op op':CmpOp}{r r':R2}(ho:Wt X (compareOp op) r)(ho':Wt X (compareOp op') r')(ha:PE X a ta)(hb:PE X b tb)(hc:PE X c tc)
  (hm:lastMarks [op,op'] [b,c]=false:=by with_unfolding_all rfl):PE X (.Compare a [op,op'] [b,c] pos) (Pc r r' ta tb tc):=by
 intro pins s Z H Q I h
 refine Compare_chain (ZT (ha pins s Z H _ I h) fun v s1 ⟨x,H1,I1,r1,q1⟩=>chain_link (ZT (hb pins s1 Z H1 _ I1 q1) fun u s2 ⟨y,H2,I2,r2,q2⟩=>
  ZT (ho pins s2 Z H2 x y v u _ I2 r1 r2 q2) fun d s3 ⟨z,H3,I3,r3,k,e,q3⟩=>?_)) hm
 subst e;cases r3
 refine wpAny_truthy_bool ?_
 cases k with
 | false=>exact ite_ff ⟨.bl false,H3,I3,rfl,q3⟩
 | true=>exact ite_tt (chain_last (ZT (hc pins s3 Z H3 _ I3 q3) fun w' s4 ⟨z',H4,I4,r4,q4⟩=>ho' pins s4 Z H4 y z' u w' Q I4 r2 r4 q4))
theorem Ms{op op':CmpOp}{r r':R2}(ho:Wt X (compareOp op) r)(ho':Wt X (compareOp op') r')(ha:PE X a ta)(hb:PE X b tb)(hc:PE X c tc)
  (hm:lastMarks [op,op'] [b,c]=false:=by with_unfolding_all rfl):PT X (.Compare a [op,op'] [b,c] pos) (SV (Pc r r' ta tb tc)):=by
 intro pins s Z H Q I h
 refine isTrue_chain (ZT (ha pins s Z H _ I h) fun v s1 ⟨x,H1,I1,r1,q1⟩=>test_link (ZT (hb pins s1 Z H1 _ I1 q1) fun u s2 ⟨y,H2,I2,r2,q2⟩=>
  ZT (ho pins s2 Z H2 x y v u _ I2 r1 r2 q2) fun d s3 ⟨z,H3,I3,r3,k,e,q3⟩=>?_)) hm
 subst e;cases r3
 refine wpAny_truthy_bool ?_
 cases k with
 | false=>
  obtain⟨k',e',q'⟩:=q3
  cases e'
  exact ite_ff ⟨H3,I3,q'⟩
 | true=>
  refine ite_tt (test_last (ZT (hc pins s3 Z H3 _ I3 q3) fun w' s4 ⟨z',H4,I4,r4,q4⟩=>ZT (ho' pins s4 Z H4 y z' u w' _ I4 r2 r4 q4) fun d' s5 ⟨z2,H5,I5,r5,k2,e2,q5⟩=>?_))
  subst e2;cases r5
  exact wpAny_truthy_bool ⟨H5,I5,q5⟩
def GD(K:PySem.W.Frag)(x:V)(H:Hp)(k:Bool):Prop:=
 match x with
 | .non=>k=false
 | .bl b=>k=b
 | .int i=>k=(i != 0)
 | .str y=>y.length<=sizeLine/\k=((y.length:Int) != 0)
 | .byt y=>y.size<=sizeLine/\k=((y.size:Int) != 0)
 | .ref p=>(∃xs,SqL K H p xs/\k = !xs.isEmpty)\/(∃xs,SqT K H p xs/\k = !xs.isEmpty)\/∃kvs,H p=some (.dK kvs)/\k = !kvs.isEmpty
 | _=>False
theorem Pd{κ:Type}{kvs:List (κ×V)}{vs:List (κ×Value)}(r:KV kvs vs):(!vs.isEmpty) = !kvs.isEmpty:=by
 cases r<;>rfl
theorem Tz{xs:List V}{its:List Value}(r:Vals xs its):(!its.toArray.isEmpty) = !xs.isEmpty:=by
 cases r<;>simp
theorem UH:(sizeLine:Nat)<2^63:=by rw[sizeLine_eq];decide
theorem tru_ok:GB X (fun x H Q=>∃k,GD X.K x H k/\Q k H):=by
 intro pins s Z H x v Q I rx h
 obtain⟨k,e,q⟩:=h
 have hl:=UH
 have hs:sizeLine=16777216:=sizeLine_eq
 cases x with
 | non=>
  cases rx
  have e':k=false:=e
  subst e'
  exact truthy_none ⟨H,I,q⟩
 | bl b=>
  cases rx
  have e':k=b:=e
  subst e'
  exact wpAny_truthy_bool ⟨H,I,q⟩
 | int i=>
  obtain⟨t,rfl⟩:=rx
  have e':k=(i != 0):=e
  subst e'
  exact PySem.P.truthy_int ⟨H,I,q⟩
 | str y=>
  obtain⟨t,rfl⟩:=rx
  obtain⟨hy,e'⟩:y.length<=sizeLine/\k=((y.length:Int) != 0):=e
  subst e'
  exact PySem.P.truthy_str (by omega) ⟨H,I.tok _,q⟩
 | byt y=>
  obtain⟨t,rfl⟩:=rx
  obtain⟨hy,e'⟩:y.size<=sizeLine/\k=((y.size:Int) != 0):=e
  subst e'
  exact PySem.W.truthy_bytes (by omega) ⟨H,I.tok _,q⟩
 | ref p=>
  cases rx
  have e':(∃xs,SqL X.K H p xs/\k = !xs.isEmpty)\/(∃xs,SqT X.K H p xs/\k = !xs.isEmpty)\/∃kvs,H p=some (.dK kvs)/\k = !kvs.isEmpty:=e
  rcases e' with⟨xs,hx,e'⟩ | ⟨xs,hx,e'⟩ | ⟨kvs,hx,e'⟩
  ·subst e'
   obtain⟨its,r,pl,hz⟩:=I.list hx
   have hlen:=r.length
   exact wpAny_truthy_list pl.isList (by simp only[List.size_toArray];omega) ⟨H,I.tok _,by rw[Tz r];exact q⟩
  ·subst e'
   obtain⟨its,r,pl,hz⟩:=I.tuple hx
   have hlen:=r.length
   exact truthy_tuple pl (by simp only[List.size_toArray];omega) ⟨H,I.tok _,by rw[Tz r];exact q⟩
  ·subst e'
   obtain⟨hz,hS,vs,r,m⟩:kvs.length<=sizeLine/\(p==sysModules)=false/\∃vs,KV kvs vs/\s.heap.DictOf (Ym X.prog X.w) p vs:=I.hok p _ hx
   have hlen:kvs.length=vs.length:=Paired.length r
   exact wpAny_truthy_dict hS m (by omega) ⟨H,I.tok _,by rw[Pd r];exact q⟩
 | _=>exact(show False from e).elim
theorem XQ:Wt X (binaryOp .Add) (fun x y H Q=>∃i j,x = .str i/\y = .str j/\i.length+j.length<=sizeLine/\Q (.str (i++j)) H):=by
 intro pins s Z H x y v u Q I rx ry h
 obtain⟨i,j,rfl,rfl,hz,q⟩:=h
 obtain⟨t,rfl⟩:=rx
 obtain⟨t',rfl⟩:=ry
 exact add_str (fun t' tk=>⟨.str (i++j),H,I.tok _,⟨_,rfl⟩,q⟩) hz
theorem WK{x:V}{us:List Value}(r:Vals [x] us):∃u,us=[u]/\RelV x u:=by
 cases r with
 | cons r1 r2=>cases r2;exact⟨_,rfl,r1⟩
theorem Mt{x y:V}{us:List Value}(r:Vals [x,y] us):∃u w',us=[u,w']/\RelV x u/\RelV y w':=by
 cases r with
 | cons r1 r2=>
  cases r2 with
  | cons r3 r4=>cases r4;exact⟨_,_,rfl,r1,r3⟩
theorem Nk(hc:X.calm=true):Xy X (.builtin "max") (fun xs H Q=>∃i j,xs=[.int i,.int j]/\Q (.int (if j>i then j else i)) H):=by
 intro pins s Z H xs us Q I r h
 obtain⟨i,j,rfl,q⟩:=h
 obtain⟨u,w',rfl,⟨t,rfl⟩,⟨t',rfl⟩⟩:=Mt r
 refine max_two_ints (I.ok.hd hc) fun h' tk k=>⟨_,H,I.kept k,?_,q⟩
 by_cases hj:j>i
 ·rw[if_pos hj,if_pos hj];exact⟨_,rfl⟩
 ·rw[if_neg hj,if_neg hj];exact⟨_,rfl⟩
theorem UI(hc:X.calm=true):Xy X (.builtin "min") (fun xs H Q=>∃i j,xs=[.int i,.int j]/\Q (.int (if j<i then j else i)) H):=by
 intro pins s Z H xs us Q I r h
 obtain⟨i,j,rfl,q⟩:=h
 obtain⟨u,w',rfl,⟨t,rfl⟩,⟨t',rfl⟩⟩:=Mt r
 refine min_two_ints (I.ok.hd hc) fun h' tk k=>⟨_,H,I.kept k,?_,q⟩
 by_cases hj:j<i
 ·rw[if_pos hj,if_pos hj];exact⟨_,rfl⟩
 ·rw[if_neg hj,if_neg hj];exact⟨_,rfl⟩
theorem SW:Xy X (.type "int") (fun xs H Q=>(∃i,xs=[.int i]/\Q (.int i) H)\/∃k,xs=[.bl k]/\Q (.int (if k then 1 else 0)) H):=by
 intro pins s Z H xs us Q I r h
 rcases h with⟨i,rfl,q⟩ | ⟨k,rfl,q⟩
 ·obtain⟨u,rfl,t,rfl⟩:=WK r
  exact call_int_int ⟨.int i,H,I,⟨_,rfl⟩,q⟩
 ·obtain⟨u,rfl,r1⟩:=WK r
  cases r1
  exact call_int_bool ⟨.int (if k then 1 else 0),H,I.tok _,⟨_,rfl⟩,q⟩
theorem XA:Xy X (.type "str") (fun xs H Q=>∃i,xs=[.int i]/\i.natAbs.log2<1920/\Q (.str (toString i)) H):=by
 intro pins s Z H xs us Q I r h
 obtain⟨i,rfl,hz,q⟩:=h
 obtain⟨u,rfl,t,rfl⟩:=WK r
 exact PySem.P.str_of_int hz ⟨.str _,H,I.tok _,⟨_,rfl⟩,q⟩
def Hu(K:PySem.W.Frag)(x:V)(H:Hp)(n:Nat):Prop:=
 match x with
 | .str y=>y.length<=sizeLine/\n=y.length
 | .byt y=>y.size<=sizeLine/\n=y.size
 | .ref p=>(∃xs,SqL K H p xs/\n=xs.length)\/∃xs,SqT K H p xs/\n=xs.length
 | _=>False
theorem ZX:Xy X (.builtin "len") (fun xs H Q=>∃x n,xs=[x]/\Hu X.K x H n/\Q (.int n) H):=by
 intro pins s Z H xs us Q I r h
 obtain⟨x,n,rfl,e,q⟩:=h
 obtain⟨u,rfl,rx⟩:=WK r
 have hl:=UH
 have hs:sizeLine=16777216:=sizeLine_eq
 cases x with
 | str y=>
  obtain⟨t,rfl⟩:=rx
  obtain⟨hy,e'⟩:y.length<=sizeLine/\n=y.length:=e
  subst e'
  exact len_str (by omega) ⟨.int _,H,I.tok _,⟨_,rfl⟩,q⟩
 | byt y=>
  obtain⟨t,rfl⟩:=rx
  obtain⟨hy,e'⟩:y.size<=sizeLine/\n=y.size:=e
  subst e'
  exact PySem.W.len_bytes (by omega) ⟨.int _,H,I.tok _,⟨_,rfl⟩,q⟩
 | ref p=>
  cases rx
  have e':(∃xs,SqL X.K H p xs/\n=xs.length)\/∃xs,SqT X.K H p xs/\n=xs.length:=e
  rcases e' with⟨xs,hx,e'⟩ | ⟨xs,hx,e'⟩
  ·subst e'
   obtain⟨its,r',pl,hz⟩:=I.list hx
   have hlen:=r'.length
   exact Calls.call_len_list pl.isList (by simp only[List.size_toArray];omega) ⟨.int xs.length,H,I.tok _,⟨_,by simp only[List.size_toArray];rw[hlen]⟩,q⟩
  ·subst e'
   obtain⟨its,r',pl,hz⟩:=I.tuple hx
   have hlen:=r'.length
   exact len_tuple pl (by simp only[List.size_toArray];omega) ⟨.int xs.length,H,I.tok _,⟨_,by simp only[List.size_toArray];rw[hlen]⟩,q⟩
 | _=>exact(show False from e).elim
end
structure ObjM(h:Heap)(x dx C:Addr)(mA:Str->Option Value):Prop where
 obj:h.get? x=some (PySem.W.instObj C dx)
 ns:h.Ns1 dx mA
 ne:dx≠x
theorem Nl{h:Heap}{dx:Addr}{mA:Str->Option Value}(n:h.Ns1 dx mA):∃od,h.get? dx=some od/\∀name,PySem.W.lookIn name od=some (mA name):=by
 obtain⟨o,es,ep,ho,hd,hk,_,hm⟩:=n
 refine⟨o,ho,fun name=>?_⟩
 have e:=hm name;unfold nsFind findBy at e;rw[<-Array.find?_toList] at e;unfold PySem.W.lookIn;rw[hd]
 dsimp only
 split
 ·rename_i y q
  rw[q] at e
  exact congrArg some e
 ·rename_i q
  rw[q] at e
  have a:es.toList.any (·.refKey)=false:=by
   rw[List.any_eq_false];intro y hy
   obtain⟨z,t,hkey⟩:=hk y (Array.mem_toList_iff.mp hy)
   simp[DictEntry.refKey,hkey]
  have a':¬es.toList.any (·.refKey)=true:=by rw[a];exact Bool.false_ne_true
  rw[if_neg a']
  exact congrArg some e
theorem ObjM.look{h:Heap}{x dx C:Addr}{mA:Str->Option Value}(I:ObjM h x dx C mA):∃od,PySem.W.InstAt h x (PySem.W.instObj C dx) C (some od)/\∀name,PySem.W.lookIn name od=some (mA name):=
 let⟨od,ho,hl⟩:=Nl I.ns
 ⟨od,⟨I.obj,rfl,rfl,ho⟩,hl⟩
theorem RelO.some_of{v:V}{o:Option Value}(r:RelO (some v) o):∃u,o=some u/\RelV v u:=by
 cases o with
 | none=>exact(show False from r).elim
 | some u=>exact⟨u,rfl,r⟩
section
variable {P:Program} {w:World} {H H':Hp} {h h':Heap} {a C dx:Addr} {fs fs':List (Str×V)}
theorem LV(hok:HOk P w H h)(e:H a=some (.ins C dx fs)):∃mA,ObjM h a dx C mA/\(∀f,RelO (fs.lookup f) (mA f))/\PySem.Within mA (fs.map (·.1))/\fs.length<=1000/\H dx=some (.own a):=by
 obtain⟨d,z,ne,ob,mA,n,r,q⟩:=(show ObjOk P w H h a (.ins C dx fs) from hok a _ e)
 exact⟨mA,⟨ob,n,ne⟩,r,q,z,d⟩
end
structure Cls(K:PySem.W.Frag)(C:Addr):Prop where
 pg:PySem.W.plainGet K C Str.empty=true
 hd:PySem.W.hasDictIn K C=true
 po:PySem.W.plainOver K C=true
 sa:PySem.W.findIn K (.ref C) "__setattr__" = some (some (.builtin "object.__setattr__"))
theorem Cls.get{K:PySem.W.Frag}{C:Addr}(c:Cls K C)(f:Str):PySem.W.plainGet K C f=true:=c.pg
section
variable {X:Cx} {pins:List (Addr×Obj)} {Z:St} {H:Hp} {s:Shared} {A:Around} {E:Value->Shared->Prop} {Q:Value->Shared->Prop} {c:Value} {b:Bool}
inductive TyOf(K:PySem.W.Frag)(H:Hp):V->Value->Prop where
 | non:TyOf K H .non (.type "NoneType")
 | bl (x:Bool):TyOf K H (.bl x) (.type "bool")
 | int (i:Int):TyOf K H (.int i) (.type "int")
 | str (x:Str):TyOf K H (.str x) (.type "str")
 | flt (x:UInt64):TyOf K H (.flt x) (.type "float")
 | lst {a:Addr} {xs:List V} (e:H a=some (.lst xs)):TyOf K H (.ref a) (.type "list")
 | frz {a:Addr} {o:Obj} {xs:List V} (e:H a=some (.frz o (.lst xs))):TyOf K H (.ref a) (.type "list")
 | tup {a:Addr} {xs:List V} (e:H a=some (.tup xs)):TyOf K H (.ref a) (.type "tuple")
 | dK {a:Addr} {kvs:List (Yi×V)} (e:H a=some (.dK kvs)):TyOf K H (.ref a) (.type "dict")
 | dT {a:Addr} {kvs:List (List Yi×V)} (e:H a=some (.dT kvs)):TyOf K H (.ref a) (.type "dict")
 | ins {a C dx:Addr} {fs:List (Str×V)} (e:H a=some (.ins C dx fs)) (cl:Cls K C) (ha:PySem.W.findIn K (.ref C) "__class__" = some (some (.builtin "object.__class__")))
   (hn:PySem.W.specialIn K (.builtin "object.__class__") "__get__" = some (some (.builtin "getset_descriptor.__get__"))) (htk:PySem.W.takesIn K (.builtin "object.__class__")=some true)
   (hm:PySem.W.mroIn K C (.type "object")=some true):TyOf K H (.ref a) (.ref C)
theorem Nm{x:V}{u t:Value}(I:Inv X pins Z H s)(rx:RelV x u)(ty:TyOf X.K H x t)(e:PySem.W.kitOne X.K t c=some b)(h:∀tk,Q (.bool b) { s with toks:=tk }) :
  wpAny (model X.prog X.w) A (call (.builtin "isinstance") [u,c]) Q E s:=by
 cases ty with
 | non=>cases (show u=Value.none from rx);exact PySem.W.kia_one PySem.W.kitx_none I.kIn True.intro e (fun z=>nomatch z) h
 | bl y=>cases (show u=Value.bool y from rx);exact PySem.W.kia_one PySem.W.kitx_bool I.kIn True.intro e (fun z=>nomatch z) h
 | int i=>obtain⟨t,q⟩:=(show ∃t,u=Value.int i t from rx);cases q;exact PySem.W.kia_one PySem.W.kitx_int I.kIn True.intro e (fun z=>nomatch z) h
 | str y=>obtain⟨t,q⟩:=(show ∃t,u=Value.str y t from rx);cases q;exact PySem.W.kia_one PySem.W.kitx_str I.kIn True.intro e (fun z=>nomatch z) h
 | flt y=>obtain⟨t,q⟩:=(show ∃t,u=Value.float y t from rx);cases q;exact PySem.W.kia_one PySem.W.kitx_float I.kIn True.intro e (fun z=>nomatch z) h
 | @lst a xs ea=>
  cases (show u=Value.ref a from rx)
  obtain⟨_,_,n,_,h1⟩:=(show ObjOk X.prog X.w H s.heap a (.lst xs) from I.hok a _ ea)
  exact PySem.W.kia_one PySem.W.kitx_list I.kIn ⟨_,h1,rfl⟩ e (fun z=>nomatch z) h
 | @frz a ob xs ea=>
  cases (show u=Value.ref a from rx)
  obtain⟨_,_,_,n,_,h1⟩:=(show ObjOk X.prog X.w H s.heap a (.frz ob (.lst xs)) from I.hok a _ ea)
  exact PySem.W.kia_one PySem.W.kitx_list I.kIn ⟨_,h1,rfl⟩ e (fun z=>nomatch z) h
 | @tup a xs ea=>
  cases (show u=Value.ref a from rx)
  obtain⟨_,_,_,p⟩:=(show ObjOk X.prog X.w H s.heap a (.tup xs) from I.hok a _ ea)
  obtain⟨o,h1,h2,_⟩:=p
  exact PySem.W.kia_one PySem.W.kitx_tuple I.kIn ⟨o,h1,h2⟩ e (fun z=>nomatch z) h
 | @dK a kvs ea=>
  cases (show u=Value.ref a from rx)
  obtain⟨_,_,vs,_,p⟩:=(show ObjOk X.prog X.w H s.heap a (.dK kvs) from I.hok a _ ea)
  obtain⟨o,es,ep,h1,h2,_⟩:=p
  exact PySem.W.kia_one PySem.W.kitx_dict I.kIn ⟨o,h1,h2.1⟩ e (fun z=>nomatch z) h
 | @dT a kvs ea=>
  cases (show u=Value.ref a from rx)
  obtain⟨_,_,xs,_,o,es,ep,h1,h2,_⟩:=(show ObjOk X.prog X.w H s.heap a (.dT kvs) from I.hok a _ ea)
  exact PySem.W.kia_one PySem.W.kitx_dict I.kIn ⟨o,h1,h2.1⟩ e (fun z=>nomatch z) h
 | @ins a C dx fs ea cl ha hn htk hm=>
  cases (show u=Value.ref a from rx)
  obtain⟨mA,O,_⟩:=LV I.hok ea
  obtain⟨od,J,_⟩:=O.look
  exact PySem.W.kia_one (PySem.W.kitx_own (cl.get _) cl.hd ha hn htk hm) I.kIn J e (fun z=>nomatch z) h
end
structure Room(k:Nat)(A:Around):Prop where
 hd:A.handled=none
 dp:A.depth+3*k+5<recursionLimit
 un:A.units+16*k+200<cLine
 gd:A.guards=some []
theorem Room.mono{j k:Nat}{A:Around}(r:Room k A)(h:j<=k):Room j A:=⟨r.hd,by have:=r.dp;omega,by have:=r.un;omega,r.gd⟩
theorem Room.deeper{k:Nat}{A:Around}(r:Room (k+1) A)(env:Env):Room k (A.deeper env):=
 ⟨r.hd,by have:=r.dp;show A.depth+1+3*k+5<_;omega,by have:=r.un;show A.units+3+16*k+200<_;omega,r.gd⟩
theorem Room.depth{k:Nat}{A:Around}(r:Room k A):A.depth<recursionLimit:=by have:=r.dp;omega
theorem Room.units{k:Nat}{A:Around}(r:Room k A):A.units+64<cLine:=by have:=r.un;omega
def Mu:TA:=fun _ H Q=>Q [] H
def TB(ta:TE)(tr:TA):TA:=fun Z H Q=>ta Z H fun x H1=>tr Z H1 fun xs H2=>Q (x::xs) H2
section
variable {X:Cx} {e:Expr} {es:List Expr} {te:TE} {t:TA} {pos:Pos}
theorem Wf:PA X [] Mu:=fun _ _ _ _ H Q I h=>Calls.spliced_nil ⟨[],H,I,.nil,h⟩
theorem YF(ha:PE X e te)(hr:PA X es t)(hs:starEach (e::es) X.env=(false,eval e X.env)::starEach es X.env:=by rfl):PA X (e::es) (TB te t):=by
 intro pos pins s Z H Q I h;rw[hs]
 show wpAny _ _ (spliced ((false,eval e X.env)::backTo pos (starEach es X.env))) _ _ s
 refine Calls.spliced_cons (ZT (ha pins s Z H _ I h) fun u s1 ⟨x,H1,I1,r1,q1⟩=>?_)
 exact ZT (hr pos pins s1 Z H1 _ I1 q1) fun us s2 ⟨xs,H2,I2,r2,q2⟩=>⟨x::xs,H2,I2,.cons r1 r2,q2⟩
def GF(t:TA):TE:=fun Z H Q=>t Z H fun xs H1=>xs.length<=sizeLine/\∀p,H1 p=none->Q (.ref p) (upd H1 p (.tup xs))
def Hv(t:TA):TE:=fun Z H Q=>t Z H fun xs H1=>xs.length<=sizeLine/\∀p,H1 p=none->Q (.ref p) (upd H1 p (.lst xs))
theorem J2{x1}(h:PA X es t):PE X (.Tuple es x1 pos) (GF t):=by
 intro pins s Z H Q I hq
 refine wpAny_Tuple_spliced (ZT (h pos pins s Z H _ I hq) fun us s1 ⟨xs,H1,I1,r,z,q⟩=>⟨by rw[<-r.length];exact z,?_⟩)
 have hf:H1 s1.heap.objs.size=none:=I1.hok.fresh (Nat.le_refl _)
 refine⟨.ref s1.heap.objs.size,upd H1 s1.heap.objs.size (.tup xs),I1.laid (t':=s1.toks) (fun b u e=>Heap.get?_push_of_some _ e) (Nat.le_refl _) ?_,rfl,q _ hf⟩
 exact⟨z,us,r,⟨_,Heap.get?_push_size _ rfl,rfl,_,rfl⟩⟩
theorem Pe(h:PA X es t):PE X (.List es pos) (Hv t):=by
 intro pins s Z H Q I hq
 refine wpAny_List_spliced (ZT (h pos pins s Z H _ I hq) fun us s1 ⟨xs,H1,I1,r,z,q⟩=>⟨by rw[<-r.length];exact z,?_⟩)
 have hf:H1 s1.heap.objs.size=none:=I1.hok.fresh (Nat.le_refl _)
 refine⟨.ref s1.heap.objs.size,upd H1 s1.heap.objs.size (.lst xs),I1.laid (t':=s1.toks) (fun b u e=>Heap.get?_push_of_some _ e) (Nat.le_refl _) ?_,rfl,q _ hf⟩
 exact⟨z,us,0,r,Heap.get?_push_size _ rfl⟩
end
abbrev Sp:=List V->Hp->VK->XK->Prop
abbrev LB:=List Env->Hp->Shared->XK->Value->Shared->Prop
structure LW(P:Program)(w:World)(K:PySem.W.Frag)(mg:Str->Option Value)(base:Heap)(A:Around)(outer:List Env)(s:Shared)(H:Hp):Prop where
 frames:A.frames=some outer
 mod:Mod K mg base
 bs:∀b o,base.get? b=some o->s.heap.get? b=some o/\H b=none
 bsz:base.objs.size<=s.heap.objs.size
 funs:s.heap.FunFrames base outer
 frf:∀b∈Oa outer,H b=none
 hok:HOk P w H s.heap
 bare:AllBare s.gens
def CE(outer:List Env)(P:Program)(w:World)(H:Hp)(s:Shared)(Q:VK)(u:Value)(s':Shared):Prop:=
 ∃v H',s'.os=s.os/\AllBare s'.gens/\Un (Oa outer) [] H H' s.heap s'.heap/\HOk P w H' s'.heap/\RelV v u/\Q v H'
def CR(CX:LB)(outer:List Env)(P:Program)(w:World)(H:Hp)(s:Shared)(Q:VK)(E:XK)(r:Result)(s':Shared):Prop:=
 match r with
 | .ok (.ret u)=>CE outer P w H s Q u s'
 | .ok _=>False
 | .error e=>CX outer H s E e s'
structure UJ(P:Program)(w:World)(K:PySem.W.Frag)(mg:Str->Option Value)(base:Heap)(CX:LB)(k:Nat)(f:Addr)(fd:FuncData)(ps:List Str)(sp:Sp):Prop where
 len:∀vs H Q E,sp vs H Q E->vs.length=ps.length
 run:∀(A:Around)(outer:List Env)(s:Shared)(H:Hp)(args:Args)(us:List Value)(vs:List V)(Q:VK)(E:XK),Room k A->LW P w K mg base A outer s H->BindsTo s fd args (ps.zip us)->Vals vs us->sp vs H Q E->
  codeAny (model P w) A (.call (.ref f) args) (CR CX outer P w H s Q E) s
section
variable {X:Cx} {pins:List (Addr×Obj)} {Z:St} {H:Hp} {s s':Shared}
theorem Inv.env0(I:Inv X pins Z H s):LW X.prog X.w X.K X.mg X.base X.A X.stack s H:=
 ⟨I.ok.frames,I.ok.mod,I.bs,Nat.le_trans I.ok.bsz I.sz,I.stack,I.stkFree,I.hok,I.bare⟩
theorem Inv.after{Q:VK}{u:Value}(I:Inv X pins Z H s)(h:CE X.stack X.prog X.w H s Q u s'):EP X pins Z Q u s':=by
 obtain⟨v,H',os,bare,un,hok,r,q⟩:=h
 obtain⟨hh,g,d,t,os'⟩:=s'
 obtain rfl:os'=s.os:=os
 exact⟨v,H',I.call (h':=hh) (g':=g) (d':=d) (t':=t) (ch:=[]) un hok bare (fun b z=>absurd z (by simp)),r,q⟩
end
def Jd(sp:Sp)(dvs:List V)(E:XK)(t:TA):TE:=fun Z H Q=>t Z H fun vs H1=>sp (vs++dvs) H1 Q E
def Binds(K:PySem.W.Frag)(fd:FuncData)(ps:List Str)(ds:List Value):Prop:=
 ∀(s:Shared)(us:List Value),K.In s.heap->(us++ds).length=ps.length->BindsTo s fd ⟨us,[]⟩ (ps.zip (us++ds))
theorem Binds.all{K:PySem.W.Frag}{fd:FuncData}{ps:List Str}(h:∀us:List Value,us.length=ps.length->bindArgs fd ⟨us,[]⟩=pure (ps.zip us)):Binds K fd ps []:=fun s us _ hl=>by
 rw[List.append_nil] at hl ⊢
 exact .of_eq (h us hl)
def Pf(CX:LB)(X:Cx)(E:XK):Prop:=∀(pins:List (Addr×Obj))(Z:St)(H:Hp)(s:Shared)(e:Value)(s':Shared),Inv X pins Z H s->CX X.stack H s E e s'->X.xe e s'
section
variable {X:Cx} {CX:LB} {k:Nat} {f C:Addr} {fd:FuncData} {ps:List Str} {sp:Sp} {dvs:List V} {ds:List Value} {E:XK} {x m:Str} {p pos apos:Pos} {e o:Expr} {es:List Expr} {ta:TE} {t:TA}
theorem J3{pins:List (Addr×Obj)}{Z:St}{H:Hp}{s:Shared}{Q:VK}{us:List Value}{vs:List V}(F:UJ X.prog X.w X.K X.mg X.base CX k f fd ps sp)(hr:Room k X.A)(hb:Binds X.K fd ps ds)(hd:Vals dvs ds)(hx:Pf CX X E)
  (I:Inv X pins Z H s) (r:Vals vs us) (h:sp (vs++dvs) H Q E):wpAny (model X.prog X.w) X.A (call (.ref f) us) (EP X pins Z Q) X.xe s:=by
 have r2:Vals (vs++dvs) (us++ds):=r.append hd
 have hl:(us++ds).length=ps.length:=by rw[<-r2.length];exact F.len _ _ _ _ h
 refine wpAny_call (codeAny_mono (F.run X.A X.stack s H ⟨us,[]⟩ (us++ds) (vs++dvs) Q E hr I.env0 (hb s us I.kIn hl) r2 h) fun r s' hq=>?_)
 cases r with
 | error e=>exact hx pins Z H s e s' I hq
 | ok fl=>
  cases fl with
  | ret u=>exact I.after hq
  | next=>exact False.elim hq
  | brk=>exact False.elim hq
  | cont=>exact False.elim hq
theorem LX(F:UJ X.prog X.w X.K X.mg X.base CX k f fd ps sp)(hr:Room k X.A)(hg:Gl X x)(hm:X.mg x=some (.ref f))(hk:PySem.W.keepIn X.K (.ref f)=true)(hb:Binds X.K fd ps ds)(hd:Vals dvs ds)(hx:Pf CX X E)
  (ha:PA X (e::es) t) (hdb:(x==("__debug__" : Str))=false:=by decide) (he:starEach (e::es) X.env=(false,eval e X.env)::starEach es X.env:=by rfl) (hpl:(backTo pos (starEach es X.env)).any (·.1)=false:=by rfl) :
  PE X (.Call (.Name x p) (e::es) [] pos) (Jd sp dvs E t):=by
 intro pins s Z H Q I h
 refine wpAny_Call_Name_kw (Ob I hg hm ?_ hdb)
 refine PySem.W.callWith_K (h₀:=X.base) I.ok.mod.kin hk (ZT (ha pos pins s Z H _ I h) fun us s1 ⟨vs,H1,I1,r,q⟩=>⟨I1.kIn,?_⟩) he hpl
 exact J3 F hr hb hd hx I1 r q
end
structure ZE(N P:List Str)(sc:Scope):Prop where
 kind:sc.kind = .function
 co:sc.isCoroutine=false
 gen:sc.isGenerator=false
 nd:N.Nodup
 pre:N.take P.length=P
 par:∀x∈P,sc.names.lookup x=some .local\/sc.names.lookup x=some .cell
 nofree:∀y∈sc.names,y.2≠.free
theorem SX{kindOf:Str->Option NameKind}{x:Str}:∀{binds:List (Str×Value)}{m:Str->Option Value},(∀v,(x,v)∉binds)->bindL kindOf binds m x=m x
 | [],_,_=>rfl
 | (n,v)::r,m,h=>by
  unfold bindL;rw[SX fun w hw=>h w (List.mem_cons_of_mem _ hw)]
  split
  ·have:x≠n:=by rintro rfl;exact h v List.mem_cons_self
   simp[this]
  ·rfl
theorem SY{kindOf:Str->Option NameKind}{x:Str}:∀{binds:List (Str×Value)}{m:Str->Option Value},(∀v,(x,v)∉binds)->bindC kindOf binds m x=m x
 | [],_,_=>rfl
 | (n,v)::r,m,h=>by
  unfold bindC;rw[SY fun w hw=>h w (List.mem_cons_of_mem _ hw)]
  split
  ·rfl
  ·have:x≠n:=by rintro rfl;exact h v List.mem_cons_self
   simp[this]
theorem S0{kindOf:Str->Option NameKind}{x:Str}{v:Value}:∀{P:List Str}{vs:List Value}{i:Nat}{m:Str->Option Value},P.Nodup->P[i]?=some x->vs[i]?=some v->kindOf x=some .local->
  bindL kindOf (P.zip vs) m x=some v
 | [],_,_,_,_,h,_,_=>by simp at h
 | _::_,[],_,_,_,_,h,_=>by simp at h
 | p::P,w::vs,0,m,nd,h1,h2,hk=>by
  simp at h1 h2;subst h1;subst h2
  show bindL kindOf ((p,w)::P.zip vs) m p=_
  unfold bindL;rw[SX fun v hv=>(List.nodup_cons.mp nd).1 (List.of_mem_zip hv).1,if_pos hk]
  simp
 | p::P,w::vs,i+1,m,nd,h1,h2,hk=>by
  show bindL kindOf ((p,w)::P.zip vs) m x=_
  unfold bindL
  exact S0 (i:=i) (List.nodup_cons.mp nd).2 (by simpa using h1) (by simpa using h2) hk
theorem S1{kindOf:Str->Option NameKind}{x:Str}{v:Value}:∀{P:List Str}{vs:List Value}{i:Nat}{m:Str->Option Value},P.Nodup->P[i]?=some x->vs[i]?=some v->kindOf x≠some .local->
  bindC kindOf (P.zip vs) m x=some v
 | [],_,_,_,_,h,_,_=>by simp at h
 | _::_,[],_,_,_,_,h,_=>by simp at h
 | p::P,w::vs,0,m,nd,h1,h2,hk=>by
  simp at h1 h2;subst h1;subst h2
  show bindC kindOf ((p,w)::P.zip vs) m p=_
  unfold bindC;rw[SY fun v hv=>(List.nodup_cons.mp nd).1 (List.of_mem_zip hv).1,if_neg hk]
  simp
 | p::P,w::vs,i+1,m,nd,h1,h2,hk=>by
  show bindC kindOf ((p,w)::P.zip vs) m x=_
  unfold bindC
  exact S1 (i:=i) (List.nodup_cons.mp nd).2 (by simpa using h1) (by simpa using h2) hk
def start(N:List Str)(vs:List V):St:=vs.map some++List.replicate (N.length-vs.length) none
def RI(CX:LB)(P:Program)(w:World)(K:PySem.W.Frag)(mg:Str->Option Value)(base:Heap)(N:List Str)(qual:Str)(scope:Scope)(f:Addr)(cd:Value)(A:Around)(outer:List Env)(s:Shared)(H:Hp)(E:XK):Cx where
 prog:=P
 w:=w
 K:=K
 mg:=mg
 base:=base
 A:=A.deeper (envOfC qual scope s.heap.objs.size f cd)
 N:=N
 s₀:=s
 H₀:=H
 env:=envOfC qual scope s.heap.objs.size f cd
 outer:=outer
 stack:=envOfC qual scope s.heap.objs.size f cd::outer
 ex:=[]
 calm:=true
 fn:=fun _=>true
 pn:=[]
 xe:=fun e s'=>wpAny (model P w) (A.deeper (envOfC qual scope s.heap.objs.size f cd)) (leaving (envOfC qual scope s.heap.objs.size f cd) e) (fun _ s''=>CX outer H s E e s'') (fun e' s''=>CX outer H s E e' s'') s'
theorem Qp{sc:Scope}{n:Nat}{x:Str}(h:sc.names.lookup x=some .cell):∃c,(cellsFrom n sc.names []).lookup x=some c:=by
 have q:=PySem.W.cellsFrom_some sc.names n [] (.inl h)
 exact Option.isSome_iff_exists.mp q
theorem Nn{CX:LB}{P:Program}{w:World}{K:PySem.W.Frag}{mg:Str->Option Value}{base:Heap}{N ps:List Str}{qual:Str}{scope:Scope}{f:Addr}{cd:Value}{A:Around}{outer:List Env}{s s1:Shared}{H:Hp}{E:XK}{us:List Value}{vs:List V}
  (S:ZE N ps scope) (hd:A.handled=none) (e0:LW P w K mg base A outer s H) (hl:vs.length=ps.length) (r:Vals vs us)
  (x:InCallC s s.heap.objs.size (bindL (envOfC qual scope s.heap.objs.size f cd).kindOf (ps.zip us) fun _=>none) (cellsFrom (s.heap.objs.size+1) scope.names []) (bindC (envOfC qual scope s.heap.objs.size f cd).kindOf (ps.zip us) fun _=>none) s1) :
  Inv (RI CX P w K mg base N qual scope f cd A outer s H E) [] (start N vs) H s1:=by
 have hpl:ps.length<=N.length:=by have:=congrArg List.length S.pre;rw[List.length_take] at this;omega
 obtain⟨h1,tk,rfl,hk⟩:=x.done
 have noA:∀b:Addr,b∉(RI CX P w K mg base N qual scope f cd A outer s H E).ex:=fun b z=>absurd (show b∈([]:List Addr) from z) (by simp)
 refine⟨⟨e0.mod,S.kind,rfl,rfl,Nat.le_refl _,fun y z c h1 h2=>?_,fun y hy=>?_,fun y c _ h=>?_,fun _=>hd,Around.frames_deeper e0.frames,.inr ⟨rfl,rfl⟩,fun b z=>absurd z (noA b),e0.bs,e0.bsz,fun b _ _=>noA b,fun b z=>absurd z (noA b),e0.funs,e0.frf⟩,
  rfl,e0.bare,Un.kept hk,⟨_,x.toInCall.ns,fun i y v h1 h2 h3=>?_⟩,fun y c h=>⟨_,x.cell y c h⟩,e0.hok.fresh (Nat.le_refl _),fun y c h=>?_,fun p hp=>absurd (show p∈([]:List (Addr×Obj)) from hp) (by simp),e0.hok.kept hk,?_⟩
 ·exact name_of_addr x.apart (PySem.mem_of_lookup h1) (PySem.mem_of_lookup h2)
 ·have hy:scope.names.lookup y=some .cell\/scope.names.lookup y=some .free:=hy
  rcases hy with hy | hy
  ·exact Qp hy
  ·exact absurd rfl (S.nofree _ (PySem.mem_of_lookup hy))
 ·exact Nat.le_of_lt (x.above y c (PySem.mem_of_lookup h))
 ·have hi:i<vs.length:=by
   unfold start at h2
   by_cases hi:i<vs.length
   ·exact hi
   ·rw[List.getElem?_append_right (by simpa using hi)] at h2
    rw[List.getElem?_replicate] at h2
    split at h2<;>cases h2
  have ha:vs[i]?=some v:=by
   unfold start at h2;rw[List.getElem?_append_left (by simpa using hi),List.getElem?_map] at h2
   cases e:vs[i]? with
   | none=>rw[e] at h2;cases h2
   | some a=>rw[e] at h2;cases h2;rfl
  obtain⟨u,hu,rv⟩:=r.get ha
  have hp:ps[i]?=some y:=by
   rw[<-S.pre,List.getElem?_take_of_lt (by omega)];exact h1
  have ndP:ps.Nodup:=by rw[<-S.pre];exact S.nd.sublist (List.take_sublist _ _)
  refine⟨u,rv,?_⟩
  rcases S.par y (List.mem_of_getElem? hp) with k | k
  ·exact .inl ⟨k,S0 ndP hp hu k⟩
  ·obtain⟨c,e⟩:=Qp (n:=s.heap.objs.size+1) k
   refine .inr ⟨.inl k,c,e,?_⟩
   have q:=x.cell y c e
   rw[S1 ndP hp hu (by show scope.names.lookup y≠_;rw[k];decide)] at q
   exact q
 ·exact e0.hok.fresh (Nat.le_of_lt (x.above y c (PySem.mem_of_lookup h)))
 ·unfold start
  show _=N.length
  rw[List.length_append,List.length_map,List.length_replicate];omega
theorem Hw{CX:LB}{P:Program}{w:World}{K:PySem.W.Frag}{mg:Str->Option Value}{base:Heap}{k:Nat}{f:Addr}{name qual:Str}{params:Arguments}{body:List Stmt}{scope:Scope}{dV kV doc pm cdv ct oc:Value}{an od:Option Addr}
  {osl:Array (Option Value)} {N ps:List Str} {sp:Sp} (lk:K.lookup f=some ⟨oc,od,.func (PySem.W.fnOf name qual params body scope dV kV doc pm an cdv ct),osl⟩) (hcd:PySem.W.codeIn K cdv qual=true) (S:ZE N ps scope)
  (len:∀vs H Q E,sp vs H Q E->vs.length=ps.length)
  (hbody:∀(A:Around)(outer:List Env)(s:Shared)(H:Hp)(vs:List V)(Q:VK)(E:XK),Room k (A.deeper (envOfC qual scope s.heap.objs.size f cdv))->sp vs H Q E->
   ∃t,PSs (RI CX P w K mg base N qual scope f cdv A outer s H E) body t/\t { nx:=fun _ H'=>Q .non H',rt:=Q } (start N vs) H) :
  UJ P w K mg base CX (k+1) f (PySem.W.fnOf name qual params body scope dV kV doc pm an cdv ct) ps sp:=by
 refine⟨len,fun A outer s H args us vs Q E hr e0 hb r hsp=>?_⟩
 have hl:=len _ _ _ _ hsp
 have KX:K.In s.heap:=e0.mod.kin.keeps fun b o e=>(e0.bs b o e).1
 have lim:s.heap.NoLimit:=e0.mod.nolimit.keeps fun b o e=>(e0.bs b o e).1
 have hkind:∀y∈ps.zip us,scope.names.lookup y.1=some .local\/(scope.names.lookup y.1=some .cell/\((cellsFrom (s.heap.objs.size+1) scope.names []).lookup y.1).isSome=true):=fun⟨n,v⟩ hy=>by
  rcases S.par n (List.of_mem_zip hy).1 with q | q
  ·exact .inl q
  ·exact .inr ⟨q,PySem.W.cellsFrom_some _ _ _ (.inl q)⟩
 refine codeAny_call_function hr.depth (KX _ _ lk) rfl S.co S.gen rfl (PySem.W.codeRec_of KX hcd) (hb _ _ _ _ ?_)
 refine wpAny_newFunctionEnv_cells S.kind hkind fun env he s1 x=>?_
 subst he
 refine⟨lim.keeps x.toInCall.keep,codeAny_func ?_⟩
 obtain⟨t,ht,hq⟩:=hbody A outer s H vs Q E (hr.deeper _) hsp
 have I:Inv (RI CX P w K mg base N qual scope f cdv A outer s H E) [] (start N vs) H s1:=Nn S hr.hd e0 hl r x
 refine wpAny_mono (ht [] s1 (start N vs) H _ I hq) (fun fl s' hs=>?_) fun e s' hs=>hs
 have fin:∀{Z':St}{H':Hp}{v:V}{u:Value},Inv (RI CX P w K mg base N qual scope f cdv A outer s H E) [] Z' H' s'->RelV v u->Q v H'->CE outer P w H s Q u s':=
  fun{Z' H' v u} J rv q=>⟨v,H',J.os,J.bare,J.base,J.hok,rv,q⟩
 cases fl with
 | ret u=>
  obtain⟨v,Z',H',J,rv,q⟩:=hs
  exact fin J rv q
 | next=>
  obtain⟨Z',H',J,q⟩:=hs
  exact fin (v:=V.non) (u:=Value.none) J rfl q
 | brk=>
  obtain⟨_,_,_,q⟩:=hs
  exact False.elim q
 | cont=>
  obtain⟨_,_,_,q⟩:=hs
  exact False.elim q
section
variable {X:Cx} {x:Str} {p pos:Pos} {e:Expr} {es:List Expr} {t:TA} {id T:String} {r:List V->Hp->VK->Prop}
def Gg(r:List V->Hp->VK->Prop)(t:TA):TE:=fun Z H Q=>t Z H fun vs H1=>r vs H1 Q
theorem Qq(hc:Xy X (.builtin id) r)(hg:Gl X x)(hm:X.mg x=none)(hv:bootBuiltins x=some (.builtin id))(ha:PA X (e::es) t)(hn:x≠"__name__":=by decide)(hdb:(x==("__debug__" : Str))=false:=by decide)
  (he:starEach (e::es) X.env=(false,eval e X.env)::starEach es X.env:=by rfl) (hpl:(backTo pos (starEach es X.env)).any (·.1)=false:=by rfl):PE X (.Call (.Name x p) (e::es) [] pos) (Gg r t):=by
 intro pins s Z H Q I h
 refine wpAny_Call_Name_kw (UB I hg hm hv ?_ hn hdb)
 exact PyProof.Rows.callWith_builtin1 (ZT (ha pos pins s Z H _ I h) fun us s1 ⟨vs,H1,I1,r1,q1⟩=>hc pins s1 Z H1 vs us Q I1 r1 q1) he hpl
theorem Np(hc:Xy X (.type T) r)(hg:Gl X x)(hm:X.mg x=none)(hv:bootBuiltins x=some (.type T))(ha:PA X (e::es) t)(hn:x≠"__name__":=by decide)(hdb:(x==("__debug__" : Str))=false:=by decide)
  (he:starEach (e::es) X.env=(false,eval e X.env)::starEach es X.env:=by rfl) (hpl:(backTo pos (starEach es X.env)).any (·.1)=false:=by rfl):PE X (.Call (.Name x p) (e::es) [] pos) (Gg r t):=by
 intro pins s Z H Q I h
 refine wpAny_Call_Name_kw (UB I hg hm hv ?_ hn hdb)
 exact PyProof.Rows.callWith_type1 (ZT (ha pos pins s Z H _ I h) fun us s1 ⟨vs,H1,I1,r1,q1⟩=>hc pins s1 Z H1 vs us Q I1 r1 q1) he hpl
end
end L2
namespace HT
open PySem PyProof.Rows
section
variable {prog:Program} {w:World} {A:Around} {E:Value->Shared->Prop} {s:Shared}
def sIx(n d:Nat):Option Int->Nat
 | none=>d
 | some v=>if v<0 then(v+(n:Int)).toNat else min v.toNat n
theorem sIx_none(n d:Nat):sIx n d none=d:=rfl
theorem sIx_nat(n d k:Nat):sIx n d (some (k:Int))=min k n:=by
 show(if(k:Int)<0 then((k:Int)+(n:Int)).toNat else min (k:Int).toNat n)=min k n
 rw[if_neg (by omega),Int.toNat_natCast]
end
end HT
namespace L2
open PySem PySem.Spec PyProof.Rows
abbrev TO:=St->Hp->(Option Int->Hp->Prop)->Prop
def PO(X:Cx)(e:Option Expr)(t:TO):Prop:=
 ∀(pins:List (Addr×Obj))(s:Shared)(Z:St)(H:Hp)(Q:Option Int->Hp->Prop),Inv X pins Z H s->t Z H Q->
  wpAny (model X.prog X.w) X.A (evalPart e X.env) (fun u s'=>∃o H',Inv X pins Z H' s'/\IsPart u o/\Q o H') X.xe s
def LY:TO:=fun _ H Q=>Q none H
def Hy(t:TE):TO:=fun Z H Q=>t Z H fun x H1=>∃i,x = .int i/\Q (some i) H1
theorem Pg{ns:List Int}:∀{us:List Value},Vals (ns.map V.int) us->IntsAre us ns:=by
 induction ns with
 | nil=>intro us r;rw[List.map_nil] at r;cases r;exact .nil
 | cons n ns ih=>
  intro us r;rw[List.map_cons] at r
  cases r with
  | cons r1 r2=>
   obtain⟨t,e⟩:=r1
   subst e
   exact .cons n t (ih r2)
section
variable {X:Cx} {e:Expr} {te:TE} {lo hi:Option Expr} {tl th:TO} {pos p2:Pos}
theorem LZ:PO X none LY:=by
 intro pins s Z H Q I h;rw[evalPart_none]
 exact wpAny_pure ⟨none,H,I,.none,h⟩
theorem L0(h:PE X e te):PO X (some e) (Hy te):=by
 intro pins s Z H Q I hw;rw[evalPart_some]
 refine ZT (h pins s Z H _ I hw) fun u s1 ⟨x,H1,I1,r1,q1⟩=>?_
 obtain⟨i,rfl,q⟩:=q1
 obtain⟨t,rfl⟩:=r1
 exact⟨some i,H1,I1,.int i t,q⟩
def GG(X:Cx)(r:V->Option Int->Option Int->Hp->VK->Prop):Prop:=
 ∀(pins:List (Addr×Obj))(s:Shared)(Z:St)(H:Hp)(x:V)(v vl vu:Value)(lo hi:Option Int)(sl:Addr)(Q:VK),Inv X pins Z H s->RelV x v->s.heap.IsSliceOf sl vl vu .none->IsPart vl lo->IsPart vu hi->r x lo hi H Q->
  ∃T id,typeLookup (.type T) "__getitem__" = pure (some (.builtin id))/\s.TypeIs v T/\wpAny (model X.prog X.w) X.A (getItem v (.ref sl)) (EP X pins Z Q) X.xe s
def G8(r:V->Option Int->Option Int->Hp->VK->Prop)(te:TE)(tl th:TO):TE:=fun Z H Q=>te Z H fun x H1=>tl Z H1 fun l H2=>th Z H2 fun u H3=>r x l u H3 Q
theorem Qr{r:V->Option Int->Option Int->Hp->VK->Prop}(hr:GG X r)(he:PE X e te)(hl:PO X lo tl)(hu:PO X hi th):PE X (.Subscript e (.Slice lo hi none p2) pos) (G8 r te tl th):=by
 intro pins s Z H Q I h
 refine Subscript_ (ZT (he pins s Z H _ I h) fun v s1 ⟨x,H1,I1,r1,q1⟩=>?_)
 refine wpAny_Slice (ZT (hl pins s1 Z H1 _ I1 q1) fun vl s2 ⟨l,H2,I2,pl,q2⟩=>ZT (hu pins s2 Z H2 _ I2 q2) fun vu s3 ⟨u,H3,I3,pu,q3⟩=>?_)
 rw[evalPart_none]
 refine wpAny_pure ?_
 have I4:Inv X pins Z H3 { s3 with heap:=s3.heap.push { cls:=.type "slice",data:=.fields #[vl,vu,.none] } }:=I3.kept (t':=s3.toks) fun b ob q=>Heap.get?_push_of_some _ q
 obtain⟨T,id,hT,ht,hg⟩:=hr pins { s3 with heap:=s3.heap.push { cls:=.type "slice",data:=.fields #[vl,vu,.none] } } Z H3 x v vl vu l u s3.heap.objs.size Q I4 r1 (Heap.IsSliceOf.new ..) pl pu q3
 show wpAny (model X.prog X.w) X.A (subscriptTail e (.Slice lo hi none p2) v (.ref s3.heap.objs.size)) (EP X pins Z Q) X.xe { s3 with heap:=s3.heap.push { cls:=.type "slice",data:=.fields #[vl,vu,.none] } }
 exact tail_any (ops:=[.ref s3.heap.objs.size,v]) ht hT hg (by with_unfolding_all rfl)
def Nq(xs:List V)(lo hi:Option Int):List V:=(xs.drop (HT.sIx xs.length 0 lo)).take (HT.sIx xs.length xs.length hi-HT.sIx xs.length 0 lo)
theorem Qs(xs:List V)(lo hi:Option Int):(Nq xs lo hi).length<=xs.length:=by
 unfold Nq;rw[List.length_take,List.length_drop];omega
end
def Of(n:Nat)(i:Int):Option Nat:=if 0<=i then(if i<n then some i.toNat else none) else if -(n:Int)<=i then some (i+n).toNat else none
def X6{α:Type}(xs:List α)(i:Int):Option α:=(Of xs.length i).bind fun j=>xs[j]?
theorem Og{n:Nat}{i:Int}{j:Nat}(h:Of n i=some j):seqIndex? i n=some j/\j<n/\-(n:Int)<=i/\i<n:=by
 unfold Of at h
 by_cases h0:0<=i
 ·rw[if_pos h0] at h
  by_cases h1:i<n
  ·rw[if_pos h1] at h
   have e:i.toNat=j:=Option.some.inj h
   exact⟨by rw[seqIndex_of h0 h1,e],by omega,by omega,h1⟩
  ·rw[if_neg h1] at h;cases h
 ·rw[if_neg h0] at h
  by_cases h1 : -(n:Int)<=i
  ·rw[if_pos h1] at h
   have e:(i+n).toNat=j:=Option.some.inj h
   exact⟨by rw[seqIndex_neg (by omega) h1,e],by omega,h1,by omega⟩
  ·rw[if_neg h1] at h;cases h
theorem RJ{α:Type}{xs:List α}{i:Int}{v:α}(h:X6 xs i=some v):∃j,seqIndex? i xs.length=some j/\xs[j]?=some v/\j<xs.length/\-(xs.length:Int)<=i/\i<xs.length:=by
 unfold X6 at h
 cases e:Of xs.length i with
 | none=>rw[e] at h;cases h
 | some j=>
  rw[e] at h
  obtain⟨h1,h2,h3,h4⟩:=Og e
  exact⟨j,h1,h,h2,h3,h4⟩
theorem Xk{α:Type}{xs:List α}{j:Nat}{v:α}(h:xs[j]?=some v):X6 xs (j:Int)=some v:=by
 have hj:j<xs.length:=(List.getElem?_eq_some_iff.mp h).1
 have e:Of xs.length (j:Int)=some j:=by
  unfold Of
  rw[if_pos (by omega),if_pos (by omega)];simp
 unfold X6;rw[e];exact h
def RK(b:Expr):Prop:=∀o i,subscripted b false o i=operate [o,i] (getItem o i)
def IxR(X:Cx)(r:R2):Prop:=
 ∀(value slice:Expr)(pins:List (Addr×Obj))(s:Shared)(Z:St)(H:Hp)(x y:V)(v u:Value)(Q:VK),Inv X pins Z H s->RelV x v->RelV y u->r x y H Q->
  subscripted slice false v u=operate [v,u] (getItem v u)->wpAny (model X.prog X.w) X.A (subscriptTail value slice v u) (EP X pins Z Q) X.xe s
def Hz(X:Cx)(id:String)(r:V->List V->Hp->VK->Prop):Prop:=
 ∀(pins:List (Addr×Obj))(s:Shared)(Z:St)(H:Hp)(x:V)(xs:List V)(v:Value)(us:List Value)(Q:VK),Inv X pins Z H s->RelV x v->Vals xs us->r x xs H Q->
  wpAny (model X.prog X.w) X.A (call (.builtin id) (v::us)) (EP X pins Z Q) X.xe s
section
variable {X:Cx} {a b:Expr} {ta tb:TE} {pos:Pos}
theorem IxR.or{r r':R2}(h:IxR X r)(h':IxR X r'):IxR X (fun x y H Q=>r x y H Q\/r' x y H Q):=by
 intro value slice pins s Z H x y v u Q I rx ry q hs
 rcases q with q | q
 ·exact h value slice pins s Z H x y v u Q I rx ry q hs
 ·exact h' value slice pins s Z H x y v u Q I rx ry q hs
theorem S2{r:R2}(hr:IxR X r)(ha:PE X a ta)(hb:PE X b tb)(hs:RK b):PE X (.Subscript a b pos) (JT r ta tb):=by
 intro pins s Z H Q I h
 exact Subscript_ (JU ha hb I h fun v u s2 x y H2 I2 rx ry q=>hr a b pins s2 Z H2 x y v u Q I2 rx ry q (hs _ _))
def L1(K:PySem.W.Frag):R2:=fun x y H Q=>∃p xs i v,x = .ref p/\y = .int i/\SqL K H p xs/\X6 xs i=some v/\Q v H
def HA(K:PySem.W.Frag):R2:=fun x y H Q=>∃p xs i v,x = .ref p/\y = .int i/\SqT K H p xs/\X6 xs i=some v/\Q v H
def HB:R2:=fun x y H Q=>∃z i c,x = .str z/\y = .int i/\z.length<=sizeLine/\X6 z.cps.toList i=some c/\Q (.str ⟨#[c]⟩) H
theorem ix_list:IxR X (L1 X.K):=by
 intro value slice pins s Z H x y v u Q I rx ry h hs
 obtain⟨p,xs,i,z,rfl,rfl,hq,he,q⟩:=h
 cases rx
 obtain⟨t,rfl⟩:=ry
 obtain⟨its,r,pl,hz⟩:=I.list hq
 obtain⟨j,h1,h2,h3,h4,h5⟩:=RJ he
 obtain⟨w,ew,rw'⟩:=r.get h2
 have hl:=r.length;have hn:=UH
 have fin:EP X pins Z Q w s:=⟨z,H,I,rw',q⟩
 by_cases h0:0<=i
 ·have hj:i.toNat=j:=by
   rw[seqIndex_of h0 h5] at h1
   exact Option.some.inj h1
  exact item_listR pl.isList h0 (by omega) (by rw[hj];simpa using ew) fin hs
 ·have hj:(i+(its.toArray.size:Int)).toNat=j:=by
   rw[seqIndex_neg (by omega) h4] at h1;rw[List.size_toArray,<-hl]
   exact Option.some.inj h1
  exact subscriptTail_builtinR (x:=w) pl.isList.typeIs slot_list_getitem.lookup
   (wpAny_getItem_list_neg (Q:=fun r s'=>r=w/\EP X pins Z Q r s') pl.isList (by omega) (by rw[List.size_toArray]<;>omega) (by omega) (by rw[hj];simpa using ew) ⟨rfl,fin⟩) hs
theorem ix_tup:IxR X (HA X.K):=by
 intro value slice pins s Z H x y v u Q I rx ry h hs
 obtain⟨p,xs,i,z,rfl,rfl,hq,he,q⟩:=h
 cases rx
 obtain⟨t,rfl⟩:=ry
 obtain⟨its,r,pl,hz⟩:=I.tuple hq
 obtain⟨j,h1,h2,h3,h4,h5⟩:=RJ he
 obtain⟨w,ew,rw'⟩:=r.get h2
 have hl:=r.length;have hn:=UH
 have fin:EP X pins Z Q w s:=⟨z,H,I,rw',q⟩
 exact subscriptTail_builtinR (x:=w) pl.typeIs slot_tuple_getitem.lookup
  (getItem_tuple (j:=j) (Q:=fun r s'=>r=w/\EP X pins Z Q r s') pl (by omega) (by omega) (by rw[List.size_toArray,<-hl];exact h1) (by simpa using ew) ⟨rfl,fin⟩) hs
theorem J4:IxR X HB:=by
 intro value slice pins s Z H x y v u Q I rx ry h hs
 obtain⟨z,i,c,rfl,rfl,hz,he,q⟩:=h
 obtain⟨t,rfl⟩:=rx
 obtain⟨t',rfl⟩:=ry
 obtain⟨j,h1,h2,h3,h4,h5⟩:=RJ he
 have hl:z.cps.toList.length=z.length:=by simp[Str.length]
 rw[hl] at h1 h4 h5
 have hn:=UH
 exact tail_any (typeIs_str s z t) slot_str_getitem.lookup (getItem_str (c:=c) (by
  have e1:decide (i < -(2^63:Int))=false:=decide_eq_false (by omega)
  have e2:decide (i ≥ 2^63)=false:=decide_eq_false (by omega)
  rw[e1,e2,Bool.or_false]) (by rw[h1];simpa using h2) ⟨.str ⟨#[c]⟩,H,I.tok _,⟨_,rfl⟩,q⟩) hs
def G1(K:PySem.W.Frag):R2:=fun x y H Q=>L1 K x y H Q\/HA K x y H Q\/HB x y H Q
theorem J5:IxR X (G1 X.K):=ix_list.or (ix_tup.or J4)
theorem Ph(its:List Value)(n j:Nat)(u:Value):Obj.mapSeq (·.setIfInBounds j u) { cls:=.type "list",data:=.seq its.toArray n }={ cls:=.type "list",data:=.seq (its.set j u).toArray n }:=by
 simp[Obj.mapSeq]
theorem Inv.lst{pins:List (Addr×Obj)}{Z:St}{H:Hp}{s:Shared}{p:Addr}{xs:List V}(I:Inv X pins Z H s)(h:H p=some (.lst xs)) :
  ∃(its:List Value) (n:Nat),Vals xs its/\s.heap.get? p=some { cls:=.type "list",data:=.seq its.toArray n }/\xs.length<=sizeLine:=by
 obtain⟨z,its,n,r,e⟩:=I.hok p _ h
 exact⟨its,n,r,e,z⟩
theorem Inv.lstUpd{pins:List (Addr×Obj)}{Z:St}{H:Hp}{s:Shared}{p:Addr}{xs ys:List V}{its its':List Value}{n n':Nat}{f:Obj->Obj}(I:Inv X pins Z H s)(h:H p=some (.lst xs))
  (ho:s.heap.get? p=some { cls:=.type "list",data:=.seq its.toArray n }) (hf:f { cls:=.type "list",data:=.seq its.toArray n }={ cls:=.type "list",data:=.seq its'.toArray n' }) (r:Vals ys its') (hz:ys.length<=sizeLine) (t:Nat) :
  Inv X pins Z (upd H p (.lst ys)) { s with heap:=s.heap.update p f,toks:=t }:=by
 have e:(s.heap.update p f).get? p=some { cls:=.type "list",data:=.seq its'.toArray n' }:=by
  rw[Heap.get?_update_self f ho (by rw[hf]<;>rfl),hf]
 refine I.write (x:=p) (e:=p) (by rw[h];trivial) (.inl rfl) (fun b u hb q=>(Heap.get?_update_other _ _ (Ne.symm hb)).trans q) ⟨_,e⟩ ?_
 exact⟨hz,its',n',r,e⟩
def Je:V->V->V->Hp->(Hp->Prop)->Prop:=fun o i v H Q=>∃p xs k j,o = .ref p/\i = .int k/\H p=some (.lst xs)/\Of xs.length k=some j/\Q (upd H p (.lst (xs.set j v)))
theorem V0:Hg X Je:=by
 intro pins s Z H o i v ov iv u Q I ro ri rv h
 obtain⟨p,xs,k,j,rfl,rfl,hp,hj,q⟩:=h
 cases ro
 obtain⟨t,rfl⟩:=ri
 obtain⟨its,n,r,ho,hz⟩:=I.lst hp
 obtain⟨h1,h2,h3,h4⟩:=Og hj
 have hl:=r.length;have hn:=UH
 have I':Inv X pins Z (upd H p (.lst (xs.set j v))) { s with heap:=s.heap.update p (Obj.mapSeq (·.setIfInBounds j u)) }:=
  I.lstUpd hp ho (Ph its n j u) (r.set rv j) (by rw[List.length_set];exact hz) s.toks
 by_cases h0:0<=k
 ·have hk:k.toNat=j:=by
   rw[seqIndex_of h0 h4] at h1
   exact Option.some.inj h1
  exact PySem.W.ki_setAt ho h0 (by omega) (by rw[List.size_toArray,<-hl];exact h4) (by rw[hk];exact⟨_,I',q⟩)
 ·have hk:(k+(its.toArray.size:Int)).toNat=j:=by
   rw[seqIndex_neg (by omega) h3] at h1;rw[List.size_toArray,<-hl]
   exact Option.some.inj h1
  exact PySem.W.ki_setBack ho (by omega) (by rw[List.size_toArray,<-hl];exact h3) (by omega) (by rw[hk];exact⟨_,I',q⟩)
theorem RL(lo hi:Option Int)(n:Nat):(sliceBounds lo hi none n).1=((HT.sIx n 0 lo:Nat):Int)/\(sliceBounds lo hi none n).2.1=((HT.sIx n n hi:Nat):Int)/\(sliceBounds lo hi none n).2.2=1:=by
 refine⟨?_,?_,rfl⟩
 ·cases lo with
  | none=>simp[sliceBounds,HT.sIx]
  | some i=>
   simp only[sliceBounds,HT.sIx,Option.getD_none,show(1:Int)>0 by decide,if_true]
   by_cases h:i<0
   ·simp only[h,if_true]<;>omega
   ·simp only[h,if_false]<;>omega
 ·cases hi with
  | none=>simp[sliceBounds,HT.sIx]
  | some i=>
   simp only[sliceBounds,HT.sIx,Option.getD_none,show(1:Int)>0 by decide,if_true]
   by_cases h:i<0
   ·simp only[h,if_true]<;>omega
   ·simp only[h,if_false]<;>omega
theorem SH(its:List Value)(lo hi:Option Int):slicePick its.toArray lo hi none=((its.drop (HT.sIx its.length 0 lo)).take (HT.sIx its.length its.length hi-HT.sIx its.length 0 lo)).toArray:=by
 obtain⟨h1,h2,h3⟩:=RL lo hi its.toArray.size
 unfold slicePick;rw[h1,h2,h3]
 simp only[sliceRange_one,pick_run,List.size_toArray]<;>rfl
def GH(K:PySem.W.Frag):V->Option Int->Option Int->Hp->VK->Prop:=fun x lo hi H Q=>∃a xs,x = .ref a/\SqL K H a xs/\∀p,H p=none->Q (.ref p) (upd H p (.lst (Nq xs lo hi)))
theorem L3:GG X (GH X.K):=by
 intro pins s Z H x v vl vu lo hi sl Q I rx hs pl pu h
 obtain⟨a,xs,rfl,hx,q⟩:=h
 cases rx
 obtain⟨its,r,ht,hz⟩:=I.list hx
 have hlen:=r.length
 refine⟨"list",_,slot_list_getitem.lookup,ht.isList.typeIs,?_⟩
 refine wpAny_getItem_list_slice ht.isList hs pl pu .none (by simp) ?_ (by rw[List.size_toArray]<;>omega)
 rw[SH,<-hlen]
 refine⟨.ref s.heap.objs.size,_,I.laid (t':=s.toks) (o:=.lst (Nq xs lo hi)) (fun b ob q=>Heap.get?_push_of_some _ q) (Nat.le_refl _) ?_,rfl,q _ (I.hok.fresh (Nat.le_refl _))⟩
 exact⟨Nat.le_trans (Qs xs lo hi) hz,_,0,(r.drop (HT.sIx xs.length 0 lo)).take (HT.sIx xs.length xs.length hi-HT.sIx xs.length 0 lo),Heap.get?_push_size _ rfl⟩
theorem YO:Xy X (.type "tuple") (fun xs H Q=>∃p ys,xs=[.ref p]/\((SqL X.K H p ys/\∀l,H l=none->Q (.ref l) (upd H l (.tup ys)))\/(SqT X.K H p ys/\Q (.ref p) H))):=by
 intro pins s Z H xs us Q I r h
 obtain⟨p,ys,rfl,h⟩:=h
 obtain⟨u,rfl,rx⟩:=WK r
 cases rx
 rcases h with⟨hq,q⟩ | ⟨hq,q⟩
 ·obtain⟨its,r',pl,hz⟩:=I.list hq
  have hlen:=r'.length
  refine call_tuple_list pl.isList (fun h' kp=>?_) (by simp only[List.size_toArray]<;>omega)
  have I1:Inv X pins Z H { s with heap:=h' }:=I.kept (t':=s.toks) kp
  have I2:Inv X pins Z (upd H h'.objs.size (.tup ys)) { s with heap:=h'.push { cls:=.type "tuple",data:=.seq its.toArray } }:=
   I1.laid (t':=s.toks) (fun b o e=>Heap.get?_push_of_some _ e) (Nat.le_refl _) (show ObjOk X.prog X.w _ _ _ (.tup ys) from⟨hz,its,r',IsTup.new _ _⟩)
  exact⟨.ref h'.objs.size,_,I2,rfl,q _ (I1.hok.fresh (Nat.le_refl _))⟩
 ·obtain⟨its,r',pl,hz⟩:=I.tuple hq
  exact call_tuple_same pl ⟨.ref p,H,I,rfl,q⟩
def GI(K:PySem.W.Frag)(T:String)(x:V)(H:Hp):Prop:=match x with
 | .str _=>T = "str"
 | .int _=>T = "int"
 | .ref p=>(T = "list"/\∃xs,SqL K H p xs)\/(T = "tuple"/\∃o,K.lookup p=some o/\o.cls = .type "tuple"/\o.dict=none)\/
   (T = "dict"/\((∃kvs,H p=some (.dK kvs))\/∃kvs,H p=some (.dT kvs)))\/(T = "set"/\∃S n,H p=some (.set S n))
 | _=>False
theorem J6{pins:List (Addr×Obj)}{Z:St}{H:Hp}{s:Shared}{T:String}{x:V}{v:Value}(I:Inv X pins Z H s)(r:RelV x v)(ty:GI X.K T x H) :
  s.TypeIs v T/\∀a,v = .ref a->∃ob,s.heap.get? a=some ob/\ob.dict=none:=by
 cases x with
 | str z=>
  obtain⟨t,rfl⟩:=r
  cases (show T = "str" from ty)
  exact⟨typeIs_str s z t,fun _ e=>nomatch e⟩
 | int i=>
  obtain⟨t,rfl⟩:=r
  cases (show T = "int" from ty)
  exact⟨typeIs_int s i t,fun _ e=>nomatch e⟩
 | ref p=>
  cases r
  rcases ty with⟨rfl,xs,hq⟩ | ⟨rfl,o,hk,hc,hd⟩ | ⟨rfl,hk⟩ | ⟨rfl,S,n,hk⟩
  ·obtain⟨its,_,pl,_⟩:=I.list hq
   refine⟨pl.isList.typeIs,fun a e=>?_⟩
   cases e
   obtain⟨o,n,e,c,hd,_⟩:=pl
   exact⟨o,e,hd⟩
  ·refine⟨⟨o,I.kIn p o hk,hc⟩,fun a e=>?_⟩
   cases e
   exact⟨o,I.kIn _ o hk,hd⟩
  ·have z:∃o,s.heap.get? p=some o/\o.ExactDict:=by
    rcases hk with⟨kvs,hk⟩ | ⟨kvs,hk⟩
    ·obtain⟨_,_,_,_,o,_,_,e,ex,_⟩:=I.hok p _ hk
     exact⟨o,e,ex⟩
    ·obtain⟨_,_,_,_,o,_,_,e,ex,_⟩:=I.hok p _ hk
     exact⟨o,e,ex⟩
   obtain⟨o,e,ex⟩:=z
   refine⟨⟨o,e,ex.1⟩,fun a e2=>?_⟩
   cases e2
   exact⟨o,e,ex.2.1⟩
  ·obtain⟨o,_,_,_,e,ex,_⟩:=I.hok p _ hk
   refine⟨⟨o,e,ex.1⟩,fun a e2=>?_⟩
   cases e2
   exact⟨o,e,ex.2.1⟩
 | _=>exact False.elim ty
def Gh(K:PySem.W.Frag)(T:String)(r:V->List V->Hp->VK->Prop)(to:TE)(t:TA):TE:=fun Z H Q=>to Z H fun x H1=>GI K T x H1/\t Z H1 fun xs H2=>r x xs H2 Q
variable {o e:Expr} {es:List Expr} {to:TE} {t:TA} {name:Str} {apos cpos:Pos} {T id:String} {r:V->List V->Hp->VK->Prop}
theorem V1(pa:PlainAttrs T)(slot:Slot T name id)(hty:typeOf (.builtin id)=pure (.type "method_descriptor"))(hm:Hz X id r)(ho:PE X o to)(ha:PA X (e::es) t)
  (hbase:attributeBase o name X.env (eval o X.env)=eval o X.env:=by rfl)
  (hfew:((backTo cpos (starEach (e::es) X.env)).all (fun x=>!x.1)&&(backToKw cpos (keywordEach [] X.env)).all (fun x=>x.1.isSome)
   &&decide ((e::es).length+([]:List Keyword).length+(if([]:List Keyword).isEmpty then 0 else 1)<30))=true:=by rfl)
  (hline:(apos.endLine==cpos.line)=true:=by rfl) (hs:starEach (e::es) X.env=(false,eval e X.env)::starEach es X.env:=by rfl) (hplain:(backTo cpos (starEach es X.env)).any (·.1)=false:=by rfl) :
  PE X (.Call (.Attribute o name apos) (e::es) [] cpos) (Gh X.K T r to t):=by
 intro pins s Z H Q I h
 refine wpAny_Call_method_late hbase hfew hline rfl (ZT (ho pins s Z H _ I h) fun v s1 ⟨x,H1,I1,r1,ty,q1⟩=>?_)
 obtain⟨h1,h2⟩:=J6 I1 r1 ty
 refine⟨T,id,pa,slot,hty,h1,h2,?_⟩
 have hA:=ha cpos pins s1 Z H1 _ I1 q1
 rw[hs] at hA ⊢
 refine Calls.callWith_builtin (by show(false || (backTo cpos (starEach es X.env)).any (·.1))=false;rw[hplain]<;>rfl) (Calls.evalArgs_plain ?_)
 exact ZT hA fun us s2 ⟨vs,H2,I2,r2,q2⟩=>hm pins s2 Z H2 x vs v us Q I2 r1 r2 q2
end
def GJ(X:Cx)(id:String)(r:V->List V->Hp->VK->Prop):Prop:=
 ∀(pins:List (Addr×Obj))(s:Shared)(Z:St)(H:Hp)(x:V)(xs:List V)(v:Value)(us:List Value)(Q:VK),Inv X pins Z H s->RelV x v->Vals xs us->r x xs H Q->
  wpAny (model X.prog X.w) X.A (call (.builtin id) (v::us)) (EP X pins Z Q) X.xe s
theorem Vals.one:∀{x:V}{us:List Value},Vals [x] us->∃u,us=[u]/\RelV x u
 | _,_,.cons r .nil=>⟨_,rfl,r⟩
theorem Vals.two:∀{x y:V}{us:List Value},Vals [x,y] us->∃u v,us=[u,v]/\RelV x u/\RelV y v
 | _,_,_,.cons r (.cons q .nil)=>⟨_,_,rfl,r,q⟩
theorem Vals.dropLast{xs:List V}{us:List Value}(h:Vals xs us):Vals xs.dropLast us.dropLast:=by
 induction h with
 | nil=>exact .nil
 | cons r t ih=>
  cases t with
  | nil=>exact .nil
  | cons q t'=>exact .cons r ih
theorem Vals.rep{xs:List V}{us:List Value}(h:Vals xs us):∀k:Nat,Vals (List.replicate k xs).flatten (List.replicate k us).flatten
 | 0=>.nil
 | k+1=>by
  rw[List.replicate_succ,List.replicate_succ,List.flatten_cons,List.flatten_cons]
  exact Vals.append h (Vals.rep h k)
theorem S3(its:List Value):∀(k:Nat)(acc:List Value),
  List.foldl (fun x1 x2=>x1++x2) acc.toArray (List.replicate k its.toArray)=(acc++(List.replicate k its).flatten).toArray
 | 0,acc=>by simp
 | k+1,acc=>by
  have e:acc.toArray++its.toArray=(acc++its).toArray:=by simp
  have e2:(acc++its)++(List.replicate k its).flatten=acc++(List.replicate (k+1) its).flatten:=by
   rw[List.replicate_succ,List.flatten_cons,List.append_assoc]
  rw[<-e2,<-S3 its k (acc++its),<-e,List.replicate_succ,List.foldl_cons]
section
variable {X:Cx} {pins:List (Addr×Obj)} {Z:St} {H:Hp} {s:Shared} {l b:Addr} {xs ys zs:List V}
theorem Inv.lset{its its':List Value}{n:Nat}{f:Array Value->Array Value}{t':Nat}(I:Inv X pins Z H s)(hH:H l=some (.lst xs))
  (e:s.heap.get? l=some { cls:=.type "list",data:=.seq its.toArray n }) (hf:f its.toArray=its'.toArray) (hv:Vals ys its') (hz:ys.length<=sizeLine) :
  Inv X pins Z (upd H l (.lst ys)) { s with heap:=s.heap.update l (Obj.mapSeq f),toks:=t' }:=by
 have q:=PySem.IsL.update e f;rw[hf] at q
 refine I.write (x:=l) (e:=l) (by rw[hH];exact trivial) (.inl rfl) (fun b' u hb hu=>(Heap.get?_update_other s.heap (Obj.mapSeq f) (Ne.symm hb)).trans hu) ⟨_,q⟩ ?_
 exact⟨hz,its',_,hv,q⟩
theorem Inv.lnew{its:List Value}{t':Nat}(I:Inv X pins Z H s)(hv:Vals ys its)(hz:ys.length<=sizeLine) :
  Inv X pins Z (upd H s.heap.objs.size (.lst ys)) { s with heap:=s.heap.push { cls:=.type "list",data:=.seq its.toArray },toks:=t' }:=
 I.laid (fun _ _ q=>Heap.get?_push_of_some _ q) (Nat.le_refl _) ⟨hz,its,0,hv,Heap.get?_push_size _ rfl⟩
theorem Inv.fresh(I:Inv X pins Z H s):H s.heap.objs.size=none:=I.hok.fresh (Nat.le_refl _)
theorem Inv.lstM(I:Inv X pins Z H s)(hH:H l=some (.lst xs)):xs.length<=sizeLine/\∃(its:List Value) (n:Nat),Vals xs its/\xs.length=its.length/\s.heap.get? l=some { cls:=.type "list",data:=.seq its.toArray n }:=by
 obtain⟨z,its,n,r,e⟩:=I.hok l _ hH
 exact⟨z,its,n,r,r.length,e⟩
theorem Qt{n:Nat}(h:n<=sizeLine):Builtin.List.listTooLong n=false:=by
 unfold Builtin.List.listTooLong
 exact decide_eq_false (by omega)
end
section
variable {X:Cx}
def Oh:V->List V->Hp->VK->Prop:=fun x vs H Q=>∃l xs y,x = .ref l/\vs=[y]/\H l=some (.lst xs)/\xs.length<sizeLine/\Q .non (upd H l (.lst (xs++[y])))
theorem UK:GJ X "list.append" Oh:=by
 intro pins s Z H x vs v us Q I rx rv h
 obtain⟨l,xs,y,rfl,rfl,hH,hz,q⟩:=h
 cases rx
 obtain⟨u,rfl,ru⟩:=rv.one
 obtain⟨z,its,n,r,hl,e⟩:=I.lstM hH
 refine call_meets F.slot_list_append ⟨_,e,rfl⟩ F.entry_list_append (F.args_list_append_2 _ _) (PySem.list_append l its.toArray n u (by rw[List.size_toArray];omega)) ⟨e,?_⟩
 refine⟨.non,_,I.lset (its':=its++[u]) hH e (by simp) (r.append (.cons ru .nil)) ?_,rfl,q⟩
 rw[List.length_append,List.length_singleton];omega
def Oi:V->List V->Hp->VK->Prop:=fun x vs H Q=>∃l b xs zs,x = .ref l/\vs=[.ref b]/\H l=some (.lst xs)/\H b=some (.lst zs)/\xs.length+zs.length<=sizeLine/\Q .non (upd H l (.lst (xs++zs)))
theorem S4:GJ X "list.extend" Oi:=by
 intro pins s Z H x vs v us Q I rx rv h
 obtain⟨l,b,xs,zs,rfl,rfl,hH,hB,hz,q⟩:=h
 cases rx
 obtain⟨u,rfl,ru⟩:=rv.one
 cases ru
 obtain⟨z,its,n,r,hl,e⟩:=I.lstM hH
 obtain⟨z2,its2,n2,r2,hl2,e2⟩:=I.lstM hB
 have hsz:its.toArray.size+its2.toArray.size<=sizeLine:=by rw[List.size_toArray,List.size_toArray];omega
 have hlong:¬(!its.toArray.isEmpty&&Builtin.List.listTooLong (its.toArray.size+its2.toArray.size))=true:=by
  rw[Qt hsz,Bool.and_false];exact Bool.false_ne_true
 refine call_meets F.slot_list_extend ⟨_,e,rfl⟩ F.entry_list_extend (F.args_list_extend_2 _ _)
  (AutoSeq1.list_extend_list_list_0 l its.toArray n b its2.toArray n2 hlong (by rw[List.size_toArray];omega) (by omega)) ⟨e,e2,?_⟩
 refine⟨.non,_,I.lset (its':=its++its2) hH e (by simp) (r.append r2) ?_,rfl,q⟩
 rw[List.length_append];omega
def GK:R2:=fun x y H Q=>∃l b xs zs,x = .ref l/\y = .ref b/\H l=some (.lst xs)/\H b=some (.lst zs)/\xs.length+zs.length<=sizeLine/\∀p,H p=none->Q (.ref p) (upd H p (.lst (xs++zs)))
theorem J7:Wt X (binaryOp .Add) GK:=by
 intro pins s Z H x y v u Q I rx ry h
 obtain⟨l,b,xs,zs,rfl,rfl,hH,hB,hz,q⟩:=h
 cases rx;cases ry
 obtain⟨z,its,n,r,hl,e⟩:=I.lstM hH
 obtain⟨z2,its2,n2,r2,hl2,e2⟩:=I.lstM hB
 refine PySem.P.add_list e e2 ?_ (by rw[List.size_toArray,List.size_toArray];omega)
 have ea:its.toArray++its2.toArray=(its++its2).toArray:=by simp
 rw[ea]
 exact⟨.ref _,_,I.lnew (t':=s.toks) (r.append r2) (by rw[List.length_append];omega),rfl,q _ I.fresh⟩
def GL:R2:=fun x y H Q=>∃l k xs,x = .ref l/\y = .int k/\H l=some (.lst xs)/\-(2^63)<=k/\k<2^63/\xs.length*k.toNat<=sizeLine/\
 ∀p,H p=none->Q (.ref p) (upd H p (.lst (List.replicate k.toNat xs).flatten))
theorem L4{α:Type}(xs:List α)(k:Nat):(List.replicate k xs).flatten.length=k*xs.length:=by
 induction k with
 | zero=>simp
 | succ k ih=>rw[List.replicate_succ,List.flatten_cons,List.length_append,ih,Nat.succ_mul,Nat.add_comm]
theorem J8:Wt X (binaryOp .Mult) GL:=by
 intro pins s Z H x y v u Q I rx ry h
 obtain⟨l,k,xs,rfl,rfl,hH,h1,h2,hz,q⟩:=h
 cases rx
 obtain⟨t,rfl⟩:=ry
 obtain⟨z,its,n,r,hl,e⟩:=I.lstM hH
 have hlen:its.toArray.size*k.toNat<=sizeLine:=by rw[List.size_toArray,<-hl];exact hz
 have hcap:¬its.toArray.size*k.toNat>(2^63-1)/8:=by
  have:(sizeLine:Nat)<=(2^63-1)/8:=by decide
  omega
 have hfit:¬(!Builtin.List.listFitsIndex k)=true:=by
  rw[fitsIndex_both h1 h2];exact Bool.false_ne_true
 have hlong:¬Builtin.List.listTooLong (its.toArray.size*k.toNat)=true:=by
  rw[Qt hlen];exact Bool.false_ne_true
 have hnew:List.foldl (fun x1 x2=>x1++x2) #[] (List.replicate (if its.toArray.isEmpty=true then 0 else k.toNat) its.toArray)=(List.replicate k.toNat its).flatten.toArray:=by
  have f0:∀m:Nat,List.foldl (fun x1 x2=>x1++x2) #[] (List.replicate m its.toArray)=(List.replicate m its).flatten.toArray:=fun m=>by
   have:=S3 its m []
   rw[List.nil_append] at this;exact this
  rw[f0]
  cases its with
  | nil=>simp
  | cons a r'=>rw[if_neg (by simp)]
 refine wpAny_binaryOp_repeat_ref (T:="list") (U:="int") (by decide) ⟨_,e,rfl⟩ (fun s'=>typeIs_int s' k t) noFill_list_mul F.fills_int_mul F.slot_int_rmul repeat_list F.slot_int_index.lookup
  (call_meets F.slot_int_rmul (typeIs_int s k t) F.entry_int_rmul (F.args_int_rmul_2 _ _) (int___rmul___int_list k t l its.toArray n)
   ⟨e,rfl,⟨_,e,rfl⟩,call_meets F.slot_list_mul ⟨_,e,rfl⟩ F.entry_list_mul (F.args_list_mul_2 _ _) (AutoListH.list___mul___list_int_3 l its.toArray n k t hfit hcap hlong) ⟨e,?_⟩⟩)
 rw[hnew]
 exact⟨.ref _,_,I.lnew (t':=s.toks) (r.rep k.toNat) (by rw[L4,Nat.mul_comm];exact hz),rfl,q _ I.fresh⟩
end
end L2
namespace Att
open PySem PySem.W PySem.Calls PyProof.Rows
theorem Tf{P:Params}{h:Heap}:∀(ns:List Int)(vs:List Value),WellAll P h vs (ns.map WData.int)->IntsAre vs ns:=by
 intro ns
 induction ns with
 | nil=>
  intro vs w;rw[List.map_nil] at w;cases w;exact .nil
 | cons n ns ih=>
  intro vs w;rw[List.map_cons] at w
  cases w with
  | cons a b=>
   cases a
   exact .cons _ _ (ih _ b)
theorem Nr{l:OpenLaw}{n:Nat}(hn:l.most=some n){P:Params}{h:Heap}{args:List WData}{vals:List Value}
  (hpre:l.row.toRowW.claim.pre args=true) (hwl:WellAll P h vals args) :
  ∃a vs ns,vals=[Value.ref a]/\args=[WData.list (ns.map WData.int)]/\h.get? a=some { cls:=.type "list",data:=.seq vs.toArray }/\IntsAre vs ns/\ns.length<=n:=by
 have hsh:WShape.hasAll [] args [.list .int]=true:=(pre_splitW hpre).1
 have hc:l.pre.holds [] { args:=args }=true:=(pre_splitW hpre).2
 obtain⟨d,r,rfl,h1,h2⟩:=hasAllW_cons hsh
 obtain rfl:=hasAllW_nil h2
 obtain⟨xs,rfl,h3⟩:=hasW_list h1
 obtain⟨ns,rfl⟩:=items_int h3
 have hlen:ns.length<=n:=by
  unfold OpenLaw.pre at hc
  have h4:(WTm.not (.lt (.lit (.int (n:Int))) (.len (.arg 0)))).holds [] { args:=[.list (ns.map .int)] }=true:=by
   have h4:=(holds_andW hc).1
   rw[hn] at h4;exact h4
  have h5:=condW_of h4 (w_not (w_lt w_lit (w_len_list (w_arg rfl))))
  rw[List.length_map] at h5
  refine Nat.le_of_not_lt fun q=>?_
  have q':(n:Int)<((ns.length:Nat):Int):=by omega
  first
   | (rw[decide_eq_true q'] at h5;exact absurd h5 (by decide))
   | (simp at h5;omega)
 cases hwl with
 | cons w1 w2=>
  cases w2
  cases w1 with
  | list ho hall=>exact⟨_,_,ns,rfl,rfl,ho,Tf ns _ hall,hlen⟩
theorem Nt(l:OpenLaw)(args:List WData):l.row.toRowW.claim.post args (.bool true) args=true:=
 postW_of (r:=l.row.toRowW) (X:=(true==true))
  (show WShape.has [] (.bool true) .bool=true by first | rfl | decide | simp[WShape.has,WShape.arms,WShape.armsAll])
  (show(WTm.eq .res (.lit (.bool true))).value [] { args:=args,res:=some (.bool true),after:=args }=some (.bool (true==true)) from w_eq_bool (w_res rfl) w_lit) rfl
theorem attach_call{l:OpenLaw}{n:Nat}{q:Program}{loose:List Str}{XP:(Str->Option Value)->Heap->Prop}{YP:World->Heap->Prop}{d:DefRec}
  (hn:l.most=some n) (hdf:d.params.defaults=[])
  (call:∀(w:World)(s₀ s₁:Shared)(mg mb:Str->Option Value)(fa:Addr)(o:Obj)(pm cd doc:Value)(a:Addr)(vs:List Value)(ns:List Int),
   Ground q loose [] XP w s₀ mg mb s₁.heap->YP w s₁.heap->
   s₁.heap.get? fa=some o->o.data = .func (docDef d.name d.params d.body d.scope pm cd doc)->s₁.heap.CodeRec cd d.name->mg d.name=some (.ref fa)->
   s₁.heap.get? a=some { cls:=.type "list",data:=.seq vs.toArray }->IntsAre vs ns->ns.length<=n->s₁.gens = #[]->
   codeAny (model l.prog w) callerA (.call (.ref fa) ⟨[.ref a],[]⟩) (fun r s'=>r = .ok (.ret (.bool true))/\OldK s₁.heap s'.heap/\s'.os=s₁.os/\AllBare s'.gens) s₁) :
  WalkO q loose XP YP l.row.toRowW d [] (fun f vs=>PySem.call f vs):=by
 intro w s₀ s₁ mg mb G Y fa o pm cd doc dV kV ho hd hcd hD hmg hg args vals as hpre hlay hrd hwl hlo
 obtain rfl:dV = .none:=Dflts.none hD hdf
 obtain rfl:kV = .none:=Dflts.noKw hD
 obtain⟨a,vs,ns,rfl,rfl,hobj,hints,hlen⟩:=Nr hn hpre hwl
 refine enter_call (codeAny_mono (call w s₀ s₁ mg mb fa o pm cd doc a vs ns G Y ho (fd_plain hd) hcd hmg hobj hints hlen hg) fun r s' hq=>?_)
 obtain⟨rfl,h2,h3,h4⟩:=hq
 exact⟨.inl ⟨.bool true,.bool true,[],rfl,fun _=>rfl,.bool true,Nt l _,fun _=>⟨List.Pairwise.nil,fun _ hm=>(nomatch hm)⟩⟩,h2,h3,h4⟩
end Att
namespace L2
open PySem PySem.Spec PyProof.Rows
section
variable {κ:Type} [DecidableEq κ]
def WR(kvs:List (κ×V))(k:κ):Option V:=(kvs.find? fun kv=>decide (kv.1=k)).map (·.2)
def Wk(kvs:List (κ×V))(k:κ)(v:V):List (κ×V):=
 if(kvs.any fun kv=>decide (kv.1=k))=true then kvs.map (fun kv=>if kv.1=k then(kv.1,v) else kv) else kvs++[(k,v)]
theorem V2{p:κ×V}{r:List (κ×V)}{k:κ}(e:p.1=k):WR (p::r) k=some p.2:=by simp[WR,List.find?_cons,e]
theorem V3{p:κ×V}{r:List (κ×V)}{k:κ}(e:¬p.1=k):WR (p::r) k=WR r k:=by simp[WR,List.find?_cons,e]
theorem TC(k:κ):∀kvs:List (κ×V),(kvs.any fun kv=>decide (kv.1=k))=(WR kvs k).isSome
 | []=>rfl
 | p::r=>by
  rw[List.any_cons]
  by_cases e:p.1=k
  ·simp only[V2 e,decide_eq_true e,Bool.true_or,Option.isSome_some]
  ·rw[V3 e,decide_eq_false e,Bool.false_or];exact TC k r
theorem U8(kvs:List (κ×V))(k:κ)(v:V):(Wk kvs k v).length<=kvs.length+1:=by
 unfold Wk
 split
 ·rw[List.length_map];omega
 ·rw[List.length_append,List.length_cons,List.length_nil];omega
theorem Mv{kvs:List (κ×V)}{k:κ}(v:V)(h:WR kvs k=none):Wk kvs k v=kvs++[(k,v)]:=by
 unfold Wk;rw[TC,h]
 exact if_neg (by decide)
theorem RelO.isSome_eq{o:Option V}{u:Option Value}(r:RelO o u):o.isSome=u.isSome:=by
 cases o with
 | none=>cases u with
  | none=>rfl
  | some _=>exact(show False from r).elim
 | some _=>cases u with
  | none=>exact(show False from r).elim
  | some _=>rfl
theorem KV.val{kvs:List (κ×V)}{vs:List (κ×Value)}(r:KV kvs vs)(k:κ):RelO (WR kvs k) (valueAt vs k):=by
 unfold KV at r
 induction r with
 | nil=>exact True.intro
 | @cons p q ps qs h t ih=>
  obtain⟨h1,h2⟩:=h
  by_cases e:p.1=k
  ·have e':q.1=k:=h1.symm.trans e
   have b:valueAt (q::qs) k=some q.2:=by simp[valueAt,List.find?_cons,e']
   rw[V2 e,b];exact h2
  ·have e':¬q.1=k:=fun z=>e (h1.trans z)
   have b:valueAt (q::qs) k=valueAt qs k:=by simp[valueAt,List.find?_cons,e']
   rw[V3 e,b];exact ih
theorem KV.any{kvs:List (κ×V)}{vs:List (κ×Value)}(r:KV kvs vs)(k:κ):(kvs.any fun kv=>decide (kv.1=k))=vs.any fun kv=>decide (kv.1=k):=by
 unfold KV at r
 induction r with
 | nil=>rfl
 | cons h t ih=>rw[List.any_cons,List.any_cons,ih,h.1]
theorem KV.repl{kvs:List (κ×V)}{vs:List (κ×Value)}(r:KV kvs vs)(k:κ){y:V}{u:Value}(ry:RelV y u) :
  KV (kvs.map fun kv=>if kv.1=k then(kv.1,y) else kv) (vs.map fun kv=>if kv.1=k then(kv.1,u) else kv):=by
 unfold KV at r ⊢
 induction r with
 | nil=>exact .nil
 | @cons p q ps qs h t ih=>
  rw[List.map_cons,List.map_cons]
  refine .cons ?_ ih
  obtain⟨h1,h2⟩:=h
  by_cases e:p.1=k
  ·rw[if_pos e,if_pos (h1.symm.trans e)];exact⟨h1,ry⟩
  ·rw[if_neg e,if_neg (fun z=>e (h1.trans z))];exact⟨h1,h2⟩
theorem KV.put{kvs:List (κ×V)}{vs:List (κ×Value)}(r:KV kvs vs)(k:κ){y:V}{u:Value}(ry:RelV y u):KV (Wk kvs k y) (stored vs k u):=by
 unfold Wk stored;rw[r.any k]
 by_cases e:(vs.any fun kv=>decide (kv.1=k))=true
 ·rw[if_pos e,if_pos e];exact r.repl k ry
 ·rw[if_neg e,if_neg e];exact Paired.snoc r ⟨rfl,ry⟩
theorem KV.length{kvs:List (κ×V)}{vs:List (κ×Value)}(r:KV kvs vs):kvs.length=vs.length:=Paired.length r
end
theorem Oj{P:Program}{w:World}{k:Yi}{u:Value}(r:RelV (kV k) u):(Ym P w).is k u=true:=by
 cases k with
 | inl i=>obtain⟨t,e⟩:=(show ∃t,u=Value.int i t from r);subst e;exact Qj P w i t
 | inr x=>obtain⟨t,e⟩:=(show ∃t,u=Value.str x t from r);subst e;exact Qk P w x t
theorem S5{P:Program}{w:World}:∀{ks:List Yi}{us:List Value},Vals (ks.map kV) us->ItemsAre (Ym P w) ks us
 | [],_,r=>by rw[List.map_nil] at r;cases r;exact .nil
 | k::ks,_,r=>by
  rw[List.map_cons] at r
  cases r with
  | cons h t=>exact .cons (Oj h) (S5 t)
abbrev KT(H:Hp):List (List Yi×V)->List (List Yi×Addr×Value)->Prop:=Paired fun p q=>p.1=q.1/\H q.2.1=some (.tup (p.1.map kV))/\RelV p.2 q.2.2
theorem KT.val{H:Hp}{kvs:List (List Yi×V)}{xs:List (List Yi×Addr×Value)}(r:KT H kvs xs)(k:List Yi):RelO (WR kvs k) ((atKey xs k).map (·.2)):=by
 induction r with
 | nil=>exact True.intro
 | @cons p q ps qs h t ih=>
  obtain⟨h1,_,h2⟩:=h
  by_cases e:p.1=k
  ·have e':q.1=k:=h1.symm.trans e
   have b:atKey (q::qs) k=some q.2:=by simp[atKey,List.find?_cons,e']
   rw[V2 e,b];exact h2
  ·have e':¬q.1=k:=fun z=>e (h1.trans z)
   have b:atKey (q::qs) k=atKey qs k:=by simp[atKey,List.find?_cons,e']
   rw[V3 e,b];exact ih
theorem KT.repl{H:Hp}{kvs:List (List Yi×V)}{xs:List (List Yi×Addr×Value)}(r:KT H kvs xs)(k:List Yi){y:V}{u:Value}(ry:RelV y u) :
  KT H (kvs.map fun kv=>if kv.1=k then(kv.1,y) else kv) (xs.map (putAt k u)):=by
 induction r with
 | nil=>exact .nil
 | @cons p q ps qs h t ih=>
  rw[List.map_cons,List.map_cons]
  refine .cons ?_ ih
  obtain⟨h1,h2,h3⟩:=h
  unfold putAt
  by_cases e:p.1=k
  ·rw[if_pos e,if_pos (h1.symm.trans e)];exact⟨h1,h2,ry⟩
  ·rw[if_neg e,if_neg (fun z=>e (h1.trans z))];exact⟨h1,h2,h3⟩
theorem KT.put{H:Hp}{kvs:List (List Yi×V)}{xs:List (List Yi×Addr×Value)}(r:KT H kvs xs)(k:List Yi){b:Addr}{y:V}{u:Value}(hb:H b=some (.tup (k.map kV)))(ry:RelV y u) :
  KT H (Wk kvs k y) (storedH xs k b u):=by
 have e:(kvs.any fun kv=>decide (kv.1=k))=(atKey xs k).isSome:=by
  rw[TC,(r.val k).isSome_eq,Option.isSome_map]
 unfold Wk storedH;rw[e]
 by_cases q:(atKey xs k).isSome=true
 ·rw[if_pos q,if_pos q];exact r.repl k ry
 ·rw[if_neg q,if_neg q];exact Paired.snoc r ⟨rfl,hb,ry⟩
theorem KT.keeps{H H':Hp}{kvs:List (List Yi×V)}{xs:List (List Yi×Addr×Value)}(r:KT H kvs xs)(ht:∀b ys,H b=some (.tup ys)->H' b=some (.tup ys)):KT H' kvs xs:=
 Paired.mapP r fun _ _ z=>⟨z.1,ht _ _ z.2.1,z.2.2⟩
section
variable {P:Program} {w:World} {H:Hp} {h:Heap} {a:Addr}
theorem Jf{u:HO}(ok:HOk P w H h)(e:Rd H a u):ObjOk P w H h a u:=e.ok ok
theorem Ol{kvs:List (Yi×V)}(ok:HOk P w H h)(e:Rd H a (.dK kvs)):kvs.length<=sizeLine/\(a==sysModules)=false/\∃vs,KV kvs vs/\h.DictOf (Ym P w) a vs:=
 show ObjOk P w H h a (.dK kvs) from Jf ok e
theorem HC{kvs:List (Yi×V)}(ok:HOk P w H h)(e:H a=some (.dK kvs)):kvs.length<=sizeLine/\(a==sysModules)=false/\∃vs,KV kvs vs/\h.DictOf (Ym P w) a vs:=Ol ok (.inl e)
theorem RM{ks:List Yi}(ok:HOk P w H h)(e:H a=some (.tup (ks.map kV))):(tupleKind (Ym P w)).is h ks a:=by
 obtain⟨_,its,r,o,h1,h2,n,h3⟩:=(show ObjOk P w H h a (.tup (ks.map kV)) from ok a _ e)
 exact⟨o,its.toArray,n,h1,h2,h3,by simpa using S5 r⟩
theorem Om{kvs:List (List Yi×V)}(ok:HOk P w H h)(e:Rd H a (.dT kvs)):kvs.length<=sizeLine/\(a==sysModules)=false/\
  ∃xs,KT H kvs xs/\h.DictOfH (tupleKind (Ym P w)) a xs:=by
 obtain⟨z,y,xs,r,o,es,ep,h1,h2,h3,h4,h5⟩:=(show ObjOk P w H h a (.dT kvs) from Jf ok e)
 refine⟨z,y,xs,r,o,es,ep,h1,h2,h3,h4,fun x hx=>?_,h5⟩
 have all:∀{l:List (List Yi×V)}{m:List (List Yi×Addr×Value)},KT H l m->∀x∈m,(tupleKind (Ym P w)).is h x.1 x.2.1:=by
  intro l m q
  induction q with
  | nil=>intro x hx;exact nomatch hx
  | @cons p q ps qs hq t ih=>
   intro x hx
   rcases List.mem_cons.mp hx with e | hx
   ·subst e
    exact RM ok (by rw[<-hq.1];exact hq.2.1)
   ·exact ih x hx
 exact all r x hx
theorem HD{kvs:List (List Yi×V)}(ok:HOk P w H h)(e:H a=some (.dT kvs)):kvs.length<=sizeLine/\(a==sysModules)=false/\
  ∃xs,KT H kvs xs/\h.DictOfH (tupleKind (Ym P w)) a xs:=Om ok (.inl e)
end
def Nu(H:Hp)(a:Addr)(y:V)(r:Option V):Prop:=
 (∃kvs k,Rd H a (.dK kvs)/\y=kV k/\r=WR kvs k)\/∃kvs k b,Rd H a (.dT kvs)/\y = .ref b/\H b=some (.tup (k.map kV))/\r=WR kvs k
def HE(H:Hp)(a:Addr)(y v:V)(H':Hp):Prop:=
 (∃kvs k,H a=some (.dK kvs)/\y=kV k/\kvs.length<sizeLine/\H'=upd H a (.dK (Wk kvs k v)))\/
 ∃kvs k b,H a=some (.dT kvs)/\y = .ref b/\H b=some (.tup (k.map kV))/\kvs.length<sizeLine/\H'=upd H a (.dT (Wk kvs k v))
section
variable {X:Cx} {pins:List (Addr×Obj)} {Z:St} {H:Hp} {s:Shared} {a:Addr} {y v:V} {u r:Value} {o:Option V} {A:Around} {E:Value->Shared->Prop}
theorem Inv.big(I:Inv X pins Z H s):sysModules<s.heap.objs.size:=by
 have h:mainGlobals<s.heap.objs.size:=(I.mod.glob.keeps I.bk).lt
 exact Nat.lt_trans (by decide) h
theorem Nv{Q:Value->Shared->Prop}(hu:A.units+1<cLine)(I:Inv X pins Z H s)(g:Nu H a y (some v))(ry:RelV y u)(h:∀w' s',Inv X pins Z H s'->RelV v w'->Q w' s') :
  wpAny (model X.prog X.w) A (getItem (.ref a) u) Q E s:=by
 rcases g with⟨kvs,k,e,ey,l⟩ | ⟨kvs,k,b,e,ey,eb,l⟩
 ·subst ey
  obtain⟨z,hd,vs,rel,dd⟩:=Ol I.hok e
  obtain⟨w',hw,rw'⟩:=RelO.some_of (v:=v) (o:=valueAt vs k) (by rw[l];exact rel.val k)
  exact wpAny_getItem_of (Oj ry) dd.mapOf hw (h w' _ (I.tok _) rw')
 ·subst ey
  cases (show u=Value.ref b from ry)
  obtain⟨z,hd,xs,rel,dd⟩:=Om I.hok e
  obtain⟨w',hw,rw'⟩:=RelO.some_of (v:=v) (o:=(atKey xs k).map (·.2)) (by rw[l];exact rel.val k)
  obtain⟨p,hp,hp2⟩:=Option.map_eq_some_iff.mp hw
  refine wpAny_getItem_heap (tupleKind_room_in1 hu) (RM I.hok eb) dd hp ?_
  rw[hp2]
  exact h w' _ (I.tok _) rw'
theorem L5{Q:Value->Shared->Prop}(hu:A.units+1<cLine)(I:Inv X pins Z H s)(g:Nu H a y o)(ry:RelV y u)(h:∀s',Inv X pins Z H s'->Q (.bool (!o.isSome)) s') :
  wpAny (model X.prog X.w) A (compareOp .NotIn u (.ref a)) Q E s:=by
 rcases g with⟨kvs,k,e,ey,l⟩ | ⟨kvs,k,b,e,ey,eb,l⟩
 ·subst ey
  obtain⟨z,hd,vs,rel,dd⟩:=Ol I.hok e
  refine wpAny_notIn_of (Oj ry) hd dd.mapOf ?_
  rw[<-(rel.val k).isSome_eq,<-l]
  exact h _ (I.tok _)
 ·subst ey
  cases (show u=Value.ref b from ry)
  obtain⟨z,hd,xs,rel,dd⟩:=Om I.hok e
  refine wpAny_notIn_heap (tupleKind_room_in1 hu) (RM I.hok eb) hd dd ?_
  have q:=(rel.val k).isSome_eq
  rw[Option.isSome_map] at q;rw[<-q,<-l]
  exact h _ (I.tok _)
theorem Oo{h':Heap}{t':Nat}{ob:HO}(I:Inv X pins Z H s)(mu:Wj (H a))(hs:Heap.SameBut a s.heap h')(he:∃q,h'.get? a=some q)(new:ObjOk X.prog X.w (upd H a ob) h' a ob) :
  Inv X pins Z (upd H a ob) { s with heap:=h',toks:=t' }:=
 I.write (x:=a) (e:=a) mu (.inl rfl) (fun b q hb z=>(hs.2 b hb).trans z) he new
theorem J9{P:Program}{w:World}{H':Hp}{h':Heap}{kvs:List (Yi×V)}{vs:List (Yi×Value)}(z:kvs.length<=sizeLine)(hd:(a==sysModules)=false)(rel:KV kvs vs)(dd:h'.DictOf (Ym P w) a vs) :
  ObjOk P w H' h' a (.dK kvs):=⟨z,hd,vs,rel,dd⟩
theorem Nw{H':Hp}{Q:Unit->Shared->Prop}(hu:A.units+1<cLine)(I:Inv X pins Z H s)(g:HE H a y v H')(ry:RelV y u)(rv:RelV v r)(h:∀s',Inv X pins Z H' s'->Q () s') :
  wpAny (model X.prog X.w) A (setItem (.ref a) u r) Q E s:=by
 rcases g with⟨kvs,k,e,ey,l,eH⟩ | ⟨kvs,k,b,e,ey,eb,l,eH⟩
 ·subst ey eH
  obtain⟨z,hd,vs,rel,dd⟩:=HC I.hok e
  have hz:vs.length<=sizeLine:=by rw[<-rel.length];exact z
  have hl:(Wk kvs k v).length<=sizeLine:=by have:=U8 kvs k v;omega
  refine wpAny_setItem_pairs (hsz:=hz) (Oj ry) dd fun h' dd' hs=>h _ ?_
  have he:∃q,h'.get? a=some q:=let⟨q,_,_,hq,_⟩:=dd';⟨q,hq⟩
  exact Oo I (by rw[e];exact True.intro) hs he (J9 hl hd (rel.put k rv) dd')
 ·subst ey eH
  cases (show u=Value.ref b from ry)
  obtain⟨z,hd,xs,rel,dd⟩:=HD I.hok e
  have hz:xs.length<=sizeLine:=by rw[<-Paired.length rel];exact z
  have hl:(Wk kvs k v).length<=sizeLine:=by have:=U8 kvs k v;omega
  refine wpAny_setItem_heap (hsz:=hz) (tupleKind_room_in1 hu) (RM I.hok eb) dd fun h' dd' hs=>h _ ?_
  obtain⟨q,es,ep,hq,h2,h3,h4,_,h5⟩:=dd'
  refine Oo I (by rw[e];exact True.intro) hs ⟨q,hq⟩ ⟨hl,hd,_,(rel.put k eb rv).keeps fun c ys ec=>?_,q,es,ep,hq,h2,h3,h4,h5⟩
  rw[upd_ne (IX ec e (fun z=>nomatch z))];exact ec
end
def Ia(i:Expr):Prop:=∀ov iv,subscripted i false ov iv=operate [ov,iv] (getItem ov iv)
theorem L6{prog:Program}{w:World}{A:Around}{E:Value->Shared->Prop}{s:Shared}{env:Env}{value slice:Expr}{pos:Pos}{T id:String}{Q:Value->Shared->Prop}
  (hl:typeLookup (.type T) "__getitem__" = pure (some (.builtin id))) (hs:Ia slice)
  (h:wpAny (model prog w) A (eval value env) (fun o s₁=>wpAny (model prog w) A (eval slice env) (fun i s₂=>s₂.TypeIs o T/\wpAny (model prog w) A (getItem o i) Q E s₂) E s₁) E s) :
  wpAny (model prog w) A (eval (.Subscript value slice pos) env) Q E s:=by
 refine Subscript_ (wpAny_mono h (fun o s₁ h₁=>wpAny_mono h₁ (fun i s₂ h₂=>?_) fun _ _ x=>x) fun _ _ x=>x)
 obtain⟨hT,h₂⟩:=h₂
 unfold subscriptTail
 refine wpAny_bind ?_
 rw[getitemInPython_of_ne hT.not_modules]
 refine wpAny_bind (wpAny_specialOf hT hl ?_)
 have fin:wpAny (model prog w) A (subscripted slice false o i) (fun r s₃=>wpAny (model prog w) A (letTemporaryGo value o r >>= fun _=>pure r) Q E s₃) E s₂:=by
  rw[hs o i]
  exact wpAny_operating (wpAny_mono h₂ (fun r s₃ h₃=>wpAny_bind (wpAny_letTemporaryGo (wpAny_pure h₃))) fun _ _ x=>x)
 first
  | exact wpAny_pure (wpAny_bind fin)
  | exact wpAny_bind (wpAny_pure (wpAny_bind fin))
  | exact wpAny_bind fin
theorem Qu{X:Cx}{pins:List (Addr×Obj)}{Z:St}{H:Hp}{s:Shared}{a:Addr}{y:V}{o:Option V}(I:Inv X pins Z H s)(g:Nu H a y o):s.TypeIs (.ref a) "dict":=by
 rcases g with⟨kvs,k,e,_,_⟩ | ⟨kvs,k,b,e,_,_,_⟩
 ·obtain⟨_,_,vs,_,dd⟩:=Ol I.hok e
  exact dd.typeIs
 ·obtain⟨_,_,xs,_,dd⟩:=Om I.hok e
  exact dd.typeIs
def Jg(td ty:TE):TE:=fun Z H Q=>td Z H fun x H1=>ty Z H1 fun y H2=>∃a v,x = .ref a/\Nu H2 a y (some v)/\Q v H2
def Oq(ty td:TE):TE:=fun Z H Q=>ty Z H fun y H1=>td Z H1 fun x H2=>∃a o,x = .ref a/\Nu H2 a y o/\Q (.bl (!o.isSome)) H2
def sDPut(td ty tv:TE):TS:=fun D Z H=>tv Z H fun v H1=>td Z H1 fun x H2=>ty Z H2 fun y H3=>∃a H4,x = .ref a/\HE H3 a y v H4/\D.nx Z H4
section
variable {X:Cx} {o i e value:Expr} {pos pos' tpos:Pos} {td ty tv:TE}
theorem L7(hu:X.A.units+1<cLine)(ho:PE X o td)(hi:PE X i ty)(hs:Ia i):PE X (.Subscript o i pos) (Jg td ty):=by
 intro pins s Z H Q I h
 refine L6 PySem.F.slot_dict_getitem.lookup hs (ZT (ho pins s Z H _ I h) fun u s1 ⟨x,H1,I1,rx,q1⟩=>ZT (hi pins s1 Z H1 _ I1 q1) fun iv s2 ⟨y,H2,I2,ry,a,v,ex,g,q2⟩=>?_)
 subst ex
 obtain rfl:u=Value.ref a:=rx
 exact⟨Qu I2 g,Nv hu I2 g ry fun w' s3 I3 rw'=>⟨v,H2,I3,rw',q2⟩⟩
theorem Nx(hu:X.A.units+1<cLine)(hi:PE X i ty)(ho:PE X o td):PC X .NotIn i o (Oq ty td):=by
 intro pins s Z H Q I h
 refine ZT (hi pins s Z H _ I h) fun iv s1 ⟨y,H1,I1,ry,q1⟩=>ZT (ho pins s1 Z H1 _ I1 q1) fun u s2 ⟨x,H2,I2,rx,a,ov,ex,g,q2⟩=>?_
 subst ex
 obtain rfl:u=Value.ref a:=rx
 exact L5 hu I2 g ry fun s3 I3=>⟨.bl (!ov.isSome),H2,I3,rfl,q2⟩
theorem Tj(hu:X.A.units+1<cLine)(ho:PE X o td)(hi:PE X i ty)(hv:PE X value tv)(hs:swapsWith value (some (.Subscript o i pos')) pos.line X.env=pure false) :
  PS X (.Assign [.Subscript o i pos'] value pos) (sDPut td ty tv):=by
 intro pins s Z H D I h
 refine wpAny_Assign_Subscript (ZT (hv pins s Z H _ I h) fun r s1 ⟨v,H1,I1,rv,q1⟩=>ZT (ho pins s1 Z H1 _ I1 q1) fun u s2 ⟨x,H2,I2,rx,q2⟩=>ZT (hi pins s2 Z H2 _ I2 q2) fun iv s3 ⟨y,H3,I3,ry,a,H4,ex,g,q3⟩=>?_) hs
 subst ex
 obtain rfl:u=Value.ref a:=rx
 exact Nw hu I3 g ry rv fun s4 I4=>⟨Z,H4,I4,q3⟩
end
theorem Mw{P:Program}{w:World}{H:Hp}(h:Heap)(hb:sysModules<h.objs.size):ObjOk P w H (h.push { cls:=.type "dict",data:=.dict #[] }) h.objs.size (.dT []):=
 ⟨Nat.zero_le _,beq_eq_false_iff_ne.mpr (Ne.symm (Nat.ne_of_lt hb)),[],.nil,_,#[],0,Heap.get?_push_size _ rfl,⟨rfl,rfl,rfl⟩,rfl,rfl,List.nodup_nil⟩
def Ib:TE:=fun _ H Q=>∀p,H p=none->Q (.ref p) (upd H p (.dT []))
section
variable {X:Cx} {pos:Pos}
theorem Mx:PE X (.Dict [] [] pos) Ib:=fun pins s Z H Q I h=>
 wpAny_Dict_empty ⟨.ref s.heap.objs.size,_,I.laid (a:=s.heap.objs.size) (o:=.dT []) (t':=s.toks) (fun _ _ q=>Heap.get?_push_of_some _ q) (Nat.le_refl _) (Mw s.heap I.big),rfl,h _ (I.hok.fresh (Nat.le_refl _))⟩
end
theorem S6:∀{vs:List Value}{ns:List Int},IntsAre vs ns->Vals (ns.map V.int) vs
 | _,_,.nil=>.nil
 | _,_,.cons n t h=>.cons ⟨t,rfl⟩ (S6 h)
def L8(H:Hp):Prop:=∀b,H b=none\/∃o xs,H b=some (.frz o (.lst xs))
theorem My{P:Program}{w:World}{K:PySem.W.Frag}{mg mb:Str->Option Value}{CX:LB}{k:Nat}{fa a:Addr}{fd:FuncData}{x:Str}{sp:Sp}{s₁:Shared}{vs:List Value}{ns:List Int}
  (KX:K.In s₁.heap) (hns:s₁.heap.Ns mainGlobals mg) (hb:s₁.heap.Ns builtinsNs mb) (hbb:∀x:Str,x≠"__name__"->mb x=bootBuiltins x) (hlim:s₁.heap.NoLimit) (hg:s₁.gens = #[])
  (ha:s₁.heap.get? a=some { cls:=.type "list",data:=.seq vs.toArray }) (hi:IntsAre vs ns) (hl:ns.length<=sizeLine) (hr:Room k callerA)
  (F:∀base:Heap,K.In base->base.Ns mainGlobals mg->UJ P w K mg base CX k fa fd [x] sp) (hbind:∀(s:Shared)(u:Value),BindsTo s fd ⟨[u],[]⟩ [(x,u)])
  (hsp:∀H:Hp,L8 H->SqL K H a (ns.map V.int)->sp [.ref a] H (fun v _=>v = .bl true) fun _ _ _=>False)
  (hCX:∀H e s',CX [] H s₁ (fun _ _ _=>False) e s'->False) :
  codeAny (model P w) callerA (.call (.ref fa) ⟨[.ref a],[]⟩) (fun r s'=>r = .ok (.ret (.bool true))/\OldK s₁.heap s'.heap/\s'.os=s₁.os/\AllBare s'.gens) s₁:=by
 have rv:=S6 hi;have lenV:=hi.length
 -- from an abstract heap in which nothing but the script may be tracked
 have core:∀H:Hp,L8 H->SqL K H a (ns.map V.int)->HOk P w H s₁.heap->(∀b,H b≠none->b=a)->(H a≠none->K.lookup a=none)->
   codeAny (model P w) callerA (.call (.ref fa) ⟨[.ref a],[]⟩) (fun r s'=>r = .ok (.ret (.bool true))/\OldK s₁.heap s'.heap/\s'.os=s₁.os/\AllBare s'.gens) s₁:=by
  intro H hO hS hok hA hK
  have base_of:∀{b:Addr}{o:Obj},s₁.heap.get? b=some o->H b=none->(RE s₁.heap H).get? b=some o:=fun e n=>Mk e n
  have noA:∀{b:Addr}{o:Obj}{es:Array DictEntry}{ep:Nat},s₁.heap.get? b=some o->o.data = .dict es ep->H b=none:=fun{b o es ep} e d=>by
   cases q:H b with
   | none=>rfl
   | some u=>
    have e':b=a:=hA b (by rw[q];simp)
    subst e'
    rw[ha] at e;cases e
    have d':Data.seq vs.toArray _=Data.dict es ep:=d
    cases d'
  have nsK:∀{b:Addr}{m:Str->Option Value},s₁.heap.Ns b m->(RE s₁.heap H).Ns b m:=fun{b m} ⟨o,es,ep,e,d,r⟩=>⟨o,es,ep,base_of e (noA e d),d,r⟩
  have hKb:K.In (RE s₁.heap H):=fun b o e=>base_of (KX b o e) (by
   cases q:H b with
   | none=>rfl
   | some u=>
    have e':b=a:=hA b (by rw[q];simp)
    subst e'
    rw[hK (by rw[q];simp)] at e;cases e)
  have hM:Mod K mg (RE s₁.heap H):=⟨hKb,nsK hns,⟨mb,nsK hb,hbb⟩,let⟨mc,h1,h2⟩:=hlim;⟨mc,nsK h1,h2⟩⟩
  have e0:LW P w K mg (RE s₁.heap H) callerA [] s₁ H:=⟨rfl,hM,fun b o e=>LH e,Nat.le_of_eq (Nb _ _),trivial,fun b hb=>absurd (show b∈([]:List Addr) from hb) (by simp),hok,.of_eq hg⟩
  refine codeAny_mono ((F _ hKb (nsK hns)).run callerA [] s₁ H ⟨[.ref a],[]⟩ [.ref a] [.ref a] _ _ hr e0 (hbind s₁ (.ref a)) (.cons rfl .nil) (hsp H hO hS)) fun r s' h=>?_
  cases r with
  | error e=>exact(hCX H e s' h).elim
  | ok fl=>
   cases fl with
   | next=>exact False.elim h
   | brk=>exact False.elim h
   | cont=>exact False.elim h
   | ret u=>
    obtain⟨v,H',os,bare,un,hok',r',q⟩:=h
    have q':v = .bl true:=q
    subst q'
    obtain rfl:u=Value.bool true:=r'
    refine⟨rfl,OldK.of_keep fun b o e=>?_,os,bare⟩
    cases q:H b with
    | none=>exact un.keep b o e q (by intro z;exact absurd (show b∈([]:List Addr) from z) (by simp)) (by simp)
    | some u=>
     rcases hO b with z | ⟨ob,xs,z⟩
     ·rw[q] at z;cases z
     ·have z2:=un.frzs b ob _ z
      obtain⟨e1,_⟩:=hok b _ z
      obtain⟨e2,_⟩:=hok' b _ z2
      rw[e] at e1;cases e1;exact e2
 cases hk:K.lookup a with
 | some o=>
  -- the script is one of the module's own objects
  have e:=KX a o hk;rw[ha] at e;cases e
  refine core (fun _=>none) (fun _=>.inl rfl) (.inr ⟨_,vs.toArray,_,hk,rfl,rfl,rfl,by rw[List.size_toArray,lenV];exact hl,by simpa using rv⟩) (fun b u z=>by have z':(none:Option HO)=some u:=z;cases z') (fun b z=>absurd rfl z) fun z=>absurd rfl z
 | none=>
  refine core (fun b=>if b=a then some (.frz { cls:=.type "list",data:=.seq vs.toArray } (.lst (ns.map V.int))) else none) (fun b=>?_) (.inl (.inr ⟨{ cls:=.type "list",data:=.seq vs.toArray },if_pos rfl⟩)) (fun b u z=>?_) (fun b z=>?_) fun _=>hk
  ·by_cases hb:b=a
   ·exact .inr ⟨_,_,if_pos hb⟩
   ·exact .inl (if_neg hb)
  ·by_cases hb:b=a
   ·have z':=(if_pos hb).symm.trans z
    cases z'
    subst hb
    exact⟨ha,by rw[List.length_map];exact hl,vs,_,rv,ha⟩
   ·have z':=(if_neg hb).symm.trans z
    cases z'
  ·by_cases hb:b=a
   ·exact hb
   ·exact absurd (if_neg hb) z
theorem walk_of{l:PySem.W.OpenLaw}{n k:Nat}{q:Program}{loose:List Str}{XP:(Str->Option Value)->Heap->Prop}{YP:World->Heap->Prop}{d:DefRec}{K:Params->PySem.W.Frag}{CX:World->LB}{sp:World->Sp}{x:Str}
  (hn:l.most=some n) (hn2:n<=sizeLine) (hdf:d.params.defaults=[]) (hr:Room k callerA)
  (hY:∀(w:World)(h:Heap),YP w h->(K w.params).In h)
  (F:∀(w:World)(mg:Str->Option Value)(fa:Addr)(h:Heap),(K w.params).In h->h.Ns mainGlobals mg->mg d.name=some (.ref fa)->
   ∃fd:FuncData,(∀(s:Shared)(u:Value),BindsTo s fd ⟨[u],[]⟩ [(x,u)])/\
    ∀base:Heap,(K w.params).In base->base.Ns mainGlobals mg->UJ l.prog w (K w.params) mg base (CX w) k fa fd [x] (sp w))
  (hsp:∀(w:World)(H:Hp)(a:Addr)(ns:List Int),ns.length<=n->L8 H->SqL (K w.params) H a (ns.map V.int)->sp w [.ref a] H (fun v _=>v = .bl true) fun _ _ _=>False)
  (hCX:∀(w:World)(H:Hp)(s:Shared)(e:Value)(s':Shared),CX w [] H s (fun _ _ _=>False) e s'->False) :
  PySem.W.WalkO q loose XP YP l.row.toRowW d [] (fun f vs=>PySem.call f vs):=by
 refine Att.attach_call hn hdf fun w s₀ s₁ mg mb fa o pm cd doc a vs ns G Y ho hd hcd hmg hobj hints hlen hg=>?_
 have KX:=hY w _ Y
 obtain⟨fd,hb,hF⟩:=F w mg fa _ KX G.T.g hmg
 exact My KX G.T.g G.T.b G.T.builtins G.T.nolimit hg hobj hints (Nat.le_trans hlen hn2) hr hF hb (fun H hO hS=>hsp w H a ns hlen hO hS) fun H e s'=>hCX w H s₁ e s'
def X7(s:Stmt):Arguments:=match s with
 | .FunctionDef _ a _ _ _ _ _ _ _ _=>a
 | _=>{ posonlyargs:=[],args:=[],vararg:=none,kwonlyargs:=[],kw_defaults:=[],kwarg:=none,defaults:=[] }
def YU(s:Stmt):List Stmt:=match s with
 | .FunctionDef _ _ b _ _ _ _ _ _ _=>b
 | _=>[]
def Zl(s:Stmt):Scope:=match s with
 | .FunctionDef _ _ _ _ _ _ sc _ _ _=>sc
 | _=>{ kind:=.function,names:=[],isGenerator:=false,isCoroutine:=false }
abbrev Ot:LB:=fun _ _ _ _ _ _=>False
abbrev E0:XK:=fun _ _ _=>False
theorem HF{X:Cx}:Pf Ot X E0:=fun _ _ _ _ _ _ _ h=>h.elim
structure Fun(K:PySem.W.Frag)(x qual:Str)(st:Stmt)(f:Addr)(fd:FuncData):Prop where
 ex:∃(oc:Value) (od:Option Addr) (kV doc pm:Value) (an:Option Addr) (cdv ct:Value) (osl:Array (Option Value)),
  fd=PySem.W.fnOf x qual (X7 st) (YU st) (Zl st) .none kV doc pm an cdv ct/\K.lookup f=some ⟨oc,od,.func fd,osl⟩/\PySem.W.codeIn K cdv qual=true
 kp:PySem.W.keepIn K (.ref f)=true
section
variable {P:Program} {w:World} {K:PySem.W.Frag} {mg:Str->Option Value} {base:Heap}
theorem Fun.ok{x qual:Str}{st:Stmt}{f:Addr}{fd:FuncData}{N ps:List Str}{k:Nat}{sp:Sp}(F:Fun K x qual st f fd)(S:ZE N ps (Zl st))(len:∀vs H Q E,sp vs H Q E->vs.length=ps.length)
  (hbody:∀(cdv:Value)(A:Around)(outer:List Env)(s:Shared)(H:Hp)(vs:List V)(Q:VK)(E:XK),Room k (A.deeper (envOfC qual (Zl st) s.heap.objs.size f cdv))->sp vs H Q E->
   ∃t,PSs (RI Ot P w K mg base N qual (Zl st) f cdv A outer s H E).nox (YU st) t/\t { nx:=fun _ H'=>Q .non H',rt:=Q } (start N vs) H):UJ P w K mg base Ot (k+1) f fd ps sp:=by
 obtain⟨oc,od,kV,doc,pm,an,cdv,ct,osl,rfl,lk,hcd⟩:=F.ex
 refine Hw lk hcd S len fun A outer s H vs Q E hr hsp=>?_
 obtain⟨t,h,q⟩:=hbody cdv A outer s H vs Q E hr hsp
 exact⟨t,h.nox,q⟩
theorem Fun.binds{x qual:Str}{st:Stmt}{f:Addr}{fd:FuncData}{ps:List Str}(F:Fun K x qual st f fd)
  (h:∀(kV doc pm:Value)(an:Option Addr)(cdv ct:Value)(us:List Value),us.length=ps.length->bindArgs (PySem.W.fnOf x qual (X7 st) (YU st) (Zl st) .none kV doc pm an cdv ct) ⟨us,[]⟩=pure (ps.zip us)):Binds K fd ps []:=by
 obtain⟨oc,od,kV,doc,pm,an,cdv,ct,osl,rfl,lk,hcd⟩:=F.ex
 exact .all (h kV doc pm an cdv ct)
theorem Ic{x qual:Str}{st:Stmt}{f:Addr}{oc:Value}{od an:Option Addr}{osl:Array (Option Value)}{kV doc pm cdv ct:Value}(l:K.lookup f=some ⟨oc,od,.func (PySem.W.fnOf x qual (X7 st) (YU st) (Zl st) .none kV doc pm an cdv ct),osl⟩)
  (c:PySem.W.codeIn K cdv qual=true) (k:PySem.W.keepIn K (.ref f)=true):Fun K x qual st f (PySem.W.fnOf x qual (X7 st) (YU st) (Zl st) .none kV doc pm an cdv ct):=⟨⟨oc,od,kV,doc,pm,an,cdv,ct,osl,rfl,l,c⟩,k⟩
end
theorem U9{A:Around}{k:Nat}(hr:Room k A):A.units+1<cLine:=Nat.lt_of_le_of_lt (Nat.add_le_add_left (by decide:1<=64) _) hr.units
section
variable {X:Cx}
theorem pv(i:Nat){x:Str}{pos:Pos}(hN:X.N[i]?=some x:=by rfl)(hv:Gd X.env.scope x:=by first | exact Or.inl rfl | exact Or.inr (Or.inl rfl) | exact Or.inr (Or.inr rfl))(hd:(x==("__debug__" : Str))=false:=by decide)
  (hcd:(x==("__classdict__" : Str))=false:=by decide):PE X (.Name x pos) (UA i):=JC hN hv hd hcd
end
theorem HG{A B:Prop}(h:B):if false=true then A else B:=by
 rw[if_neg Bool.false_ne_true];exact h
theorem HH{A B:Prop}(h:A):if true=true then A else B:=by
 rw[if_pos rfl];exact h
def Same(H H':Hp):Prop:=∀b o,H b=some o->H' b=some o
theorem Same.refl(H:Hp):Same H H:=fun _ _ h=>h
theorem Same.trans{H H1 H2:Hp}(a:Same H H1)(b:Same H1 H2):Same H H2:=fun c o h=>b c o (a c o h)
theorem Same.free{H H':Hp}(e:Same H H'){l:Addr}(h:H' l=Option.none):H l=Option.none:=by
 cases q:H l with
 | none=>rfl
 | some o=>
  rw[e l o q] at h;cases h
section
variable {κ:Type} [DecidableEq κ]
theorem RN:∀{l:List κ}{k:κ},l.Nodup->¬k∈l->(l++[k]).Nodup
 | [],k,_,_=>by simp
 | a::r,k,h,hk=>by
  obtain⟨h1,h2⟩:=List.nodup_cons.mp h
  show(a::(r++[k])).Nodup
  refine List.nodup_cons.mpr ⟨fun m=>?_,RN h2 fun m=>hk (List.mem_cons.mpr (Or.inr m))⟩
  rcases List.mem_append.mp m with q | q
  ·exact h1 q
  ·exact hk (List.mem_cons.mpr (Or.inl (List.mem_singleton.mp q).symm))
end
end L2
set_option maxHeartbeats 4000000
namespace L2
open PySem PySem.Spec PyProof.Rows
def YN(cells:List (Str×Addr)):List (Str×NameKind)->List (Str×Addr)->List (Str×Addr)
 | [],acc=>acc
 | (n,k)::r,acc=>YN cells r (if(k==NameKind.free)=true then(n,(cells.lookup n).getD 0)::acc else acc)
theorem Vw{env:Env}:∀(names:List (Str×NameKind))(acc:List (Str×Addr)),(∀y∈names,y.2 = .free->(env.cells.lookup y.1).isSome=true)->
  (forIn (m:=Sem) names acc fun(x:Str×NameKind) (cs:List (Str×Addr))=>
   match x with
   | (name,kind)=>if(kind==NameKind.free)=true then do
     let c <-cellOf env name
     pure (ForInStep.yield ((name,c)::cs))
    else pure (ForInStep.yield cs))=pure (YN env.cells names acc)
 | [],acc,_=>rfl
 | (n,k)::r,acc,h=>by
  rw[List.forIn_cons]
  have ih:=fun acc'=>Vw r acc' fun y hy=>h y (List.mem_cons_of_mem _ hy)
  cases hk:(k==NameKind.free) with
  | true=>
   have hs:=h (n,k) List.mem_cons_self (by simpa using hk)
   obtain⟨c,hc⟩:=Option.isSome_iff_exists.mp hs
   have hc:env.cells.lookup n=some c:=hc
   have e1:cellOf env n=pure c:=by unfold cellOf;rw[hc]
   dsimp only
   rw[hk,if_pos rfl,e1]
   refine Eq.trans (ih ((n,c)::acc)) ?_
   show _=pure (YN env.cells r (if(k==NameKind.free)=true then(n,(env.cells.lookup n).getD 0)::acc else acc))
   rw[if_pos hk,hc];rfl
  | false=>
   dsimp only
   rw[hk,if_neg Bool.false_ne_true]
   refine Eq.trans (ih acc) ?_
   show _=pure (YN env.cells r (if(k==NameKind.free)=true then(n,(env.cells.lookup n).getD 0)::acc else acc))
   rw[if_neg (by rw[hk];exact Bool.false_ne_true)]
theorem Vx{scope:Scope}{env:Env}(h:∀y∈scope.names,y.2 = .free->(env.cells.lookup y.1).isSome=true):closureFor scope env=pure (YN env.cells scope.names []):=by
 have e:=Vw (env:=env) scope.names [] h
 unfold closureFor
 dsimp only
 rw[e];rfl
theorem UL{cells:List (Str×Addr)}{x:Str}{c:Addr}:∀(names:List (Str×NameKind))(acc:List (Str×Addr)),(∀y∈names,y.2 = .free->(cells.lookup y.1).isSome=true)->(acc.lookup x=some c->cells.lookup x=some c)->
  (YN cells names acc).lookup x=some c->cells.lookup x=some c
 | [],_,_,h,e=>h e
 | (n,k)::r,acc,hf,h,e=>by
  refine UL r _ (fun y hy=>hf y (List.mem_cons_of_mem _ hy)) ?_ e
  intro q
  by_cases hk:(k==NameKind.free)=true
  ·rw[if_pos hk,List.lookup_cons] at q
   cases hx:x==n with
   | true=>
    rw[hx] at q
    have exn:x=n:=by simpa using hx
    obtain⟨d,hd⟩:=Option.isSome_iff_exists.mp (hf (n,k) List.mem_cons_self (by simpa using hk))
    have hd:cells.lookup n=some d:=hd
    rw[hd] at q
    rw[exn,hd];exact q
   | false=>rw[hx] at q;exact h q
  ·rw[if_neg hk] at q;exact h q
theorem TF{cells:List (Str×Addr)}{x:Str}:∀(names:List (Str×NameKind))(acc:List (Str×Addr)),(acc.lookup x).isSome=true->((YN cells names acc).lookup x).isSome=true
 | [],_,h=>h
 | (n,k)::r,acc,h=>by
  refine TF r _ ?_
  split
  ·rw[List.lookup_cons];split<;>simp_all
  ·exact h
theorem UM{cells:List (Str×Addr)}{x:Str}:∀(names:List (Str×NameKind))(acc:List (Str×Addr)),(x,NameKind.free)∈names->((YN cells names acc).lookup x).isSome=true
 | (n,k)::r,acc,h=>by
  rcases List.mem_cons.mp h with e | h
  ·cases e
   refine TF r _ ?_
   rw[if_pos (by decide),List.lookup_cons]
   simp
  ·exact UM r _ h
structure CompScope(N:List Str)(around scope:Scope)(own fr:List Str)(ix:List Nat):Prop where
 kind:scope.kind = .function
 nocell:∀y∈scope.names,y.2≠.cell
 names:∀y∈scope.names,y.2 = .local->scope.names.lookup y.1=some .local
 frees:∀y∈scope.names,y.2 = .free->(around.names.lookup y.1=some .cell\/around.names.lookup y.1=some .free)
 slots:fr.map some=ix.map (fun i=>N[i]?)
 outs:∀x∈fr,(x,NameKind.free)∈scope.names
 apart:∀x∈fr,scope.names.lookup x≠some .local
def ZF(X:Cx)(N':List Str)(scope:Scope)(cl:List (Str×Addr))(C:Addr)(s:Shared)(H:Hp)(ex:List Addr):Cx:=
 { X with N:=N',s₀:=s,H₀:=H,env:=compEnvC scope cl C X.env,outer:=X.stack,ex:=ex,fn:=fun _=>false,pn:=[],xe:=fun _ _=>False }
def Z5(n:Nat)(ix:List Nat)(Z:St):St:=List.replicate n none++ix.map (fun i=>(Z[i]?).join)
theorem XB{env:Env}{x:Str}:∀{names:List (Str×NameKind)}{k:NameKind},names.lookup x=some k->
  (names.map fun(n,k)=>if(k==NameKind.free&&env.scope.kind==.function&&env.kindOf n==some .cell) then(n,NameKind.cell) else(n,k)).lookup x =
   some (if(k==NameKind.free&&env.scope.kind==.function&&env.kindOf x==some .cell)=true then NameKind.cell else k)
 | [],_,h=>by simp at h
 | (n,k')::r,k,h=>by
  show List.lookup x ((if(k'==NameKind.free&&env.scope.kind==.function&&env.kindOf n==some .cell)=true then(n,NameKind.cell) else(n,k'))::_)=_
  cases hx:x==n with
  | true=>
   simp only[List.lookup_cons,hx] at h;cases h
   have e:x=n:=by simpa using hx
   subst e
   split
   ·simp[List.lookup_cons]
   ·simp[List.lookup_cons]
  | false=>
   simp only[List.lookup_cons,hx] at h
   split
   ·simp only[List.lookup_cons,hx];exact XB h
   ·simp only[List.lookup_cons,hx];exact XB h
theorem Wu{env:Env}{x:Str}:∀{names:List (Str×NameKind)}{k':NameKind},
  (names.map fun(n,k)=>if(k==NameKind.free&&env.scope.kind==.function&&env.kindOf n==some .cell) then(n,NameKind.cell) else(n,k)).lookup x=some k'->∃k,names.lookup x=some k
 | [],_,h=>by simp at h
 | (n,k0)::r,k',h=>by
  have h:List.lookup x ((if(k0==NameKind.free&&env.scope.kind==.function&&env.kindOf n==some .cell)=true then(n,NameKind.cell) else(n,k0))::_)=some k':=h
  cases hx:x==n with
  | true=>exact⟨k0,by simp[List.lookup_cons,hx]⟩
  | false=>
   have:∃k,r.lookup x=some k:=by
    apply Wu (env:=env) (k':=k')
    split at h<;>simpa [List.lookup_cons,hx] using h
   obtain⟨k,e⟩:=this
   exact⟨k,by simp[List.lookup_cons,hx,e]⟩
section
variable {X:Cx} {pins:List (Addr×Obj)} {Z:St} {H:Hp} {s:Shared} {own fr:List Str} {ix:List Nat} {scope:Scope}
theorem CompScope.clos(S:CompScope X.N X.env.scope scope own fr ix)(I:Inv X pins Z H s):∀y∈scope.names,y.2 = .free->(X.env.cells.lookup y.1).isSome=true:=fun y hy hf=>by
 obtain⟨c,e⟩:=I.ok.has y.1 (S.frees y hy hf)
 rw[e];rfl
end
theorem RO{prog:Program}{w:World}{A:Around}{R:Result->Shared->Prop}{s:Shared}{elt target iter:Expr}{ifs:List Expr}{scope:Scope}{pos:Pos}{it acc:Value}{env:Env}(I:Nat->Shared->Prop)
  (turn:∀n s,I n s->wpAny (model prog w) A (pyNext it) (fun r s₁=>match r with
   | none=>R (.ok .next) s₁
   | some v=>wpAny (model prog w) A (letOwnedTupleGo target it v) (fun _ s₁'=>wpAny (model prog w) A (assign target env v) (fun _ s₂=>
     wpAny (model prog w) A (forIn ifs true fun c r=>if r=true then do let ok <-isTrue c env (eval c env);pure (ForInStep.yield ok) else pure (ForInStep.yield r)) (fun ok s₃=>
      if ok=true then wpAny (model prog w) A (eval elt env) (fun x s₄=>
       wpAny (model prog w) A (call (.builtin "list.append") [acc,x]) (fun _ s₅=>∃m,m<n/\I m s₅) (notedBy (model prog w) A env fun e s'=>R (.error e) s') s₄) (notedBy (model prog w) A env fun e s'=>R (.error e) s') s₃
      else ∃m,m<n/\I m s₃) (notedBy (model prog w) A env fun e s'=>R (.error e) s') s₂) (notedBy (model prog w) A env fun e s'=>R (.error e) s') s₁') (notedBy (model prog w) A env fun e s'=>R (.error e) s') s₁) (notedBy (model prog w) A env fun e s'=>R (.error e) s') s)
  (n:Nat) (h:I n s) :
  codeAny (model prog w) A (.compLoop (.ListComp elt [⟨target,iter,ifs,0⟩] scope pos) 0 it acc env) R s:=by
 refine codeAny_loop rfl I (fun n s hI=>?_) n h
 show wpAny _ A ((compTurn (.ListComp elt [⟨target,iter,ifs,0⟩] scope pos) 0 it acc env).onRaise (fun x=>do noteFrame x env;theTreesLotGoes x)) _ _ s
 refine wpAny_noted ?_
 rw[compTurn_list]
 refine wpAny_bind (wpAny_standAt (wpAny_bind (wpAny_mono (turn n s hI) (fun r s₁ h₁=>?_) fun _ _ h'=>h')))
 cases r with
 | none=>exact wpAny_pure h₁
 | some v=>
  refine wpAny_bind (wpAny_mono h₁ (fun _ s₁' h₁'=>?_) fun _ _ h'=>h')
  refine wpAny_bind (wpAny_mono h₁' (fun _ s₂ h₂=>wpAny_bind (wpAny_mono h₂ (fun ok s₃ h₃=>?_) fun _ _ h'=>h')) fun _ _ h'=>h')
  cases ok with
  | false=>exact wpAny_pure ⟨rfl,h₃⟩
  | true=>
   exact wpAny_bind (wpAny_bind (wpAny_mono h₃ (fun x s₄ h₄=>wpAny_bind (wpAny_mono h₄ (fun _ s₅ h₅=>wpAny_pure (wpAny_pure ⟨rfl,h₅⟩)) fun _ _ h'=>h')) fun _ _ h'=>h'))
def Mz(X:Cx)(ifs:List Expr)(t:TT):Prop:=
 ∀(pins:List (Addr×Obj))(s:Shared)(Z:St)(H:Hp)(Q:Bool->Hp->Prop),Inv X pins Z H s->t Z H Q->
  wpAny (model X.prog X.w) X.A (forIn ifs true fun c r=>if r=true then do let ok <-isTrue c X.env (eval c X.env);pure (ForInStep.yield ok) else pure (ForInStep.yield r)) (TP X pins Z Q) X.xe s
def HI:TT:=fun _ H Q=>Q true H
theorem L9{X:Cx}:Mz X [] HI:=fun _ _ _ H _ I h=>wpAny_tests_nil ⟨H,I,h⟩
theorem Ka{X:Cx}{c:Expr}{t:TT}(h:PT X c t):Mz X [c] t:=fun pins s Z H Q I hq=>wpAny_tests_one (h pins s Z H Q I hq)
def HJ(n:Nat)(ix:List Nat)(g:TG)(tt:TT)(te:TE)(Z:St)(Q:VK)(J:It)(H1:Hp):Prop:=
 ∃W:Nat->Nat->List V->Hp->Prop,(∃m,W 0 m [] H1)/\∀i m ys H,W i m ys H->ys.length<=sizeLine/\
  ((J.stop i H/\∀p,H p=none->Q (.ref p) (upd H p (.lst ys)))\/
   (J.go i H/\∃N:List V->Hp->Prop,(∀ys' H',N ys' H'->∃m',m'<m/\W (i+1) m' ys' H')/\
    ∀x H',J.yld i H x H'->g x (Z5 n ix Z) H' fun Z2 H2=>Z2.drop n=(Z5 n ix Z).drop n/\tt Z2 H2 fun b H3=>if b=true then te Z2 H3 fun y H4=>N (ys++[y]) H4 else N ys H3))
def S7(n:Nat)(ix:List Nat)(wi:TI)(g:TG)(tt:TT)(te:TE):TE:=fun Z H Q=>wi Z H fun J H1=>HJ n ix g tt te Z Q J H1
theorem Ny{n:Nat}{ix:List Nat}{Z Z2:St}(hd:Z2.drop n=(Z5 n ix Z).drop n):∀(i:Nat) v,(Z5 n ix Z)[i]?=some (some v)->Z2[i]?=some (some v):=fun i v e=>by
 by_cases hi:i<n
 ·unfold Z5 at e
  rw[List.getElem?_append_left (by simpa using hi),List.getElem?_replicate] at e
  rw[if_pos hi] at e;cases e
 ·have q:=congrArg (fun l=>l[i-n]?) hd
  simp only[List.getElem?_drop] at q;rw[show n+(i-n)=i by omega] at q
  rw[q];exact e
section
variable {X:Cx} {tg elt iter:Expr} {ifs:List Expr} {scope:Scope} {pos:Pos} {own fr:List Str} {ix:List Nat} {wi:TI} {g:TG} {tt:TT} {te:TE}
theorem MA{pins:List (Addr×Obj)}{Z:St}{H2:Hp}{s2:Shared}{fp:List Addr}{h₁:Heap}{tk:Nat}{C:Addr}(S:CompScope X.N X.env.scope scope own fr ix)(I2:Inv X pins Z H2 s2)(f2:∀b∈fp,UD X pins H2 b)(hfp:∀b∈fp,b<s2.heap.objs.size)
  (hC:s2.heap.objs.size<=C) (hns:h₁.Ns C fun _=>none) (old:∀b o,s2.heap.get? b=some o->h₁.get? b=some o) :
  Inv (ZF X (own++fr) scope (YN X.env.cells scope.names []) C s2 H2 fp) [] (Z5 own.length ix Z) H2 { s2 with heap:=h₁,toks:=tk }:=by
 have cs:=S.clos I2
 have sub:∀x c,(YN X.env.cells scope.names []).lookup x=some c->X.env.cells.lookup x=some c:=fun x c e=>UL scope.names [] cs (fun h=>by simp at h) e
 have stk:=I2.stkSub
 have okk:(ZF X (own++fr) scope (YN X.env.cells scope.names []) C s2 H2 fp).Ok:=by
  refine⟨I2.ok.mod,S.kind,I2.ok.glob,I2.ok.blt,hC,fun x y c h1 h2=>I2.ok.inj x y c (sub x c h1) (sub y c h2),fun x hx=>?_,fun x c h _=>?_,I2.ok.hd,I2.ok.frames,.inl rfl,fun b hb=>⟨?_,fun x c e=>?_⟩,I2.bs,?_,fun b o e hb=>?_,fun b hb z=>?_,I2.stack,I2.stkFree⟩
  ·-- the cells of the block's free names
   have hx:(relabel scope X.env).names.lookup x=some .cell\/(relabel scope X.env).names.lookup x=some .free:=hx
   have key:(x,NameKind.free)∈scope.names:=by
    have:∃k',(relabel scope X.env).names.lookup x=some k'/\(k' = .cell\/k' = .free):=by
     rcases hx with h | h
     ·exact⟨_,h,.inl rfl⟩
     ·exact⟨_,h,.inr rfl⟩
    obtain⟨k',e,hk'⟩:=this
    obtain⟨k,e0⟩:=Wu e
    have e1:=XB (env:=X.env) e0
    have e:(scope.names.map fun(n,k)=>if(k==NameKind.free&&X.env.scope.kind==.function&&X.env.kindOf n==some .cell) then(n,NameKind.cell) else(n,k)).lookup x=some k':=e
    rw[e1] at e;have m:=PySem.mem_of_lookup e0
    cases k with
    | free=>exact m
    | cell=>exact absurd rfl (S.nocell _ m)
    | _=>simp at e;subst e;rcases hk' with z | z<;>cases z
   exact Option.isSome_iff_exists.mp (UM _ _ key)
  ·cases h
  ·-- fp differs from the frame
   exact Nat.ne_of_lt (Nat.lt_of_lt_of_le (hfp b hb) hC)
  ·exact(f2 b hb).2.2.2.2.1 x c (sub x c e)
  ·exact Nat.le_trans I2.ok.bsz I2.sz
  ·rcases(f2 b hb).2.2.2.1 with z | z
   ·exact I2.ok.noex b o e z
   ·exact absurd (Nat.lt_of_lt_of_le (Heap.lt_size (I2.ok.bs b o e).1) z) (Nat.lt_irrefl _)
  ·rcases List.mem_cons.mp (stk b z) with e | e
   ·exact(f2 b hb).2.1 e
   ·exact(f2 b hb).2.2.1 e
 have sl:fr.length=ix.length:=by simpa using congrArg List.length S.slots
 refine⟨okk,rfl,I2.bare,Un.kept old,⟨_,hns,fun i x v h1 h2 h3=>?_⟩,fun x c e=>?_,I2.hok.fresh hC,fun x c e=>I2.freeC x c (sub x c e),fun p hp=>absurd (show p∈([]:List (Addr×Obj)) from hp) (by simp),I2.hok.kept old,?_⟩
 ·-- a name of the def around
  have h1:(own++fr)[i]?=some x:=h1
  have hi:¬i<own.length:=fun hi=>by
   unfold Z5 at h2;rw[List.getElem?_append_left (by simpa using hi),List.getElem?_replicate,if_pos hi] at h2;cases h2
  rw[List.getElem?_append_right (by omega)] at h1;unfold Z5 at h2;rw[List.getElem?_append_right (by simpa using hi),List.length_replicate,List.getElem?_map] at h2
  cases ej:ix[i-own.length]? with
  | none=>rw[ej] at h2;cases h2
  | some j=>
   rw[ej] at h2
   have h2:(Z[j]?).join=some v:=by simpa using h2
   have h2:Z[j]?=some (some v):=by
    cases q:Z[j]? with
    | none=>rw[q] at h2;cases h2
    | some z=>rw[q] at h2;exact congrArg some h2
   have hN:X.N[j]?=some x:=by
    have q:=congrArg (fun l=>l[i-own.length]?) S.slots
    simp only[List.getElem?_map,h1,ej,Option.map_some] at q
    exact(Option.some.inj q).symm
   have hm:=S.outs x (List.mem_of_getElem? h1)
   have hk:=S.frees _ hm rfl
   have hk:X.env.scope.names.lookup x=some .cell\/X.env.scope.names.lookup x=some .free:=hk
   obtain⟨m,hn,hl⟩:=I2.loc
   obtain⟨u,r,l⟩:=hl j x v hN h2 (by rcases hk with k | k;exact .inr (.inl k);exact .inr (.inr k))
   refine⟨u,r,?_⟩
   rcases l with⟨k,_⟩ | ⟨_,c,hc,hcell⟩
   ·have k:X.env.scope.names.lookup x=some .local:=k
    rcases hk with q | q<;>rw[k] at q<;>cases q
   ·obtain⟨c',hc'⟩:=Option.isSome_iff_exists.mp (UM (cells:=X.env.cells) _ [] hm)
    have ec:=sub x c' hc'
    rw[hc] at ec;cases ec
    refine .inr ⟨?_,c,hc',?_⟩
    ·have h3:(relabel scope X.env).names.lookup x=some .local\/(relabel scope X.env).names.lookup x=some .cell\/(relabel scope X.env).names.lookup x=some .free:=h3
     rcases h3 with h3 | h3
     ·obtain⟨k0,e0⟩:=Wu h3
      have e1:=XB (env:=X.env) e0
      have h3:(scope.names.map fun(n,k)=>if(k==NameKind.free&&X.env.scope.kind==.function&&X.env.kindOf n==some .cell) then(n,NameKind.cell) else(n,k)).lookup x=some .local:=h3
      rw[e1] at h3
      have k0l:k0 = .local:=by
       cases k0<;>simp at h3 ⊢
       split at h3<;>cases h3
      subst k0l
      exact absurd e0 (S.apart x (List.mem_of_getElem? h1))
     ·exact h3
    ·obtain⟨o,ho,hd⟩:=hcell
     exact⟨o,old _ _ ho,hd⟩
 ·obtain⟨v,o,ho,hd⟩:=I2.cell x c (sub x c e)
  exact⟨v,o,old _ _ ho,hd⟩
 ·show(Z5 own.length ix Z).length=(own++fr).length
  unfold Z5;rw[List.length_append,List.length_replicate,List.length_map,List.length_append,sl]
theorem TH{pins:List (Addr×Obj)}{Z:St}{H2:Hp}{s2:Shared}{fp:List Addr}{it:Addr}{tn:Nat->Heap->Prop}{J:It}{Fin:List V->Hp->Prop}{RR:Value->Addr->Result->Shared->Prop}{E:Value->Shared->Prop}
  (hcalm:X.calm=true) (S:CompScope X.N X.env.scope scope own fr ix)
  (hg:∀cl C s H ex,PG (ZF X (own++fr) scope cl C s H ex) tg g) (ht:∀cl C s H ex,Mz (ZF X (own++fr) scope cl C s H ex) ifs tt) (he:∀cl C s H ex,PE (ZF X (own++fr) scope cl C s H ex) elt te)
  (I2:Inv X pins Z H2 s2) (T:Qm X.prog X.w X.K tg J fp it tn) (st2:tn 0 s2.heap) (f2:∀b∈fp,UD X pins H2 b)
  {W:Nat->Nat->List V->Hp->Prop} {m0:Nat} (w0:W 0 m0 [] H2)
  (turn:∀i m ys H,W i m ys H->ys.length<=sizeLine/\
   ((J.stop i H/\Fin ys H)\/
    (J.go i H/\∃N:List V->Hp->Prop,(∀ys' H',N ys' H'->∃m',m'<m/\W (i+1) m' ys' H')/\
     ∀x H',J.yld i H x H'->g x (Z5 own.length ix Z) H' fun Z2 H2=>Z2.drop own.length=(Z5 own.length ix Z).drop own.length/\tt Z2 H2 fun b H3=>if b=true then te Z2 H3 fun y H4=>N (ys++[y]) H4 else N ys H3)))
  (hRR:∀(D C:Addr)(oC:Obj)(m:Str->Option Value)(s':Shared)(H':Hp)(ys:List V),Inv X (pins++[(C,oC)]) Z (upd H' D (.lst ys)) s'->s'.heap.get? C=some oC->s'.heap.Ns C m->UD X pins (upd H' D (.lst ys)) C->H' D=none->Fin ys H'->RR (.ref D) C (.ok .next) s') :
  wpAny (model X.prog X.w) X.A (newList []) (fun acc s₃=>wpAny (model X.prog X.w) X.A (newFunctionEnv scope X.env.globals (YN X.env.cells scope.names []) [] X.env.qual none .none (some X.env)) (fun cenv s₄=>
   codeAny (model X.prog X.w) X.A (.compStart (.ListComp elt [⟨tg,iter,ifs,0⟩] scope pos) 0 (.ref it) acc { cenv with scope:=relabel scope X.env }) (RR acc cenv.locals) s₄) E s₃) E s2:=by
 have hfp:∀b∈fp,b<s2.heap.objs.size:=fun b hb=>by
  obtain⟨o,e,_⟩:=T.obj 0 s2.heap st2 b hb
  exact Heap.lt_size e
 refine wpAny_newObj_type (wpAny_newFunctionEnv S.nocell (by intro y hy;simp at hy) (fun h₁ hns₁ hsb₁=>?_) S.kind)
 dsimp only at hns₁ hsb₁ ⊢
 generalize hH2:s2.heap.push { cls:=.type "list",dict:=none,data:=.seq ([]:List Value).toArray }=G2 at hns₁ hsb₁ ⊢
 have hC:G2.objs.size=s2.heap.objs.size+1:=by rw[<-hH2,Heap.size_push]
 generalize hCC:G2.objs.size=C at hns₁ hsb₁ hC ⊢
 generalize hDD:s2.heap.objs.size=D at hC ⊢
 have hDC:D≠C:=by omega
 have below:∀b,b<s2.heap.objs.size->b≠C/\b≠D:=fun b hb=>by
  rw[hDD] at hb
  exact⟨Nat.ne_of_lt (by omega),Nat.ne_of_lt hb⟩
 have old:∀b o,s2.heap.get? b=some o->h₁.get? b=some o:=fun b o e=>hsb₁.extBut b o (below b (Heap.lt_size e)).1 (Heap.get?_push_of_some _ (hH2▸Heap.get?_push_of_some _ e))
 have hacc:h₁.get? D=some { cls:=.type "list",data:=.seq ([]:List Value).toArray 0 }:=by
  have e0:G2.get? D=some { cls:=.type "list",data:=.seq ([]:List Value).toArray 0 }:=by
   rw[<-hH2,<-hDD]
   exact Heap.get?_push_size _ rfl
  exact hsb₁.extBut _ _ hDC (Heap.get?_push_of_some _ e0)
 have hns₁':h₁.Ns C fun _=>none:=by simpa using hns₁
 have I0:=fun tk=>MA (tk:=tk) S I2 f2 hfp (C:=C) (by omega) hns₁' old
 -- what stays true of the iterator's objects in the block
 have loop:∀s₃:Shared,s₃={ s2 with heap:=h₁,toks:=s2.toks+([]:List (Str×Value)).length }->
   codeAny (model X.prog X.w) X.A (.compLoop (.ListComp elt [⟨tg,iter,ifs,0⟩] scope pos) 0 (.ref it) (.ref D) (compEnvC scope (YN X.env.cells scope.names []) C X.env)) (RR (.ref D) C) s₃:=by
  rintro s₃ rfl
  generalize hY:ZF X (own++fr) scope (YN X.env.cells scope.names []) C s2 H2 fp=Y at I0
  have stat:∀{H':Hp}{pn:List (Addr×Obj)},(∀b∈fp,H' b=none)->(∀p∈pn,∀b∈fp,p.1≠b)->∀b∈fp,UD Y pn H' b:=fun{H' pn} hn hp b hb=>by
   subst hY
   refine⟨hn b hb,(below b (hfp b hb)).1,fun z=>?_,.inl hb,fun x c e=>?_,fun p hp'=>hp p hp' b hb⟩
   ·exact(I0 0).ok.exfs b hb z
   ·exact((I0 0).ok.exf b hb).2 x c e
  have dfp:∀b∈fp,D≠b:=fun b hb=>Ne.symm (below b (hfp b hb)).2
  have hcellD:∀x c,Y.env.cells.lookup x=some c->c≠D:=fun x c e z=>by
   subst hY
   have e:(YN X.env.cells scope.names []).lookup x=some c:=e
   have e':=UL scope.names [] (S.clos I2) (fun h=>by simp at h) e
   obtain⟨v,q⟩:=I2.cell x c e'
   exact(below c q.lt).2 z
  have hfsD:D∉Y.fs:=fun z=>by
   subst hY
   obtain⟨_,o,ho,_⟩:=(I0 0).ok.funs.mem z
   have:=Heap.lt_size ho
   have:D<s2.heap.objs.size:=this
   omega
  have eL:Y.env.locals=C:=by subst hY;rfl
  have eS:Y.s₀=s2:=by subst hY;rfl
  have eP:Y.pn=[]:=by subst hY;rfl
  refine RO (fun n s'=>∃i ys its nn H',Inv Y [] (Z5 own.length ix Z) H' s'/\tn i s'.heap/\(∀b∈fp,H' b=none)/\s'.heap.get? D=some { cls:=.type "list",data:=.seq its nn }/\Vals ys its.toList/\H' D=none/\W i n ys H') ?_ m0
   ⟨0,[],#[],0,H2,I0 _,T.keep _ _ _ st2 fun b _ o e=>old b o e,fun b hb=>(f2 b hb).1,hacc,.nil,I2.hok.fresh (by omega),w0⟩
  rintro n s3 ⟨i,ys,its,nn,H3,I3,st3,fr3,oD,vD,nD,w3⟩
  obtain⟨hlen,cases3⟩:=turn i n ys H3 w3
  have hsize:its.size<=sizeLine:=by
   have:=vD.length
   simp only[Array.length_toList] at this;omega
  have pD:Inv Y [(D,{ cls:=.type "list",data:=.seq its nn })] (Z5 own.length ix Z) H3 s3:=I3.pins_of fun p hp=>by
   rw[List.mem_singleton.mp hp]
   exact⟨oD,nD,by rw[eL];exact hDC,hfsD,fun v z=>by cases z⟩
  have YP:Y.prog=X.prog:=by subst hY;rfl
  have Yw:Y.w=X.w:=by subst hY;rfl
  have YK:Y.K=X.K:=by subst hY;rfl
  have YA:Y.A=X.A:=by subst hY;rfl
  have Yx:Y.xe=fun _ _=>False:=by subst hY;rfl
  have Ye:Y.env=compEnvC scope (YN X.env.cells scope.names []) C X.env:=by subst hY;rfl
  have ne1:∀p∈[((D,{ cls:=.type "list",data:=.seq its nn }):Addr×Obj)],∀b∈fp,p.1≠b:=fun p hp b hb=>by rw[List.mem_singleton.mp hp];exact dfp b hb
  rcases cases3 with⟨stop,qn⟩ | ⟨go,N,hN,step⟩
  ·have d:=T.done Y YP Yw YK (by subst hY;exact hcalm) i _ s3 _ H3 (notedBy (model X.prog X.w) X.A (compEnvC scope (YN X.env.cells scope.names []) C X.env) fun e s'=>RR (.ref D) C (.error e) s') pD (stat fr3 ne1) st3 stop
   rw[YA] at d
   refine ZT d fun r s4 ⟨hr,I4⟩=>?_
   subst hr
   show RR (.ref D) C (.ok .next) s4
   obtain⟨oD4,nD4,_⟩:=I4.pin (D,_) (by rw[eP];exact List.mem_cons_self)
   obtain⟨m,hn,_⟩:=I4.loc
   rw[eL] at hn
   obtain⟨oC,es,ep,hoC,hdC,hrest⟩:=id hn
   have hfreeC:H3 C=none:=by have:=I4.free;rw[eL] at this;exact this
   have un:Un (Oa X.stack) fp H2 H3 s2.heap s4.heap:=by
    have:=I4.base
    subst hY;exact this
   have lt2:∀b o,s2.heap.get? b=some o->b≠D:=fun b o e=>(below b (Heap.lt_size e)).2
   have un':Un (Oa X.stack) fp H2 (upd H3 D (.lst ys)) s2.heap s4.heap:=by
    refine⟨un.keep,un.slot,fun b o e n hx=>?_,un.there,fun b xs e=>?_,fun b o u e=>?_,fun b ps e=>?_⟩
    ·rw[upd_ne (lt2 b o e)];exact un.free b o e n hx
    ·have q:=un.tups b xs e
     rw[upd_ne (ZC q nD4)];exact q
    ·have q:=un.frzs b o u e
     rw[upd_ne (ZC q nD4)];exact q
    ·obtain⟨more,q⟩:=un.tbls b ps e
     exact⟨more,by rw[upd_ne (ZC q nD4)];exact q⟩
   have hok4:HOk X.prog X.w H3 s4.heap:=by
    have:=I4.hok
    rw[YP,Yw] at this;exact this
   have hok':HOk X.prog X.w (upd H3 D (.lst ys)) s4.heap:=fun b u q=>by
    by_cases hb:b=D
    ·subst hb
     rw[upd_same] at q;cases q
     exact⟨hlen,its.toList,nn,vD,by simpa using oD4⟩
    ·rw[upd_ne hb] at q
     exact(hok4 b u q).stay (fun c v _ z=>z) (fun c z=>by rw[upd_ne (ZC z nD4)];exact z) fun c xs z=>by rw[upd_ne (ZC z nD4)];exact z
   have os4:s4.os=s2.os:=by rw[I4.os,eS]
   have I5:Inv X pins Z (upd H3 D (.lst ys)) s4:=I2.call' os4 un' hok' I4.bare fun b hb=>⟨(f2 b hb).2.2.2.1,(f2 b hb).2.1,(f2 b hb).2.2.2.2.1,(f2 b hb).2.2.2.2.2⟩
   have CL:C≠X.env.locals:=fun z=>by
    exact(below _ I2.lt).1 z.symm
   have fpC:UD X pins (upd H3 D (.lst ys)) C:=I2.fpOk (by omega) (by rw[upd_ne (Ne.symm hDC)];exact hfreeC)
   refine hRR D C oC m s4 H3 ys (I5.pins_of fun p hp=>?_) hoC hn fpC nD4 qn
   rcases List.mem_append.mp hp with z | z
   ·exact I5.pin p (List.mem_append_right _ z)
   ·rw[List.mem_singleton.mp z]
    exact⟨hoC,fpC.1,fpC.2.1,fpC.2.2.1,fun v z=>by rw[hdC] at z;cases z⟩
  ·have d:=T.item Y YP Yw YK (by subst hY;exact hcalm) i _ s3 _ H3 (fun _ _=>False) pD (stat fr3 ne1) st3 go
   rw[YA] at d
   refine wpAny_mono d (fun r s4 ⟨u,hr,h4⟩=>?_) fun _ _ z=>z.elim
   subst hr
   refine wpAny_mono h4 (fun _ s5 ⟨x,H5,I5,r5,y5,st5,fr5⟩=>?_) fun _ _ z=>z.elim
   have I5':=I5.pinned (stat fr5 ne1) (T.obj _ _ st5)
   have hg':=hg (YN X.env.cells scope.names []) C s2 H2 fp
   have ht':=ht (YN X.env.cells scope.names []) C s2 H2 fp
   have he':=he (YN X.env.cells scope.names []) C s2 H2 fp
   rw[hY] at hg' ht' he'
   have a6:=hg' _ s5 _ H5 x u _ I5' r5 (step x H5 y5)
   rw[YP,Yw,YA,Ye,Yx] at a6
   refine wpAny_mono a6 (fun _ s6 ⟨Z6,H6,I6,dr,q6⟩=>?_) fun _ _ z=>z.elim
   have a7:=ht' _ s6 Z6 H6 _ I6 q6;rw[YP,Yw,YA,Ye,Yx] at a7
   refine wpAny_mono a7 (fun ok s7 ⟨H7,I7,q7⟩=>?_) fun _ _ z=>z.elim
   have back:∀{H8:Hp}{s8:Shared},Inv Y ([((D,{ cls:=.type "list",data:=.seq its nn }):Addr×Obj)]++UE fp s5.heap) Z6 H8 s8->
     s8.heap.get? D=some { cls:=.type "list",data:=.seq its nn }/\H8 D=none/\tn (i+1) s8.heap/\(∀b∈fp,H8 b=none):=fun{H8 s8} I8=>by
    obtain⟨e1,e2,_⟩:=I8.pin (D,{ cls:=.type "list",data:=.seq its nn }) (by rw[eP];exact List.mem_cons_self)
    refine⟨e1,e2,T.keep _ _ _ st5 fun b hb o e=>(I8.pin (b,o) (by rw[eP];exact List.mem_cons_of_mem _ (Ws hb e))).1,fun b hb=>?_⟩
    obtain⟨o,e,_⟩:=T.obj _ _ st5 b hb
    exact(I8.pin (b,o) (by rw[eP];exact List.mem_cons_of_mem _ (Ws hb e))).2.1
   have unp:∀{H8:Hp}{s8:Shared},Inv Y ([((D,{ cls:=.type "list",data:=.seq its nn }):Addr×Obj)]++UE fp s5.heap) Z6 H8 s8->Inv Y [] (Z5 own.length ix Z) H8 s8:=fun{H8 s8} I8=>
    (I8.pins_of (pins':=[]) fun p hp=>absurd hp (by simp)).weak (by
     have e1:=(I0 0).len
     have e2:=I8.len
     rw[e1,e2]) (Ny dr)
   cases ok with
   | false=>
    rw[if_neg Bool.false_ne_true] at q7
    show ∃m,m<n/\_
    obtain⟨e1,e2,e3,e4⟩:=back I7
    obtain⟨m',hm,w7⟩:=hN _ _ q7
    exact⟨m',hm,i+1,ys,its,nn,H7,unp I7,e3,e4,e1,vD,e2,w7⟩
   | true=>
    rw[if_pos rfl] at q7
    show wpAny _ _ _ _ _ _
    have a8:=he' _ s7 Z6 H7 _ I7 q7;rw[YP,Yw,YA,Ye,Yx] at a8
    refine wpAny_mono a8 (fun yv s8 ⟨y,H8,I8,ry,q8⟩=>?_) fun _ _ z=>z.elim
    obtain⟨e1,e2,e3,e4⟩:=back I8
    obtain⟨m',hm,w8⟩:=hN _ _ q8
    refine append_at e1 (fun h9 hs9 hD9=>?_) hsize
    have I9:Inv Y [] (Z5 own.length ix Z) H8 { s8 with heap:=h9 }:=(unp I8).turned (t':=s8.toks) (it:=D) (fun b o hb e=>hs9.extBut b o hb e) e2 (by rw[eL];exact hDC) (.inr (by rw[eS];omega)) hcellD (fun p hp=>absurd (show p∈([]:List (Addr×Obj)) by rw[eP] at hp;exact hp) (by simp))
    refine⟨m',hm,i+1,ys++[y],its.push yv,nn+1,H8,I9,T.keep _ _ _ e3 fun b hb o e=>hs9.extBut b o (Ne.symm (dfp b hb)) e,e4,hD9,?_,e2,w8⟩
    rw[Array.toList_push]
    exact vD.append (.cons ry .nil)
 exact codeAny_compStart_list (loop _ rfl) (T.self X.A 0 _ _ _ (T.keep _ _ _ st2 fun b _ o e=>old b o e) (loop _ rfl))
theorem Kb(hcalm:X.calm=true)(hi:PI X tg iter wi)(S:CompScope X.N X.env.scope scope own fr ix)
  (hg:∀cl C s H ex,PG (ZF X (own++fr) scope cl C s H ex) tg g) (ht:∀cl C s H ex,Mz (ZF X (own++fr) scope cl C s H ex) ifs tt) (he:∀cl C s H ex,PE (ZF X (own++fr) scope cl C s H ex) elt te)
  (hs:∀x,foldedSetIterable iter X.env x=pure x:=by intro _;rfl):PE X (.ListComp elt [⟨tg,iter,ifs,0⟩] scope pos) (S7 own.length ix wi g tt te):=by
 intro pins s Z H Q I h;rw[eval_ListComp]
 refine wpAny_comprehension_free (use:=none) (cl:=YN X.env.cells scope.names []) rfl hs (Vx (S.clos I)) S.kind S.names (ZT (hi pins s Z H _ I h) fun v s1 h1=>ZT h1 fun itv s2 h2=>?_)
 obtain⟨it,fp,tn,J,H2,e,I2,T,st2,f2,W,⟨m0,w0⟩,turn⟩:=h2
 subst e
 refine TH (Fin:=fun ys H=>∀p,H p=none->Q (.ref p) (upd H p (.lst ys))) (RR:=fun acc C=>compPost (model X.prog X.w) X.A X.xe none (EP X pins Z Q) acc C) hcalm S hg ht he I2 T st2 f2 w0 turn ?_
 intro D C oC m s' H' ys I5 hoC hn fpC nD fin
 refine⟨m,hn,fun h' hs'=>⟨.ref D,upd H' D (.lst ys),?_,rfl,fin D nD⟩⟩
 exact(I5.unpinned (pl:=[(C,oC)])).turned (t':=s'.toks) (it:=C) (fun b o hb e=>hs'.extBut b o hb e) fpC.1 fpC.2.1 fpC.2.2.2.1 fpC.2.2.2.2.1 fpC.2.2.2.2.2
theorem Kc{i:Nat}{y:Str}{py spos:Pos}(hN:X.N.Nodup)(hy:X.N[i]?=some y)(hloc:X.env.scope.names.lookup y=some .local)(hcalm:X.calm=true)(hi:PI X tg iter wi)(S:CompScope X.N X.env.scope scope own fr ix)
  (hg:∀cl C s H ex,PG (ZF X (own++fr) scope cl C s H ex) tg g) (ht:∀cl C s H ex,Mz (ZF X (own++fr) scope cl C s H ex) ifs tt) (he:∀cl C s H ex,PE (ZF X (own++fr) scope cl C s H ex) elt te)
  (hsw:swapsWith (.ListComp elt [⟨tg,iter,ifs,0⟩] scope pos) (some (.Name y py)) spos.line X.env=pure true:=by rfl)
  (hs:∀x,foldedSetIterable iter X.env x=pure x:=by intro _;rfl):PS X (.Assign [.Name y py] (.ListComp elt [⟨tg,iter,ifs,0⟩] scope pos) spos) (Nd (S7 own.length ix wi g tt te) (U6 i)):=by
 intro pins s Z H D0 I h;rw[exec_Assign_Name_used _ _ _ _ hsw]
 refine wpAny_bind (wpAny_standAt (wpAny_bind ?_))
 show wpAny _ X.A (do let _ <-comprehension (.ListComp elt [⟨tg,iter,ifs,0⟩] scope pos) scope X.env _ (newList []) false (eval iter X.env) (some (assign (.Name y py) X.env))) _ _ s
 refine wpAny_bind (wpAny_mono (wpAny_comprehension_free (cl:=YN X.env.cells scope.names []) (use:=some (assign (.Name y py) X.env)) (Q:=fun _ s'=>SP X pins D0 .next s') (E:=X.xe) rfl hs (Vx (S.clos I)) S.kind S.names
  (ZT (hi pins s Z H _ I h) fun v s1 h1=>ZT h1 fun itv s2 h2=>?_)) (fun _ s' hq=>wpAny_pure (wpAny_pure hq)) fun _ _ e=>e)
 obtain⟨it,fp,tn,J,H2,e,I2,T,st2,f2,W,⟨m0,w0⟩,turn⟩:=h2
 subst e
 refine TH (Fin:=fun ys H=>∀p,H p=none->U6 i (.ref p) Z (upd H p (.lst ys)) D0.nx) (RR:=fun acc C=>compPost (model X.prog X.w) X.A X.xe (some (assign (.Name y py) X.env)) (fun _ s'=>SP X pins D0 .next s') acc C) hcalm S hg ht he I2 T st2 f2 w0 turn ?_
 intro D C oC m s' H' ys I5 hoC hn fpC nD fin
 show wpAny _ X.A (assign (.Name y py) X.env (.ref D)) _ _ _
 refine wpAny_assign_Name (VY I5 hN hy (.inl hloc) (v:=.ref D) rfl (fun s6 I6=>?_) (.inr hloc))
 obtain⟨e6,_⟩:=I6.pin (C,oC) (List.mem_append_right _ (List.mem_append_right _ List.mem_cons_self))
 obtain⟨o',es,ep,ho',r'⟩:=hn
 rw[hoC] at ho';cases ho'
 refine⟨m,⟨oC,es,ep,e6,r'⟩,fun h' hs'=>⟨_,upd H' D (.lst ys),?_,fin D nD⟩⟩
 exact(I6.unpinned (pl:=[(C,oC)])).turned (t':=s6.toks) (it:=C) (fun b o hb e=>hs'.extBut b o hb e) fpC.1 fpC.2.1 fpC.2.2.2.1 fpC.2.2.2.2.1 fpC.2.2.2.2.2
end
open AutoSeq1 (wpAny_loadPart')
section
variable {prog:Program} {w:World} {A:Around} {E:Value->Shared->Prop} {s:Shared}
theorem V4{it l:Addr}{i:Nat}{items}{x:Value}{Q:Value->Shared->Prop}(hit:s.heap.IsTupleIter it l i)
  (hl:s.heap.IsTuple l items) (hx:items[i]?=some x)
  (hQ:∀h',h'.IsTupleIter it l (i+1)->Heap.SameBut it s.heap h'->Q x { s with heap:=h' }) :
  wpAny (model prog w) A (Builtin.SmallTypes.nextOf (.ref it)) Q E s:=by
 obtain⟨o,ho,hc,hd⟩:=id hit
 obtain⟨ol,hol,_,nl,hdl⟩:=hl
 unfold Builtin.SmallTypes.nextOf
 refine wpAny_bind (wpAny_callSpecial?_slot (name:=Str.ofString "__next__") hit.typeIs F.slot_tuple_iterator_next
  (wpAny_call_entry F.slot_tuple_iterator_next hit.typeIs F.entry_tuple_iterator_next ?_ (F.args_tuple_iterator_next_1 _)))
 show wpAny _ _ (field (.ref it) 0 >>= _) _ _ s
 refine wpAny_bind (wpAny_field ho hd (x:=.ref l) rfl ?_)
 show wpAny _ _ (if(Value.ref l==Value.none)=true then _ else _) _ _ s
 rw[if_neg (show ¬((Value.ref l==Value.none)=true) from Bool.false_ne_true)]
 show wpAny _ _ (field (.ref it) 1 >>= _) _ _ s
 refine wpAny_bind (wpAny_field ho hd (x:=.int i 0) rfl ?_)
 show wpAny _ _ (seqItems? (.ref l) >>= _) _ _ s
 refine wpAny_bind (wpAny_seqItems hol hdl ?_)
 simp only[Int.toNat_natCast,hx]
 refine wpAny_bind (wpAny_setField ho hd (by simp) (wpAny_pure ⟨x,rfl,wpAny_pure (hQ _ ?_ (Heap.SameBut.update ..))⟩))
 exact⟨_,Heap.get?_update_self _ ho (Obj.isFreed_of_fields (Obj.data_mapFields hd _)),(Obj.cls_mapFields ..).trans hc,by
  rw[Obj.data_mapFields hd];simp[rawInt]⟩
theorem UN{it l:Addr}{i:Nat}{items}{Q:Value->Shared->Prop}(hh:A.handled=none)
  (hit:s.heap.IsTupleIter it l i) (hl:s.heap.IsTuple l items) (hx:items[i]?=none)
  (hE:∀h' e,Heap.ExtBut it s.heap h'->(∃o,h'.get? e=some o/\o.cls = .type "StopIteration")->E (.ref e) { s with heap:=h' }) :
  wpAny (model prog w) A (Builtin.SmallTypes.nextOf (.ref it)) Q E s:=by
 obtain⟨o,ho,hc,hd⟩:=id hit
 obtain⟨ol,hol,_,nl,hdl⟩:=hl
 unfold Builtin.SmallTypes.nextOf
 refine wpAny_bind (wpAny_callSpecial?_slot (name:=Str.ofString "__next__") hit.typeIs F.slot_tuple_iterator_next
  (wpAny_call_entry F.slot_tuple_iterator_next hit.typeIs F.entry_tuple_iterator_next ?_ (F.args_tuple_iterator_next_1 _)))
 show wpAny _ _ (field (.ref it) 0 >>= _) _ _ s
 refine wpAny_bind (wpAny_field ho hd (x:=.ref l) rfl ?_)
 show wpAny _ _ (if(Value.ref l==Value.none)=true then _ else _) _ _ s
 rw[if_neg (show ¬((Value.ref l==Value.none)=true) from Bool.false_ne_true)]
 show wpAny _ _ (field (.ref it) 1 >>= _) _ _ s
 refine wpAny_bind (wpAny_field ho hd (x:=.int i 0) rfl ?_)
 show wpAny _ _ (seqItems? (.ref l) >>= _) _ _ s
 refine wpAny_bind (wpAny_seqItems hol hdl ?_)
 simp only[Int.toNat_natCast,hx]
 refine wpAny_bind (wpAny_rule (wpAny_bind (wpAny_setField ho hd (by simp) ?_)))
 show wpAny _ _ (newExc (.type "StopIteration") [] >>= _) _ _ _
 refine wpAny_bind ?_
 simp only[newExc,newTuple]
 refine wpAny_bind (wpAny_newObj_type ?_ (by size_fits))
 refine wpAny_bind (m:=firstArgMember _ _) (wpAny_of_eq (a:=Value.none) (by first | rfl | (simp only[firstArgMember];rfl)) ?_)
 refine wpAny_newObj_type ?_ (by size_fits)
 simp only[raiseNew]
 refine wpAny_bind (wpAny_handled ?_)
 first | rw[show A.in1.handled=none from hh] | rw[hh]
 refine wpAny_bind (wpAny_pure (wpAny_throw ?_))
 exact hE _ _ (((Heap.SameBut.update ..).extBut.push _).push _) ⟨_,Heap.get?_push_size _ rfl,rfl⟩
end
def SeqB(b:Bool)(h:Heap)(a:Addr)(its:Array Value):Prop:=if b=true then h.IsList a its else h.IsTuple a its
def IterB(b:Bool)(h:Heap)(it a:Addr)(i:Nat):Prop:=if b=true then h.IsListIter it a i else h.IsTupleIter it a i
def Mi(b:Bool)(K:PySem.W.Frag)(H:Hp)(a:Addr)(xs:List V):Prop:=if b=true then SqL K H a xs else SqT K H a xs
def TJ(b:Bool)(a:Addr):Obj:={ cls:=.type (if b=true then "list_iterator" else "tuple_iterator"),data:=.fields #[.ref a,.int 0 0] }
theorem SeqB.at{b:Bool}{h h':Heap}{a:Addr}{its:Array Value}(x:SeqB b h a its)(k:∀o,h.get? a=some o->h'.get? a=some o):SeqB b h' a its:=by
 cases b with
 | true=>obtain⟨o,e,r⟩:=(show h.IsList a its from x);exact⟨o,k o e,r⟩
 | false=>obtain⟨o,e,r⟩:=(show h.IsTuple a its from x);exact⟨o,k o e,r⟩
theorem SeqB.has{b:Bool}{h:Heap}{a:Addr}{its:Array Value}(x:SeqB b h a its):∃o,h.get? a=some o:=by
 cases b with
 | true=>obtain⟨o,e,r⟩:=(show h.IsList a its from x);exact⟨o,e⟩
 | false=>obtain⟨o,e,r⟩:=(show h.IsTuple a its from x);exact⟨o,e⟩
theorem IterB.at{b:Bool}{h h':Heap}{it a:Addr}{i:Nat}(x:IterB b h it a i)(k:∀o,h.get? it=some o->h'.get? it=some o):IterB b h' it a i:=by
 cases b with
 | true=>obtain⟨o,e,r⟩:=(show h.IsListIter it a i from x);exact⟨o,k o e,r⟩
 | false=>obtain⟨o,e,r⟩:=(show h.IsTupleIter it a i from x);exact⟨o,k o e,r⟩
theorem IterB.has{b:Bool}{h:Heap}{it a:Addr}{i:Nat}(x:IterB b h it a i):∃o,h.get? it=some o/\∀v,o.data≠.cell v:=by
 cases b with
 | true=>obtain⟨o,e,_,d⟩:=(show h.IsListIter it a i from x);exact⟨o,e,fun v z=>by rw[d] at z;cases z⟩
 | false=>obtain⟨o,e,_,d⟩:=(show h.IsTupleIter it a i from x);exact⟨o,e,fun v z=>by rw[d] at z;cases z⟩
theorem IterB.new{b:Bool}{h:Heap}{it a:Addr}(e:h.get? it=some (TJ b a)):IterB b h it a 0:=by
 cases b with
 | true=>exact⟨_,e,rfl,rfl⟩
 | false=>exact⟨_,e,rfl,rfl⟩
section
variable {X:Cx} {pins:List (Addr×Obj)} {Z:St} {H:Hp} {s:Shared} {a:Addr} {xs ys:List V} {b:Bool}
theorem Inv.seqB(I:Inv X pins Z H s)(h:Mi b X.K H a xs):∃its:List Value,Vals xs its/\SeqB b s.heap a its.toArray/\xs.length<=sizeLine:=by
 cases b with
 | true=>
  obtain⟨its,r,p,z⟩:=I.list (show SqL X.K H a xs from h)
  exact⟨its,r,p.isList,z⟩
 | false=>
  obtain⟨its,r,p,z⟩:=I.tuple (show SqT X.K H a xs from h)
  exact⟨its,r,p,z⟩
theorem Inv.seqB_inj(I:Inv X pins Z H s)(h:Mi b X.K H a xs)(h':Mi b X.K H a ys):xs=ys:=by
 cases b with
 | true=>exact I.list_inj (show SqL X.K H a xs from h) (show SqL X.K H a ys from h')
 | false=>exact I.tuple_inj (show SqT X.K H a xs from h) (show SqT X.K H a ys from h')
end
theorem Draws.seq{prog:Program}{w:World}{A:Around}(b:Bool)(hh:A.handled=none)(it l:Addr)(hne:l≠it)(items:Array Value) :
  Draws prog w A it [it,l] items.size (fun i v=>items[i]?=some v) (fun i h=>IterB b h it l i/\SeqB b h l items) where
 live:=fun _ _ st=>let⟨o,ho,_⟩:=st.1.has;⟨o,ho⟩
 frame:=fun _ _ _ st hk=>⟨st.1.at fun o e=>hk it (by simp) o e,st.2.at fun o e=>hk l (by simp) o e⟩
 item:=fun i s Q E hi st hQ=>by
  cases b with
  | true=>
   refine wpAny_nextOf_list_item (show s.heap.IsListIter it l i from st.1) (show s.heap.IsList l items from st.2) (x:=items[i]) (by simp[hi]) fun h' hit' hs'=>?_
   exact hQ _ h' s.toks (by simp[hi]) ⟨hit',st.2.at fun o e=>hs'.extBut l o hne e⟩ hs'
  | false=>
   refine V4 (show s.heap.IsTupleIter it l i from st.1) (show s.heap.IsTuple l items from st.2) (x:=items[i]) (by simp[hi]) fun h' hit' hs'=>?_
   exact hQ _ h' s.toks (by simp[hi]) ⟨hit',st.2.at fun o e=>hs'.extBut l o hne e⟩ hs'
 done:=fun s Q E st hE=>by
  cases b with
  | true=>exact wpAny_nextOf_list_end hh (show s.heap.IsListIter it l _ from st.1) (show s.heap.IsList l items from st.2) (by simp) hE
  | false=>exact UN hh (show s.heap.IsTupleIter it l _ from st.1) (show s.heap.IsTuple l items from st.2) (by simp) hE
theorem Xn{prog:Program}{w:World}{A:Around}{E:Value->Shared->Prop}{s:Shared}{b:Bool}{a:Addr}{its:Array Value}{Q:Value->Shared->Prop}(h:SeqB b s.heap a its)
  (hQ:Q (.ref s.heap.objs.size) { s with heap:=s.heap.push (TJ b a) }):wpAny (model prog w) A (pyIter (.ref a)) Q E s:=by
 cases b with
 | true=>exact wpAny_pyIter_list (show s.heap.IsList a its from h) hQ
 | false=>exact wpAny_pyIter_tuple (show s.heap.IsTuple a its from h) hQ
set_option maxHeartbeats 4000000 in
theorem TL(b:Bool)(l:Addr)(items:Array Value) :
  Meets (Builtin.«enumerate.__new__» ⟨[.type "enumerate",.ref l],[]⟩) (fun _ R s=>SeqB b s.heap l items/\
   R (.ok (.ret (.ref (s.heap.push (TJ b l)).objs.size)))
    { s with heap:=(s.heap.push (TJ b l)).push { cls:=.type "enumerate",data:=.fields #[.none,.bool false,.ref s.heap.objs.size,rawInt 0,.none,.none] } }):=
 .of_wp fun prog w A R s h=>by
  obtain⟨hp,g,d,tk,os⟩:=s;obtain⟨hl,h⟩:=h
  have hsub:=sub_enumerate
  obtain⟨o,ho⟩:=hl.has
  have hL:SeqB b (Shared.heap ⟨hp,g,d,tk,os⟩) l items:=hl
  wp_walk using wpAny_loadPart' ho
  refine wpAny_stack_any fun st=>wpAny_pure ?_
  split
  ·rename_i c _ _ _ _ _
   cases (c==Value.type "enumerate")
   ·wp_walk using wpAny_loadPart' ho,Xn hL
    exact⟨_,rfl,h⟩
   ·wp_walk using wpAny_loadPart' ho,Xn hL
    exact⟨_,rfl,h⟩
  ·wp_walk using wpAny_loadPart' ho,Xn hL
   exact⟨_,rfl,h⟩
section
variable {prog:Program} {w:World} {A:Around} {E:Value->Shared->Prop} {s:Shared}
theorem SI{b:Bool}{l:Addr}{items:Array Value}{Q:Value->Shared->Prop}(hL:SeqB b s.heap l items)
  (h:∀h',IsEnum h' (s.heap.objs.size+1) s.heap.objs.size 0 .none->IterB b h' s.heap.objs.size l 0->h'.objs.size=s.heap.objs.size+2->
   (∀b o,s.heap.get? b=some o->h'.get? b=some o)->Q (.ref (s.heap.objs.size+1)) { s with heap:=h' }) :
  wpAny (model prog w) A (call (.type "enumerate") [.ref l]) Q E s:=by
 refine callType_new F.called_enumerate (by decide) (F.typeCall_enumerate_1 _) (F.newCall_enumerate_1 _) (fun obj=>F.args_object_init_2 obj _) F.entry_enumerate_new
  (TL b l items) ⟨hL,?_⟩
 have hz:(s.heap.push (TJ b l)).objs.size=s.heap.objs.size+1:=Heap.size_push ..
 show _/\_
 rw[hz]
 have he:IsEnum ((s.heap.push (TJ b l)).push
   { cls:=.type "enumerate",data:=.fields #[.none,.bool false,.ref s.heap.objs.size,rawInt 0,.none,.none] }) (s.heap.objs.size+1) s.heap.objs.size 0 .none:=by
  have:=Heap.get?_push_size (s.heap.push (TJ b l))
   (o:={ cls:=.type "enumerate",data:=.fields #[.none,.bool false,.ref s.heap.objs.size,rawInt 0,.none,.none] }) rfl
  rw[hz] at this;exact this
 refine⟨⟨_,he,rfl⟩,h _ he (IterB.new (Heap.get?_push_of_some _ (Heap.get?_push_size _ rfl))) (by rw[Heap.size_push,hz]) fun b o x=>Heap.get?_push_of_some _ (Heap.get?_push_of_some _ x)⟩
end
def G3(b:Bool)(K:PySem.W.Frag)(a:Addr):It:=
  ⟨fun i H=>∃xs x,Mi b K H a xs/\xs[i]?=some x,
   fun i H v H'=>∃p x,H p=none/\v = .ref p/\H'=upd H p (.tup [.int i,x])/\∀xs,Mi b K H a xs->xs[i]?=some x,
   fun i H=>∃xs,Mi b K H a xs/\xs.length=i⟩
theorem Nz{P:Program}{w:World}{K:PySem.W.Frag}{elts:List Expr}{k:Nat}{pos:Pos}(b:Bool)(a e it:Addr)(hei:e≠it) :
  Qm P w K (.Tuple elts k pos) (G3 b K a) [e,it] e (fun i h=>(∃old,IsEnum h e it i old)/\IterB b h it a i) where
 mem:=by simp
 obj:=fun i h st c hc=>by
  rcases List.mem_cons.mp hc with rfl | hc
  ·obtain⟨⟨old,q⟩,_⟩:=st
   exact⟨_,q,fun v z=>by cases z⟩
  ·rw[List.mem_singleton.mp hc]
   exact st.2.has
 keep:=fun i h h' st kk=>⟨let⟨old,q⟩:=st.1;⟨old,kk e (by simp) _ q⟩,st.2.at fun o q=>kk it (by simp) o q⟩
 item:=by
  intro X hP hw hK hc i pins s Z H E I hf st hg
  subst hP hw hK
  obtain⟨xs,x,hq,hx⟩:=hg
  obtain⟨its,rv,p,hz⟩:=I.seqB hq
  obtain⟨u,hu,ru⟩:=rv.get hx
  obtain⟨⟨old,he⟩,hit⟩:=st
  have fe:=hf e (by simp)
  have fi:=hf it (by simp)
  obtain⟨oa,hoa⟩:=p.has
  have tra:H a=none->a<X.s₀.heap.objs.size\/True:=fun _=>.inr trivial
  -- the sequence is neither record
  have ne_of_fp:∀c,UD X pins H c->(∃oc,s.heap.get? c=some oc/\∃n vs,oc.cls = .type n/\oc.data = .fields vs)->a≠c:=fun c _ ⟨oc,hoc,n,vs,hn,hv⟩ z=>by
   subst z
   rw[hoa] at hoc;cases hoc
   cases b with
   | true=>obtain⟨o,e1,_,m,d⟩:=(show s.heap.IsList a its.toArray from p);rw[hoa] at e1;cases e1;rw[hv] at d;cases d
   | false=>obtain⟨o,e1,_,m,d⟩:=(show s.heap.IsTuple a its.toArray from p);rw[hoa] at e1;cases e1;rw[hv] at d;cases d
  have ae:a≠e:=ne_of_fp e fe ⟨_,he,_,_,rfl,rfl⟩
  have ai:a≠it:=ne_of_fp it fi (by
   cases b with
   | true=>obtain⟨o,e1,c1,d1⟩:=(show s.heap.IsListIter it a i from hit);exact⟨o,e1,_,_,c1,d1⟩
   | false=>obtain⟨o,e1,c1,d1⟩:=(show s.heap.IsTupleIter it a i from hit);exact⟨o,e1,_,_,c1,d1⟩)
  have D:=Draws.seq (prog:=X.prog) (w:=X.w) (A:=X.A.in1) b (I.ok.hd hc) it a ai its.toArray
  have hlt:i<its.toArray.size:=by
   have:=(List.getElem?_eq_some_iff.mp hu).1
   simpa using this
  refine wpAny_pyNext_enum_itemD D he ⟨hit,p⟩ hlt hei (by simp[hei,Ne.symm ae]) fun y h' tk hPy ho hs' hT hsz hk=>?_
  have ey:y=u:=by
   have q1:its.toArray[i]?=some y:=hPy
   have q2:its.toArray[i]?=some u:=by simpa using hu
   rw[q1] at q2;exact Option.some.inj q2
  subst ey
  refine⟨_,rfl,wpAny_letOwnedTupleGo_enum ho fun h2 he2 hs2=>?_⟩
  have hs2:Heap.SameBut e h' h2:=hs2
  have Tne:s.heap.objs.size≠e:=Nat.ne_of_gt (Heap.lt_size he)
  have hTn:H s.heap.objs.size=none:=I.hok.fresh (Nat.le_refl _)
  have kk:∀c o,c∉[e,it]->s.heap.get? c=some o->h2.get? c=some o:=fun c o hc' q=>hs2.extBut c o (fun z=>hc' (by simp[z])) (hk c o (fun z=>hc' (by simp[z])) (fun z=>hc' (by simp[z])) q)
  have hT2:h2.get? s.heap.objs.size=some { cls:=.type "tuple",data:=.seq #[.int i tk,y] }:=hs2.extBut _ _ Tne hT
  have hcs:∀c∈[e,it],(c∈X.ex\/X.s₀.heap.objs.size<=c)/\c≠X.env.locals/\(∀x d,X.env.cells.lookup x=some d->d≠c)/\∀p∈X.pn++pins,p.1≠c:=fun c hc'=>by
   have f:=hf c hc'
   exact⟨f.2.2.2.1,f.2.1,f.2.2.2.2.1,f.2.2.2.2.2⟩
  have nfp:∀c u',H c=some u'->c∉[e,it]:=fun c u' q hc'=>by rw[(hf c hc').1] at q;cases q
  have hok0:HOk X.prog X.w H h2:=fun c u' q=>(I.hok c u' q).stay (fun d v hd q'=>kk d v (by
    rcases hd with z | z
    ·rw[z];exact nfp c u' q
    ·exact nfp d _ z) q') (fun _ z=>z) fun _ _ z=>z
  have new:ObjOk X.prog X.w (upd H s.heap.objs.size (.tup [.int i,x])) h2 s.heap.objs.size (.tup [.int i,x]):=
   ⟨by show 2<=sizeLine;decide,[.int i tk,y],.cons ⟨tk,rfl⟩ (.cons ru .nil),⟨_,hT2,rfl,_,rfl⟩⟩
  have hok1:HOk X.prog X.w (upd H s.heap.objs.size (.tup [.int i,x])) h2:=fun c u' q=>by
   by_cases hb:c=s.heap.objs.size
   ·subst hb;rw[upd_same] at q;cases q;exact new
   ·rw[upd_ne hb] at q
    exact(hok0 c u' q).stay (fun d v _ q'=>q') (fun d z=>by rw[upd_ne (ZC z hTn)];exact z) fun d zs z=>by rw[upd_ne (ZC z hTn)];exact z
  have un:Un (Oa X.stack) [e,it] H (upd H s.heap.objs.size (.tup [.int i,x])) s.heap h2:=by
   refine⟨fun c o q _ _ hx'=>kk c o hx' q,fun c o q _ _ hx'=>⟨o.slots,kk c o hx' q⟩,fun c o q n _=>?_,fun c o q hx'=>⟨o,kk c o hx' q⟩,fun c zs q=>?_,fun c o zs q=>?_,fun c ps q=>⟨#[],?_⟩⟩
   ·rw[upd_ne (Nat.ne_of_lt (Heap.lt_size q))];exact n
   ·rw[upd_ne (ZC q hTn)];exact q
   ·rw[upd_ne (ZC q hTn)];exact q
   ·rw[upd_ne (ZC q hTn),q];simp
  have I2:Inv X pins Z (upd H s.heap.objs.size (.tup [.int i,x])) { s with heap:=h2,toks:=tk+1 }:=I.call (g':=s.gens) (d':=s.drawn) un hok1 I.bare hcs
  refine⟨.ref s.heap.objs.size,upd H s.heap.objs.size (.tup [.int i,x]),I2,rfl,⟨_,x,hTn,rfl,rfl,fun zs hzs=>by rw[I.seqB_inj hzs hq];exact hx⟩,⟨⟨y,by simpa using he2⟩,?_⟩,fun c hc'=>?_⟩
  ·exact hs'.1.at fun o q=>hs2.extBut it o (Ne.symm hei) q
  ·rw[upd_ne (Nat.ne_of_lt (by
    rcases List.mem_cons.mp hc' with rfl | hc'
    ·exact Heap.lt_size he
    ·rw[List.mem_singleton.mp hc'];obtain⟨o,q,_⟩:=hit.has;exact Heap.lt_size q))]
   exact(hf c hc').1
 done:=by
  intro X hP hw hK hc i pins s Z H E I hf st hg
  subst hP hw hK
  obtain⟨xs,hq,hx⟩:=hg
  obtain⟨its,rv,p,hz⟩:=I.seqB hq
  obtain⟨⟨old,he⟩,hit⟩:=st
  have fi:=hf it (by simp)
  obtain⟨oa,hoa⟩:=p.has
  have ai:a≠it:=fun z=>by
   subst z
   cases b with
   | true=>
    obtain⟨o,e1,_,m,d⟩:=(show s.heap.IsList a its.toArray from p)
    obtain⟨o',e2,_,d2⟩:=(show s.heap.IsListIter a a i from hit)
    rw[e1] at e2;cases e2;rw[d] at d2;cases d2
   | false=>
    obtain⟨o,e1,_,m,d⟩:=(show s.heap.IsTuple a its.toArray from p)
    obtain⟨o',e2,_,d2⟩:=(show s.heap.IsTupleIter a a i from hit)
    rw[e1] at e2;cases e2;rw[d] at d2;cases d2
  have D:=Draws.seq (prog:=X.prog) (w:=X.w) (A:=X.A.in1) b (I.ok.hd hc) it a ai its.toArray
  have hl:=rv.length
  have hi:i=its.toArray.size:=by simp;omega
  refine wpAny_pyNext_enum_endD D he (by rw[<-hi];exact⟨hit,p⟩) fun h' hx'=>⟨rfl,?_⟩
  obtain⟨f0,f1,f2,f3,f4,f5⟩:=fi
  exact I.turned (t':=s.toks) (fun c o hb q=>hx' c o hb q) f0 f1 f3 f4 f5
 self:=fun A i s Q E st hQ=>by
  obtain⟨⟨old,he⟩,_⟩:=st
  exact wpAny_pyIter_enum he hQ
end L2
namespace L2
open PySem PySem.Spec PyProof.Rows
section
variable {X:Cx}
def HK(b:Bool)(K:PySem.W.Frag)(ta:TA):TI:=fun Z H R=>ta Z H fun vs H1=>∃a,vs=[.ref a]/\(∃xs,Mi b K H1 a xs)/\R (G3 b K a) H1
theorem Kd{elts:List Expr}{k:Nat}{tpos:Pos}(b:Bool){a:Expr}{ta:TA}{p pos:Pos}(hg:Gl X "enumerate")(hm:X.mg "enumerate" = none)(ha:PA X [a] ta)(hs:starEach [a] X.env=[(false,eval a X.env)]:=by rfl) :
  PI X (.Tuple elts k tpos) (.Call (.Name "enumerate" p) [a] [] pos) (HK b X.K ta):=by
 intro pins s Z H R I h
 refine Call_ (UB I hg hm (by decide +kernel:bootBuiltins "enumerate" = some (.type "enumerate")) (PyProof.Rows.callWith_type1 (ZT (ha pos pins s Z H _ I h) fun us s1 ⟨vs,H1,I1,r1,q1⟩=>?_) hs rfl))
 obtain⟨a,e,⟨xs,hq⟩,q⟩:=q1
 subst e
 cases r1 with
 | cons r rr=>
  cases rr;cases r
  obtain⟨its,rv,hseq,hz⟩:=I1.seqB hq
  refine SI hseq fun h' he hit hsz hk=>?_
  refine wpAny_pyIter_enum he ?_
  have I2:Inv X pins Z H1 { s1 with heap:=h' }:=I1.kept (t':=s1.toks) hk
  have ne:s1.heap.objs.size+1≠s1.heap.objs.size:=Nat.ne_of_gt (Nat.lt_succ_self _)
  refine⟨s1.heap.objs.size+1,[s1.heap.objs.size+1,s1.heap.objs.size],_,_,H1,rfl,I2,Nz b a (s1.heap.objs.size+1) s1.heap.objs.size ne,⟨⟨.none,he⟩,hit⟩,fun c hc=>?_,q⟩
  rcases List.mem_cons.mp hc with rfl | hc
  ·exact I1.fpOk (Nat.le_succ _) (I1.hok.fresh (Nat.le_succ _))
  ·rw[List.mem_singleton.mp hc]
   exact I1.fpOk (Nat.le_refl _) (I1.hok.fresh (Nat.le_refl _))
end
section
variable {prog:Program} {w:World} {A:Around} {E:Value->Shared->Prop} {s:Shared}
theorem RP{d:Addr}{o:Obj}{es:Array DictEntry}{ep:Nat}{Q:Value->Shared->Prop}(hd:(d==sysModules)=false)(ho:s.heap.get? d=some o)(hc:o.ExactDict)(hdat:o.data = .dict es ep)
  (hQ:Q (.ref s.heap.objs.size) { s with heap:=s.heap.push { cls:=.type "dict_keyiterator",data:=.fields #[.ref d,.int 0 0,.int es.size 0,.int ep 0] } }) :
  wpAny (model prog w) A (pyIter (.ref d)) Q E s:=by
 have hT:s.TypeIs (.ref d) "dict":=⟨o,ho,hc.1⟩
 refine wpAny_pyIter_slot hT F.slot_dict_iter (wpAny_call_entry F.slot_dict_iter hT F.entry_dict_iter ?_ (F.args_dict_iter_1 _))
 unfold Builtin.«dict.__iter__»
 refine wpAny_bind ?_
 unfold Builtin.Dict.dictSlotNone
 refine wpAny_bind (wpAny_notOrdered_dict hT ?_)
 show wpAny _ _ (pure (Value.ref d)) _ _ s
 refine wpAny_pure ?_
 show wpAny _ _ (Builtin.Dict.showsAll d >>= _) _ _ s
 unfold Builtin.Dict.showsAll
 rw[if_neg (by rw[hd];exact Bool.false_ne_true)]
 refine wpAny_bind (wpAny_pure ?_)
 refine wpAny_bind (wpAny_dictEntries ho hdat ?_)
 refine wpAny_bind (wpAny_dictEpoch ho hdat ?_)
 refine wpAny_bind (wpAny_newObj_type (wpAny_pure ⟨_,rfl,"dict_keyiterator",_,⟨_,Heap.get?_push_size _ rfl,rfl⟩,F.slot_dict_keyiterator_next.lookup,?_⟩))
 simpa [rawInt] using hQ
theorem V5{it d:Addr}{i ep:Nat}{od:Obj}{es:Array DictEntry}{e:DictEntry}{Q:Option Value->Shared->Prop}(hit:s.heap.IsKeyIter it d i es.size ep)
  (hod:s.heap.get? d=some od) (hdd:od.data = .dict es ep) (hx:es[i]?=some e)
  (hQ:∀h',h'.IsKeyIter it d (i+1) es.size ep->Heap.SameBut it s.heap h'->Q (some e.key) { s with heap:=h' }) :
  wpAny (model prog w) A (pyNext (.ref it)) Q E s:=by
 obtain⟨o,ho,hc,hd⟩:=id hit
 unfold pyNext
 refine wpAny_bind (wpAny_attempt (wpAny_callSpecial?_slot (name:=Str.ofString "__next__") hit.typeIs F.slot_dict_keyiterator_next
  (wpAny_call_entry F.slot_dict_keyiterator_next hit.typeIs F.entry_dict_keyiterator_next ?_ (F.args_dict_keyiterator_next_1 _))))
 refine wpAny_bind (wpAny_pure ?_)
 refine wpAny_bind ?_
 refine wpAny_bind ?_
 first | refine wpAny_bind (wpAny_typeNameOfWhole_keyiter hit.typeIs (wpAny_pure ?_)) | refine wpAny_bind (wpAny_typeNameOf_keyiter hit.typeIs (wpAny_pure ?_))
 refine wpAny_bind (wpAny_fieldsOf ho hd ?_)
 have hown:Builtin.Dict_items.ownsTuple "dict_keyiterator" = false:=by decide
 simp only[hown,Bool.false_eq_true,if_false]
 show wpAny _ _ (if(Value.ref d==Value.none)=true then _ else _) _ _ s
 rw[if_neg (show ¬((Value.ref d==Value.none)=true) from Bool.false_ne_true)]
 refine wpAny_bind (wpAny_pure ?_)
 refine wpAny_bind (wpAny_dictEntries hod hdd ?_)
 rw[if_neg (by simp)]
 refine wpAny_bind (wpAny_pure ?_)
 refine wpAny_bind (wpAny_dictEpoch hod hdd ?_)
 rw[if_neg (by simp)]
 refine wpAny_pure ?_
 obtain⟨hlt',he⟩:=Array.getElem?_eq_some_iff.mp hx
 subst he;simp only[show ¬((i:Int)<0) from by omega,if_false,Int.toNat_natCast,Array.getElem?_eq_getElem hlt']
 refine wpAny_bind ?_
 first | refine wpAny_bind (wpAny_typeNameOfWhole_keyiter hit.typeIs (wpAny_pure ?_)) | refine wpAny_bind (wpAny_typeNameOf_keyiter hit.typeIs (wpAny_pure ?_))
 refine wpAny_bind (wpAny_isOneOf_keyiter hit.typeIs ?_)
 show wpAny _ _ (setField (.ref it) 1 (rawInt ((i:Int)+1)) >>= _) _ _ s
 refine wpAny_bind (wpAny_setField ho hd (by simp) ?_)
 have hit':(s.heap.update it (Obj.mapFields (·.setIfInBounds 1 (rawInt ((i:Int)+1))))).IsKeyIter it d (i+1) es.size ep:=
  ⟨_,Heap.get?_update_self _ ho (Obj.isFreed_of_fields (Obj.data_mapFields hd _)),(Obj.cls_mapFields ..).trans hc,by rw[Obj.data_mapFields hd];simp[rawInt]⟩
 refine wpAny_bind (wpAny_holding ?_)
 refine wpAny_bind (wpAny_isOneOf_keyiter (s:={ s with heap:=s.heap.update it (Obj.mapFields (·.setIfInBounds 1 (rawInt ((i:Int)+1)))) }) hit'.typeIs ?_)
 show wpAny _ _ (pure es[i].key) _ _ _
 exact wpAny_pure (wpAny_pure ⟨_,rfl,wpAny_pure (hQ _ hit' (Heap.SameBut.update ..))⟩)
theorem UO{it d:Addr}{ep:Nat}{od:Obj}{es:Array DictEntry}{Q:Option Value->Shared->Prop}(hh:A.handled=none)(hit:s.heap.IsKeyIter it d es.size es.size ep)
  (hod:s.heap.get? d=some od) (hdd:od.data = .dict es ep)
  (hQ:∀h',Heap.ExtBut it s.heap h'->Q none { s with heap:=h' }):wpAny (model prog w) A (pyNext (.ref it)) Q E s:=by
 obtain⟨o,ho,hc,hd⟩:=id hit
 unfold pyNext
 refine wpAny_bind (wpAny_attempt (wpAny_callSpecial?_slot (name:=Str.ofString "__next__") hit.typeIs F.slot_dict_keyiterator_next
  (wpAny_call_entry F.slot_dict_keyiterator_next hit.typeIs F.entry_dict_keyiterator_next ?_ (F.args_dict_keyiterator_next_1 _))))
 refine wpAny_bind (wpAny_pure ?_)
 refine wpAny_bind ?_
 refine wpAny_bind ?_
 first | refine wpAny_bind (wpAny_typeNameOfWhole_keyiter hit.typeIs (wpAny_pure ?_)) | refine wpAny_bind (wpAny_typeNameOf_keyiter hit.typeIs (wpAny_pure ?_))
 refine wpAny_bind (wpAny_fieldsOf ho hd ?_)
 have hown:Builtin.Dict_items.ownsTuple "dict_keyiterator" = false:=by decide
 simp only[hown,Bool.false_eq_true,if_false]
 show wpAny _ _ (if(Value.ref d==Value.none)=true then _ else _) _ _ s
 rw[if_neg (show ¬((Value.ref d==Value.none)=true) from Bool.false_ne_true)]
 refine wpAny_bind (wpAny_pure ?_)
 refine wpAny_bind (wpAny_dictEntries hod hdd ?_)
 rw[if_neg (by simp)]
 refine wpAny_bind (wpAny_pure ?_)
 refine wpAny_bind (wpAny_dictEpoch hod hdd ?_)
 rw[if_neg (by simp)]
 refine wpAny_pure ?_
 simp only[show ¬((es.size:Int)<0) from by omega,if_false,Int.toNat_natCast,Array.getElem?_eq_none (Nat.le_refl es.size)]
 refine wpAny_bind ?_
 first | refine wpAny_bind (wpAny_typeNameOfWhole_keyiter hit.typeIs (wpAny_pure ?_)) | refine wpAny_bind (wpAny_typeNameOf_keyiter hit.typeIs (wpAny_pure ?_))
 show wpAny _ _ (setField (.ref it) 0 .none >>= _) _ _ s
 refine wpAny_bind (wpAny_setField ho hd (by simp) ?_)
 show wpAny _ _ (newExc (.type "StopIteration") [] >>= _) _ _ _
 refine wpAny_bind ?_
 simp only[newExc,newTuple]
 refine wpAny_bind (wpAny_newObj_type ?_ (by size_fits))
 refine wpAny_bind (m:=firstArgMember _ _) (wpAny_of_eq (a:=Value.none) (by first | rfl | (simp only[firstArgMember];rfl)) ?_)
 refine wpAny_newObj_type ?_ (by size_fits)
 simp only[raiseNew]
 refine wpAny_bind (wpAny_handled ?_)
 rw[show A.in1.handled=none from hh]
 refine wpAny_bind (wpAny_pure (wpAny_throw ?_))
 refine wpAny_bind (wpAny_isInstance (T:="StopIteration") (b:=true) ⟨_,Heap.get?_push_size _ rfl,rfl⟩ isSubtype_stop ?_)
 exact wpAny_pure (hQ _ (((Heap.SameBut.update ..).extBut.push _).push _))
end
def Ie(d:Addr)(o:Obj)(kvs:List (List Yi×V)):It:=
  ⟨fun i H=>H d=some (.frz o (.dT kvs))/\i<kvs.length,
   fun i H v H'=>H'=H/\∃b k y,kvs[i]?=some (k,y)/\v = .ref b/\H b=some (.tup (k.map kV)),
   fun i H=>H d=some (.frz o (.dT kvs))/\i=kvs.length⟩
theorem KT.get{H:Hp}:∀{kvs:List (List Yi×V)}{xs:List (List Yi×Addr×Value)}{i:Nat}{p:List Yi×V},KT H kvs xs->kvs[i]?=some p->∃q,xs[i]?=some q/\p.1=q.1/\H q.2.1=some (.tup (p.1.map kV))/\RelV p.2 q.2.2
 | _,_,_,_,.nil,e=>by simp at e
 | _,_,0,_,.cons r _,e=>by simp at e;subst e;exact⟨_,rfl,r⟩
 | _,_,i+1,p,.cons _ t,e=>by
  obtain⟨q,h1,h2⟩:=KT.get (i:=i) (p:=p) t (by simpa using e)
  exact⟨q,by simpa using h1,h2⟩
theorem NA{P:Program}{w:World}{K:PySem.W.Frag}{tg:Expr}(d it:Addr)(o:Obj)(es:Array DictEntry)(ep:Nat)(kvs:List (List Yi×V))(ho:o.data = .dict es ep)(hlen:es.size=kvs.length) :
  Qm P w K tg (Ie d o kvs) [it] it (fun i h=>h.IsKeyIter it d i es.size ep) where
 mem:=by simp
 obj:=fun i h st b hb=>by
  rw[List.mem_singleton.mp hb]
  obtain⟨o,e,c,q⟩:=st
  exact⟨o,e,fun v z=>by rw[q] at z;cases z⟩
 keep:=fun i h h' st k=>by
  obtain⟨o,e,r⟩:=st
  exact⟨o,k it (by simp) o e,r⟩
 item:=by
  intro X hP hw hK hc i pins s Z H E I hf st hg
  subst hP hw hK
  obtain⟨hd,hi⟩:=hg
  obtain⟨e1,z,y,xs,r,o',es',ep',h1,h2,h3,h4,h5⟩:=(show ObjOk X.prog X.w H s.heap d (.frz o (.dT kvs)) from I.hok d _ hd)
  rw[e1] at h1;cases h1
  rw[ho] at h3;cases h3
  have hk:kvs[i]?=some kvs[i]:=List.getElem?_eq_getElem hi
  obtain⟨q,hq,eq,hb,rv⟩:=KT.get r hk
  have he:es[i]?=some (entryOfKey (tupleKind (Ym X.prog X.w)) q):=by
   have:=congrArg (fun l=>l[i]?) h4
   simp only[List.getElem?_map,hq,Option.map_some] at this
   simpa using this
  obtain⟨f0,f1,f2,f3,f4,f5⟩:=hf it (by simp)
  refine V5 st e1 ho he fun h' st' sb=>?_
  have I1:Inv X pins Z H { s with heap:=h' }:=I.turned (t':=s.toks) (fun b o hb e=>(sb.2 b hb).trans e) f0 f1 f3 f4 f5
  obtain⟨o2,e2,c2,d2⟩:=id st'
  exact⟨_,rfl,Qn (s:={ s with heap:=h' }) e2 c2 d2 (by decide) ⟨.ref q.2.1,H,I1,rfl,⟨rfl,q.2.1,_,_,hk,rfl,hb⟩,st',fun b hb=>(hf b hb).1⟩⟩
 done:=by
  intro X hP hw hK hc i pins s Z H E I hf st hg
  subst hP hw hK
  obtain⟨hd,hi⟩:=hg
  obtain⟨e1,_⟩:=(show ObjOk X.prog X.w H s.heap d (.frz o (.dT kvs)) from I.hok d _ hd)
  obtain⟨f0,f1,f2,f3,f4,f5⟩:=hf it (by simp)
  rw[hi,<-hlen] at st
  exact UO (I.ok.hd hc) st e1 ho fun h' eb=>⟨rfl,I.turned (t':=s.toks) (fun b o hb e=>eb b o hb e) f0 f1 f3 f4 f5⟩
 self:=fun A i s Q E st hQ=>by
  refine wpAny_pyIter_slot st.typeIs F.slot_dict_keyiterator_iter (wpAny_call_entry F.slot_dict_keyiterator_iter st.typeIs F.entry_dict_keyiterator_iter ?_ (F.args_dict_keyiterator_iter_1 _))
  show wpAny _ _ (ret (.ref it)) _ _ s
  exact wpAny_pure ⟨_,rfl,"dict_keyiterator",_,st.typeIs,F.slot_dict_keyiterator_next.lookup,hQ⟩
section
variable {X:Cx} {tg:Expr}
theorem Inv.freeze{pins:List (Addr×Obj)}{Z:St}{H:Hp}{s:Shared}{d:Addr}{kvs:List (List Yi×V)}{o:Obj}(I:Inv X pins Z H s)(hd:H d=some (.dT kvs))(ho:s.heap.get? d=some o) :
  Inv X pins Z (upd H d (.frz o (.dT kvs))) s:=by
 have ne:∀b u,H b=some u->(∀k,u≠.dT k)->b≠d:=fun b u q n z=>by rw[z,hd] at q;exact n _ (Option.some.inj q).symm
 have nn:∀b,H b=none->b≠d:=fun b q z=>by rw[z,hd] at q;cases q
 have un:Un X.fs [] H (upd H d (.frz o (.dT kvs))) s.heap s.heap:=
  ⟨fun b o q _ _ _=>q,fun b o q _ _ _=>⟨o.slots,q⟩,fun b o q n _=>by rw[upd_ne (nn b n)];exact n,fun b o q _=>⟨o,q⟩,
   fun b xs q=>by rw[upd_ne (ne b _ q fun _ z=>nomatch z)];exact q,fun b o u q=>by rw[upd_ne (ne b _ q fun _ z=>nomatch z)];exact q,fun b ps q=>⟨#[],by rw[upd_ne (ne b _ q fun _ z=>nomatch z),q];simp⟩⟩
 have hok:HOk X.prog X.w (upd H d (.frz o (.dT kvs))) s.heap:=fun b u q=>by
  have hown:∀c y,H c=some (.own y)->upd H d (.frz o (.dT kvs)) c=some (.own y):=fun c y z=>by rw[upd_ne (ne c _ z fun _ z=>nomatch z)];exact z
  have htup:∀c xs,H c=some (.tup xs)->upd H d (.frz o (.dT kvs)) c=some (.tup xs):=fun c y z=>by rw[upd_ne (ne c _ z fun _ z=>nomatch z)];exact z
  by_cases hb:b=d
  ·subst hb
   rw[upd_same] at q;cases q
   exact⟨ho,(I.hok b _ hd).stay (fun _ _ _ z=>z) (fun c z=>hown c _ z) htup⟩
  ·rw[upd_ne hb] at q
   exact(I.hok b u q).stay (fun _ _ _ z=>z) (fun c z=>hown c _ z) htup
 have:=I.un (t':=s.toks) un hok
 exact this
def Ou(tl:TE):TI:=fun Z H R=>tl Z H fun x H1=>∃d kvs,x = .ref d/\((H1 d=some (.dT kvs)/\∀o,R (Ie d o kvs) (upd H1 d (.frz o (.dT kvs))))\/∃o,H1 d=some (.frz o (.dT kvs))/\R (Ie d o kvs) H1)
theorem RQ{l:Expr}{tl:TE}(hl:PE X l tl):PI X tg l (Ou tl):=by
 intro pins s Z H R I h
 refine ZT (hl pins s Z H _ I h) fun v s1 ⟨x,H1,I1,r1,q1⟩=>?_
 obtain⟨d,kvs,e,q⟩:=q1
 subst e;cases r1
 have core:∀(o:Obj)(H2:Hp),Inv X pins Z H2 s1->H2 d=some (.frz o (.dT kvs))->R (Ie d o kvs) H2->wpAny (model X.prog X.w) X.A (pyIter (.ref d)) (Gx X pins Z tg R) X.xe s1:=fun o H2 I2 e2 q2=>by
  obtain⟨e1,z,y,xs,r,o',es,ep,h1,h2,h3,h4,h5⟩:=(show ObjOk X.prog X.w H2 s1.heap d (.frz o (.dT kvs)) from I2.hok d _ e2)
  rw[e1] at h1;cases h1
  have hsz:es.size=kvs.length:=by
   have a1:=congrArg List.length h4;have a2:=Paired.length r;simp only[Array.length_toList,List.length_map] at a1;omega
  refine RP y e1 h2 h3 ?_
  refine⟨s1.heap.objs.size,[s1.heap.objs.size],_,_,H2,rfl,I2.kept (t':=s1.toks) fun b o e=>Heap.get?_push_of_some _ e,NA d _ o es ep kvs h3 hsz,⟨_,Heap.get?_push_size _ rfl,rfl,rfl⟩,fun b hb=>?_,q2⟩
  rw[List.mem_singleton.mp hb]
  exact I2.fpOk (Nat.le_refl _) (I2.hok.fresh (Nat.le_refl _))
 rcases q with⟨hd,q⟩ | ⟨o,hd,q⟩
 ·obtain⟨z,y,xs,r,o,es,ep,h1,h2,h3,h4,h5⟩:=(show ObjOk X.prog X.w H1 s1.heap d (.dT kvs) from I1.hok d _ hd)
  exact core o _ (I1.freeze hd h1) upd_same (q o)
 ·exact core o H1 I1 hd q
end
theorem Walks.seqB{prog:Program}{w:World}{A:Around}(b:Bool)(hh:A.handled=none)(I ax:Addr)(hne:ax≠I)(items:Array Value) :
  Walks prog w A I [I,ax] [I] items.size (fun i v=>items[i]?=some v) (fun i h=>IterB b h I ax i/\SeqB b h ax items):=by
 cases b with
 | true=>exact Walks.list hh I ax hne items
 | false=>exact Walks.tuple hh I ax hne items
section
variable {X:Cx}
theorem call_sumR(hc:X.calm=true):Xy X (.builtin "sum") (fun xs H Q=>∃(b:Bool) (p:Addr) (ns:List Int),xs=[.ref p]/\Mi b X.K H p (ns.map V.int)/\Q (.int ns.sum) H):=by
 intro pins s Z H xs us Q I r h
 obtain⟨b,p,ns,rfl,hq,q⟩:=h
 obtain⟨u,rfl,rx⟩:=WK r
 cases rx
 obtain⟨its,rv,hseq,hz⟩:=I.seqB hq
 have hp:p<s.heap.objs.size:=let⟨_,e⟩:=hseq.has;Heap.lt_size e
 refine call_sum_walkG (Xn hseq ?_)
 refine⟨_,_,_,_,_,_,fun i=>ns.getD i 0,rfl,Walks.seqB (A:=X.A.in1) b (I.ok.hd hc) s.heap.objs.size p (Nat.ne_of_lt hp) its.toArray,⟨IterB.new (Heap.get?_push_size _ rfl),hseq.at fun o e=>Heap.get?_push_of_some _ e⟩,fun c hcm=>?_,fun i v hv=>?_,fun h' tk t' hk=>?_⟩
 ·show c<(s.heap.push _).objs.size
  rw[Heap.size_push]
  rcases List.mem_cons.mp hcm with rfl | hcm
  ·exact Nat.lt_succ_self _
  ·rw[List.mem_singleton.mp hcm];exact Nat.lt_succ_of_lt hp
 ·have hv:its.toArray[i]?=some v:=hv
  have hv:its[i]?=some v:=by simpa using hv
  have hl:=rv.length;rw[List.length_map] at hl
  have hi:i<ns.length:=by rw[hl];exact(List.getElem?_eq_some_iff.mp hv).1
  obtain⟨u,hu,ru⟩:=rv.get (i:=i) (x:=.int ns[i]) (by rw[List.getElem?_map,List.getElem?_eq_getElem hi];rfl)
  rw[hv] at hu;cases hu
  obtain⟨t,rfl⟩:=ru
  refine⟨t,?_⟩
  show Value.int ns[i] t=Value.int (ns.getD i 0) t
  rw[List.getD_eq_getElem?_getD,List.getElem?_eq_getElem hi];rfl
 ·have e:preSum (fun i=>ns.getD i 0) its.toArray.size=ns.sum:=by
   have hl:=rv.length;rw[List.length_map] at hl;rw[List.size_toArray,<-hl]
   have gen:∀k,k<=ns.length->preSum (fun i=>ns.getD i 0) k=(ns.take k).sum:=by
    intro k
    induction k with
    | zero=>intro _;simp[preSum]
    | succ k ih=>
     intro hk;rw[preSum,ih (by omega),List.take_add_one,List.getD_eq_getElem?_getD,List.getElem?_eq_getElem (by omega),List.sum_append]
     simp
   rw[gen _ (Nat.le_refl _),List.take_length]
  rw[e]
  refine⟨.int ns.sum,H,I.kept (fun c o hco=>hk c o ?_ (Heap.get?_push_of_some _ hco)),⟨_,rfl⟩,q⟩
  intro hm;rw[List.mem_singleton.mp hm] at hco
  exact absurd (Heap.lt_size hco) (Nat.lt_irrefl _)
theorem S8(hc:X.calm=true):Xy X (.builtin "all") (fun xs H Q=>∃(b:Bool) (p:Addr) (bs:List Bool),xs=[.ref p]/\Mi b X.K H p (bs.map V.bl)/\Q (.bl (bs.all id)) H):=by
 intro pins s Z H xs us Q I r h
 obtain⟨b,p,bs,rfl,hq,q⟩:=h
 obtain⟨u,rfl,rx⟩:=WK r
 cases rx
 obtain⟨its,rv,hseq,hz⟩:=I.seqB hq
 have hp:p<s.heap.objs.size:=let⟨_,e⟩:=hseq.has;Heap.lt_size e
 have hl:=rv.length;rw[List.length_map] at hl
 refine call_all_walk (Xn hseq ?_)
 refine⟨_,_,_,_,_,_,fun i=>bs.getD i true,rfl,Walks.seqB (A:=X.A.in1) b (I.ok.hd hc) s.heap.objs.size p (Nat.ne_of_lt hp) its.toArray,⟨IterB.new (Heap.get?_push_size _ rfl),hseq.at fun o e=>Heap.get?_push_of_some _ e⟩,fun i v s' Q' E' hv hQ=>?_,fun h' tk hk=>?_⟩
 ·have hv:its.toArray[i]?=some v:=hv
  have hv:its[i]?=some v:=by simpa using hv
  have hi:i<bs.length:=by rw[hl];exact(List.getElem?_eq_some_iff.mp hv).1
  obtain⟨u,hu,ru⟩:=rv.get (i:=i) (x:=.bl bs[i]) (by rw[List.getElem?_map,List.getElem?_eq_getElem hi];rfl)
  rw[hv] at hu;cases hu;cases ru
  refine wpAny_truthy_bool ?_
  have e:bs.getD i true=bs[i]:=by rw[List.getD_eq_getElem?_getD,List.getElem?_eq_getElem hi];rfl
  rw[<-e];exact hQ
 ·have e:(List.range its.toArray.size).all (fun i=>bs.getD i true)=bs.all id:=by
   rw[List.size_toArray,<-hl,Bool.eq_iff_iff,List.all_eq_true,List.all_eq_true];constructor
   ·intro h x hx
    obtain⟨i,hi,rfl⟩:=List.mem_iff_getElem.mp hx
    have:=h i (List.mem_range.mpr hi)
    rw[List.getD_eq_getElem?_getD,List.getElem?_eq_getElem hi] at this;exact this
   ·intro h i hi
    have hi:=List.mem_range.mp hi;rw[List.getD_eq_getElem?_getD,List.getElem?_eq_getElem hi]
    exact h _ (List.getElem_mem hi)
  rw[e]
  refine⟨.bl (bs.all id),H,I.kept (fun c o hco=>hk c o ?_ (Heap.get?_push_of_some _ hco)),rfl,q⟩
  intro hm;rw[List.mem_singleton.mp hm] at hco
  exact absurd (Heap.lt_size hco) (Nat.lt_irrefl _)
theorem Xo:Xy X (.builtin "isinstance") (fun xs H Q=>∃x T t b,xs=[x,.ty T]/\TyOf X.K H x t/\PySem.W.kitOne X.K t (.type T)=some b/\Q (.bl b) H):=by
 intro pins s Z H xs us Q I r h
 obtain⟨x,T,t,b,rfl,ht,hk,q⟩:=h
 obtain⟨u,v,rfl,ru,rv⟩:=Mt r
 cases rv
 exact Nm I ru ht hk fun tk=>⟨.bl b,H,I.tok tk,rfl,q⟩
theorem Qv{K:PySem.W.Frag}:PySem.W.kitOne K (.type "int") (.type "int")=some true:=rfl
theorem RS{K:PySem.W.Frag}:PySem.W.kitOne K (.type "int") (.type "bool")=some false:=by first | rfl | decide | (unfold PySem.W.kitOne;rw[if_neg (by decide)];first | rfl | decide | kernel_rfl)
theorem Qw{K:PySem.W.Frag}:PySem.W.kitOne K (.type "tuple") (.type "tuple")=some true:=rfl
theorem SJ{K:PySem.W.Frag}:PySem.W.kitOne K (.type "list") (.type "list")=some true:=rfl
theorem Qx{K:PySem.W.Frag}:PySem.W.kitOne K (.type "str") (.type "str")=some true:=rfl
def Ov:V->List V->Hp->VK->Prop:=fun x vs H Q=>∃l xs k y,x = .ref l/\vs=[.int k,y]/\H l=some (.lst xs)/\0<=k/\k<2^63/\xs.length<sizeLine/\Q .non (upd H l (.lst (xs.take k.toNat++y::xs.drop k.toNat)))
theorem S9:GJ X "list.insert" Ov:=by
 intro pins s Z H x vs v us Q I rx rv h
 obtain⟨l,xs,k,y,rfl,rfl,hH,h0,h1,hz,q⟩:=h
 cases rx
 obtain⟨u1,u2,rfl,r1,r2⟩:=rv.two
 obtain⟨t,rfl⟩:=r1
 obtain⟨z,its,n,r,hl,e⟩:=I.lstM hH
 have hfit:¬(!Builtin.List.listFitsIndex k)=true:=by
  rw[fitsIndex_both (by omega) h1];exact Bool.false_ne_true
 refine call_meets F.slot_list_insert ⟨_,e,rfl⟩ F.entry_list_insert (F.args_list_insert_3 _ _ _) (AutoListH.list_insert_list_int_val_1 l its.toArray n k t u2 hfit (by rw[List.size_toArray];omega)) ⟨e,?_⟩
 refine⟨.non,_,I.lset (its':=its.take k.toNat++u2::its.drop k.toNat) hH e ?_ ((r.take k.toNat).append (.cons r2 (r.drop k.toNat))) ?_,rfl,q⟩
 ·show(have j:=if k<0 then(k+((its.toArray.size:Nat):Int)).toNat else min k.toNat its.toArray.size;(its.toArray.extract 0 j).push u2++its.toArray.extract j)=_
  rw[if_neg (by omega)]
  dsimp only
  by_cases hle:k.toNat<=its.length
  ·rw[Nat.min_eq_left (by rw[List.size_toArray];exact hle)]
   simp
   rw[List.take_of_length_le (by rw[List.length_drop];exact Nat.le_refl _)]
  ·rw[Nat.min_eq_right (by rw[List.size_toArray];omega)]
   rw[List.take_of_length_le (by omega),List.drop_eq_nil_of_le (by omega)]
   simp
 ·rw[List.length_append,List.length_cons,List.length_take,List.length_drop]
  omega
end
def TK(H H':Hp):Prop:=∀b xs,H b=some (.tup xs)->H' b=some (.tup xs)
theorem Same.tk{H H':Hp}(s:Same H H'):TK H H':=fun b xs h=>s b _ h
theorem Same.new{H:Hp}{p:Addr}(h:H p=none)(o:HO):Same H (upd H p o):=fun b u q=>by rw[upd_ne (ZC q h)];exact q
class Rep(α:Type) where
 is:Hp->V->α->Prop
 keep:∀{H H':Hp}{v:V}{a:α},TK H H'->is H v a->is H' v a
 inj:∀{H:Hp}{v:V}{a a':α},is H v a->is H v a'->a=a'
 dep:Nat
 eqA:∀{X:Cx}{pins:List (Addr×Obj)}{Z:St}{H:Hp}{s:Shared}{v v':V}{a a':α}{u u':Value}{A:Around},Inv X pins Z H s->A.units+dep<cLine->is H v a->is H v' a'->RelV v u->RelV v' u'->
  ∃b,SeqAt.EqAt A s u u' b/\(b=true↔a=a')
instance:Rep Int where
 is:=fun _ v i=>v = .int i
 keep:=fun _ h=>h
 inj:=fun{H v a a'} h h'=>by subst h;exact V.int.inj h'
 dep:=0
 eqA:=fun{X pins Z H s v v' a a' u u' A} _ _ h h' r r'=>by
  subst h;subst h'
  obtain⟨t,rfl⟩:=r
  obtain⟨t',rfl⟩:=r'
  exact⟨_,SeqAt.EqAt.int_int a t a' t',by simp⟩
instance:Rep Bool where
 is:=fun _ v i=>v = .bl i
 keep:=fun _ h=>h
 inj:=fun{H v a a'} h h'=>by subst h;exact V.bl.inj h'
 dep:=0
 eqA:=fun{X pins Z H s v v' a a' u u' A} _ _ h h' r r'=>by
  subst h;subst h'
  cases r
  cases r'
  exact⟨_,SeqAt.EqAt.bool_bool a a',by simp⟩
instance:Rep Str where
 is:=fun _ v i=>v = .str i
 keep:=fun _ h=>h
 inj:=fun{H v a a'} h h'=>by subst h;exact V.str.inj h'
 dep:=0
 eqA:=fun{X pins Z H s v v' a a' u u' A} _ _ h h' r r'=>by
  subst h;subst h'
  obtain⟨t,rfl⟩:=r
  obtain⟨t',rfl⟩:=r'
  exact⟨_,SeqAt.EqAt.str_str a t a' t',by simp⟩
abbrev Items{α:Type}[Rep α](H:Hp):List V->List α->Prop:=Paired (Rep.is H)
section
variable {α:Type} [Rep α]
theorem Items.keep{H H':Hp}(k:TK H H'){xs:List V}{l:List α}(h:Items H xs l):Items H' xs l:=Paired.mapP h fun _ _ z=>Rep.keep k z
theorem Items.len{H:Hp}{xs:List V}{l:List α}(h:Items H xs l):xs.length=l.length:=Paired.length h
end
theorem Items.inj{α:Type}[Rep α]{H:Hp}:∀{xs:List V}{l m:List α},Items H xs l->Items H xs m->l=m
 | _,_,_,.nil,.nil=>rfl
 | _,_,_,.cons r t,.cons r' t'=>by rw[Rep.inj r r',Items.inj t t']
theorem Items.eqs{α:Type}[Rep α]{X:Cx}{pins:List (Addr×Obj)}{Z:St}{H:Hp}{s:Shared}{A:Around}(I:Inv X pins Z H s)(hu:A.units+Rep.dep α<cLine) :
  ∀{xs ys:List V}{l m:List α}{us ws:List Value},Items H xs l->Items H ys m->Vals xs us->Vals ys ws->
  ∃e:Nat->Bool,(∀j (h1:j<us.length) (h2:j<ws.length),SeqAt.EqAt A s us[j] ws[j] (e j))/\((List.range (min us.length ws.length)).all e=true↔l.take (min us.length ws.length)=m.take (min us.length ws.length))
 | _,_,_,_,_,_,.nil,_,.nil,_=>⟨fun _=>true,fun j h1=>by simp at h1,by simp⟩
 | _,_,_,_,_,_,.cons _ _,.nil,.cons _ _,.nil=>⟨fun _=>true,fun j h1 h2=>by simp at h2,by simp⟩
 | _,_,_,_,_,_,.cons r t,.cons r' t',.cons q v,.cons q' v'=>by
  obtain⟨b,hb,hb'⟩:=Rep.eqA I hu r r' q q'
  obtain⟨e,he,he'⟩:=Items.eqs I hu t t' v v'
  refine⟨fun j=>match j with | 0=>b | k+1=>e k,fun j h1 h2=>?_,?_⟩
  ·cases j with
   | zero=>exact hb
   | succ k=>exact he k (by simpa using h1) (by simpa using h2)
  ·simp only[List.length_cons,Nat.succ_min_succ,List.range_succ_eq_map,List.all_cons,List.all_map,Bool.and_eq_true,List.take_succ_cons,List.cons.injEq]
   exact and_congr hb' he'
theorem Items.same{α:Type}[Rep α]{H:Hp}{xs ys:List V}{l m:List α}{us ws:List Value}(h:Items H xs l)(h':Items H ys m)(r:Vals xs us)(r':Vals ys ws) :
  (l.take (min us.length ws.length)=m.take (min us.length ws.length)/\us.length=ws.length)↔l=m:=by
 have e1:=h.len;have e2:=h'.len;have e3:=r.length;have e4:=r'.length;constructor
 ·rintro⟨a,b⟩
  rw[List.take_of_length_le (by omega),List.take_of_length_le (by omega)] at a;exact a
 ·intro a
  subst a
  exact⟨rfl,by omega⟩
abbrev G9(α:Type):Type:=List α
def HL{α:Type}[Rep α](H:Hp)(v:V)(l:List α):Prop:=∃p xs,v = .ref p/\H p=some (.tup xs)/\Items H xs l
instance {α:Type} [Rep α]:Rep (G9 α) where
 is:=fun H v l=>HL (α:=α) H v l
 keep:=fun{H H' v a} k h=>by
  obtain⟨p,xs,e,hp,it⟩:=h
  exact⟨p,xs,e,k p xs hp,it.keep k⟩
 inj:=fun{H v a a'} h h'=>by
  obtain⟨p,xs,e,hp,it⟩:=h
  obtain⟨p',xs',e',hp',it'⟩:=h'
  rw[e] at e';cases e'
  rw[hp] at hp';cases hp'
  exact Items.inj it it'
 dep:=Rep.dep α+2
 eqA:=fun{X pins Z H s v v' a a' u u' A} I hu h h' r r'=>by
  obtain⟨p,xs,rfl,hp,it⟩:=h
  obtain⟨p',xs',rfl,hp',it'⟩:=h'
  cases r
  cases r'
  obtain⟨us,rv,q,_⟩:=I.tuple (SqT.of hp)
  obtain⟨us',rv',q',_⟩:=I.tuple (SqT.of hp')
  by_cases e:p=p'
  ·subst e
   refine⟨true,SeqAt.EqAt.same _,?_⟩
   rw[hp] at hp';cases hp'
   have:a=a':=Items.inj it it'
   simp[this]
  ·obtain⟨f,hf,hf'⟩:=Items.eqs (A:=A.in1) I (by show A.units+1+Rep.dep α<cLine;omega) it it' rv rv'
   refine⟨_,SeqAt.EqAt.of_refs e (SeqAt.RcAt.tuples (e:=f) (show s.heap.IsTuple p us.toArray from q) (show s.heap.IsTuple p' us'.toArray from q') (by omega) (fun j h1 h2=>hf j (by simpa using h1) (by simpa using h2))),?_⟩
   simp only[List.size_toArray,Bool.and_eq_true,beq_iff_eq];rw[hf']
   exact Items.same it it' rv rv'
structure Def(K:PySem.W.Frag)(mg:Str->Option Value)(x:Str)(st:Stmt):Prop where
 ex:∃f fd,mg x=some (.ref f)/\Fun K x x st f fd
theorem def_mk{K:PySem.W.Frag}{h:Heap}{mg:Str->Option Value}{x:Str}{st:Stmt}{f:Addr}{oc:Value}{od an:Option Addr}{osl:Array (Option Value)}{kV doc pm cdv ct:Value}(X:K.In h)(G:h.Ns mainGlobals mg)
  (a:PySem.W.nsIn K mainGlobals x=some (some (.ref f))) (l:K.lookup f=some ⟨oc,od,.func (PySem.W.fnOf x x (X7 st) (YU st) (Zl st) .none kV doc pm an cdv ct),osl⟩)
  (c:PySem.W.codeIn K cdv x=true) (k:PySem.W.keepIn K (.ref f)=true):Def K mg x st:=⟨f,_,PySem.W.mg_of X G a,Ic (st:=st) l c k⟩
structure XR(P:Program)(w:World)(K:PySem.W.Frag)(mg:Str->Option Value)(base:Heap)(x:Str)(ps:List Str)(sp:Sp)(k:Nat):Prop where
 ex:∃f fd,mg x=some (.ref f)/\PySem.W.keepIn K (.ref f)=true/\Binds K fd ps []/\UJ P w K mg base Ot k f fd ps sp
section
variable {P:Program} {w:World} {K:PySem.W.Frag} {mg:Str->Option Value} {base:Heap}
theorem Def.cal{x:Str}{st:Stmt}{N ps:List Str}{k:Nat}{sp:Sp}(D:Def K mg x st)(S:ZE N ps (Zl st))
  (hb:∀(kV doc pm:Value)(an:Option Addr)(cdv ct:Value)(us:List Value),us.length=ps.length->bindArgs (PySem.W.fnOf x x (X7 st) (YU st) (Zl st) .none kV doc pm an cdv ct) ⟨us,[]⟩=pure (ps.zip us))
  (len:∀vs H Q E,sp vs H Q E->vs.length=ps.length)
  (hbody:∀(f:Addr)(cdv:Value)(A:Around)(outer:List Env)(s:Shared)(H:Hp)(vs:List V)(Q:VK)(E:XK),Room k (A.deeper (envOfC x (Zl st) s.heap.objs.size f cdv))->sp vs H Q E->
   ∃t,PSs (RI Ot P w K mg base N x (Zl st) f cdv A outer s H E).nox (YU st) t/\t { nx:=fun _ H'=>Q .non H',rt:=Q } (start N vs) H):XR P w K mg base x ps sp (k+1):=by
 obtain⟨f,fd,hm,F⟩:=D.ex
 exact⟨f,fd,hm,F.kp,F.binds hb,F.ok S len fun cdv A outer s H vs Q E hr h=>hbody f cdv A outer s H vs Q E hr h⟩
end
section
variable {X:Cx} {x:Str} {ps:List Str} {sp:Sp} {k:Nat} {e:Expr} {es:List Expr} {t:TA} {p pos:Pos}
theorem Ig(C:XR X.prog X.w X.K X.mg X.base x ps sp k)(hr:Room k X.A)(hg:Gl X x)(ha:PA X (e::es) t)
  (hdb:(x==("__debug__" : Str))=false:=by decide) (he:starEach (e::es) X.env=(false,eval e X.env)::starEach es X.env:=by rfl) (hpl:(backTo pos (starEach es X.env)).any (·.1)=false:=by rfl) :
  PE X (.Call (.Name x p) (e::es) [] pos) (Jd sp [] E0 t):=by
 obtain⟨f,fd,a,b,c,d⟩:=C.ex
 exact LX d hr hg a b c .nil HF ha hdb he hpl
end
def VF(N:List Str)(around scope:Scope)(own fr:List Str)(ix:List Nat):Bool:=
 (match scope.kind with | .function=>true | _=>false)&&scope.names.all (fun y=>y.2 != .cell)&&scope.names.all (fun y=>y.2 != .local || scope.names.lookup y.1==some .local)&&
 scope.names.all (fun y=>y.2 != .free || (around.names.lookup y.1==some .cell || around.names.lookup y.1==some .free))&&(fr.map some==ix.map (fun i=>N[i]?))&&
 fr.all (fun x=>scope.names.contains (x,NameKind.free))&&fr.all (fun x=>scope.names.lookup x != some .local)
theorem Ra{N:List Str}{around scope:Scope}{own fr:List Str}{ix:List Nat}(h:VF N around scope own fr ix=true):CompScope N around scope own fr ix:=by
 unfold VF at h;simp only[Bool.and_eq_true] at h
 obtain⟨⟨⟨⟨⟨⟨h1,h2⟩,h3⟩,h4⟩,h5⟩,h6⟩,h7⟩:=h
 refine⟨?_,fun y hy=>?_,fun y hy e=>?_,fun y hy e=>?_,by simpa using h5,fun x hx=>?_,fun x hx=>?_⟩
 ·split at h1
  ·assumption
  ·cases h1
 ·simpa using List.all_eq_true.mp h2 y hy
 ·have:=List.all_eq_true.mp h3 y hy
  rw[e] at this
  simpa using this
 ·have:=List.all_eq_true.mp h4 y hy
  rw[e] at this
  simpa using this
 ·simpa using List.all_eq_true.mp h6 x hx
 ·simpa using List.all_eq_true.mp h7 x hx
section
variable {X:Cx} {tg elt iter:Expr} {ifs:List Expr} {scope:Scope} {pos:Pos} {wi:TI} {g:TG} {tt:TT} {te:TE}
theorem Qy(own fr:List Str)(ix:List Nat)(hcalm:X.calm=true)(hi:PI X tg iter wi)(S:VF X.N X.env.scope scope own fr ix=true)
  (hg:∀cl C s H ex,PG (ZF X (own++fr) scope cl C s H ex) tg g) (ht:∀cl C s H ex,Mz (ZF X (own++fr) scope cl C s H ex) ifs tt) (he:∀cl C s H ex,PE (ZF X (own++fr) scope cl C s H ex) elt te)
  (hs:∀x,foldedSetIterable iter X.env x=pure x:=by intro _;rfl):PE X (.ListComp elt [⟨tg,iter,ifs,0⟩] scope pos) (S7 own.length ix wi g tt te):=
 Kb hcalm hi (Ra S) hg ht he hs
theorem MB(own fr:List Str)(ix:List Nat){i:Nat}{y:Str}{py spos:Pos}(hN:X.N.Nodup)(hy:X.N[i]?=some y)(hloc:X.env.scope.names.lookup y=some .local)(hcalm:X.calm=true)(hi:PI X tg iter wi)(S:VF X.N X.env.scope scope own fr ix=true)
  (hg:∀cl C s H ex,PG (ZF X (own++fr) scope cl C s H ex) tg g) (ht:∀cl C s H ex,Mz (ZF X (own++fr) scope cl C s H ex) ifs tt) (he:∀cl C s H ex,PE (ZF X (own++fr) scope cl C s H ex) elt te)
  (hsw:swapsWith (.ListComp elt [⟨tg,iter,ifs,0⟩] scope pos) (some (.Name y py)) spos.line X.env=pure true:=by rfl)
  (hs:∀x,foldedSetIterable iter X.env x=pure x:=by intro _;rfl):PS X (.Assign [.Name y py] (.ListComp elt [⟨tg,iter,ifs,0⟩] scope pos) spos) (Nd (S7 own.length ix wi g tt te) (U6 i)):=
 Kc hN hy hloc hcalm hi (Ra S) hg ht he hsw hs
end
structure SE(mg:Str->Option Value):Prop where
 «len» : mg "len" = none
 «sum» : mg "sum" = none
 «range» : mg "range" = none
 «enumerate» : mg "enumerate" = none
 «zip» : mg "zip" = none
 «tuple» : mg "tuple" = none
 «list» : mg "list" = none
 «all» : mg "all" = none
 «any» : mg "any" = none
 «isinstance» : mg "isinstance" = none
 «int» : mg "int" = none
 «bool» : mg "bool" = none
 «str» : mg "str" = none
 «min» : mg "min" = none
 «max» : mg "max" = none
 «sorted» : mg "sorted" = none
 «abs» : mg "abs" = none
 «ValueError» : mg "ValueError" = none
 «reversed» : mg "reversed" = none
abbrev Ih(g:TG)(tb:TS)(D:VZ)(Z:St)(J:It)(H:Hp):Prop:=
 ∃W:Nat->Nat->St->Hp->Prop,(∃m,W 0 m Z H)/\∀i m Z H,W i m Z H->
   (J.stop i H/\D.nx Z H)\/(J.go i H/\∃N:St->Hp->Prop,(∀Z' H',N Z' H'->∃m',m'<m/\W (i+1) m' Z' H')/\∀x H',J.yld i H x H'->g x Z H' fun Z2 H2=>tb { D with nx:=N,ct:=N,bk:=D.nx } Z2 H2)
def Yo(l:List Int)(i:Nat):Int:=l.getD i 0
theorem Rb(l:List Int):(List.range l.length).map (Yo l)=l:=by
 apply List.ext_getElem?
 intro i;rw[List.getElem?_map]
 by_cases h:i<l.length
 ·rw[List.getElem?_eq_getElem (by simpa using h),List.getElem?_eq_getElem h]
  simp[Yo,List.getD_eq_getElem?_getD,List.getElem?_eq_getElem h]
 ·rw[List.getElem?_eq_none (by simpa using h),List.getElem?_eq_none (by omega)];rfl
def Zv(w:List (List Int))(i:Nat):List Int:=w.getD i []
theorem Wl{w:List (List Int)}{i:Nat}(h:i<w.length):w[i]?=some (Zv w i):=by
 unfold Zv
 rw[List.getD_eq_getElem?_getD,List.getElem?_eq_getElem h];rfl
def Yj(w:List (List Int))(i j:Nat):Int:=Yo (Zv w i) j
structure WL(w:List (List Int)):Prop where
 pos:1<=w.length
 few:w.length<=7
 sq:∀i,i<w.length->(Zv w i).length=w.length
 lo:∀i j,i<w.length->j<w.length->0<=Yj w i j
 hi:∀i j,i<w.length->j<w.length->Yj w i j<=9
 sym:∀i j,i<w.length->j<w.length->Yj w i j=Yj w j i
 dia:∀i,i<w.length->Yj w i i=0
def Ii(K:PySem.W.Frag):List V->Hp->VK->Prop:=fun xs H Q=>∃p ys,xs=[.ref p]/\((SqL K H p ys/\∀l,H l=none->Q (.ref l) (upd H l (.tup ys)))\/(SqT K H p ys/\Q (.ref p) H))
theorem Same.off{H Hc:Hp}{p:Addr}(s:Same H Hc)(n:Hc p=none):H p=none:=s.free n
abbrev ZV:=Nat×Nat×Int
def NB(e:ZV):List Yi×V:=([.inl (e.1:Int),.inl (e.2.1:Int)],.int e.2.2)
def dE(ts:List ZV):List (List Yi×V):=ts.map NB
structure DictOk(n:Nat)(ts:List ZV):Prop where
 ok:∀e∈ts,e.1<e.2.1/\e.2.1<n/\1<=e.2.2/\e.2.2<=9
 nd:(ts.map fun e=>(e.1,e.2.1)).Nodup
theorem RT{a b a' b':Nat}(h:([Sum.inl (a:Int),Sum.inl (b:Int)]:List Yi)=[Sum.inl (a':Int),Sum.inl (b':Int)]):a=a'/\b=b':=by
 have h1:=(List.cons.inj h).1
 have h2:=(List.cons.inj (List.cons.inj h).2).1
 have e1:=Sum.inl.inj h1;have e2:=Sum.inl.inj h2;omega
theorem DictOk.nil(n:Nat):DictOk n []:=⟨fun _ h=>by simp at h,by simp⟩
theorem Ke{ts:List ZV}{a b:Nat}:(∀t,(a,b,t)∉ts)->WR (dE ts) [.inl (a:Int),.inl (b:Int)]=none:=by
 intro h;unfold WR dE;rw[Option.map_eq_none_iff,List.find?_eq_none];intro x hx
 obtain⟨e,he,rfl⟩:=List.mem_map.mp hx
 intro q;have q:=of_decide_eq_true q
 obtain⟨h1,h2⟩:=RT q
 obtain⟨a',b',t⟩:=e
 simp only at h1 h2
 subst h1 h2
 exact h t he
theorem Ij{n:Nat}{ts:List ZV}{a b:Nat}{t:Int}(ok:DictOk n ts)(hab:a<b)(hb:b<n)(h1:1<=t)(h9:t<=9) :
  ∃ts',Wk (dE ts) [.inl (a:Int),.inl (b:Int)] (.int t)=dE ts'/\DictOk n ts'/\ts'.length<=ts.length+1:=by
 by_cases hm:∃t',(a,b,t')∈ts
 ·-- it is there: replaced
  obtain⟨t',hm⟩:=hm
  refine⟨ts.map fun e=>if(e.1,e.2.1)=(a,b) then(e.1,e.2.1,t) else e,?_,⟨?_,?_⟩,by simp⟩
  ·unfold Wk
   rw[if_pos ?_]
   ·unfold dE
    rw[List.map_map,List.map_map]
    apply List.map_congr_left
    intro e _
    show(if(NB e).1=_ then((NB e).1,V.int t) else NB e)=NB (if(e.1,e.2.1)=(a,b) then(e.1,e.2.1,t) else e)
    by_cases q:(e.1,e.2.1)=(a,b)
    ·rw[if_pos q,if_pos ?_]
     ·rfl
     ·have:=Prod.mk.inj q
      show([.inl (e.1:Int),.inl (e.2.1:Int)]:List Yi)=_
      rw[this.1,this.2]
    ·rw[if_neg q,if_neg ?_]
     intro z
     obtain⟨h1,h2⟩:=RT (show([.inl (e.1:Int),.inl (e.2.1:Int)]:List Yi)=_ from z)
     exact q (by rw[h1,h2])
   ·rw[List.any_eq_true]
    exact⟨NB (a,b,t'),List.mem_map.mpr ⟨_,hm,rfl⟩,decide_eq_true rfl⟩
  ·intro e he
   obtain⟨e',he',rfl⟩:=List.mem_map.mp he
   have:=ok.ok e' he'
   by_cases q:(e'.1,e'.2.1)=(a,b)
   ·rw[if_pos q];exact⟨this.1,this.2.1,h1,h9⟩
   ·rw[if_neg q];exact this
  ·rw[List.map_map]
   have e:((fun e:ZV=>(e.1,e.2.1)) ∘ fun e:ZV=>if(e.1,e.2.1)=(a,b) then(e.1,e.2.1,t) else e)=fun e:ZV=>(e.1,e.2.1):=by
    funext e
    show((if(e.1,e.2.1)=(a,b) then((e.1,e.2.1,t):ZV) else e).1,(if(e.1,e.2.1)=(a,b) then((e.1,e.2.1,t):ZV) else e).2.1)=_
    by_cases q:(e.1,e.2.1)=(a,b)
    ·rw[if_pos q]
    ·rw[if_neg q]
   rw[e];exact ok.nd
 ·have hn:∀t',(a,b,t')∉ts:=fun t' h=>hm ⟨t',h⟩
  refine⟨ts++[(a,b,t)],?_,⟨?_,?_⟩,by simp⟩
  ·rw[Mv _ (Ke hn)]
   unfold dE
   rw[List.map_append];rfl
  ·intro e he
   rcases List.mem_append.mp he with q | q
   ·exact ok.ok e q
   ·rw[List.mem_singleton.mp q];exact⟨hab,hb,h1,h9⟩
  ·rw[List.map_append]
   refine RN ok.nd ?_
   rw[List.mem_map]
   rintro⟨e,he,q⟩
   obtain⟨a',b',t'⟩:=e
   have:=Prod.mk.inj q
   simp only at this
   rw[this.1,this.2] at he
   exact hn t' he
def YW(M:List (List Int))(a b:Nat)(t:Int):List (List Int):=M.set a ((Zv M a).set b t)
def ZH(M:List (List Int))(e:ZV):List (List Int):=YW (YW M e.1 e.2.1 e.2.2) e.2.1 e.1 e.2.2
def WQ(n:Nat)(ts:List ZV):List (List Int):=ts.foldl ZH (List.replicate n (List.replicate n 0))
structure MatOk(n:Nat)(M:List (List Int)):Prop where
 len:M.length=n
 row:∀i,i<n->(Zv M i).length=n
 lo:∀i j,i<n->j<n->0<=Yj M i j
 hi:∀i j,i<n->j<n->Yj M i j<=9
 sym:∀i j,i<n->j<n->Yj M i j=Yj M j i
 dia:∀i,i<n->Yj M i i=0
theorem Rc{M:List (List Int)}{a i:Nat}{r:List Int}(ha:a<M.length):Zv (M.set a r) i=if a=i then r else Zv M i:=by
 unfold Zv;rw[List.getD_eq_getElem?_getD,List.getD_eq_getElem?_getD,List.getElem?_set]
 by_cases h:a=i
 ·subst h;simp[ha]
 ·simp[h]
theorem Ox{l:List Int}{b j:Nat}{t:Int}(hb:b<l.length):Yo (l.set b t) j=if b=j then t else Yo l j:=by
 unfold Yo;rw[List.getD_eq_getElem?_getD,List.getD_eq_getElem?_getD,List.getElem?_set]
 by_cases h:b=j
 ·subst h;simp[hb]
 ·simp[h]
theorem V6{n:Nat}{M:List (List Int)}{a b i j:Nat}{t:Int}(hl:M.length=n)(hr:∀i,i<n->(Zv M i).length=n)(ha:a<n)(hb:b<n):Yj (YW M a b t) i j=if a=i/\b=j then t else Yj M i j:=by
 show Yo (Zv (M.set a ((Zv M a).set b t)) i) j=_
 rw[Rc (by omega)]
 by_cases h:a=i
 ·subst h
  rw[if_pos rfl,Ox (by rw[hr a ha];exact hb)]
  by_cases q:b=j
  ·rw[if_pos q,if_pos ⟨rfl,q⟩]
  ·rw[if_neg q,if_neg (fun z=>q z.2)];rfl
 ·rw[if_neg h,if_neg (fun z=>h z.1)];rfl
theorem XU{n:Nat}{M:List (List Int)}{a b:Nat}{t:Int}(hl:M.length=n)(hr:∀i,i<n->(Zv M i).length=n)(ha:a<n):(YW M a b t).length=n/\∀i,i<n->(Zv (YW M a b t) i).length=n:=by
 refine⟨by unfold YW;rw[List.length_set];exact hl,fun i hi=>?_⟩
 show(Zv (M.set a ((Zv M a).set b t)) i).length=n
 rw[Rc (by omega)]
 split
 ·rw[List.length_set];exact hr a ha
 ·exact hr i hi
theorem MatOk.step{n:Nat}{M:List (List Int)}{e:ZV}(ok:MatOk n M)(h:e.1<e.2.1/\e.2.1<n/\1<=e.2.2/\e.2.2<=9):MatOk n (ZH M e):=by
 obtain⟨a,b,t⟩:=e
 obtain⟨hab,hb,h1,h9⟩:=h
 simp only at hab hb h1 h9
 have ha:a<n:=by omega
 obtain⟨l1,r1⟩:=XU (t:=t) (b:=b) ok.len ok.row ha
 obtain⟨l2,r2⟩:=XU (t:=t) (b:=a) l1 r1 hb
 have E:∀i j,Yj (YW (YW M a b t) b a t) i j=if b=i/\a=j then t else if a=i/\b=j then t else Yj M i j:=fun i j=>by
  rw[V6 l1 r1 hb ha,V6 ok.len ok.row ha hb]
 refine⟨l2,r2,fun i j hi hj=>?_,fun i j hi hj=>?_,fun i j hi hj=>?_,fun i hi=>?_⟩
 ·show 0<=Yj (YW (YW M a b t) b a t) i j
  rw[E];split
  ·omega
  ·split
   ·omega
   ·exact ok.lo i j hi hj
 ·show Yj (YW (YW M a b t) b a t) i j<=9
  rw[E];split
  ·omega
  ·split
   ·omega
   ·exact ok.hi i j hi hj
 ·show Yj (YW (YW M a b t) b a t) i j=Yj (YW (YW M a b t) b a t) j i
  rw[E,E];have s:=ok.sym i j hi hj
  by_cases q1:b=i/\a=j
  ·rw[if_pos q1]
   obtain⟨rfl,rfl⟩:=q1
   rw[if_neg (by omega),if_pos ⟨rfl,rfl⟩]
  ·rw[if_neg q1]
   by_cases q2:a=i/\b=j
   ·rw[if_pos q2]
    obtain⟨rfl,rfl⟩:=q2
    rw[if_pos ⟨rfl,rfl⟩]
   ·rw[if_neg q2,if_neg (fun z=>q2 ⟨z.2,z.1⟩),if_neg (fun z=>q1 ⟨z.2,z.1⟩),s]
 ·show Yj (YW (YW M a b t) b a t) i i=0
  rw[E,if_neg (by omega),if_neg (by omega)]
  exact ok.dia i hi
theorem MatOk.zero(n:Nat):MatOk n (List.replicate n (List.replicate n 0)):=by
 have r:∀i,i<n->Zv (List.replicate n (List.replicate n (0:Int))) i=List.replicate n 0:=fun i hi=>by
  unfold Zv
  rw[List.getD_eq_getElem?_getD,List.getElem?_replicate,if_pos hi];rfl
 have z:∀i j,i<n->j<n->Yj (List.replicate n (List.replicate n (0:Int))) i j=0:=fun i j hi hj=>by
  show Yo (Zv _ i) j=0
  rw[r i hi];unfold Yo
  rw[List.getD_eq_getElem?_getD,List.getElem?_replicate,if_pos hj];rfl
 exact⟨by simp,fun i hi=>by rw[r i hi];simp,fun i j hi hj=>by rw[z i j hi hj];omega,fun i j hi hj=>by rw[z i j hi hj];omega,fun i j hi hj=>by rw[z i j hi hj,z j i hj hi],fun i hi=>z i i hi hi⟩
theorem Xu{n:Nat}{ts:List ZV}(ok:DictOk n ts):MatOk n (WQ n ts):=by
 have gen:∀(l:List ZV)(M:List (List Int)),(∀e∈l,e.1<e.2.1/\e.2.1<n/\1<=e.2.2/\e.2.2<=9)->MatOk n M->MatOk n (l.foldl ZH M):=by
  intro l
  induction l with
  | nil=>intro M _ h;exact h
  | cons e r ih=>
   intro M h hM;rw[List.foldl_cons]
   exact ih _ (fun e' he'=>h e' (List.mem_cons_of_mem _ he')) (hM.step (h e List.mem_cons_self))
 exact gen ts _ ok.ok (MatOk.zero n)
theorem MatOk.web{n:Nat}{M:List (List Int)}(h:MatOk n M)(h1:1<=n)(h7:n<=7):WL M:=by
 have e:=h.len;subst e
 exact⟨h1,h7,h.row,h.lo,h.hi,h.sym,h.dia⟩
theorem MC{α:Type}(n:Nat)(x:α):(List.replicate n [x]).flatten=List.replicate n x:=by
 induction n with
 | zero=>rfl
 | succ n ih=>rw[List.replicate_succ,List.flatten_cons,ih];rfl
theorem TM{α β:Type}(f:β->α->β)(s:β){l:List α}{i:Nat}{x:α}(h:l[i]?=some x):(l.take (i+1)).foldl f s=f ((l.take i).foldl f s) x:=by
 rw[List.take_add_one,h]
 show List.foldl f s (l.take i++[x])=_
 rw[List.foldl_append];rfl
structure NamesOk(i:Nat)(l:List Int):Prop where
 len:l.length=i
 nd:l.Nodup
 lo:∀x∈l,0<=x
 hi:∀x∈l,x<i
theorem NamesOk.nil:NamesOk 0 []:=⟨rfl,List.nodup_nil,fun _ h=>by simp at h,fun _ h=>by simp at h⟩
theorem NamesOk.ins{i:Nat}{l:List Int}(h:NamesOk i l)(k:Nat):NamesOk (i+1) (l.take k++(i:Int)::l.drop k):=by
 have hp:(l.take k++(i:Int)::l.drop k).Perm ((i:Int)::l):=by
  have:=List.perm_middle (a:=(i:Int)) (l₁:=l.take k) (l₂:=l.drop k)
  rw[List.take_append_drop] at this;exact this
 refine⟨by rw[hp.length_eq,List.length_cons,h.len],?_,fun x hx=>?_,fun x hx=>?_⟩
 ·rw[hp.nodup_iff,List.nodup_cons]
  exact⟨fun hm=>by have:=h.hi _ hm;omega,h.nd⟩
 ·rcases List.mem_cons.mp (hp.mem_iff.mp hx) with e | e
  ·omega
  ·exact h.lo x e
 ·rcases List.mem_cons.mp (hp.mem_iff.mp hx) with e | e
  ·omega
  ·have:=h.hi x e;omega
theorem NamesOk.at{i:Nat}{l:List Int}(h:NamesOk i l){x:Nat}(hx:x<i):0<=Yo l x/\Yo l x<i:=by
 have e:Yo l x=l[x]'(by rw[h.len];exact hx):=by
  unfold Yo
  rw[List.getD_eq_getElem?_getD,List.getElem?_eq_getElem (by rw[h.len];exact hx)];rfl
 rw[e]
 exact⟨h.lo _ (List.getElem_mem _),h.hi _ (List.getElem_mem _)⟩
theorem NamesOk.ne{i:Nat}{l:List Int}(h:NamesOk i l){x y:Nat}(hx:x<i)(hy:y<i)(n:x≠y):Yo l x≠Yo l y:=by
 have ex:Yo l x=l[x]'(by rw[h.len];exact hx):=by
  unfold Yo
  rw[List.getD_eq_getElem?_getD,List.getElem?_eq_getElem (by rw[h.len];exact hx)];rfl
 have ey:Yo l y=l[y]'(by rw[h.len];exact hy):=by
  unfold Yo
  rw[List.getD_eq_getElem?_getD,List.getElem?_eq_getElem (by rw[h.len];exact hy)];rfl
 rw[ex,ey];intro e
 exact n ((List.getElem_inj h.nd).mp e)
theorem lt_size{n:Nat}(h:n<=10000):n<sizeLine:=Nat.lt_of_le_of_lt h (by decide)
end L2
namespace VL
open PySem PySem.Spec PyProof.Rows L2
variable {K:PySem.W.Frag}
inductive PV where
 | non | bl (b:Bool) | int (i:Int) | str (x:Str) | ty (n:String) | exc (n:Str)
 | tup (l:List PV) | lst (l:List PV) | cst (l:List PV)
 | dK (ks:List Yi) (vs:List PV) | dT (ks:List (List Yi)) (vs:List PV)
instance:Inhabited PV:=⟨.non⟩
mutual
/-- nothing in it can be changed -/
def ZR:PV->Bool
 | .tup l=>Zz l
 | .cst l=>Zz l
 | .lst _=>false
 | .dK _ _=>false
 | .dT _ _=>false
 | .non=>true
 | .bl _=>true
 | .int _=>true
 | .str _=>true
 | .ty _=>true
 | .exc _=>true
def Zz:List PV->Bool
 | []=>true
 | x::r=>ZR x&&Zz r
end
theorem XM:∀l:List PV,Zz l=l.all ZR
 | []=>rfl
 | x::r=>by rw[List.all_cons,<-XM r];rfl
def KL(K:PySem.W.Frag)(a:Addr)(xs:List V):Prop:=
 ∃(o:Obj) (its:Array Value) (n:Nat),K.lookup a=some o/\o.cls = .type "list"/\o.dict=none/\o.data = .seq its n/\its.size<=sizeLine/\Vals xs its.toList
def CsK(K:PySem.W.Frag)(H:Hp)(p:Addr)(xs:List V):Prop:=(∃o,H p=some (.frz o (.lst xs)))\/KL K p xs
theorem CsK.sq{K:PySem.W.Frag}{H:Hp}{p:Addr}{xs:List V}(h:CsK K H p xs):SqL K H p xs:=by
 rcases h with h | h
 ·exact .inl (.inr h)
 ·exact .inr h
mutual
/-- v is the tree l in the heap H;fp: the addresses of its lists and dicts -/
def Is(K:PySem.W.Frag)(H:Hp):PV->V->List Addr->Prop
 | .non,v,fp=>v = .non/\fp=[]
 | .bl b,v,fp=>v = .bl b/\fp=[]
 | .int i,v,fp=>v = .int i/\fp=[]
 | .str x,v,fp=>v = .str x/\fp=[]
 | .ty n,v,fp=>v = .ty n/\fp=[]
 | .exc n,v,fp=>(∃e o x C,v = .ref e/\H e=some (.frz o (.own x))/\o.cls = .ref C/\PySem.W.nsIn K mainGlobals n=some (some (.ref C))/\o.dict=none/\∃vs,o.data = .fields vs)/\fp=[]
 | .tup l,v,fp=>∃p xs,v = .ref p/\H p=some (.tup xs)/\Iss K H l xs fp
 | .lst l,v,fp=>∃p xs fq,v = .ref p/\H p=some (.lst xs)/\Iss K H l xs fq/\fp=p::fq
 | .cst l,v,fp=>∃p xs,v = .ref p/\CsK K H p xs/\Iss K H l xs fp
 | .dK ks l,v,fp=>∃p kvs fq,v = .ref p/\Rd H p (.dK kvs)/\kvs.map (·.1)=ks/\Iss K H l (kvs.map (·.2)) fq/\fp=p::fq
 | .dT ks l,v,fp=>∃p kvs fq,v = .ref p/\Rd H p (.dT kvs)/\kvs.map (·.1)=ks/\Iss K H l (kvs.map (·.2)) fq/\fp=p::fq
def Iss(K:PySem.W.Frag)(H:Hp):List PV->List V->List Addr->Prop
 | [],xs,fp=>xs=[]/\fp=[]
 | l::ls,xs,fp=>∃x r f1 f2,xs=x::r/\Is K H l x f1/\Iss K H ls r f2/\fp=f1++f2
end
def RdK(H H':Hp)(p:Addr):Prop:=(∀xs,H p=some (.lst xs)->H' p=some (.lst xs))/\(∀kvs,Rd H p (.dK kvs)->Rd H' p (.dK kvs))/\∀kvs,Rd H p (.dT kvs)->Rd H' p (.dT kvs)
theorem RdK.of{H H':Hp}{p:Addr}(h:∀o,H p=some o->H' p=some o):RdK H H' p:=by
 have r:∀u,Rd H p u->Rd H' p u:=fun u q=>by
  rcases q with q | ⟨o,q⟩
  ·exact .inl (h _ q)
  ·exact .inr ⟨o,h _ q⟩
 exact⟨fun _=>h _,fun _=>r _,fun _=>r _⟩
structure TK2(H H':Hp):Prop where
 tup:TK H H'
 frz:∀b o xs,H b=some (.frz o (.lst xs))->H' b=some (.frz o (.lst xs))
 exc:∀b o x,H b=some (.frz o (.own x))->H' b=some (.frz o (.own x))
theorem Same.tk2{H H':Hp}(s:Same H H'):TK2 H H':=⟨s.tk,fun b o xs h=>s b _ h,fun b o x h=>s b _ h⟩
theorem CsK.tr{K:PySem.W.Frag}{H H':Hp}(t:TK2 H H'){p:Addr}{xs:List V}(h:CsK K H p xs):CsK K H' p xs:=by
 rcases h with⟨o,h⟩ | h
 ·exact .inl ⟨o,t.frz p o xs h⟩
 ·exact .inr h
mutual
theorem Is.tr{H H':Hp}(ht:TK2 H H'):∀(l:PV)(v:V)(fp:List Addr),(∀p∈fp,RdK H H' p)->Is K H l v fp->Is K H' l v fp
 | .non,_,_,_,h=>by simpa only[Is] using h
 | .bl _,_,_,_,h=>by simpa only[Is] using h
 | .int _,_,_,_,h=>by simpa only[Is] using h
 | .str _,_,_,_,h=>by simpa only[Is] using h
 | .ty _,_,_,_,h=>by simpa only[Is] using h
 | .exc _,_,_,_,h=>by
  simp only[Is] at h ⊢
  obtain⟨⟨e,o,x,C,a,b,c⟩,d⟩:=h
  exact⟨⟨e,o,x,C,a,ht.exc e o x b,c⟩,d⟩
 | .tup l,v,fp,hm,h=>by
  simp only[Is] at h ⊢
  obtain⟨p,xs,e,hp,hi⟩:=h
  exact⟨p,xs,e,ht.tup p xs hp,Iss.tr ht l xs fp hm hi⟩
 | .lst l,v,fp,hm,h=>by
  simp only[Is] at h ⊢
  obtain⟨p,xs,fq,e,hr,hi,rfl⟩:=h
  exact⟨p,xs,fq,e,(hm p List.mem_cons_self).1 _ hr,Iss.tr ht l xs fq (fun q hq=>hm q (List.mem_cons_of_mem _ hq)) hi,rfl⟩
 | .cst l,v,fp,hm,h=>by
  simp only[Is] at h ⊢
  obtain⟨p,xs,e,hr,hi⟩:=h
  exact⟨p,xs,e,hr.tr ht,Iss.tr ht l xs fp hm hi⟩
 | .dK ks l,v,fp,hm,h=>by
  simp only[Is] at h ⊢
  obtain⟨p,kvs,fq,e,hr,hk,hi,rfl⟩:=h
  exact⟨p,kvs,fq,e,(hm p List.mem_cons_self).2.1 _ hr,hk,Iss.tr ht l _ fq (fun q hq=>hm q (List.mem_cons_of_mem _ hq)) hi,rfl⟩
 | .dT ks l,v,fp,hm,h=>by
  simp only[Is] at h ⊢
  obtain⟨p,kvs,fq,e,hr,hk,hi,rfl⟩:=h
  exact⟨p,kvs,fq,e,(hm p List.mem_cons_self).2.2 _ hr,hk,Iss.tr ht l _ fq (fun q hq=>hm q (List.mem_cons_of_mem _ hq)) hi,rfl⟩
theorem Iss.tr{H H':Hp}(ht:TK2 H H'):∀(l:List PV)(xs:List V)(fp:List Addr),(∀p∈fp,RdK H H' p)->Iss K H l xs fp->Iss K H' l xs fp
 | [],_,_,_,h=>by simpa only[Iss] using h
 | l::ls,xs,fp,hm,h=>by
  simp only[Iss] at h ⊢
  obtain⟨x,r,f1,f2,e,h1,h2,rfl⟩:=h
  exact⟨x,r,f1,f2,e,Is.tr ht l x f1 (fun q hq=>hm q (List.mem_append_left _ hq)) h1,Iss.tr ht ls r f2 (fun q hq=>hm q (List.mem_append_right _ hq)) h2,rfl⟩
end
theorem Is.mono{H H':Hp}(s:Same H H'){l:PV}{v:V}{fp:List Addr}(h:Is K H l v fp):Is K H' l v fp:=Is.tr (Same.tk2 s) l v fp (fun p _=>RdK.of fun o q=>s p o q) h
theorem Iss.mono{H H':Hp}(s:Same H H'){l:List PV}{v:List V}{fp:List Addr}(h:Iss K H l v fp):Iss K H' l v fp:=Iss.tr (Same.tk2 s) l v fp (fun p _=>RdK.of fun o q=>s p o q) h
mutual
theorem Is.pure{H:Hp}:∀(l:PV)(v:V)(fp:List Addr),ZR l=true->Is K H l v fp->fp=[]
 | .non,_,_,_,h=>by simp only[Is] at h;exact h.2
 | .bl _,_,_,_,h=>by simp only[Is] at h;exact h.2
 | .int _,_,_,_,h=>by simp only[Is] at h;exact h.2
 | .str _,_,_,_,h=>by simp only[Is] at h;exact h.2
 | .ty _,_,_,_,h=>by simp only[Is] at h;exact h.2
 | .exc _,_,_,_,h=>by simp only[Is] at h;exact h.2
 | .tup l,v,fp,hp,h=>by
  simp only[Is] at h
  obtain⟨p,xs,e,_,hi⟩:=h
  exact Iss.pure l xs fp (by simpa only[ZR] using hp) hi
 | .lst l,v,fp,hp,h=>by simp[ZR] at hp
 | .cst l,v,fp,hp,h=>by
  simp only[Is] at h
  obtain⟨p,xs,e,_,hi⟩:=h
  exact Iss.pure l xs fp (by simpa only[ZR] using hp) hi
 | .dK ks l,v,fp,hp,h=>by simp[ZR] at hp
 | .dT ks l,v,fp,hp,h=>by simp[ZR] at hp
theorem Iss.pure{H:Hp}:∀(l:List PV)(xs:List V)(fp:List Addr),Zz l=true->Iss K H l xs fp->fp=[]
 | [],_,_,_,h=>by simp only[Iss] at h;exact h.2
 | l::ls,xs,fp,hp,h=>by
  simp only[Iss] at h;simp only[Zz,Bool.and_eq_true] at hp
  obtain⟨x,r,f1,f2,e,h1,h2,rfl⟩:=h
  rw[Is.pure l x f1 hp.1 h1,Iss.pure ls r f2 hp.2 h2];rfl
end
section
variable {H H':Hp}
theorem Iss.len:∀{l:List PV}{xs:List V}{fp:List Addr},Iss K H l xs fp->xs.length=l.length
 | [],xs,fp,h=>by simp only[Iss] at h;rw[h.1];rfl
 | l::ls,xs,fp,h=>by
  simp only[Iss] at h
  obtain⟨x,r,f1,f2,rfl,_,h2,_⟩:=h
  rw[List.length_cons,List.length_cons,h2.len]
theorem Iss.get:∀{l:List PV}{xs:List V}{fp:List Addr}{i:Nat}{a:PV},Iss K H l xs fp->l[i]?=some a->∃x f1,xs[i]?=some x/\Is K H a x f1/\∀p∈f1,p∈fp
 | [],xs,fp,i,a,h,e=>by simp at e
 | l::ls,xs,fp,0,a,h,e=>by
  simp only[Iss] at h
  obtain⟨x,r,f1,f2,rfl,h1,_,rfl⟩:=h
  simp at e;subst e
  exact⟨x,f1,rfl,h1,fun p hp=>List.mem_append_left _ hp⟩
 | l::ls,xs,fp,i+1,a,h,e=>by
  simp only[Iss] at h
  obtain⟨x,r,f1,f2,rfl,_,h2,rfl⟩:=h
  obtain⟨y,g,h3,h4,h5⟩:=h2.get (i:=i) (a:=a) (by simpa using e)
  exact⟨y,g,by simpa using h3,h4,fun p hp=>List.mem_append_right _ (h5 p hp)⟩
theorem Iss.get'{l:List PV}{xs:List V}{fp:List Addr}{i:Nat}{x:V}(h:Iss K H l xs fp)(e:xs[i]?=some x):∃a f1,l[i]?=some a/\Is K H a x f1/\∀p∈f1,p∈fp:=by
 have hi:i<l.length:=by rw[<-h.len];exact(List.getElem?_eq_some_iff.mp e).1
 obtain⟨y,f1,h1,h2,h3⟩:=h.get (List.getElem?_eq_getElem hi)
 rw[e] at h1;cases h1
 exact⟨_,f1,List.getElem?_eq_getElem hi,h2,h3⟩
theorem Iss.nil:Iss K H [] [] []:=by simp[Iss]
theorem Iss.cons{l:PV}{ls:List PV}{x:V}{xs:List V}{f1 f2:List Addr}(h1:Is K H l x f1)(h2:Iss K H ls xs f2):Iss K H (l::ls) (x::xs) (f1++f2):=by
 simp only[Iss];exact⟨x,xs,f1,f2,rfl,h1,h2,rfl⟩
theorem Iss.inv{l:PV}{ls:List PV}{xs:List V}{fp:List Addr}(h:Iss K H (l::ls) xs fp):∃x r f1 f2,xs=x::r/\Is K H l x f1/\Iss K H ls r f2/\fp=f1++f2:=by
 simpa only[Iss] using h
theorem Iss.append:∀{l m:List PV}{xs ys:List V}{f1 f2:List Addr},Iss K H l xs f1->Iss K H m ys f2->Iss K H (l++m) (xs++ys) (f1++f2)
 | [],m,xs,ys,f1,f2,h,h'=>by
  simp only[Iss] at h
  rw[h.1,h.2];exact h'
 | l::ls,m,xs,ys,f1,f2,h,h'=>by
  obtain⟨x,r,g1,g2,rfl,a,b,rfl⟩:=h.inv
  rw[List.append_assoc]
  exact Iss.cons a (b.append h')
theorem Iss.one{l:PV}{x:V}{f:List Addr}(h:Is K H l x f):Iss K H [l] [x] f:=by
 have:=Iss.cons h (Iss.nil (H:=H))
 rwa [List.append_nil] at this
theorem Iss.take:∀{l:List PV}{xs:List V}{fp:List Addr}(n:Nat),Iss K H l xs fp->∃f1,Iss K H (l.take n) (xs.take n) f1/\∀p∈f1,p∈fp
 | l,xs,fp,0,h=>⟨[],by rw[List.take_zero,List.take_zero];exact Iss.nil,fun p hp=>by simp at hp⟩
 | [],xs,fp,n+1,h=>by
  simp only[Iss] at h;rw[h.1]
  exact⟨[],by rw[List.take_nil,List.take_nil];exact Iss.nil,fun p hp=>by simp at hp⟩
 | l::ls,xs,fp,n+1,h=>by
  obtain⟨x,r,f1,f2,rfl,h1,h2,rfl⟩:=h.inv
  obtain⟨f3,a,b⟩:=h2.take n
  refine⟨f1++f3,Iss.cons h1 a,fun p hp=>?_⟩
  rcases List.mem_append.mp hp with h | h
  ·exact List.mem_append_left _ h
  ·exact List.mem_append_right _ (b p h)
theorem Iss.drop:∀{l:List PV}{xs:List V}{fp:List Addr}(n:Nat),Iss K H l xs fp->∃f1,Iss K H (l.drop n) (xs.drop n) f1/\∀p∈f1,p∈fp
 | l,xs,fp,0,h=>⟨fp,h,fun p hp=>hp⟩
 | [],xs,fp,n+1,h=>by
  simp only[Iss] at h;rw[h.1]
  exact⟨[],by rw[List.drop_nil,List.drop_nil];exact Iss.nil,fun p hp=>by simp at hp⟩
 | l::ls,xs,fp,n+1,h=>by
  obtain⟨x,r,f1,f2,rfl,h1,h2,rfl⟩:=h.inv
  obtain⟨f3,a,b⟩:=h2.drop n
  exact⟨f3,a,fun p hp=>List.mem_append_right _ (b p hp)⟩
theorem Iss.setP:∀{l:List PV}{xs:List V}{a:PV}{x:V}(i:Nat),Zz l=true->ZR a=true->Iss K H l xs []->Is K H a x []->Iss K H (l.set i a) (xs.set i x) []
 | [],xs,a,x,i,_,_,h,_=>by
  simp only[Iss] at h
  rw[h.1];simp only[List.set_nil];exact Iss.nil
 | l::ls,xs,a,x,0,hp,_,h,ha=>by
  simp only[Zz,Bool.and_eq_true] at hp
  obtain⟨y,r,f1,f2,rfl,_,h2,e⟩:=h.inv
  have e2:=Iss.pure _ _ _ hp.2 h2;subst e2
  exact Iss.cons (f1:=[]) ha h2
 | l::ls,xs,a,x,i+1,hp,hq,h,ha=>by
  simp only[Zz,Bool.and_eq_true] at hp
  obtain⟨y,r,f1,f2,rfl,h1,h2,e⟩:=h.inv
  have e1:=Is.pure _ _ _ hp.1 h1;have e2:=Iss.pure _ _ _ hp.2 h2
  subst e1 e2
  exact Iss.cons (f1:=[]) h1 (Iss.setP i hp.2 hq h2 ha)
theorem Is.int_inv{i:Int}{v:V}{fp:List Addr}(h:Is K H (.int i) v fp):v = .int i/\fp=[]:=by simpa only[Is] using h
theorem Is.int(i:Int):Is K H (.int i) (.int i) []:=by simp[Is]
theorem Is.bl(i:Bool):Is K H (.bl i) (.bl i) []:=by simp[Is]
theorem Is.non:Is K H .non .non []:=by simp[Is]
theorem Is.str(x:Str):Is K H (.str x) (.str x) []:=by simp[Is]
theorem Is.ty(n:String):Is K H (.ty n) (.ty n) []:=by simp[Is]
theorem Is.bl_inv{i:Bool}{v:V}{fp:List Addr}(h:Is K H (.bl i) v fp):v = .bl i/\fp=[]:=by simpa only[Is] using h
theorem Is.str_inv{i:Str}{v:V}{fp:List Addr}(h:Is K H (.str i) v fp):v = .str i/\fp=[]:=by simpa only[Is] using h
theorem Is.non_inv{v:V}{fp:List Addr}(h:Is K H .non v fp):v = .non/\fp=[]:=by simpa only[Is] using h
theorem Is.ty_inv{n:String}{v:V}{fp:List Addr}(h:Is K H (.ty n) v fp):v = .ty n/\fp=[]:=by simpa only[Is] using h
theorem Is.tup_inv{l:List PV}{v:V}{fp:List Addr}(h:Is K H (.tup l) v fp):∃p xs,v = .ref p/\H p=some (.tup xs)/\Iss K H l xs fp:=by simpa only[Is] using h
theorem Is.tup{l:List PV}{p:Addr}{xs:List V}{fp:List Addr}(h:H p=some (.tup xs))(hi:Iss K H l xs fp):Is K H (.tup l) (.ref p) fp:=by simp only[Is];exact⟨p,xs,rfl,h,hi⟩
theorem Is.lst_inv{l:List PV}{v:V}{fp:List Addr}(h:Is K H (.lst l) v fp):∃p xs fq,v = .ref p/\H p=some (.lst xs)/\Iss K H l xs fq/\fp=p::fq:=by simpa only[Is] using h
theorem Is.lst{l:List PV}{p:Addr}{xs:List V}{fp:List Addr}(h:H p=some (.lst xs))(hi:Iss K H l xs fp):Is K H (.lst l) (.ref p) (p::fp):=by
 simp only[Is];exact⟨p,xs,fp,rfl,h,hi,rfl⟩
theorem Is.cst_inv{l:List PV}{v:V}{fp:List Addr}(h:Is K H (.cst l) v fp):∃p xs,v = .ref p/\CsK K H p xs/\Iss K H l xs fp:=by simpa only[Is] using h
theorem Is.cst{l:List PV}{p:Addr}{xs:List V}{fp:List Addr}(h:CsK K H p xs)(hi:Iss K H l xs fp):Is K H (.cst l) (.ref p) fp:=by
 simp only[Is];exact⟨p,xs,rfl,h,hi⟩
theorem Is.dT_inv{ks:List (List Yi)}{l:List PV}{v:V}{fp:List Addr}(h:Is K H (.dT ks l) v fp):∃p kvs fq,v = .ref p/\Rd H p (.dT kvs)/\kvs.map (·.1)=ks/\Iss K H l (kvs.map (·.2)) fq/\fp=p::fq:=by simpa only[Is] using h
theorem Is.dT{ks:List (List Yi)}{l:List PV}{p:Addr}{kvs:List (List Yi×V)}{fp:List Addr}(h:H p=some (.dT kvs))(hk:kvs.map (·.1)=ks)(hi:Iss K H l (kvs.map (·.2)) fp):Is K H (.dT ks l) (.ref p) (p::fp):=by
 simp only[Is];exact⟨p,kvs,fp,rfl,.inl h,hk,hi,rfl⟩
theorem Is.dK_inv{ks:List Yi}{l:List PV}{v:V}{fp:List Addr}(h:Is K H (.dK ks l) v fp):∃p kvs fq,v = .ref p/\Rd H p (.dK kvs)/\kvs.map (·.1)=ks/\Iss K H l (kvs.map (·.2)) fq/\fp=p::fq:=by simpa only[Is] using h
theorem Is.dK{ks:List Yi}{l:List PV}{p:Addr}{kvs:List (Yi×V)}{fp:List Addr}(h:H p=some (.dK kvs))(hk:kvs.map (·.1)=ks)(hi:Iss K H l (kvs.map (·.2)) fp):Is K H (.dK ks l) (.ref p) (p::fp):=by
 simp only[Is];exact⟨p,kvs,fp,rfl,.inl h,hk,hi,rfl⟩
end
abbrev iL(l:List Int):List PV:=l.map PV.int
theorem Xa(l:List Int):Zz (iL l)=true:=by
 rw[XM,List.all_eq_true];intro x hx
 obtain⟨i,_,rfl⟩:=List.mem_map.mp hx
 rfl
theorem Iss.iL{H:Hp}:∀{l:List Int}{xs:List V}{fp:List Addr},Iss K H (VL.iL l) xs fp->xs=l.map V.int/\fp=[]
 | [],xs,fp,h=>by simpa only[VL.iL,List.map_nil,Iss] using h
 | i::l,xs,fp,h=>by
  obtain⟨x,r,f1,f2,rfl,h1,h2,rfl⟩:=Iss.inv (show Iss K H (PV.int i::VL.iL l) xs fp from h)
  obtain⟨rfl,rfl⟩:=h1.int_inv
  obtain⟨rfl,rfl⟩:=h2.iL
  exact⟨rfl,rfl⟩
theorem Iss.ofInts{H:Hp}:∀(l:List Int),Iss K H (VL.iL l) (l.map V.int) []
 | []=>Iss.nil
 | i::l=>Iss.cons (f1:=[]) (Is.int i) (Iss.ofInts l)
end VL
namespace VL
open PySem PySem.Spec PyProof.Rows L2
variable {K:PySem.W.Frag}
abbrev UP:=L2.St
abbrev ZG:=List (Option PV)
abbrev XE:=ZG->Option PV
structure EnvIs(K:PySem.W.Frag)(Rm:Addr->Prop)(H:Hp)(s:ZG)(Z:UP):Prop where
 is:∀(i:Nat) l,s[i]?=some (some l)->∃v fp,Z[i]?=some (some v)/\Is K H l v fp/\∀p∈fp,¬Rm p
theorem EnvIs.mono{Rm:Addr->Prop}{H H':Hp}{s:ZG}{Z:UP}(h:EnvIs K Rm H s Z)(e:Same H H'):EnvIs K Rm H' s Z:=⟨fun i l q=>by
 obtain⟨v,fp,a,b,c⟩:=h.is i l q
 exact⟨v,fp,a,b.mono e,c⟩⟩
theorem EnvIs.free{Rm:Addr->Prop}{H:Hp}{s:ZG}{Z:UP}(h:EnvIs K Rm H s Z):EnvIs K (fun _=>False) H s Z:=⟨fun i l q=>by
 obtain⟨v,fp,a,b,c⟩:=h.is i l q
 exact⟨v,fp,a,b,fun _ _ z=>z⟩⟩
theorem Same.mut{H H':Hp}(e:Same H H'){p:Addr}(h:Wj (H p)):Wj (H' p):=by
 cases q:H p with
 | none=>rw[q] at h;exact h.elim
 | some o=>rw[e p o q,<-q];exact h
theorem Yy{H:Hp}{p:Addr}(h:Wj (H p)):H p≠none:=fun z=>by rw[z] at h;exact h
def tF(K:PySem.W.Frag)(f:XE):TE:=fun Z H Q=>∃(Rm:Addr->Prop) (s:ZG) (l:PV),(∀p,Rm p->Wj (H p))/\EnvIs K Rm H s Z/\f s=some l/\∀v H' fp,Same H H'->Is K H' l v fp->(∀p∈fp,¬Rm p)->Q v H'
def tM(K:PySem.W.Frag)(f:XE):TE:=fun Z H Q=>∃(s:ZG) (l:PV),EnvIs K (fun _=>False) H s Z/\f s=some l/\∀v H' fp,Same H H'->Is K H' l v fp->fp.Nodup->(∀p∈fp,H p=none/\Wj (H' p))->Q v H'
def VE(X:Cx)(e:Expr)(f:XE):Prop:=PE X e (tF X.K f)
def VM(X:Cx)(e:Expr)(f:XE):Prop:=PE X e (tM X.K f)
section
variable {X:Cx} {e:Expr} {f g:XE} {t t':TE}
theorem PE.imp(h:PE X e t)(i:∀Z H Q,t' Z H Q->t Z H Q):PE X e t':=fun pins s Z H Q I q=>h pins s Z H Q I (i Z H Q q)
theorem VM.ve(h:VM X e f):VE X e f:=PE.imp h fun Z H Q ⟨Rm,s,l,hd,env,e,k⟩=>
 ⟨s,l,env.free,e,fun v H' fp sm i _ n=>k v H' fp sm i fun p hp z=>Yy (hd p z) (n p hp).1⟩
def eP(f:XE):XE:=fun s=>(f s).bind fun l=>if ZR l=true then some l else none
theorem Kf{s:ZG}{l:PV}(h:eP f s=some l):f s=some l/\ZR l=true:=by
 unfold eP at h
 cases q:f s with
 | none=>rw[q] at h;cases h
 | some a=>
  rw[q] at h;simp only[Option.bind_some] at h
  split at h
  ·cases h;exact⟨rfl,by assumption⟩
  ·cases h
theorem VE.pure(h:VE X e f):VM X e (eP f):=PE.imp h fun Z H Q ⟨s,l,env,e,k⟩=>by
 obtain⟨e1,e2⟩:=Kf e
 refine⟨fun _=>False,s,l,fun _ z=>z.elim,env,e1,fun v H' fp sm i n=>?_⟩
 have:=Is.pure l v fp e2 i
 subst this
 exact k v H' [] sm i List.nodup_nil fun p hp=>by simp at hp
end
def Za(i:Nat):XE:=fun s=>(s[i]?).join
def eC(l:PV):XE:=fun _=>some l
theorem UQ{i:Nat}{s:ZG}{l:PV}(h:Za i s=some l):s[i]?=some (some l):=by
 unfold Za at h
 cases q:s[i]? with
 | none=>rw[q] at h;cases h
 | some o=>rw[q] at h;cases o with
  | none=>cases h
  | some a=>cases h;rfl
section
variable {X:Cx} {pos:Pos}
theorem Zc{e:Expr}{i:Nat}(h:PE X e (UA i)):VE X e (Za i):=PE.imp h fun Z H Q ⟨Rm,s,l,hd,env,e,k⟩=>by
 obtain⟨v,fp,a,b,c⟩:=env.is i l (UQ e)
 exact⟨v,a,k v H fp (Same.refl H) b c⟩
theorem NC{e:Expr}{v:V}{l:PV}(h:PE X e (tC v))(hv:∀H,Is X.K H l v []):VE X e (eC l):=PE.imp h fun Z H Q ⟨Rm,s,l',hd,env,e,k⟩=>by
 cases e
 exact k v H [] (Same.refl H) (hv H) fun p hp=>by simp at hp
theorem Zh{i j}:VE X (.Constant (.int i) j pos) (eC (.int i)):=NC JD fun _=>Is.int i
theorem TN{i j}:VE X (.Constant (.bool i) j pos) (eC (.bl i)):=NC IY fun _=>Is.bl i
theorem YX{i j}:VE X (.Constant (.str i) j pos) (eC (.str i)):=NC JF fun _=>Is.str i
end
def RB(K:PySem.W.Frag)(r:R2)(g:PV->PV->Option PV):Prop:=∀(H:Hp)(x y:V)(a b l:PV)(fa fb:List Addr),Is K H a x fa->Is K H b y fb->g a b=some l->∀Q:VK,
 (∀v H' fp,Same H H'->Is K H' l v fp->(∀p∈fp,p∈fa\/p∈fb\/H p=none)->Q v H')->r x y H Q
def Zi(g:PV->PV->Option PV)(a b:XE):XE:=fun s=>(a s).bind fun x=>(b s).bind fun y=>g x y
theorem Wm{g:PV->PV->Option PV}{a b:XE}{s:ZG}{l:PV}(h:Zi g a b s=some l):∃x y,a s=some x/\b s=some y/\g x y=some l:=by
 unfold Zi at h
 cases q:a s with
 | none=>rw[q] at h;cases h
 | some x=>cases q2:b s with
  | none=>rw[q,q2] at h;cases h
  | some y=>rw[q,q2] at h;exact⟨x,y,rfl,rfl,h⟩
section
variable {X:Cx} {a b:Expr} {fa fb:XE} {pos:Pos}
theorem Oy{r:R2}{g:PV->PV->Option PV}(hr:RB K r g):∀Z H Q,tF K (Zi g fa fb) Z H Q->JT r (tF K fa) (tF K fb) Z H Q:=fun Z H Q ⟨Rm,s,l,hd,env,e,k⟩=>by
 obtain⟨x',y',ex,ey,e⟩:=Wm e
 refine⟨Rm,s,x',hd,env,ex,fun x H1 f1 s1 i1 n1=>⟨Rm,s,y',fun p hp=>Same.mut s1 (hd p hp),env.mono s1,ey,fun y H2 f2 s2 i2 n2=>?_⟩⟩
 refine hr H2 x y x' y' l f1 f2 (i1.mono s2) i2 e Q fun v H3 fp s3 i3 n3=>k v H3 fp (s1.trans (s2.trans s3)) i3 fun p hp z=>?_
 rcases n3 p hp with h | h | h
 ·exact n1 p h z
 ·exact n2 p h z
 ·exact Yy (Same.mut (s1.trans s2) (hd p z)) h
theorem Vy{op:Operator}{r:R2}{g:PV->PV->Option PV}(ho:Wt X (binaryOp op) r)(hr:RB X.K r g)(ha:VE X a fa)(hb:VE X b fb):VE X (.BinOp a op b pos) (Zi g fa fb):=
 PE.imp (Mq ho ha hb) (Oy hr)
theorem Pj{op:CmpOp}{r:R2}{g:PV->PV->Option PV}(ho:Wt X (compareOp op) r)(hr:RB X.K r g)(ha:VE X a fa)(hb:VE X b fb)(hm:behindInMarks op b=false):VE X (.Compare a [op] [b] pos) (Zi g fa fb):=
 PE.imp (LS ho ha hb hm) (Oy hr)
theorem HM{r:R2}{g:PV->PV->Option PV}(ho:IxR X r)(hr:RB X.K r g)(ha:VE X a fa)(hb:VE X b fb)(hs:RK b):VE X (.Subscript a b pos) (Zi g fa fb):=
 PE.imp (S2 ho ha hb hs) (Oy hr)
end
def gI(g:Int->Int->Int):PV->PV->Option PV
 | .int i,.int j=>some (.int (g i j))
 | _,_=>none
def gB(g:Int->Int->Bool):PV->PV->Option PV
 | .int i,.int j=>some (.bl (g i j))
 | _,_=>none
def Ik(C:Int->Int->Prop)[∀i j,Decidable (C i j)](g:Int->Int->Int):PV->PV->Option PV
 | .int i,.int j=>if C i j then some (.int (g i j)) else none
 | _,_=>none
theorem Oz{g:Int->Int->Int}{a b l:PV}(h:gI g a b=some l):∃i j,a = .int i/\b = .int j/\l = .int (g i j):=by
 unfold gI at h;split at h
 ·cases h;exact⟨_,_,rfl,rfl,rfl⟩
 ·cases h
theorem Kg{g:Int->Int->Bool}{a b l:PV}(h:gB g a b=some l):∃i j,a = .int i/\b = .int j/\l = .bl (g i j):=by
 unfold gB at h;split at h
 ·cases h;exact⟨_,_,rfl,rfl,rfl⟩
 ·cases h
theorem MD{C:Int->Int->Prop}[∀i j,Decidable (C i j)]{g:Int->Int->Int}{a b l:PV}(h:Ik C g a b=some l):∃i j,a = .int i/\b = .int j/\C i j/\l = .int (g i j):=by
 unfold Ik at h;split at h
 ·split at h
  ·cases h;exact⟨_,_,rfl,rfl,by assumption,rfl⟩
  ·cases h
 ·cases h
theorem HN(g:Int->Int->Int):RB K (LQ fun i j=>.int (g i j)) (gI g):=fun H x y a b l fa fb ha hb e Q k=>by
 obtain⟨i,j,rfl,rfl,rfl⟩:=Oz e
 exact⟨i,j,ha.int_inv.1,hb.int_inv.1,k _ H [] (Same.refl H) (Is.int _) fun p hp=>by simp at hp⟩
theorem UR(g:Int->Int->Bool):RB K (LQ fun i j=>.bl (g i j)) (gB g):=fun H x y a b l fa fb ha hb e Q k=>by
 obtain⟨i,j,rfl,rfl,rfl⟩:=Kg e
 exact⟨i,j,ha.int_inv.1,hb.int_inv.1,k _ H [] (Same.refl H) (Is.bl _) fun p hp=>by simp at hp⟩
theorem ME(C:Int->Int->Prop)[∀i j,Decidable (C i j)](g:Int->Int->Int):RB K (rI C fun i j=>.int (g i j)) (Ik C g):=fun H x y a b l fa fb ha hb e Q k=>by
 obtain⟨i,j,rfl,rfl,c,rfl⟩:=MD e
 exact⟨i,j,ha.int_inv.1,hb.int_inv.1,c,k _ H [] (Same.refl H) (Is.int _) fun p hp=>by simp at hp⟩
instance (i j:Int):Decidable (CMul i j):=by unfold CMul;infer_instance
instance (i j:Int):Decidable (VD i j):=by unfold VD;infer_instance
instance (i j:Int):Decidable (Jc i j):=by unfold Jc;infer_instance
instance (i j:Int):Decidable (Hs i j):=by unfold Hs;infer_instance
abbrev Z4:=gI (· + ·)
abbrev WN:=gI (· - ·)
abbrev Kh:=Ik CMul (· * ·)
abbrev YG:=Ik VD (· / ·)
abbrev YH:=Ik (fun _ j=>0<j) (· % ·)
abbrev OA:=gB (fun i j=>decide (i<j))
abbrev Qz:=gB (fun i j=>decide (i<=j))
abbrev Tg:=gB (fun i j=>decide (j<i))
section
variable {X:Cx} {a b:Expr} {fa fb:XE} {pos:Pos}
theorem Y6(ha:VE X a fa)(hb:VE X b fb):VE X (.BinOp a .Add b pos) (Zi Z4 fa fb):=Vy JW (HN _) ha hb
theorem VG(ha:VE X a fa)(hb:VE X b fb):VE X (.BinOp a .Sub b pos) (Zi WN fa fb):=Vy JX (HN _) ha hb
theorem Il(ha:VE X a fa)(hb:VE X b fb):VE X (.BinOp a .Mult b pos) (Zi Kh fa fb):=Vy JY (ME _ _) ha hb
theorem YI(ha:VE X a fa)(hb:VE X b fb):VE X (.BinOp a .FloorDiv b pos) (Zi YG fa fb):=Vy LR (ME _ _) ha hb
theorem Xv(ha:VE X a fa)(hb:VE X b fb):VE X (.BinOp a .Mod b pos) (Zi YH fa fb):=Vy JZ (ME _ _) ha hb
end
def ZS:PV->PV->Option PV
 | .str i,.str j=>if i.length+j.length<=sizeLine then some (.str (i++j)) else none
 | _,_=>none
theorem V7:RB K (fun x y H Q=>∃i j,x = .str i/\y = .str j/\i.length+j.length<=sizeLine/\Q (.str (i++j)) H) ZS:=fun H x y a b l fa fb ha hb e Q k=>by
 unfold ZS at e;split at e
 ·split at e
  ·cases e
   exact⟨_,_,ha.str_inv.1,hb.str_inv.1,by assumption,k _ H [] (Same.refl H) (Is.str _) fun p hp=>by simp at hp⟩
  ·cases e
 ·cases e
def ZI:PV->PV->Option PV
 | .lst l,.int i=>X6 l i
 | .cst l,.int i=>X6 l i
 | .tup l,.int i=>X6 l i
 | .str z,.int i=>if z.length<=sizeLine then(X6 z.cps.toList i).map fun c=>.str ⟨#[c]⟩ else none
 | _,_=>none
theorem Pk{l:List PV}{xs:List V}{H:Hp}{fp:List Addr}{i:Int}{a:PV}(h:Iss K H l xs fp)(e:X6 l i=some a):∃x f1,X6 xs i=some x/\Is K H a x f1/\∀p∈f1,p∈fp:=by
 unfold X6 at e ⊢
 rw[h.len]
 cases q:Of l.length i with
 | none=>rw[q] at e;cases e
 | some j=>rw[q] at e;exact h.get e
theorem HP:RB K (G1 K) ZI:=fun H x y a b l fa fb ha hb e Q k=>by
 unfold ZI at e;split at e
 ·obtain⟨p,xs,fq,rfl,hp,hi,rfl⟩:=ha.lst_inv
  obtain⟨z,f1,h1,h2,h3⟩:=Pk hi e
  exact .inl ⟨p,xs,_,z,rfl,hb.int_inv.1,SqL.of hp,h1,k z H f1 (Same.refl H) h2 fun q hq=>.inl (List.mem_cons_of_mem _ (h3 q hq))⟩
 ·obtain⟨p,xs,rfl,hp,hi⟩:=ha.cst_inv
  obtain⟨z,f1,h1,h2,h3⟩:=Pk hi e
  exact .inl ⟨p,xs,_,z,rfl,hb.int_inv.1,hp.sq,h1,k z H f1 (Same.refl H) h2 fun q hq=>.inl (h3 q hq)⟩
 ·obtain⟨p,xs,rfl,hp,hi⟩:=ha.tup_inv
  obtain⟨z,f1,h1,h2,h3⟩:=Pk hi e
  exact .inr (.inl ⟨p,xs,_,z,rfl,hb.int_inv.1,SqT.of hp,h1,k z H f1 (Same.refl H) h2 fun q hq=>.inl (h3 q hq)⟩)
 ·split at e
  ·cases q:X6 _ _ with
   | none=>rw[q] at e;cases e
   | some c=>
    rw[q] at e;cases e
    exact .inr (.inr ⟨_,_,c,ha.str_inv.1,hb.int_inv.1,by assumption,q,k _ H [] (Same.refl H) (Is.str _) fun p hp=>by simp at hp⟩)
  ·cases e
 ·cases e
section
variable {X:Cx} {a b:Expr} {fa fb:XE} {pos:Pos}
theorem Zq(ha:VE X a fa)(hb:VE X b fb)(hs:RK b:=by exact fun _ _=>rfl):VE X (.Subscript a b pos) (Zi ZI fa fb):=HM J5 HP ha hb hs
end
abbrev XT:=ZG->Option Bool
def Q8(K:PySem.W.Frag)(f:XT):TT:=fun Z H Q=>∃(Rm:Addr->Prop) (s:ZG) (c:Bool),(∀p,Rm p->Wj (H p))/\EnvIs K Rm H s Z/\f s=some c/\∀H',Same H H'->Q c H'
def VT(X:Cx)(e:Expr)(f:XT):Prop:=PT X e (Q8 X.K f)
def VW(X:Cx)(e:Expr)(f:XT):Prop:=PW X e (Q8 X.K f)
section
variable {X:Cx} {e:Expr} {f:XT}
theorem PT.imp{t t':TT}(h:PT X e t)(i:∀Z H Q,t' Z H Q->t Z H Q):PT X e t':=fun pins s Z H Q I q=>h pins s Z H Q I (i Z H Q q)
theorem PW.imp{t t':TT}(h:PW X e t)(i:∀Z H Q,t' Z H Q->t Z H Q):PW X e t':=fun whole pins s Z H Q I q=>h whole pins s Z H Q I (i Z H Q q)
theorem VW.vt(h:VW X e f):VT X e f:=PW.pt h
end
def xB(f:XE):XT:=fun s=>match f s with | some (.bl c)=>some c | _=>none
theorem Vj{f:XE}{s:ZG}{c:Bool}(h:xB f s=some c):f s=some (.bl c):=by
 unfold xB at h;split at h
 ·cases h;assumption
 ·cases h
section
variable {X:Cx} {a b c:Expr} {Zn:List Expr} {fa fb:XE} {ga gb:XT} {pos:Pos}
theorem Wg(h:VE X a fa)(he:∀whole,isTrue a X.env whole=(do let v <-whole;standAt a.pos;holding [v] (truthy v)):=by intro _;rfl):VT X a (xB fa):=
 PT.imp (JG h he) fun Z H Q ⟨Rm,s,c,hd,env,e,k⟩=>⟨Rm,s,.bl c,hd,env,Vj e,fun v H' fp sm i n=>⟨c,i.bl_inv.1,k H' sm⟩⟩
theorem TQ:∀Z H Q,Q8 K (xB fa) Z H Q->SV (tF K fa) Z H Q:=fun Z H Q ⟨Rm,s,c,hd,env,e,k⟩=>⟨Rm,s,.bl c,hd,env,Vj e,fun v H' fp sm i n=>⟨c,i.bl_inv.1,k H' sm⟩⟩
theorem VH{t t':TE}(i:∀Z H Q,t' Z H Q->t Z H Q):∀Z H Q,SV t' Z H Q->SV t Z H Q:=fun Z H Q h=>i Z H _ h
theorem US{op:CmpOp}{r:R2}{g:PV->PV->Option PV}(ho:Wt X (compareOp op) r)(hr:RB X.K r g)(ha:VE X a fa)(hb:VE X b fb)(hm:behindInMarks op b=false):VT X (.Compare a [op] [b] pos) (xB (Zi g fa fb)):=
 PT.imp (LU ho ha hb hm) fun Z H Q h=>VH (Oy hr) Z H Q (TQ Z H Q h)
theorem MF(ha:VE X a fa)(hb:VE X b fb):VT X (.Compare a [.Lt] [b] pos) (xB (Zi OA fa fb)):=US Oe (UR _) ha hb (UG _)
theorem Rf(ha:VE X a fa)(hb:VE X b fb):VT X (.Compare a [.Gt] [b] pos) (xB (Zi Tg fa fb)):=US Ht (UR _) ha hb (UG _)
def Wv(a b:XT):XT:=fun s=>(a s).bind fun c=>if c=true then b s else some false
def Pl(a b:XT):XT:=fun s=>(a s).bind fun c=>if c=true then some true else b s
def YY(a:XT):XT:=fun s=>(a s).map not
theorem Ki:∀Z H Q,Q8 K (Wv ga gb) Z H Q->IZ (Q8 K ga) (Q8 K gb) Z H Q:=fun Z H Q ⟨Rm,s,c,hd,env,e,k⟩=>by
 unfold Wv at e
 cases q:ga s with
 | none=>rw[q] at e;cases e
 | some d=>
  rw[q] at e
  refine⟨Rm,s,d,hd,env,q,fun H1 s1=>?_⟩
  cases d with
  | true=>
   simp only[Option.bind_some,if_true] at e;rw[if_pos rfl]
   exact⟨Rm,s,c,fun p hp=>Same.mut s1 (hd p hp),env.mono s1,e,fun H2 s2=>k H2 (s1.trans s2)⟩
  | false=>
   simp only[Option.bind_some,Bool.false_eq_true,if_false] at e;cases e;rw[if_neg Bool.false_ne_true]
   exact k H1 s1
theorem Im:∀Z H Q,Q8 K (Pl ga gb) Z H Q->GX (Q8 K ga) (Q8 K gb) Z H Q:=fun Z H Q ⟨Rm,s,c,hd,env,e,k⟩=>by
 unfold Pl at e
 cases q:ga s with
 | none=>rw[q] at e;cases e
 | some d=>
  rw[q] at e
  refine⟨Rm,s,d,hd,env,q,fun H1 s1=>?_⟩
  cases d with
  | true=>
   simp only[Option.bind_some,if_true] at e;cases e;rw[if_pos rfl]
   exact k H1 s1
  | false=>
   simp only[Option.bind_some,Bool.false_eq_true,if_false] at e;rw[if_neg Bool.false_ne_true]
   exact⟨Rm,s,c,fun p hp=>Same.mut s1 (hd p hp),env.mono s1,e,fun H2 s2=>k H2 (s1.trans s2)⟩
theorem V8(ha:VT X a ga):VW X (.BoolOp .And [a] pos) ga:=LL ha
theorem TR(ha:VT X a ga):VW X (.BoolOp .Or [a] pos) ga:=JH ha
theorem TU(ha:VT X a ga)(hb:VW X (.BoolOp .And (b::Zn) pos) gb):VW X (.BoolOp .And (a::b::Zn) pos) (Wv ga gb):=PW.imp (JI ha hb) Ki
theorem QA(ha:VT X a ga)(hb:VW X (.BoolOp .Or (b::Zn) pos) gb):VW X (.BoolOp .Or (a::b::Zn) pos) (Pl ga gb):=PW.imp (Ha ha hb) Im
theorem Xb(ha:VT X a ga):VT X (.UnaryOp .Not a pos) (YY ga):=PT.imp (JJ ha) fun Z H Q ⟨Rm,s,c,hd,env,e,k⟩=>by
 unfold YY at e
 cases q:ga s with
 | none=>rw[q] at e;cases e
 | some d=>rw[q] at e;cases e;exact⟨Rm,s,d,hd,env,q,k⟩
end
section
variable {X:Cx} {a b c:Expr} {Zn:List Expr} {fa fb:XE} {gc:XT} {pos:Pos}
def ND(a b:XE):XE:=fun s=>(xB a s).bind fun c=>if c=true then b s else some (.bl false)
def Gi(a b:XE):XE:=fun s=>(xB a s).bind fun c=>if c=true then some (.bl true) else b s
def Kj(a:XE):XE:=fun s=>(xB a s).map fun c=>.bl !c
def IW(c:XT)(a b:XE):XE:=fun s=>(c s).bind fun k=>if k=true then a s else b s
theorem RU{op}(h:VE X a fa):VE X (.BoolOp op [a] pos) fa:=JK h
theorem Pm(ha:VE X a fa)(hb:VE X (.BoolOp .And (b::Zn) pos) fb):VE X (.BoolOp .And (a::b::Zn) pos) (ND fa fb):=PE.imp (JL ha hb) fun Z H Q ⟨Rm,s,l,hd,env,e,k⟩=>by
 unfold ND at e
 cases q:xB fa s with
 | none=>rw[q] at e;cases e
 | some d=>
  rw[q] at e
  refine⟨Rm,s,.bl d,hd,env,Vj q,fun v H1 fp s1 i1 _=>⟨d,i1.bl_inv.1,?_⟩⟩
  cases d with
  | true=>
   simp only[Option.bind_some,if_true] at e;rw[if_pos rfl]
   exact⟨Rm,s,l,fun p hp=>Same.mut s1 (hd p hp),env.mono s1,e,fun v2 H2 fp2 s2 i2 n2=>k v2 H2 fp2 (s1.trans s2) i2 n2⟩
  | false=>
   simp only[Option.bind_some,Bool.false_eq_true,if_false] at e;cases e;rw[if_neg Bool.false_ne_true]
   exact k _ H1 [] s1 (Is.bl false) fun p hp=>by simp at hp
theorem HQ(ha:VE X a fa)(hb:VE X (.BoolOp .Or (b::Zn) pos) fb):VE X (.BoolOp .Or (a::b::Zn) pos) (Gi fa fb):=PE.imp (He ha hb) fun Z H Q ⟨Rm,s,l,hd,env,e,k⟩=>by
 unfold Gi at e
 cases q:xB fa s with
 | none=>rw[q] at e;cases e
 | some d=>
  rw[q] at e
  refine⟨Rm,s,.bl d,hd,env,Vj q,fun v H1 fp s1 i1 _=>⟨d,i1.bl_inv.1,?_⟩⟩
  cases d with
  | true=>
   simp only[Option.bind_some,if_true] at e;cases e;rw[if_pos rfl]
   exact k _ H1 [] s1 (Is.bl true) fun p hp=>by simp at hp
  | false=>
   simp only[Option.bind_some,Bool.false_eq_true,if_false] at e;rw[if_neg Bool.false_ne_true]
   exact⟨Rm,s,l,fun p hp=>Same.mut s1 (hd p hp),env.mono s1,e,fun v2 H2 fp2 s2 i2 n2=>k v2 H2 fp2 (s1.trans s2) i2 n2⟩
theorem Io(ha:VE X a fa):VE X (.UnaryOp .Not a pos) (Kj fa):=PE.imp (JM ha) fun Z H Q ⟨Rm,s,l,hd,env,e,k⟩=>by
 unfold Kj at e
 cases q:xB fa s with
 | none=>rw[q] at e;cases e
 | some d=>
  rw[q] at e;cases e
  exact⟨Rm,s,.bl d,hd,env,Vj q,fun v H1 fp s1 i1 _=>⟨d,i1.bl_inv.1,k _ H1 [] s1 (Is.bl _) fun p hp=>by simp at hp⟩⟩
theorem Jh(hc:VT X c gc)(ha:VE X a fa)(hb:VE X b fb):VE X (.IfExp c a b pos) (IW gc fa fb):=PE.imp (Mn hc ha hb) fun Z H Q ⟨Rm,s,l,hd,env,e,k⟩=>by
 unfold IW at e
 cases q:gc s with
 | none=>rw[q] at e;cases e
 | some d=>
  rw[q] at e
  refine⟨Rm,s,d,hd,env,q,fun H1 s1=>?_⟩
  cases d with
  | true=>
   simp only[Option.bind_some,if_true] at e;rw[if_pos rfl]
   exact⟨Rm,s,l,fun p hp=>Same.mut s1 (hd p hp),env.mono s1,e,fun v2 H2 fp2 s2 i2 n2=>k v2 H2 fp2 (s1.trans s2) i2 n2⟩
  | false=>
   simp only[Option.bind_some,Bool.false_eq_true,if_false] at e;rw[if_neg Bool.false_ne_true]
   exact⟨Rm,s,l,fun p hp=>Same.mut s1 (hd p hp),env.mono s1,e,fun v2 H2 fp2 s2 i2 n2=>k v2 H2 fp2 (s1.trans s2) i2 n2⟩
end
section
variable {X:Cx} {a b c:Expr} {fa fb fc:XE} {pos:Pos}
def Ip(neg:Bool):PV->Option PV
 | .non=>some (.bl !neg)
 | _=>some (.bl neg)
def TV:PV->Bool
 | .non=>true
 | _=>false
theorem Pn{H:Hp}{l:PV}{v:V}{fp:List Addr}(i:Is K H l v fp):decide (v=V.non)=TV l:=by
 cases l with
 | non=>rw[i.non_inv.1];rfl
 | bl b=>rw[i.bl_inv.1];rfl
 | int j=>rw[i.int_inv.1];rfl
 | str y=>rw[i.str_inv.1];rfl
 | ty n=>rw[i.ty_inv.1];rfl
 | exc C=>simp only[Is] at i;obtain⟨⟨e,o,x,C,rfl,_⟩,_⟩:=i;rfl
 | lst l=>obtain⟨p,xs,fq,rfl,_⟩:=i.lst_inv;rfl
 | cst l=>obtain⟨p,xs,rfl,_⟩:=i.cst_inv;rfl
 | tup l=>obtain⟨p,xs,rfl,_⟩:=i.tup_inv;rfl
 | dK ks l=>obtain⟨p,xs,fq,rfl,_⟩:=i.dK_inv;rfl
 | dT ks l=>obtain⟨p,xs,fq,rfl,_⟩:=i.dT_inv;rfl
def NF(neg:Bool)(a:XE):XE:=fun s=>(a s).bind (Ip neg)
theorem MG:∀Z H Q,tF K (NF true fa) Z H Q->K8 (tF K fa) Z H Q:=fun Z H Q ⟨Rm,s,l,hd,env,e,k⟩=>by
 unfold NF at e
 cases q:fa s with
 | none=>rw[q] at e;cases e
 | some m=>
  rw[q] at e;simp only[Option.bind_some] at e
  refine⟨Rm,s,m,hd,env,q,fun v H1 fp s1 i1 _=>?_⟩
  show Q _ H1
  rw[Pn i1]
  have:l = .bl (!TV m):=by cases m<;>cases e<;>rfl
  subst this
  exact k _ H1 [] s1 (Is.bl _) fun p hp=>by simp at hp
theorem Ji:∀Z H Q,Q8 K (xB fa) Z H Q->tB (tF K fa) Z H Q:=fun Z H Q ⟨Rm,s,c,hd,env,e,k⟩=>⟨Rm,s,.bl c,hd,env,Vj e,fun v H' fp sm i n=>⟨c,i.bl_inv.1,k H' sm⟩⟩
theorem OB{t t':TE}(i:∀Z H Q,t' Z H Q->t Z H Q):∀Z H Q,tB t' Z H Q->tB t Z H Q:=fun Z H Q h=>i Z H _ h
theorem Kk{j pos'}(ha:VE X a fa):VT X (.Compare a [.IsNot] [.Constant .none j pos'] pos) (xB (NF true fa)):=PT.imp (Mm (LK ha)) fun Z H Q h=>OB MG Z H Q (Ji Z H Q h)
def MH:PV->Option PV
 | .int i=>some (.int (-i))
 | _=>none
def Ta(g:PV->Option PV)(a:XE):XE:=fun s=>(a s).bind g
theorem Iq(ha:VE X a fa):VE X (.UnaryOp .USub a pos) (Ta MH fa):=PE.imp (Hq J0 ha) fun Z H Q ⟨Rm,s,l,hd,env,e,k⟩=>by
 unfold Ta at e
 cases q:fa s with
 | none=>rw[q] at e;cases e
 | some m=>
  rw[q] at e;simp only[Option.bind_some] at e;unfold MH at e
  split at e
  ·cases e
   exact⟨Rm,s,_,hd,env,q,fun v H1 fp s1 i1 _=>⟨_,i1.int_inv.1,k _ H1 [] s1 (Is.int _) fun p hp=>by simp at hp⟩⟩
  ·cases e
end
end VL
namespace VL
open PySem PySem.Spec PyProof.Rows L2
variable {K:PySem.W.Frag}
def Tb:List XE->ZG->Option (List PV)
 | [],_=>some []
 | f::fs,s=>(f s).bind fun x=>(Tb fs s).map (x::·)
theorem V9{f:XE}{fs:List XE}{s:ZG}{ls:List PV}(h:Tb (f::fs) s=some ls):∃x r,f s=some x/\Tb fs s=some r/\ls=x::r:=by
 unfold Tb at h
 cases q:f s with
 | none=>rw[q] at h;cases h
 | some x=>cases q2:Tb fs s with
  | none=>rw[q,q2] at h;cases h
  | some r=>rw[q,q2] at h;cases h;exact⟨x,r,rfl,rfl,rfl⟩
theorem Ua:∀{fs:List XE}{s:ZG}{ls:List PV},Tb fs s=some ls->ls.length=fs.length
 | [],_,_,h=>by cases h;rfl
 | f::fs,s,ls,h=>by
  obtain⟨x,r,_,h2,rfl⟩:=V9 h
  rw[List.length_cons,List.length_cons,Ua h2]
def GN(K:PySem.W.Frag)(fs:List XE):TA:=fun Z H Q=>∃(Rm:Addr->Prop) (s:ZG) (ls:List PV),(∀p,Rm p->Wj (H p))/\EnvIs K Rm H s Z/\Tb fs s=some ls/\∀vs H' fp,Same H H'->Iss K H' ls vs fp->(∀p∈fp,¬Rm p)->Q vs H'
def Fb(K:PySem.W.Frag)(fs:List XE):TA:=fun Z H Q=>∃(s:ZG) (ls:List PV),EnvIs K (fun _=>False) H s Z/\Tb fs s=some ls/\∀vs H' fp,Same H H'->Iss K H' ls vs fp->fp.Nodup->(∀p∈fp,H p=none/\Wj (H' p))->Q vs H'
def VA(X:Cx)(es:List Expr)(fs:List XE):Prop:=PA X es (GN X.K fs)
def Gj(X:Cx)(es:List Expr)(fs:List XE):Prop:=PA X es (Fb X.K fs)
section
variable {X:Cx} {e:Expr} {es:List Expr} {f:XE} {fs:List XE} {pos:Pos} {k:Nat}
theorem PA.imp{t t':TA}(h:PA X es t)(i:∀Z H Q,t' Z H Q->t Z H Q):PA X es t':=fun pos pins s Z H Q I q=>h pos pins s Z H Q I (i Z H Q q)
theorem Zg:VA X [] []:=PA.imp Wf fun Z H Q ⟨Rm,s,ls,hd,env,e,k⟩=>by
 cases e
 exact k [] H [] (Same.refl H) Iss.nil fun p hp=>by simp at hp
theorem Zb(ha:VE X e f)(hr:VA X es fs)(hs:starEach (e::es) X.env=(false,eval e X.env)::starEach es X.env:=by rfl):VA X (e::es) (f::fs):=PA.imp (YF ha hr hs) fun Z H Q ⟨Rm,s,ls,hd,env,e,k⟩=>by
 obtain⟨x',r',h1,h2,rfl⟩:=V9 e
 refine⟨Rm,s,x',hd,env,h1,fun x H1 f1 s1 i1 n1=>⟨Rm,s,r',fun p hp=>Same.mut s1 (hd p hp),env.mono s1,h2,fun xs H2 f2 s2 i2 n2=>?_⟩⟩
 refine k _ H2 (f1++f2) (s1.trans s2) (Iss.cons (i1.mono s2) i2) fun p hp=>?_
 rcases List.mem_append.mp hp with h | h
 ·exact n1 p h
 ·exact n2 p h
theorem Vk:Gj X [] []:=PA.imp Wf fun Z H Q ⟨s,ls,env,e,k⟩=>by
 cases e
 exact k [] H [] (Same.refl H) Iss.nil List.nodup_nil fun p hp=>by simp at hp
theorem TX(ha:VM X e f)(hr:Gj X es fs)(hs:starEach (e::es) X.env=(false,eval e X.env)::starEach es X.env:=by rfl):Gj X (e::es) (f::fs):=PA.imp (YF ha hr hs) fun Z H Q ⟨s,ls,env,e,k⟩=>by
 obtain⟨x',r',h1,h2,rfl⟩:=V9 e
 refine⟨s,x',env,h1,fun x H1 f1 s1 i1 d1 n1=>⟨s,r',env.mono s1,h2,fun xs H2 f2 s2 i2 d2 n2=>?_⟩⟩
 refine k _ H2 (f1++f2) (s1.trans s2) (Iss.cons (i1.mono s2) i2) ?_ fun p hp=>?_
 ·refine List.nodup_append.mpr ⟨d1,d2,fun a ha b hb z=>?_⟩
  subst z
  exact Yy (n1 a ha).2 (n2 a hb).1
 ·rcases List.mem_append.mp hp with h | h
  ·exact⟨(n1 p h).1,Same.mut s2 (n1 p h).2⟩
  ·exact⟨Same.off s1 (n2 p h).1,(n2 p h).2⟩
def Xc(fs:List XE):XE:=fun s=>(Tb fs s).map .tup
def Yz(fs:List XE):XE:=fun s=>(Tb fs s).map .lst
theorem map_some{α β:Type}{o:Option α}{g:α->β}{b:β}(h:o.map g=some b):∃a,o=some a/\b=g a:=by
 cases o with
 | none=>cases h
 | some a=>cases h;exact⟨a,rfl,rfl⟩
theorem Ww(h:VA X es fs)(hl:fs.length<=1000:=by decide):VE X (.Tuple es k pos) (Xc fs):=PE.imp (J2 h) fun Z H Q ⟨Rm,s,l,hd,env,e,q⟩=>by
 obtain⟨ls,e1,rfl⟩:=map_some e
 refine⟨Rm,s,ls,hd,env,e1,fun vs H1 fp s1 i1 n1=>⟨?_,fun p hp=>?_⟩⟩
 ·rw[i1.len,Ua e1];exact Nat.le_of_lt (lt_size (by omega))
 ·exact q _ _ fp (s1.trans (Same.new hp _)) (Is.tup upd_same (i1.mono (Same.new hp _))) n1
theorem WS(h:VA X es fs)(hl:fs.length<=1000:=by decide):VE X (.List es pos) (Yz fs):=PE.imp (Pe h) fun Z H Q ⟨Rm,s,l,hd,env,e,q⟩=>by
 obtain⟨ls,e1,rfl⟩:=map_some e
 refine⟨Rm,s,ls,hd,env,e1,fun vs H1 fp s1 i1 n1=>⟨?_,fun p hp=>?_⟩⟩
 ·rw[i1.len,Ua e1];exact Nat.le_of_lt (lt_size (by omega))
 ·refine q _ _ (p::fp) (s1.trans (Same.new hp _)) (Is.lst upd_same (i1.mono (Same.new hp _))) fun a ha z=>?_
  rcases List.mem_cons.mp ha with rfl | ha
  ·exact Yy (Same.mut s1 (hd a z)) hp
  ·exact n1 a ha z
theorem UT(h:Gj X es fs)(hl:fs.length<=1000:=by decide):VM X (.List es pos) (Yz fs):=PE.imp (Pe h) fun Z H Q ⟨s,l,env,e,q⟩=>by
 obtain⟨ls,e1,rfl⟩:=map_some e
 refine⟨s,ls,env,e1,fun vs H1 fp s1 i1 d1 n1=>⟨?_,fun p hp=>?_⟩⟩
 ·rw[i1.len,Ua e1];exact Nat.le_of_lt (lt_size (by omega))
 ·refine q _ _ (p::fp) (s1.trans (Same.new hp _)) (Is.lst upd_same (i1.mono (Same.new hp _))) (List.nodup_cons.mpr ⟨fun z=>Yy (n1 p z).2 hp,d1⟩) fun a ha=>?_
  rcases List.mem_cons.mp ha with rfl | ha
  ·exact⟨Same.off s1 hp,by rw[upd_same];exact True.intro⟩
  ·exact⟨(n1 a ha).1,Same.mut (Same.new hp _) (n1 a ha).2⟩
theorem TY:VM X (.Dict [] [] pos) (eC (.dT [] [])):=PE.imp Mx fun Z H Q ⟨s,l,env,e,q⟩ p hp=>by
 cases e
 exact q _ _ [p] (Same.new hp _) (Is.dT upd_same rfl Iss.nil) (by simp) fun a ha=>by
  rw[List.mem_singleton.mp ha]
  exact⟨hp,by rw[upd_same];exact True.intro⟩
end
def Xd(K:PySem.W.Frag)(D:List PV->Option PV)(n:Nat):Sp:=fun vs H Q _=>vs.length=n/\∃ls fp l,Iss K H ls vs fp/\D ls=some l/\∀v H' fq,Same H H'->Is K H' l v fq->fq.Nodup->(∀p∈fq,H p=none/\Wj (H' p))->Q v H'
def Ze(D:List PV->Option PV)(fs:List XE):XE:=fun s=>(Tb fs s).bind D
theorem Zd{α β:Type}{o:Option α}{g:α->Option β}{b:β}(h:o.bind g=some b):∃a,o=some a/\g a=some b:=by
 cases o with
 | none=>cases h
 | some a=>exact⟨a,rfl,h⟩
section
variable {X:Cx} {x:Str} {ps:List Str} {k:Nat} {e:Expr} {es:List Expr} {fs:List XE} {p pos:Pos}
theorem Zr{D:List PV->Option PV}{n:Nat}(C:XR X.prog X.w X.K X.mg X.base x ps (Xd X.K D n) k)(hr:Room k X.A)(hg:Gl X x)(ha:VA X (e::es) fs)(hn:fs.length=n:=by rfl)
  (hdb:(x==("__debug__" : Str))=false:=by decide) (he:starEach (e::es) X.env=(false,eval e X.env)::starEach es X.env:=by rfl) (hpl:(backTo pos (starEach es X.env)).any (·.1)=false:=by rfl) :
  VM X (.Call (.Name x p) (e::es) [] pos) (Ze D fs):=PE.imp (Ig C hr hg ha hdb he hpl) fun Z H Q ⟨s,l,env,e,q⟩=>by
 obtain⟨ls,e1,e2⟩:=Zd e
 refine⟨fun _=>False,s,ls,fun _ z=>z.elim,env,e1,fun vs H1 fp s1 i1 n1=>?_⟩
 show Xd X.K D n (vs++[]) H1 Q E0
 rw[List.append_nil]
 exact⟨by rw[i1.len,Ua e1,hn],ls,fp,l,i1,e2,fun v H2 fq s2 i2 d2 n2=>q v H2 fq (s1.trans s2) i2 d2 fun a ha=>⟨Same.off s1 (n2 a ha).1,(n2 a ha).2⟩⟩
end
def RC(K:PySem.W.Frag)(r:List V->Hp->VK->Prop)(g:List PV->Option PV):Prop:=∀(H:Hp)(vs:List V)(ls:List PV)(l:PV)(fp:List Addr),Iss K H ls vs fp->g ls=some l->∀Q:VK,
 (∀v H' fq,Same H H'->Is K H' l v fq->(∀p∈fq,p∈fp\/H p=none)->Q v H')->r vs H Q
def GO(K:PySem.W.Frag)(r:List V->Hp->VK->Prop)(g:List PV->Option PV):Prop:=∀(H:Hp)(vs:List V)(ls:List PV)(l:PV)(fp:List Addr),Iss K H ls vs fp->g ls=some l->∀Q:VK,
 (∀v H' fq,Same H H'->Is K H' l v fq->fq.Nodup->(∀p∈fq,H p=none/\Wj (H' p))->Q v H')->r vs H Q
theorem Jj{r:List V->Hp->VK->Prop}{g:List PV->Option PV}{fs:List XE}(hr:RC K r g):∀Z H Q,tF K (Ze g fs) Z H Q->Gg r (GN K fs) Z H Q:=fun Z H Q ⟨Rm,s,l,hd,env,e,k⟩=>by
 obtain⟨ls,e1,e2⟩:=Zd e
 refine⟨Rm,s,ls,hd,env,e1,fun vs H1 fp s1 i1 n1=>hr H1 vs ls l fp i1 e2 Q fun v H2 fq s2 i2 n2=>k v H2 fq (s1.trans s2) i2 fun p hp z=>?_⟩
 rcases n2 p hp with h | h
 ·exact n1 p h z
 ·exact Yy (Same.mut s1 (hd p z)) h
theorem HR{r:List V->Hp->VK->Prop}{g:List PV->Option PV}{fs:List XE}(hr:GO K r g):∀Z H Q,tM K (Ze g fs) Z H Q->Gg r (GN K fs) Z H Q:=fun Z H Q ⟨s,l,env,e,k⟩=>by
 obtain⟨ls,e1,e2⟩:=Zd e
 exact⟨fun _=>False,s,ls,fun _ z=>z.elim,env,e1,fun vs H1 fp s1 i1 n1=>hr H1 vs ls l fp i1 e2 Q fun v H2 fq s2 i2 d2 n2=>k v H2 fq (s1.trans s2) i2 d2 fun p hp=>⟨Same.off s1 (n2 p hp).1,(n2 p hp).2⟩⟩
section
variable {X:Cx} {x:Str} {k:Nat} {e:Expr} {es:List Expr} {fs:List XE} {p pos:Pos} {id T:String} {r:List V->Hp->VK->Prop} {g:List PV->Option PV}
theorem Zw(hc:Xy X (.builtin id) r)(hr:RC X.K r g)(hg:Gl X x)(hm:X.mg x=none)(hv:bootBuiltins x=some (.builtin id))(ha:VA X (e::es) fs)(hn:x≠"__name__":=by decide)(hdb:(x==("__debug__" : Str))=false:=by decide)
  (he:starEach (e::es) X.env=(false,eval e X.env)::starEach es X.env:=by rfl) (hpl:(backTo pos (starEach es X.env)).any (·.1)=false:=by rfl):VE X (.Call (.Name x p) (e::es) [] pos) (Ze g fs):=
 PE.imp (Qq hc hg hm hv ha hn hdb he hpl) (Jj hr)
theorem MI(hc:Xy X (.builtin id) r)(hr:GO X.K r g)(hg:Gl X x)(hm:X.mg x=none)(hv:bootBuiltins x=some (.builtin id))(ha:VA X (e::es) fs)(hn:x≠"__name__":=by decide)(hdb:(x==("__debug__" : Str))=false:=by decide)
  (he:starEach (e::es) X.env=(false,eval e X.env)::starEach es X.env:=by rfl) (hpl:(backTo pos (starEach es X.env)).any (·.1)=false:=by rfl):VM X (.Call (.Name x p) (e::es) [] pos) (Ze g fs):=
 PE.imp (Qq hc hg hm hv ha hn hdb he hpl) (HR hr)
theorem Z6(hc:Xy X (.type T) r)(hr:RC X.K r g)(hg:Gl X x)(hm:X.mg x=none)(hv:bootBuiltins x=some (.type T))(ha:VA X (e::es) fs)(hn:x≠"__name__":=by decide)(hdb:(x==("__debug__" : Str))=false:=by decide)
  (he:starEach (e::es) X.env=(false,eval e X.env)::starEach es X.env:=by rfl) (hpl:(backTo pos (starEach es X.env)).any (·.1)=false:=by rfl):VE X (.Call (.Name x p) (e::es) [] pos) (Ze g fs):=
 PE.imp (Np hc hg hm hv ha hn hdb he hpl) (Jj hr)
end
theorem Iss.one_inv{H:Hp}{l:PV}{vs:List V}{fp:List Addr}(h:Iss K H [l] vs fp):∃v,vs=[v]/\Is K H l v fp:=by
 obtain⟨x,r,f1,f2,rfl,a,b,rfl⟩:=h.inv
 simp only[Iss] at b
 rw[b.1,b.2,List.append_nil];exact⟨x,rfl,a⟩
theorem Iss.two_inv{H:Hp}{l m:PV}{vs:List V}{fp:List Addr}(h:Iss K H [l,m] vs fp):∃v w f1 f2,vs=[v,w]/\Is K H l v f1/\Is K H m w f2/\fp=f1++f2:=by
 obtain⟨x,r,f1,f2,rfl,a,b,rfl⟩:=h.inv
 obtain⟨y,rfl,c⟩:=b.one_inv
 exact⟨x,y,f1,f2,rfl,a,c,rfl⟩
def QB:PV->Option (List PV)
 | .lst l=>some l
 | .cst l=>some l
 | .tup l=>some l
 | _=>none
theorem Tn{H:Hp}{l:PV}{v:V}{fp:List Addr}{m:List PV}(h:Is K H l v fp)(e:QB l=some m):∃p xs fq,v = .ref p/\(SqL K H p xs\/SqT K H p xs)/\Iss K H m xs fq/\∀q∈fq,q∈fp:=by
 cases l with
 | lst l=>
  cases e
  obtain⟨p,xs,fq,rfl,hp,hi,rfl⟩:=h.lst_inv
  exact⟨p,xs,fq,rfl,.inl (SqL.of hp),hi,fun q hq=>List.mem_cons_of_mem _ hq⟩
 | cst l=>
  cases e
  obtain⟨p,xs,rfl,hp,hi⟩:=h.cst_inv
  exact⟨p,xs,fp,rfl,.inl hp.sq,hi,fun q hq=>hq⟩
 | tup l=>
  cases e
  obtain⟨p,xs,rfl,hp,hi⟩:=h.tup_inv
  exact⟨p,xs,fp,rfl,.inr (SqT.of hp),hi,fun q hq=>hq⟩
 | _=>cases e
def Ya:List PV->Option PV
 | [.str z]=>if z.length<=sizeLine then some (.int z.length) else none
 | [l]=>(QB l).map fun m=>.int m.length
 | _=>none
theorem YZ:RC K (fun xs H Q=>∃x n,xs=[x]/\Hu K x H n/\Q (.int n) H) Ya:=fun H vs ls l fp h e Q k=>by
 unfold Ya at e
 split at e
 ·split at e
  ·cases e
   obtain⟨v,rfl,i⟩:=h.one_inv
   exact⟨v,_,rfl,by rw[i.str_inv.1];exact⟨by assumption,rfl⟩,k _ H [] (Same.refl H) (Is.int _) fun p hp=>by simp at hp⟩
  ·cases e
 ·obtain⟨m,e1,rfl⟩:=map_some e
  obtain⟨v,rfl,i⟩:=h.one_inv
  obtain⟨p,xs,fq,rfl,hp,hi,_⟩:=Tn (K:=K) i e1
  refine⟨_,xs.length,rfl,?_,?_⟩
  ·rcases hp with hp | hp
   ·exact .inl ⟨xs,hp,rfl⟩
   ·exact .inr ⟨xs,hp,rfl⟩
  ·rw[hi.len]
   exact k _ H [] (Same.refl H) (Is.int _) fun p hp=>by simp at hp
 ·cases e
def Y0:List PV->Option PV
 | [l]=>(QB l).map .tup
 | _=>none
theorem WT:RC K (Ii K) Y0:=fun H vs ls l fp h e Q k=>by
 unfold Y0 at e
 split at e
 ·obtain⟨m,e1,rfl⟩:=map_some e
  obtain⟨v,rfl,i⟩:=h.one_inv
  rename_i l0
  cases l0 with
  | tup l=>
   cases e1
   obtain⟨p,xs,rfl,hp,hi⟩:=id i.tup_inv
   exact⟨p,xs,rfl,.inr ⟨SqT.of hp,k _ H fp (Same.refl H) i fun a ha=>.inl ha⟩⟩
  | lst l=>
   cases e1
   obtain⟨p,xs,fq,rfl,hp,hi,rfl⟩:=i.lst_inv
   exact⟨p,xs,rfl,.inl ⟨SqL.of hp,fun q hq=>k _ _ fq (Same.new hq _) (Is.tup upd_same (hi.mono (Same.new hq _))) fun a ha=>.inl (List.mem_cons_of_mem _ ha)⟩⟩
  | cst l=>
   cases e1
   obtain⟨p,xs,rfl,hp,hi⟩:=i.cst_inv
   exact⟨p,xs,rfl,.inl ⟨hp.sq,fun q hq=>k _ _ fp (Same.new hq _) (Is.tup upd_same (hi.mono (Same.new hq _))) fun a ha=>.inl ha⟩⟩
  | _=>cases e1
 ·cases e
def MJ:List PV->Option PV
 | [l]=>(QB l).bind fun m=>if Zz m=true then some (.lst m) else none
 | _=>none
def WU:List PV->Option (List Int)
 | []=>some []
 | .int i::r=>(WU r).map (i::·)
 | _=>none
theorem Tc:∀l:List Int,WU (iL l)=some l
 | []=>rfl
 | i::r=>by show(WU (iL r)).map (i::·)=_;rw[Tc r];rfl
theorem WV:∀{m:List PV}{l:List Int},WU m=some l->m=iL l
 | [],l,h=>by cases h;rfl
 | .int i::r,l,h=>by
  obtain⟨a,e,rfl⟩:=map_some (show(WU r).map (i::·)=some l from h)
  rw[WV e];rfl
 | .non::_,_,h=>by cases h
 | .bl _::_,_,h=>by cases h
 | .str _::_,_,h=>by cases h
 | .ty _::_,_,h=>by cases h
 | .exc _::_,_,h=>by cases h
 | .tup _::_,_,h=>by cases h
 | .lst _::_,_,h=>by cases h
 | .cst _::_,_,h=>by cases h
 | .dK _ _::_,_,h=>by cases h
 | .dT _ _::_,_,h=>by cases h
abbrev bL(l:List Bool):List PV:=l.map PV.bl
def Vl:List PV->Option (List Bool)
 | []=>some []
 | .bl i::r=>(Vl r).map (i::·)
 | _=>none
theorem Vz:∀l:List Bool,Vl (bL l)=some l
 | []=>rfl
 | i::r=>by show(Vl (bL r)).map (i::·)=_;rw[Vz r];rfl
theorem Ub:∀{m:List PV}{l:List Bool},Vl m=some l->m=bL l
 | [],l,h=>by cases h;rfl
 | .bl i::r,l,h=>by
  obtain⟨a,e,rfl⟩:=map_some (show(Vl r).map (i::·)=some l from h)
  rw[Ub e];rfl
 | .non::_,_,h=>by cases h
 | .int _::_,_,h=>by cases h
 | .str _::_,_,h=>by cases h
 | .ty _::_,_,h=>by cases h
 | .exc _::_,_,h=>by cases h
 | .tup _::_,_,h=>by cases h
 | .lst _::_,_,h=>by cases h
 | .cst _::_,_,h=>by cases h
 | .dK _ _::_,_,h=>by cases h
 | .dT _ _::_,_,h=>by cases h
theorem Iss.bL{H:Hp}:∀{l:List Bool}{xs:List V}{fp:List Addr},Iss K H (VL.bL l) xs fp->xs=l.map V.bl/\fp=[]
 | [],xs,fp,h=>by simpa only[VL.bL,List.map_nil,Iss] using h
 | i::l,xs,fp,h=>by
  obtain⟨x,r,f1,f2,rfl,h1,h2,rfl⟩:=Iss.inv (show Iss K H (PV.bl i::VL.bL l) xs fp from h)
  obtain⟨rfl,rfl⟩:=h1.bl_inv
  obtain⟨rfl,rfl⟩:=h2.bL
  exact⟨rfl,rfl⟩
theorem Ir{H:Hp}{p:Addr}{xs:List V}(h:SqL K H p xs\/SqT K H p xs):∃b,Mi b K H p xs:=by
 rcases h with h | h
 ·exact⟨true,h⟩
 ·exact⟨false,h⟩
def TZ:List PV->Option PV
 | [l]=>(QB l).bind fun m=>(Vl m).map fun bs=>.bl (bs.all id)
 | _=>none
theorem MK:RC K (fun xs H Q=>∃(b:Bool) (p:Addr) (bs:List Bool),xs=[.ref p]/\Mi b K H p (bs.map V.bl)/\Q (.bl (bs.all id)) H) TZ:=fun H vs ls l fp h e Q k=>by
 unfold TZ at e
 split at e
 ·obtain⟨m,e1,e2⟩:=Zd e
  obtain⟨ns,e3,rfl⟩:=map_some e2
  obtain⟨v,rfl,i⟩:=h.one_inv
  obtain⟨p,xs,fq,rfl,hp,hi,hs⟩:=Tn (K:=K) i e1
  have em:=Ub e3;subst em
  obtain⟨rfl,rfl⟩:=hi.bL
  obtain⟨b,hb⟩:=Ir hp
  exact⟨b,p,ns,rfl,hb,k _ H [] (Same.refl H) (Is.bl _) fun p hp=>by simp at hp⟩
 ·cases e
def WM:List PV->Option PV
 | [.int i,.int j]=>some (.int (if j<i then j else i))
 | _=>none
def Rg:List PV->Option PV
 | [.int i,.int j]=>some (.int (if j>i then j else i))
 | _=>none
def T1:List PV->Option PV
 | [.int i]=>some (.int i)
 | [.bl c]=>some (.int (if c then 1 else 0))
 | _=>none
theorem RV:RC K (fun xs H Q=>∃i j,xs=[.int i,.int j]/\Q (.int (if j<i then j else i)) H) WM:=fun H vs ls l fp h e Q k=>by
 unfold WM at e
 split at e
 ·cases e
  obtain⟨v,w,f1,f2,rfl,a,b,rfl⟩:=h.two_inv
  exact⟨_,_,by rw[a.int_inv.1,b.int_inv.1],k _ H [] (Same.refl H) (Is.int _) fun p hp=>by simp at hp⟩
 ·cases e
theorem Kl:RC K (fun xs H Q=>∃i j,xs=[.int i,.int j]/\Q (.int (if j>i then j else i)) H) Rg:=fun H vs ls l fp h e Q k=>by
 unfold Rg at e
 split at e
 ·cases e
  obtain⟨v,w,f1,f2,rfl,a,b,rfl⟩:=h.two_inv
  exact⟨_,_,by rw[a.int_inv.1,b.int_inv.1],k _ H [] (Same.refl H) (Is.int _) fun p hp=>by simp at hp⟩
 ·cases e
theorem OC:RC K (fun xs H Q=>(∃i,xs=[.int i]/\Q (.int i) H)\/∃k,xs=[.bl k]/\Q (.int (if k then 1 else 0)) H) T1:=fun H vs ls l fp h e Q k=>by
 unfold T1 at e
 split at e
 ·cases e
  obtain⟨v,rfl,a⟩:=h.one_inv
  exact .inl ⟨_,by rw[a.int_inv.1],k _ H [] (Same.refl H) (Is.int _) fun p hp=>by simp at hp⟩
 ·cases e
  obtain⟨v,rfl,a⟩:=h.one_inv
  exact .inr ⟨_,by rw[a.bl_inv.1],k _ H [] (Same.refl H) (Is.int _) fun p hp=>by simp at hp⟩
 ·cases e
section
variable {X:Cx} {e:Expr} {es:List Expr} {fs:List XE} {p pos:Pos}
def Xp:List PV->Option PV
 | [.int _,.ty "int"]=>some (.bl true)
 | [.int _,.ty "bool"]=>some (.bl false)
 | [.bl _,.ty "bool"]=>some (.bl true)
 | [.tup _,.ty "tuple"]=>some (.bl true)
 | [.lst _,.ty "list"]=>some (.bl true)
 | [.str _,.ty "str"]=>some (.bl true)
 | _=>none
theorem SK:PySem.W.kitOne K (.type "bool") (.type "bool")=some true:=rfl
theorem Uc:RC K (fun xs H Q=>∃x T t b,xs=[x,.ty T]/\TyOf K H x t/\PySem.W.kitOne K t (.type T)=some b/\Q (.bl b) H) Xp:=fun H vs ls l fp h e Q k=>by
  have fin:∀b:Bool,l = .bl b->Q (.bl b) H:=fun b z=>by subst z;exact k _ H [] (Same.refl H) (Is.bl _) fun p hp=>by simp at hp
  unfold Xp at e
  split at e<;>first
    | (cases e
       obtain⟨v,w,f1,f2,rfl,a,b,rfl⟩:=h.two_inv
       first
         | (obtain⟨rfl,_⟩:=a.int_inv;first
             | exact⟨_,_,_,_,by rw[b.ty_inv.1],TyOf.int _,Qv,fin _ rfl⟩
             | exact⟨_,_,_,_,by rw[b.ty_inv.1],TyOf.int _,RS,fin _ rfl⟩)
         | (obtain⟨rfl,_⟩:=a.bl_inv;exact⟨_,_,_,_,by rw[b.ty_inv.1],TyOf.bl _,SK,fin _ rfl⟩)
         | (obtain⟨rfl,_⟩:=a.str_inv;exact⟨_,_,_,_,by rw[b.ty_inv.1],TyOf.str _,Qx,fin _ rfl⟩)
         | (obtain⟨q,xs,rfl,hp,_⟩:=a.tup_inv;exact⟨_,_,_,_,by rw[b.ty_inv.1],TyOf.tup hp,Qw,fin _ rfl⟩)
         | (obtain⟨q,xs,fq,rfl,hp,_⟩:=a.lst_inv
            exact⟨_,_,_,_,by rw[b.ty_inv.1],TyOf.lst hp,SJ,fin _ rfl⟩))
    | cases e
theorem QC{x:Str}{n:String}(hg:Gl X x)(hm:X.mg x=none)(hv:bootBuiltins x=some (.type n))(hn:x≠"__name__":=by decide)(hd:(x==("__debug__" : Str))=false:=by decide):VE X (.Name x pos) (eC (.ty n)):=
 NC (LJ hg hm hv (v:=.ty n) rfl hn hd) fun _=>Is.ty n
end
end VL
namespace VL
open PySem PySem.Spec PyProof.Rows L2
variable {K:PySem.W.Frag}
open Classical in
noncomputable instance:DecidableEq PV:=fun a b=>propDecidable (a=b)
def Xe:Nat->PV->PV->Bool
 | _+1,.non,.non=>true
 | _+1,.bl _,.bl _=>true
 | _+1,.int _,.int _=>true
 | _+1,.str _,.str _=>true
 | n+1,.tup l,.tup m=>(l.zip m).all fun z=>Xe n z.1 z.2
 | n+1,.lst l,.lst m=>(l.zip m).all fun z=>Xe n z.1 z.2
 | _,_,_=>false
theorem Ud{α β:Type}{p:α×β->Bool}{a:α}{b:β}{l:List α}{m:List β}(h:((a::l).zip (b::m)).all p=true):p (a,b)=true/\(l.zip m).all p=true:=by
 rw[List.zip_cons_cons,List.all_cons,Bool.and_eq_true] at h;exact h
theorem Iss.inj'{n:Nat}{H:Hp}(ih:∀a b v fa fb,Xe n a b=true->Is K H a v fa->Is K H b v fb->a=b):∀{l m:List PV}{xs:List V}{fa fb:List Addr},(l.zip m).all (fun z=>Xe n z.1 z.2)=true->Iss K H l xs fa->Iss K H m xs fb->l=m
 | [],m,xs,fa,fb,_,h,h'=>by
  simp only[Iss] at h
  rw[h.1] at h'
  have:=h'.len
  cases m with
  | nil=>rfl
  | cons _ _=>simp at this
 | a::l,m,xs,fa,fb,hc,h,h'=>by
  obtain⟨x,r,f1,f2,rfl,h1,h2,rfl⟩:=h.inv
  cases m with
  | nil=>have:=h'.len;simp at this
  | cons b m=>
   obtain⟨x',r',g1,g2,e,h3,h4,rfl⟩:=h'.inv
   cases e
   obtain⟨c1,c2⟩:=Ud hc
   rw[ih a b x f1 g1 c1 h1 h3,Iss.inj' ih c2 h2 h4]
theorem Is.inj'{H:Hp}:∀(n:Nat)(a b:PV)(v:V)(fa fb:List Addr),Xe n a b=true->Is K H a v fa->Is K H b v fb->a=b
 | 0,a,b,v,fa,fb,hc,_,_=>by unfold Xe at hc;simp at hc
 | n+1,a,b,v,fa,fb,hc,ha,hb=>by
  cases a<;>cases b<;>first
   | (exfalso;revert hc;unfold Xe;simp;done)
   | skip
  ·rfl
  ·rw[ha.bl_inv.1] at hb;have:=hb.bl_inv.1;cases this;rfl
  ·rw[ha.int_inv.1] at hb;have:=hb.int_inv.1;cases this;rfl
  ·rw[ha.str_inv.1] at hb;have:=hb.str_inv.1;cases this;rfl
  ·obtain⟨p,xs,rfl,hp,hi⟩:=ha.tup_inv
   obtain⟨p',ys,e,hp',hi'⟩:=hb.tup_inv
   cases e
   rw[hp] at hp';cases hp'
   unfold Xe at hc;rw[Iss.inj' (Is.inj' n) hc hi hi']
  ·obtain⟨p,xs,fq,rfl,hp,hi,_⟩:=ha.lst_inv
   obtain⟨p',ys,fq',e,hp',hi',_⟩:=hb.lst_inv
   cases e
   rw[hp] at hp';cases hp'
   unfold Xe at hc;rw[Iss.inj' (Is.inj' n) hc hi hi']
section
variable {X:Cx} {pins:List (Addr×Obj)} {Z:UP} {H:Hp} {s:Shared} {A:Around}
theorem Po{n:Nat}(ih:∀a b x y fa fb u w,Xe n a b=true->Is K H a x fa->Is K H b y fb->RelV x u->RelV y w->∃r,SeqAt.EqAt A s u w r/\(r=true↔a=b)) :
  ∀{l m:List PV}{xs ys:List V}{fa fb:List Addr}{us ws:List Value},(l.zip m).all (fun z=>Xe n z.1 z.2)=true->Iss K H l xs fa->Iss K H m ys fb->Vals xs us->Vals ys ws->
  ∃e:Nat->Bool,(∀j (h1:j<us.length) (h2:j<ws.length),SeqAt.EqAt A s us[j] ws[j] (e j))/\((List.range (min us.length ws.length)).all e=true↔l.take (min us.length ws.length)=m.take (min us.length ws.length))
 | [],m,xs,ys,fa,fb,us,ws,_,h,_,r,_=>by
  simp only[Iss] at h
  obtain⟨rfl,_⟩:=h
  cases r
  exact⟨fun _=>true,fun j h1=>by simp at h1,by simp⟩
 | a::l,[],xs,ys,fa,fb,us,ws,_,_,h,_,r=>by
  simp only[Iss] at h
  obtain⟨rfl,_⟩:=h
  cases r
  exact⟨fun _=>true,fun j h1 h2=>by simp at h2,by simp⟩
 | a::l,b::m,xs,ys,fa,fb,us,ws,hc,h,h',r,r'=>by
  obtain⟨x,xr,f1,f2,rfl,h1,h2,rfl⟩:=h.inv
  obtain⟨y,yr,g1,g2,rfl,h3,h4,rfl⟩:=h'.inv
  obtain⟨c1,c2⟩:=Ud hc
  cases r with
  | cons q v=>cases r' with
   | cons q' v'=>
    obtain⟨t,ht,ht'⟩:=ih a b x y f1 g1 _ _ c1 h1 h3 q q'
    obtain⟨e,he,he'⟩:=Po ih c2 h2 h4 v v'
    refine⟨fun j=>match j with | 0=>t | k+1=>e k,fun j h1 h2=>?_,?_⟩
    ·cases j with
     | zero=>exact ht
     | succ k=>exact he k (by simpa using h1) (by simpa using h2)
    ·simp only[List.length_cons,Nat.succ_min_succ,List.range_succ_eq_map,List.all_cons,List.all_map,Bool.and_eq_true,List.take_succ_cons,List.cons.injEq]
     exact and_congr ht' he'
theorem Iss.same'{l m:List PV}{xs ys:List V}{fa fb:List Addr}{us ws:List Value}(h:Iss K H l xs fa)(h':Iss K H m ys fb)(r:Vals xs us)(r':Vals ys ws) :
  (l.take (min us.length ws.length)=m.take (min us.length ws.length)/\us.length=ws.length)↔l=m:=by
 have e1:=h.len;have e2:=h'.len;have e3:=r.length;have e4:=r'.length;constructor
 ·rintro⟨a,b⟩
  rw[List.take_of_length_le (by omega),List.take_of_length_le (by omega)] at a;exact a
 ·intro a
  subst a
  exact⟨rfl,by omega⟩
def Jk(A:Around)(s:Shared)(u w:Value)(r:Bool):Prop:=SeqAt.RcAt A s u w r/\SeqAt.RcNeAt A s u w !r
theorem T2(I:Inv X pins Z H s):∀(n:Nat)(A:Around)(a b:PV)(x y:V)(fa fb:List Addr)(u w:Value),A.units+2*n+2<cLine->Xe n a b=true->Is K H a x fa->Is K H b y fb->RelV x u->RelV y w->
  (∃r,SeqAt.EqAt A s u w r/\(r=true↔a=b))/\∃r,Jk A s u w r/\(r=true↔a=b)
 | 0,A,a,b,x,y,fa,fb,u,w,hu,hc,_,_,_,_=>by unfold Xe at hc;simp at hc
 | n+1,A,a,b,x,y,fa,fb,u,w,hu,hc,ha,hb,ru,rw'=>by
  cases a<;>cases b<;>first
   | (exfalso;revert hc;unfold Xe;simp;done)
   | skip
  ·rw[ha.non_inv.1] at ru;rw[hb.non_inv.1] at rw'
   cases ru;cases rw'
   exact⟨⟨true,SeqAt.EqAt.same _,by simp⟩,true,⟨SeqAt.RcAt.none_none,SeqAt.RcNeAt.none_none⟩,by simp⟩
  ·rw[ha.bl_inv.1] at ru;rw[hb.bl_inv.1] at rw'
   cases ru;cases rw'
   exact⟨⟨_,SeqAt.EqAt.bool_bool _ _,by simp⟩,_,⟨SeqAt.RcAt.bool_bool _ _,SeqAt.RcNeAt.bool_bool _ _⟩,by simp⟩
  ·rw[ha.int_inv.1] at ru;rw[hb.int_inv.1] at rw'
   obtain⟨t,rfl⟩:=ru
   obtain⟨t',rfl⟩:=rw'
   exact⟨⟨_,SeqAt.EqAt.int_int _ _ _ _,by simp⟩,_,⟨SeqAt.RcAt.int_int _ _ _ _,SeqAt.RcNeAt.int_int _ _ _ _⟩,by simp⟩
  ·rw[ha.str_inv.1] at ru;rw[hb.str_inv.1] at rw'
   obtain⟨t,rfl⟩:=ru
   obtain⟨t',rfl⟩:=rw'
   exact⟨⟨_,SeqAt.EqAt.str_str _ _ _ _,by simp⟩,_,⟨SeqAt.RcAt.str_str _ _ _ _,SeqAt.RcNeAt.str_str _ _ _ _⟩,by simp⟩
  ·rename_i l1 l2
   obtain⟨p,xs,rfl,hp,hi⟩:=id ha.tup_inv
   obtain⟨p',ys,rfl,hp',hi'⟩:=id hb.tup_inv
   cases ru
   cases rw'
   have hc':=hc
   unfold Xe at hc'
   obtain⟨us,rv,q,_⟩:=I.tuple (SqT.of hp)
   obtain⟨ws,rv',q',_⟩:=I.tuple (SqT.of hp')
   obtain⟨f,hf,hf'⟩:=Po (A:=A.in1) (fun a b x y fa fb u w c i1 i2 r1 r2=>(T2 I n A.in1 a b x y fa fb u w (by show A.units+1+2*n+2<cLine;omega) c i1 i2 r1 r2).1) hc' hi hi' rv rv'
   have rc:=SeqAt.RcAt.tuples (A:=A) (e:=f) (show s.heap.IsTuple p us.toArray from q) (show s.heap.IsTuple p' ws.toArray from q') (by omega) (fun j h1 h2=>hf j (by simpa using h1) (by simpa using h2))
   have rn:=SeqAt.RcNeAt.tuples (A:=A) (e:=f) (show s.heap.IsTuple p us.toArray from q) (show s.heap.IsTuple p' ws.toArray from q') (by omega) (fun j h1 h2=>hf j (by simpa using h1) (by simpa using h2))
   have key:(((List.range (min us.toArray.size ws.toArray.size)).all f&&us.toArray.size==ws.toArray.size)=true)↔PV.tup l1=PV.tup l2:=by
    simp only[List.size_toArray,Bool.and_eq_true,beq_iff_eq,PV.tup.injEq];rw[hf']
    exact Iss.same' hi hi' rv rv'
   refine⟨?_,_,⟨rc,rn⟩,key⟩
   by_cases e:p=p'
   ·subst e
    exact⟨true,SeqAt.EqAt.same _,by simp[Is.inj' (n+1) _ _ _ _ _ hc ha hb]⟩
   ·exact⟨_,SeqAt.EqAt.of_refs e rc,key⟩
  ·rename_i l1 l2
   obtain⟨p,xs,fq,rfl,hp,hi,_⟩:=id ha.lst_inv
   obtain⟨p',ys,fq',rfl,hp',hi',_⟩:=id hb.lst_inv
   cases ru
   cases rw'
   have hc':=hc
   unfold Xe at hc'
   obtain⟨us,rv,q,_⟩:=I.list (SqL.of hp)
   obtain⟨ws,rv',q',_⟩:=I.list (SqL.of hp')
   obtain⟨f,hf,hf'⟩:=Po (A:=A.in1) (fun a b x y fa fb u w c i1 i2 r1 r2=>(T2 I n A.in1 a b x y fa fb u w (by show A.units+1+2*n+2<cLine;omega) c i1 i2 r1 r2).1) hc' hi hi' rv rv'
   have fin:∃r,Jk A s (.ref p) (.ref p') r/\(r=true↔PV.lst l1=PV.lst l2):=by
    have key:=Iss.same' hi hi' rv rv'
    by_cases hsz:us.length=ws.length
    ·refine⟨_,⟨SeqAt.RcAt.lists (e:=f) q.isList q'.isList (by simpa using hsz) (by omega) (fun j h1 h2=>hf j (by simpa using h1) (by simpa using h2)),SeqAt.RcNeAt.lists (e:=f) q.isList q'.isList (by simpa using hsz) (by omega) (fun j h1 h2=>hf j (by simpa using h1) (by simpa using h2))⟩,?_⟩
     rw[hsz,Nat.min_self] at hf' key
     simp only[List.size_toArray,PV.lst.injEq];rw[hsz,hf',<-key]
     simp
    ·refine⟨false,⟨SeqAt.RcAt.lists_lengths q.isList q'.isList (by simpa using hsz) (by omega),SeqAt.RcNeAt.lists_lengths q.isList q'.isList (by simpa using hsz) (by omega)⟩,?_⟩
     rw[PV.lst.injEq,<-key];simp[hsz]
   obtain⟨r,hr,hk⟩:=fin
   refine⟨?_,r,hr,hk⟩
   by_cases e:p=p'
   ·subst e
    exact⟨true,SeqAt.EqAt.same _,by simp[Is.inj' (n+1) _ _ _ _ _ hc ha hb]⟩
   ·exact⟨r,SeqAt.EqAt.of_refs e hr.1,hk⟩
end
def Iu(K:PySem.W.Frag)(neg:Bool):R2:=fun x y H Q=>∃a b fa fb,Is K H a x fa/\Is K H b y fb/\Xe 8 a b=true/\∀r:Bool,(r=true↔a=b)->Q (.bl (if neg then !r else r)) H
section
variable {X:Cx}
theorem ML(hu:X.A.units+64<cLine):Wt X (compareOp .Eq) (Iu X.K false):=by
 intro pins s Z H x y v u Q I rx ry h
 obtain⟨a,b,fa,fb,ha,hb,hc,q⟩:=h
 obtain⟨_,r,hr,hk⟩:=T2 I 8 X.A a b x y fa fb v u (by omega) hc ha hb rx ry
 exact hr.1 X.prog X.w X.xe _ ⟨.bl r,H,I,rfl,q r hk⟩
theorem MM(hu:X.A.units+64<cLine):Wt X (compareOp .NotEq) (Iu X.K true):=by
 intro pins s Z H x y v u Q I rx ry h
 obtain⟨a,b,fa,fb,ha,hb,hc,q⟩:=h
 obtain⟨_,r,hr,hk⟩:=T2 I 8 X.A a b x y fa fb v u (by omega) hc ha hb rx ry
 exact hr.2 X.prog X.w X.xe _ ⟨.bl !r,H,I,rfl,q r hk⟩
end
noncomputable def WW(neg:Bool):PV->PV->Option PV:=fun a b=>if Xe 8 a b=true then some (.bl (if neg then !decide (a=b) else decide (a=b))) else none
theorem RW(neg:Bool):RB K (Iu K neg) (WW neg):=fun H x y a b l fa fb ha hb e Q k=>by
 unfold WW at e
 split at e
 ·cases e
  refine⟨a,b,fa,fb,ha,hb,by assumption,fun r hr=>?_⟩
  have:r=decide (a=b):=by
   cases r with
   | true=>exact(decide_eq_true (hr.mp rfl)).symm
   | false=>exact(decide_eq_false fun z=>Bool.false_ne_true (hr.mpr z)).symm
  subst this
  exact k _ H [] (Same.refl H) (Is.bl _) fun p hp=>by simp at hp
 ·cases e
def Iv(K:PySem.W.Frag)(neg:Bool):R2:=fun x y H Q=>∃a b m fa fb,Is K H a x fa/\Is K H b y fb/\QB b=some m/\(m.all fun z=>Xe 8 z a)=true/\∀r:Bool,(r=true↔a∈m)->Q (.bl (if neg then !r else r)) H
section
variable {X:Cx} {pins:List (Addr×Obj)} {Z:UP} {H:Hp} {s:Shared}
theorem To{a:PV}{x:V}{fa:List Addr}{u:Value}{A:Around}(I:Inv X pins Z H s)(hu:A.units+18<cLine)(ha:Is K H a x fa)(rx:RelV x u):∀{m:List PV}{xs:List V}{fb:List Addr}{us:List Value},(m.all fun z=>Xe 8 z a)=true->Iss K H m xs fb->Vals xs us->
  ∃e:Value->Bool,(∀y∈us,SeqAt.EqAt A s y u (e y))/\(us.any e=true↔a∈m):=fun{m xs fb us} hc h r=>by
 -- each one's answer
 have each:∀y∈us,∃t:Bool,SeqAt.EqAt A s y u t/\(t=true↔∃b,b∈m/\b=a/\∃z f,Is K H b z f/\RelV z y):=fun y hy=>by
  obtain⟨j,hj,e⟩:=List.mem_iff_getElem.mp hy
  have hl:=r.length
  have hxj:xs[j]?=some xs[j]:=List.getElem?_eq_getElem (by omega)
  obtain⟨b,f,hb,ib,_⟩:=h.get' hxj
  obtain⟨w,hw,rw'⟩:=r.get hxj
  rw[List.getElem?_eq_getElem hj] at hw;cases hw
  rw[e] at rw'
  have hbm:b∈m:=List.mem_of_getElem? hb
  have cb:=List.all_eq_true.mp hc b hbm
  obtain⟨⟨t,ht,hk⟩,_⟩:=T2 I 8 A b a xs[j] x f fa y u (by omega) cb ib ha rw' rx
  refine⟨t,ht,hk.trans ⟨fun z=>⟨b,hbm,z,xs[j],f,ib,rw'⟩,fun⟨b',hb',e',z,f',i',r'⟩=>?_⟩⟩
  have ez:z=xs[j]:=r'.inj rw'
  subst ez;have cb':=List.all_eq_true.mp hc b' hb'
  subst e'
  exact Is.inj' 8 b b' _ _ _ cb ib i'
 classical
 refine⟨fun y=>if hy:y∈us then(each y hy).choose else false,fun y hy=>?_,?_⟩
 ·simp only[dif_pos hy];exact(each y hy).choose_spec.1
 ·rw[List.any_eq_true]
  constructor
  ·rintro⟨y,hy,e⟩
   rw[dif_pos hy] at e
   obtain⟨b,hb,rfl,_⟩:=(each y hy).choose_spec.2.mp e
   exact hb
  ·intro hm
   obtain⟨j,hj,e⟩:=List.mem_iff_getElem.mp hm
   obtain⟨z,f,hz,iz,_⟩:=h.get (List.getElem?_eq_getElem hj)
   obtain⟨y,hy,ry⟩:=r.get hz
   have hyu:y∈us:=List.mem_of_getElem? hy
   refine⟨y,hyu,?_⟩
   rw[dif_pos hyu]
   exact(each y hyu).choose_spec.2.mpr ⟨a,hm,rfl,z,f,e▸iz,ry⟩
end
section
variable {X:Cx}
theorem Iw(hu:X.A.units+64<cLine):Wt X (compareOp .In) (Iv X.K false):=by
 intro pins s Z H x y v u Q I rx ry h
 obtain⟨a,b,m,fa,fb,ha,hb,hm,hc,q⟩:=h
 obtain⟨p,xs,fq,rfl,hp,hi,_⟩:=Tn (K:=X.K) hb hm
 cases ry
 rcases hp with hp | hp
 ·obtain⟨us,rv,t,_⟩:=I.list hp
  obtain⟨e,he,hk⟩:=To (A:=X.A.in1) I (by show X.A.units+1+18<cLine;omega) ha rx hc hi rv
  refine SeqAt.in_listAt e t.isList (fun w hw=>he w (by simpa using hw)) ⟨.bl _,H,I,rfl,?_⟩
  rw[show us.toArray.any e=us.any e by simp]
  exact q _ hk
 ·obtain⟨us,rv,t,_⟩:=I.tuple hp
  obtain⟨e,he,hk⟩:=To (A:=X.A.in1) I (by show X.A.units+1+18<cLine;omega) ha rx hc hi rv
  refine SeqAt.in_tupleAt e t (fun w hw=>he w (by simpa using hw)) ⟨.bl _,H,I,rfl,?_⟩
  rw[show us.toArray.any e=us.any e by simp]
  exact q _ hk
theorem NG(hu:X.A.units+64<cLine):Wt X (compareOp .NotIn) (Iv X.K true):=by
 intro pins s Z H x y v u Q I rx ry h
 obtain⟨a,b,m,fa,fb,ha,hb,hm,hc,q⟩:=h
 obtain⟨p,xs,fq,rfl,hp,hi,_⟩:=Tn (K:=X.K) hb hm
 cases ry
 rcases hp with hp | hp
 ·obtain⟨us,rv,t,_⟩:=I.list hp
  obtain⟨e,he,hk⟩:=To (A:=X.A.in1) I (by show X.A.units+1+18<cLine;omega) ha rx hc hi rv
  refine SeqAt.notIn_listAt e t.isList (fun w hw=>he w (by simpa using hw)) ⟨.bl _,H,I,rfl,?_⟩
  rw[show us.toArray.any e=us.any e by simp]
  exact q _ hk
 ·obtain⟨us,rv,t,_⟩:=I.tuple hp
  obtain⟨e,he,hk⟩:=To (A:=X.A.in1) I (by show X.A.units+1+18<cLine;omega) ha rx hc hi rv
  refine SeqAt.notIn_tupleAt e t (fun w hw=>he w (by simpa using hw)) ⟨.bl _,H,I,rfl,?_⟩
  rw[show us.toArray.any e=us.any e by simp]
  exact q _ hk
end
noncomputable def SF(neg:Bool):PV->PV->Option PV:=fun a b=>(QB b).bind fun m=>if(m.all fun z=>Xe 8 z a)=true then some (.bl (if neg then !decide (a∈m) else decide (a∈m))) else none
theorem MN(neg:Bool):RB K (Iv K neg) (SF neg):=fun H x y a b l fa fb ha hb e Q k=>by
 obtain⟨m,hm,e⟩:=Zd e
 split at e
 ·cases e
  refine⟨a,b,m,fa,fb,ha,hb,hm,by assumption,fun r hr=>?_⟩
  have:r=decide (a∈m):=by
   cases r with
   | true=>exact(decide_eq_true (hr.mp rfl)).symm
   | false=>exact(decide_eq_false fun z=>Bool.false_ne_true (hr.mpr z)).symm
  subst this
  exact k _ H [] (Same.refl H) (Is.bl _) fun p hp=>by simp at hp
 ·cases e
end VL
namespace VL
open PySem PySem.Spec PyProof.Rows L2
variable {K:PySem.W.Frag}
mutual
theorem Is.dom{H:Hp}:∀(l:PV)(v:V)(fp:List Addr),Is K H l v fp->∀p∈fp,H p≠none
 | .non,_,_,h=>by simp only[Is] at h;rw[h.2];simp
 | .bl _,_,_,h=>by simp only[Is] at h;rw[h.2];simp
 | .int _,_,_,h=>by simp only[Is] at h;rw[h.2];simp
 | .str _,_,_,h=>by simp only[Is] at h;rw[h.2];simp
 | .ty _,_,_,h=>by simp only[Is] at h;rw[h.2];simp
 | .exc _,_,_,h=>by simp only[Is] at h;rw[h.2];simp
 | .tup l,v,fp,h=>by
  obtain⟨p,xs,_,_,hi⟩:=h.tup_inv
  exact Iss.dom l xs fp hi
 | .lst l,v,fp,h=>by
  obtain⟨p,xs,fq,_,hp,hi,rfl⟩:=h.lst_inv
  intro q hq
  rcases List.mem_cons.mp hq with rfl | hq
  ·rw[hp];simp
  ·exact Iss.dom l xs fq hi q hq
 | .cst l,v,fp,h=>by
  obtain⟨p,xs,_,_,hi⟩:=h.cst_inv
  exact Iss.dom l xs fp hi
 | .dK ks l,v,fp,h=>by
  obtain⟨p,kvs,fq,_,hp,_,hi,rfl⟩:=h.dK_inv
  intro q hq
  rcases List.mem_cons.mp hq with rfl | hq
  ·rcases hp with e | ⟨o,e⟩<;>rw[e]<;>simp
  ·exact Iss.dom l _ fq hi q hq
 | .dT ks l,v,fp,h=>by
  obtain⟨p,kvs,fq,_,hp,_,hi,rfl⟩:=h.dT_inv
  intro q hq
  rcases List.mem_cons.mp hq with rfl | hq
  ·rcases hp with e | ⟨o,e⟩<;>rw[e]<;>simp
  ·exact Iss.dom l _ fq hi q hq
theorem Iss.dom{H:Hp}:∀(l:List PV)(xs:List V)(fp:List Addr),Iss K H l xs fp->∀p∈fp,H p≠none
 | [],_,_,h=>by simp only[Iss] at h;rw[h.2];simp
 | l::ls,xs,fp,h=>by
  obtain⟨x,r,f1,f2,_,h1,h2,rfl⟩:=h.inv
  intro q hq
  rcases List.mem_append.mp hq with hq | hq
  ·exact Is.dom l x f1 h1 q hq
  ·exact Iss.dom ls r f2 h2 q hq
end
def Ab(Rm:Addr->Prop)(H H':Hp):Prop:=∀b o,H b=some o->¬Rm b->H' b=some o
theorem Same.ab{Rm:Addr->Prop}{H H':Hp}(s:Same H H'):Ab Rm H H':=fun b o h _=>s b o h
theorem Ab.tk{Rm:Addr->Prop}{H H':Hp}(a:Ab Rm H H')(hd:∀p,Rm p->Wj (H p)):TK2 H H':=⟨fun b xs h=>a b _ h fun z=>by
 have:=hd b z
 rw[h] at this;exact this,fun b o xs h=>a b _ h fun z=>by
 have:=hd b z
 rw[h] at this;exact this,fun b o x h=>a b _ h fun z=>by
 have:=hd b z
 rw[h] at this;exact this⟩
theorem Is.ab{Rm:Addr->Prop}{H H':Hp}(a:Ab Rm H H')(hd:∀p,Rm p->Wj (H p)){l:PV}{v:V}{fp:List Addr}(n:∀p∈fp,¬Rm p)(h:Is K H l v fp):Is K H' l v fp:=
 Is.tr (a.tk hd) l v fp (fun p hp=>RdK.of fun o q=>a p o q (n p hp)) h
structure Gk(K:PySem.W.Frag)(Rm:Addr->Prop)(H1:Hp)(J:It)(ls:List PV):Prop where
 stop:∀H',Ab Rm H1 H'->J.stop ls.length H'
 go:∀H' (i:Nat) l,Ab Rm H1 H'->ls[i]?=some l->J.go i H'
 yld:∀H' (i:Nat) l x H'',Ab Rm H1 H'->ls[i]?=some l->J.yld i H' x H''->Same H' H''/\∃fp,Is K H'' l x fp/\∀p∈fp,H1 p≠none/\¬Rm p
abbrev XL:=ZG->Option (List PV)
def iF(K:PySem.W.Frag)(f:XL):TI:=fun Z H R=>∃(Rm:Addr->Prop) (s:ZG) (ls:List PV),(∀p,Rm p->Wj (H p))/\EnvIs K Rm H s Z/\f s=some ls/\∀J H1,Same H H1->Gk K Rm H1 J ls->R J H1
def VI(X:Cx)(tg e:Expr)(f:XL):Prop:=PI X tg e (iF X.K f)
section
variable {X:Cx} {tg e:Expr} {es:List Expr}
theorem PI.imp{t t':TI}(h:PI X tg e t)(i:∀Z H R,t' Z H R->t Z H R):PI X tg e t':=fun pins s Z H R I q=>h pins s Z H R I (i Z H R q)
def Iy:PV->Option (List PV)
 | .lst m=>some m
 | .cst m=>some m
 | _=>none
def Ue(f:XE):XL:=fun s=>(f s).bind Iy
def Ug(f:XE):XL:=fun s=>match f s with | some (.tup m)=>some m | _=>none
theorem MO{a:PV}{m:List PV}(h:Iy a=some m):a = .lst m\/a = .cst m:=by
 unfold Iy at h;split at h
 ·cases h;exact .inl rfl
 ·cases h;exact .inr rfl
 ·cases h
theorem NH{f:XE}{s:ZG}{m:List PV}(h:Ug f s=some m):f s=some (.tup m):=by
 unfold Ug at h;split at h
 ·cases h;assumption
 ·cases h
theorem Tp{f:XE}(h:VE X e f):VI X tg e (Ue f):=PI.imp (LO h) fun Z H R ⟨Rm,s,ls,hd,env,e,k⟩=>by
 obtain⟨l,e1,e2⟩:=Zd e
 refine⟨Rm,s,l,hd,env,e1,fun v H1 fp s1 i1 n1=>?_⟩
 have hd1:∀p,Rm p->Wj (H1 p):=fun p hp=>Same.mut s1 (hd p hp)
 have main:∀a xs fq,v = .ref a->SqL X.K H1 a xs->(∀H',Ab Rm H1 H'->SqL X.K H' a xs)->Iss X.K H1 ls xs fq->(∀p∈fq,p∈fp)->∃a,v = .ref a/\(∃xs,SqL X.K H1 a xs)/\R (Gy X.K a) H1:=by
  rintro a xs fq rfl ha keep hi sub
  refine⟨a,rfl,⟨xs,ha⟩,k _ H1 s1 ⟨fun H' ab=>⟨xs,keep H' ab,by rw[hi.len];exact Nat.le_refl _⟩,fun H' i l ab hl=>?_,fun H' i l x H'' ab hl y=>?_⟩⟩
  ·obtain⟨x,f1,hx,_,_⟩:=hi.get hl
   exact⟨xs,x,keep H' ab,hx⟩
  ·obtain⟨rfl,y⟩:=y
   obtain⟨x',f1,hx,ix,sub'⟩:=hi.get hl
   have:=y xs (keep _ ab)
   rw[hx] at this;cases this
   have n1':∀p∈f1,¬Rm p:=fun p hp=>n1 p (sub p (sub' p hp))
   exact⟨Same.refl _,f1,ix.ab ab hd1 n1',fun p hp=>⟨Is.dom _ _ _ ix p hp,n1' p hp⟩⟩
 rcases MO e2 with rfl | rfl
 ·obtain⟨a,xs,fq,rfl,ha,hi,rfl⟩:=i1.lst_inv
  exact main a xs fq rfl (SqL.of ha) (fun H' ab=>SqL.of (ab a _ ha (n1 a List.mem_cons_self))) hi fun p hp=>List.mem_cons_of_mem _ hp
 ·obtain⟨a,xs,rfl,ha,hi⟩:=i1.cst_inv
  exact main a xs fp rfl ha.sq (fun H' ab=>(ha.tr (ab.tk hd1)).sq) hi fun p hp=>hp
theorem MP{f:XE}(h:VE X e f):VI X tg e (Ug f):=PI.imp (JS h) fun Z H R ⟨Rm,s,ls,hd,env,e,k⟩=>by
 refine⟨Rm,s,.tup ls,hd,env,NH e,fun v H1 fp s1 i1 n1=>?_⟩
 obtain⟨a,xs,rfl,ha,hi⟩:=i1.tup_inv
 have hd1:∀p,Rm p->Wj (H1 p):=fun p hp=>Same.mut s1 (hd p hp)
 have keep:∀H',Ab Rm H1 H'->SqT X.K H' a xs:=fun H' ab=>SqT.of ((ab.tk hd1).tup a xs ha)
 refine⟨a,rfl,⟨xs,SqT.of ha⟩,k _ H1 s1 ⟨fun H' ab=>⟨xs,keep H' ab,by rw[hi.len];exact Nat.le_refl _⟩,fun H' i l ab hl=>?_,fun H' i l x H'' ab hl y=>?_⟩⟩
 ·obtain⟨x,f1,hx,_,_⟩:=hi.get hl
  exact⟨xs,x,keep H' ab,hx⟩
 ·obtain⟨rfl,y⟩:=y
  obtain⟨x',f1,hx,ix,sub⟩:=hi.get hl
  have:=y xs (keep _ ab)
  rw[hx] at this;cases this
  have n1':∀p∈f1,¬Rm p:=fun p hp=>n1 p (sub p hp)
  exact⟨Same.refl _,f1,ix.ab ab hd1 n1',fun p hp=>⟨Is.dom _ _ _ ix p hp,n1' p hp⟩⟩
def Wh(n:Nat):List PV:=(List.range n).map fun(i:Nat)=>PV.int (i:Int)
def XW(lo:Int)(n:Nat):List PV:=(List.range n).map fun(i:Nat)=>PV.int (lo+(i:Int))
def Yk(fs:List XE):XL:=fun s=>match Tb fs s with | some [.int j]=>if -1000000<=j/\j<=1000000 then some (Wh j.toNat) else none | _=>none
def Yq(fs:List XE):XL:=fun s=>match Tb fs s with | some [.int i,.int j]=>if -1000000<=i/\i<=1000000/\-1000000<=j/\j<=1000000 then some (XW i (j-i).toNat) else none | _=>none
theorem OD{Rm:Addr->Prop}{H1:Hp}(lo:Int)(n:Nat):Gk K Rm H1 (Hl lo n) (XW lo n):=by
 refine⟨fun H' _=>by unfold XW;rw[List.length_map,List.length_range];exact Nat.le_refl n,fun H' i l _ hl=>?_,fun H' i l x H'' _ hl y=>?_⟩
 ·have:=(List.getElem?_eq_some_iff.mp hl).1
  unfold XW at this;rw[List.length_map,List.length_range] at this;exact this
 ·obtain⟨rfl,rfl⟩:=y
  have hi:=(List.getElem?_eq_some_iff.mp hl).1
  unfold XW at hi hl;rw[List.length_map,List.length_range] at hi;rw[List.getElem?_map,List.getElem?_range hi] at hl;cases hl
  exact⟨Same.refl _,[],Is.int _,fun p hp=>by simp at hp⟩
theorem Km(n:Nat):Wh n=XW 0 n:=by
 unfold Wh XW
 apply List.map_congr_left
 intro i _;rw[Int.zero_add]
theorem Xf{a:Expr}{fs:List XE}{p pos:Pos}(hg:Gl X "range")(hm:X.mg "range" = none)(ha:VA X [a] fs)(hs:starEach [a] X.env=[(false,eval a X.env)]:=by rfl):VI X tg (.Call (.Name "range" p) [a] [] pos) (Yk fs):=
 PI.imp (Ng hg hm ha hs) fun Z H R ⟨Rm,s,ls,hd,env,e,k⟩=>by
 unfold Yk at e
 split at e
 ·split at e
  ·cases e
   rename_i j he hb
   refine⟨Rm,s,_,hd,env,he,fun vs H1 fp s1 i1 _=>?_⟩
   obtain⟨v,rfl,i⟩:=i1.one_inv
   refine⟨j,by rw[i.int_inv.1],by omega,by omega,k _ H1 s1 ?_⟩
   rw[Km];exact OD _ _
  ·cases e
 ·cases e
theorem Wn{a b:Expr}{fs:List XE}{p pos:Pos}(hg:Gl X "range")(hm:X.mg "range" = none)(ha:VA X [a,b] fs)(hs:starEach [a,b] X.env=[(false,eval a X.env),(false,eval b X.env)]:=by rfl)(hs2:starEach [b] X.env=[(false,eval b X.env)]:=by rfl):VI X tg (.Call (.Name "range" p) [a,b] [] pos) (Yq fs):=
 PI.imp (Nh hg hm ha hs hs2) fun Z H R ⟨Rm,s,ls,hd,env,e,k⟩=>by
 unfold Yq at e
 split at e
 ·split at e
  ·cases e
   rename_i i j he hb
   refine⟨Rm,s,_,hd,env,he,fun vs H1 fp s1 i1 _=>?_⟩
   obtain⟨v,w,f1,f2,rfl,iv,iw,_⟩:=i1.two_inv
   exact⟨i,j,by rw[iv.int_inv.1,iw.int_inv.1],⟨by omega,by omega,by omega,by omega⟩,k _ H1 s1 (OD _ _)⟩
  ·cases e
 ·cases e
def XX(m:List PV):List PV:=m.zipIdx.map fun z=>.tup [.int (z.2:Nat),z.1]
theorem Rh{m:List PV}{i:Nat}{l:PV}(h:(XX m)[i]?=some l):∃a,m[i]?=some a/\l = .tup [.int (i:Nat),a]:=by
 unfold XX at h;rw[List.getElem?_map,List.getElem?_zipIdx] at h
 cases q:m[i]? with
 | none=>rw[q] at h;cases h
 | some a=>rw[q] at h;cases h;exact⟨a,rfl,by simp⟩
theorem UU(m:List PV):(XX m).length=m.length:=by unfold XX;rw[List.length_map,List.length_zipIdx]
def seqB:Bool->PV->Option (List PV)
 | true,.lst l=>some l
 | true,.cst l=>some l
 | false,.tup l=>some l
 | _,_=>none
theorem Kn{H:Hp}{b:Bool}{l:PV}{v:V}{fp:List Addr}{m:List PV}(h:Is K H l v fp)(e:seqB b l=some m):∃p xs fq,v = .ref p/\Iss K H m xs fq/\(∀q∈fq,q∈fp)/\∀(Rm:Addr->Prop) H',Ab Rm H H'->(∀p,Rm p->Wj (H p))->(∀p∈fp,¬Rm p)->Mi b K H' p xs:=by
 cases b with
 | true=>cases l with
  | lst l=>
   cases e
   obtain⟨p,xs,fq,rfl,hp,hi,rfl⟩:=h.lst_inv
   exact⟨p,xs,fq,rfl,hi,fun q hq=>List.mem_cons_of_mem _ hq,fun Rm H' ab _ n=>SqL.of (ab p _ hp (n p List.mem_cons_self))⟩
  | cst l=>
   cases e
   obtain⟨p,xs,rfl,hp,hi⟩:=h.cst_inv
   exact⟨p,xs,fp,rfl,hi,fun q hq=>hq,fun Rm H' ab hd _=>(hp.tr (ab.tk hd)).sq⟩
  | _=>cases e
 | false=>cases l with
  | tup l=>
   cases e
   obtain⟨p,xs,rfl,hp,hi⟩:=h.tup_inv
   exact⟨p,xs,fp,rfl,hi,fun q hq=>hq,fun Rm H' ab hd _=>SqT.of ((ab.tk hd).tup p xs hp)⟩
  | _=>cases e
def X8(b:Bool)(fs:List XE):XL:=fun s=>match Tb fs s with | some [l]=>(seqB b l).map XX | _=>none
theorem RX{elts:List Expr}{k:Nat}{tpos:Pos}(b:Bool){a:Expr}{fs:List XE}{p pos:Pos}(hg:Gl X "enumerate")(hm:X.mg "enumerate" = none)(ha:VA X [a] fs)(hs:starEach [a] X.env=[(false,eval a X.env)]:=by rfl) :
  VI X (.Tuple elts k tpos) (.Call (.Name "enumerate" p) [a] [] pos) (X8 b fs):=PI.imp (Kd b hg hm ha hs) fun Z H R ⟨Rm,s,ls,hd,env,e,k⟩=>by
 unfold X8 at e
 split at e
 ·rename_i l he
  obtain⟨m,e1,rfl⟩:=map_some e
  refine⟨Rm,s,_,hd,env,he,fun vs H1 fp s1 i1 n1=>?_⟩
  obtain⟨v,rfl,i⟩:=i1.one_inv
  have hd1:∀p,Rm p->Wj (H1 p):=fun p hp=>Same.mut s1 (hd p hp)
  obtain⟨a,xs,fq,rfl,hi,sub,keep⟩:=Kn (K:=X.K) i e1
  have kp:=fun H' ab=>keep Rm H' ab hd1 n1
  refine⟨a,rfl,⟨xs,kp H1 (Same.ab (Same.refl H1))⟩,k _ H1 s1 ⟨fun H' ab=>⟨xs,kp H' ab,by rw[UU,hi.len]⟩,fun H' i l ab hl=>?_,fun H' i l x H'' ab hl y=>?_⟩⟩
  ·obtain⟨c,hc,rfl⟩:=Rh hl
   obtain⟨x,f1,hx,_,_⟩:=hi.get hc
   exact⟨xs,x,kp H' ab,hx⟩
  ·obtain⟨c,hc,rfl⟩:=Rh hl
   obtain⟨x',f1,hx,ix,sb⟩:=hi.get hc
   obtain⟨q,z,hq,rfl,rfl,y⟩:=y
   have:=y xs (kp _ ab)
   rw[hx] at this;cases this
   have n1':∀p∈f1,¬Rm p:=fun p hp=>n1 p (sub p (sb p hp))
   refine⟨Same.new hq _,f1,Is.tup upd_same ?_,fun p hp=>⟨Is.dom _ _ _ ix p hp,n1' p hp⟩⟩
   exact Iss.cons (f1:=[]) (Is.int _) (Iss.one ((ix.ab ab hd1 n1').mono (Same.new hq _)))
 ·cases e
end
inductive Tgt where
 | one (i:Nat) | many (is:List Nat)
def Tgt.slots:Tgt->List Nat
 | .one i=>[i]
 | .many is=>is
def setAll:List Nat->List PV->ZG->ZG
 | i::is,l::ls,s=>setAll is ls (s.set i (some l))
 | _,_,s=>s
def YJ:List Nat->List V->UP->UP
 | i::is,l::ls,s=>YJ is ls (s.set i (some l))
 | _,_,s=>s
def VB:Tgt->PV->ZG->Option ZG
 | .one i,l,s=>some (s.set i (some l))
 | .many is,.tup ls,s=>if ls.length=is.length then some (setAll is ls s) else none
 | _,_,_=>none
def Pp:List Nat->Ja
 | []=>Hh
 | i::is=>Jb (U6 i) (Pp is)
def gT(K:PySem.W.Frag):Tgt->TG
 | .one i=>U6 i
 | .many is=>Hi K is.length (Pp is)
theorem T3:∀{is:List Nat}{vs:List V}{Z:UP}{H:Hp}{Q:UP->Hp->Prop},vs.length=is.length->Q (YJ is vs Z) H->Pp is vs Z H Q
 | [],[],_,_,_,_,q=>⟨rfl,q⟩
 | [],_::_,_,_,_,h,_=>by simp at h
 | _::_,[],_,_,_,h,_=>by simp at h
 | i::is,v::vs,Z,H,Q,h,q=>⟨v,vs,rfl,T3 (is:=is) (vs:=vs) (by simpa using h) q⟩
theorem Pq{T:Tgt}{l:PV}{v:V}{fp:List Addr}{s s':ZG}{H:Hp}(h:Is K H l v fp)(e:VB T l s=some s') :
  ∃ls vs fs,s'=setAll T.slots ls s/\Iss K H ls vs fs/\ls.length=T.slots.length/\(∀p∈fs,p∈fp)/\∀Z (Q:UP->Hp->Prop),Q (YJ T.slots vs Z) H->gT K T v Z H Q:=by
 cases T with
 | one i=>
  cases e
  exact⟨[l],[v],fp,rfl,Iss.one h,rfl,fun p hp=>hp,fun Z Q q=>q⟩
 | many is=>
  cases l with
  | tup ls=>
   have e:(if ls.length=is.length then some (VL.setAll is ls s) else none)=some s':=e
   split at e
   ·cases e
    obtain⟨p,xs,rfl,hp,hi⟩:=h.tup_inv
    exact⟨ls,xs,fp,rfl,hi,by assumption,fun p hp=>hp,fun Z Q q=>⟨p,xs,rfl,SqT.of hp,by rw[hi.len];assumption,T3 (by rw[hi.len];assumption) q⟩⟩
   ·cases e
  | _=>cases e
theorem Wx:∀{is:List Nat}{vs:List V}{Z:UP}{n:Nat},(∀i∈is,i<n)->(YJ is vs Z).drop n=Z.drop n
 | [],_,_,_,_=>rfl
 | _::_,[],_,_,_=>rfl
 | i::is,v::vs,Z,n,h=>by
  show(YJ is vs (Z.set i (some v))).drop n=_
  rw[Wx (fun j hj=>h j (List.mem_cons_of_mem _ hj))]
  have:=h i List.mem_cons_self
  rw[List.drop_set,if_pos this]
theorem EnvIs.set{Rm:Addr->Prop}{H:Hp}{s:ZG}{Z:UP}{i:Nat}{l:PV}{v:V}{fp:List Addr}(h:EnvIs K Rm H s Z)(hl:s.length=Z.length)(hi:Is K H l v fp)(n:∀p∈fp,¬Rm p):EnvIs K Rm H (s.set i (some l)) (Z.set i (some v)):=⟨fun j a e=>by
 rw[List.getElem?_set] at e
 by_cases hj:i=j
 ·subst hj
  rw[if_pos rfl] at e
  split at e
  ·cases e
   exact⟨v,fp,by rw[List.getElem?_set,if_pos rfl,if_pos (by omega)],hi,n⟩
  ·cases e
 ·rw[if_neg hj] at e
  obtain⟨w,f,h1,h2,h3⟩:=h.is j a e
  exact⟨w,f,by rw[List.getElem?_set,if_neg hj];exact h1,h2,h3⟩⟩
theorem EnvIs.setAll{Rm:Addr->Prop}{H:Hp}:∀{is:List Nat}{ls:List PV}{vs:List V}{fs:List Addr}{s:ZG}{Z:UP},EnvIs K Rm H s Z->s.length=Z.length->Iss K H ls vs fs->(∀p∈fs,¬Rm p)->EnvIs K Rm H (VL.setAll is ls s) (YJ is vs Z)
 | [],_,_,_,_,_,h,_,_,_=>by unfold VL.setAll YJ;exact h
 | i::is,[],vs,fs,s,Z,h,_,hi,_=>by
  simp only[Iss] at hi;rw[hi.1];exact h
 | i::is,l::ls,vs,fs,s,Z,h,hl,hi,n=>by
  obtain⟨x,r,f1,f2,rfl,h1,h2,rfl⟩:=hi.inv
  show EnvIs K Rm H (VL.setAll is ls (s.set i (some l))) (YJ is r (Z.set i (some x)))
  exact EnvIs.setAll (h.set hl h1 fun p hp=>n p (List.mem_append_left _ hp)) (by rw[List.length_set,List.length_set];exact hl) h2 fun p hp=>n p (List.mem_append_right _ hp)
def Z8(n:Nat)(ix:List Nat)(s:ZG):ZG:=List.replicate n none++ix.map (fun i=>(s[i]?).join)
def XY(T:Tgt)(ft:XT)(fe:XE)(s0:ZG):List PV->Option (List PV)
 | []=>some []
 | l::r=>(VB T l s0).bind fun s1=>(ft s1).bind fun c=>if c=true then(fe s1).bind fun y=>(XY T ft fe s0 r).map (y::·) else XY T ft fe s0 r
def ZJ(n:Nat)(ix:List Nat)(fi:XL)(T:Tgt)(ft:XT)(fe:XE):XE:=fun s=>(fi s).bind fun ls=>if ls.length<=10000 then(XY T ft fe (Z8 n ix s) ls).map .lst else none
def Yr:XT:=fun _=>some true
theorem join_some{α:Type}{o:Option (Option α)}{a:α}(h:o.join=some a):o=some (some a):=by
 cases o with
 | none=>cases h
 | some b=>cases b with
  | none=>cases h
  | some c=>cases h;rfl
theorem EnvIs.comp{Rm:Addr->Prop}{H:Hp}{s:ZG}{Z:UP}{n:Nat}{ix:List Nat}(h:EnvIs K Rm H s Z):EnvIs K Rm H (Z8 n ix s) (Z5 n ix Z):=⟨fun i l e=>by
 unfold Z8 at e;unfold Z5
 by_cases hi:i<n
 ·rw[List.getElem?_append_left (by simpa using hi),List.getElem?_replicate,if_pos hi] at e
  cases e
 ·rw[List.getElem?_append_right (by simpa using hi),List.length_replicate,List.getElem?_map] at e
  rw[List.getElem?_append_right (by simpa using hi),List.length_replicate,List.getElem?_map]
  cases q:ix[i-n]? with
  | none=>rw[q] at e;cases e
  | some j=>
   rw[q] at e
   have e:=join_some (Option.some.inj e)
   obtain⟨v,fp,a,b,c⟩:=h.is j l e
   exact⟨v,fp,by show some ((Z[j]?).join)=_;rw[a];rfl,b,c⟩⟩
theorem QD(n:Nat)(ix:List Nat)(s:ZG)(Z:UP):(Z8 n ix s).length=(Z5 n ix Z).length:=by unfold Z8 Z5;simp
theorem T4{T:Tgt}{ft:XT}{fe:XE}{s0:ZG}{l:PV}{r ys:List PV}(h:XY T ft fe s0 (l::r)=some ys):∃s1 c,VB T l s0=some s1/\ft s1=some c/\((c=true/\∃y zs,fe s1=some y/\XY T ft fe s0 r=some zs/\ys=y::zs)\/(c=false/\XY T ft fe s0 r=some ys)):=by
 unfold XY at h
 obtain⟨s1,e1,h⟩:=Zd h
 obtain⟨c,e2,h⟩:=Zd h
 refine⟨s1,c,e1,e2,?_⟩
 cases c with
 | true=>
  rw[if_pos rfl] at h
  obtain⟨y,e3,h⟩:=Zd h
  obtain⟨zs,e4,rfl⟩:=map_some h
  exact .inl ⟨rfl,y,zs,e3,e4,rfl⟩
 | false=>
  rw[if_neg Bool.false_ne_true] at h
  exact .inr ⟨rfl,h⟩
theorem T5{α:Type}{l:List α}{i:Nat}{a:α}{r:List α}(h:l.drop i=a::r):l[i]?=some a/\l.drop (i+1)=r:=by
 constructor
 ·have:=congrArg (fun z=>z[0]?) h
  simpa [List.getElem?_drop] using this
 ·rw[<-List.drop_drop,h];rfl
section
variable {n:Nat} {ix:List Nat} {fi:XL} {T:Tgt} {ft:XT} {fe:XE}
theorem Ko(hT:∀i∈T.slots,i<n):∀Z H Q,tF K (ZJ n ix fi T ft fe) Z H Q->S7 n ix (iF K fi) (gT K T) (Q8 K ft) (tF K fe) Z H Q:=fun Z H Q ⟨Rm,s,L,hd,env,e,k⟩=>by
 obtain⟨ls,e1,e⟩:=Zd e
 split at e
 case isFalse=>cases e
 rename_i hlen
 obtain⟨ys,e2,rfl⟩:=map_some e
 refine⟨Rm,s,ls,hd,env,e1,fun J H1 s1 jis=>?_⟩
 have hd1:∀p,Rm p->Wj (H1 p):=fun p hp=>Same.mut s1 (hd p hp)
 refine⟨fun i m vs Hc=>m=ls.length-i/\i<=ls.length/\Same H1 Hc/\∃dn Zn fp,ys=dn++Zn/\dn.length<=i/\XY T ft fe (Z8 n ix s) (ls.drop i)=some Zn/\Iss K Hc dn vs fp/\∀p∈fp,¬Rm p,
  ⟨ls.length,by simp,Nat.zero_le _,Same.refl H1,[],ys,[],rfl,Nat.le_refl _,e2,Iss.nil,fun p hp=>by simp at hp⟩,?_⟩
 rintro i m vs Hc ⟨rfl,hi,sc,dn,Zn,fp,rfl,hdl,ec,iv,nv⟩
 refine⟨by rw[iv.len];exact Nat.le_of_lt (lt_size (by omega)),?_⟩
 cases q:ls.drop i with
 | nil=>
  have hil:i=ls.length:=by
   have:=congrArg List.length q
   rw[List.length_drop] at this
   simp at this;omega
  subst hil;rw[q] at ec;cases ec
  refine .inl ⟨jis.stop Hc (Same.ab sc),fun p hp=>k _ _ (p::fp) (s1.trans (sc.trans (Same.new hp _))) ?_ fun a ha z=>?_⟩
  ·rw[List.append_nil]
   exact Is.lst upd_same (iv.mono (Same.new hp _))
  ·rcases List.mem_cons.mp ha with rfl | ha
   ·exact Yy (Same.mut (s1.trans sc) (hd a z)) hp
   ·exact nv a ha z
 | cons l r=>
  obtain⟨hl,hr⟩:=T5 q
  have hilt:i<ls.length:=(List.getElem?_eq_some_iff.mp hl).1
  rw[q] at ec
  obtain⟨sb,c,eb,et,alt⟩:=T4 ec
  refine .inr ⟨jis.go Hc i l (Same.ab sc) hl,fun vs' H'=>Same H1 H'/\∃dn' rest' fp',dn++Zn=dn'++rest'/\dn'.length<=i+1/\XY T ft fe (Z8 n ix s) (ls.drop (i+1))=some rest'/\Iss K H' dn' vs' fp'/\∀p∈fp',¬Rm p,
   fun vs' H' h'=>⟨ls.length-(i+1),by omega,rfl,hilt,h'.1,h'.2⟩,fun x H2 y=>?_⟩
  obtain⟨s2,fx,ix',nx⟩:=jis.yld Hc i l x H2 (Same.ab sc) hl y
  have hd2:∀p,Rm p->Wj (H2 p):=fun p hp=>Same.mut (sc.trans s2) (hd1 p hp)
  obtain⟨bl,bv,bf,rfl,bi,_,bsub,buse⟩:=Pq (K:=K) ix' eb
  have env2:EnvIs K Rm H2 (Z8 n ix s) (Z5 n ix Z):=(env.mono (s1.trans (sc.trans s2))).comp
  have env3:=env2.setAll (is:=T.slots) (QD n ix s Z) bi fun p hp=>(nx p (bsub p hp)).2
  refine buse _ _ ⟨Wx hT,Rm,_,c,hd2,env3,et,fun H3 s3=>?_⟩
  have hd3:∀p,Rm p->Wj (H3 p):=fun p hp=>Same.mut s3 (hd2 p hp)
  rcases alt with⟨rfl,y',zs,ey,ez,rfl⟩ | ⟨rfl,ez⟩
  ·refine HH ?_
   refine⟨Rm,_,y',hd3,env3.mono s3,ey,fun v H4 f4 s4 i4 n4=>?_⟩
   refine⟨sc.trans (s2.trans (s3.trans s4)),dn++[y'],zs,fp++f4,by rw[List.append_assoc];rfl,by rw[List.length_append];simp;exact hdl,by rw[hr];exact ez,(iv.mono (s2.trans (s3.trans s4))).append (Iss.one i4),fun p hp=>?_⟩
   rcases List.mem_append.mp hp with h | h
   ·exact nv p h
   ·exact n4 p h
  ·refine HG ?_
   exact⟨sc.trans (s2.trans s3),dn,Zn,fp,rfl,Nat.le_succ_of_le hdl,by rw[hr];exact ez,iv.mono (s2.trans s3),nv⟩
theorem OE(hT:∀i∈T.slots,i<n):∀Z H Q,tM K (ZJ n ix fi T ft fe) Z H Q->S7 n ix (iF K fi) (gT K T) (Q8 K ft) (tM K fe) Z H Q:=fun Z H Q ⟨s,L,env,e,k⟩=>by
 obtain⟨ls,e1,e⟩:=Zd e
 split at e
 case isFalse=>cases e
 rename_i hlen
 obtain⟨ys,e2,rfl⟩:=map_some e
 have hd:∀(H:Hp) p,(fun _=>False:Addr->Prop) p->Wj (H p):=fun _ _ z=>z.elim
 refine⟨fun _=>False,s,ls,hd H,env,e1,fun J H1 s1 jis=>?_⟩
 refine⟨fun i m vs Hc=>m=ls.length-i/\i<=ls.length/\Same H1 Hc/\∃dn Zn fp,ys=dn++Zn/\dn.length<=i/\XY T ft fe (Z8 n ix s) (ls.drop i)=some Zn/\Iss K Hc dn vs fp/\fp.Nodup/\∀p∈fp,H1 p=none/\Wj (Hc p),
  ⟨ls.length,by simp,Nat.zero_le _,Same.refl H1,[],ys,[],rfl,Nat.le_refl _,e2,Iss.nil,List.nodup_nil,fun p hp=>by simp at hp⟩,?_⟩
 rintro i m vs Hc ⟨rfl,hi,sc,dn,Zn,fp,rfl,hdl,ec,iv,dv,nv⟩
 refine⟨by rw[iv.len];exact Nat.le_of_lt (lt_size (by omega)),?_⟩
 cases q:ls.drop i with
 | nil=>
  have hil:i=ls.length:=by
   have:=congrArg List.length q
   rw[List.length_drop] at this
   simp at this;omega
  subst hil;rw[q] at ec;cases ec
  refine .inl ⟨jis.stop Hc (Same.ab sc),fun p hp=>k _ _ (p::fp) (s1.trans (sc.trans (Same.new hp _))) ?_ (List.nodup_cons.mpr ⟨fun z=>Yy (nv p z).2 hp,dv⟩) fun a ha=>?_⟩
  ·rw[List.append_nil]
   exact Is.lst upd_same (iv.mono (Same.new hp _))
  ·rcases List.mem_cons.mp ha with rfl | ha
   ·exact⟨Same.off (s1.trans sc) hp,by rw[upd_same];exact True.intro⟩
   ·exact⟨Same.off s1 (nv a ha).1,Same.mut (Same.new hp _) (nv a ha).2⟩
 | cons l r=>
  obtain⟨hl,hr⟩:=T5 q
  have hilt:i<ls.length:=(List.getElem?_eq_some_iff.mp hl).1
  rw[q] at ec
  obtain⟨sb,c,eb,et,alt⟩:=T4 ec
  refine .inr ⟨jis.go Hc i l (Same.ab sc) hl,fun vs' H'=>Same H1 H'/\∃dn' rest' fp',dn++Zn=dn'++rest'/\dn'.length<=i+1/\XY T ft fe (Z8 n ix s) (ls.drop (i+1))=some rest'/\Iss K H' dn' vs' fp'/\fp'.Nodup/\∀p∈fp',H1 p=none/\Wj (H' p),
   fun vs' H' h'=>⟨ls.length-(i+1),by omega,rfl,hilt,h'.1,h'.2⟩,fun x H2 y=>?_⟩
  obtain⟨s2,fx,ix',nx⟩:=jis.yld Hc i l x H2 (Same.ab sc) hl y
  obtain⟨bl,bv,bf,rfl,bi,_,bsub,buse⟩:=Pq (K:=K) ix' eb
  have env2:EnvIs K (fun _=>False) H2 (Z8 n ix s) (Z5 n ix Z):=(env.mono (s1.trans (sc.trans s2))).comp
  have env3:=env2.setAll (is:=T.slots) (QD n ix s Z) bi fun p hp=>(nx p (bsub p hp)).2
  refine buse _ _ ⟨Wx hT,fun _=>False,_,c,hd H2,env3,et,fun H3 s3=>?_⟩
  rcases alt with⟨rfl,y',zs,ey,ez,rfl⟩ | ⟨rfl,ez⟩
  ·refine HH ?_
   refine⟨_,y',env3.mono s3,ey,fun v H4 f4 s4 i4 d4 n4=>?_⟩
   refine⟨sc.trans (s2.trans (s3.trans s4)),dn++[y'],zs,fp++f4,by rw[List.append_assoc];rfl,by rw[List.length_append];simp;exact hdl,by rw[hr];exact ez,(iv.mono (s2.trans (s3.trans s4))).append (Iss.one i4),List.nodup_append.mpr ⟨dv,d4,fun a ha b hb z=>?_⟩,fun p hp=>?_⟩
   ·subst z
    exact Yy (Same.mut (s2.trans s3) (nv a ha).2) (n4 a hb).1
   ·rcases List.mem_append.mp hp with h | h
    ·exact⟨(nv p h).1,Same.mut (s2.trans (s3.trans s4)) (nv p h).2⟩
    ·exact⟨Same.off (sc.trans (s2.trans s3)) (n4 p h).1,(n4 p h).2⟩
  ·refine HG ?_
   exact⟨sc.trans (s2.trans s3),dn,Zn,fp,rfl,Nat.le_succ_of_le hdl,by rw[hr];exact ez,iv.mono (s2.trans s3),dv,fun p hp=>⟨(nv p hp).1,Same.mut (s2.trans s3) (nv p hp).2⟩⟩
end
def HS(X:Cx)(ifs:List Expr)(f:XT):Prop:=Mz X ifs (Q8 X.K f)
section
variable {X:Cx} {tg elt iter c:Expr} {ifs:List Expr} {scope:Scope} {pos:Pos} {fi:XL} {T:Tgt} {ft:XT} {fe:XE}
theorem Wy:HS X [] Yr:=fun pins s Z H Q I ⟨Rm,s',c,hd,env,e,k⟩=>by
 cases e
 exact L9 pins s Z H Q I (k H (Same.refl H))
theorem OF(h:VT X c ft):HS X [c] ft:=Ka h
theorem Tq(own fr:List Str)(ix:List Nat)(hcalm:X.calm=true)(hi:VI X tg iter fi)(S:VF X.N X.env.scope scope own fr ix=true)
  (hg:∀cl C s H ex,PG (ZF X (own++fr) scope cl C s H ex) tg (gT X.K T)) (ht:∀cl C s H ex,HS (ZF X (own++fr) scope cl C s H ex) ifs ft) (he:∀cl C s H ex,VE (ZF X (own++fr) scope cl C s H ex) elt fe)
  (hT:∀i∈T.slots,i<own.length:=by decide) (hs:∀x,foldedSetIterable iter X.env x=pure x:=by intro _;rfl):VE X (.ListComp elt [⟨tg,iter,ifs,0⟩] scope pos) (ZJ own.length ix fi T ft fe):=
 PE.imp (Qy own fr ix hcalm hi S hg (fun cl C s H ex=>(show Mz (ZF X (own++fr) scope cl C s H ex) ifs (Q8 X.K ft) from ht cl C s H ex)) (fun cl C s H ex=>(show PE (ZF X (own++fr) scope cl C s H ex) elt (tF X.K fe) from he cl C s H ex)) hs) (Ko hT)
theorem OG(own fr:List Str)(ix:List Nat)(hcalm:X.calm=true)(hi:VI X tg iter fi)(S:VF X.N X.env.scope scope own fr ix=true)
  (hg:∀cl C s H ex,PG (ZF X (own++fr) scope cl C s H ex) tg (gT X.K T)) (ht:∀cl C s H ex,HS (ZF X (own++fr) scope cl C s H ex) ifs ft) (he:∀cl C s H ex,VM (ZF X (own++fr) scope cl C s H ex) elt fe)
  (hT:∀i∈T.slots,i<own.length:=by decide) (hs:∀x,foldedSetIterable iter X.env x=pure x:=by intro _;rfl):VM X (.ListComp elt [⟨tg,iter,ifs,0⟩] scope pos) (ZJ own.length ix fi T ft fe):=
 PE.imp (Qy own fr ix hcalm hi S hg (fun cl C s H ex=>(show Mz (ZF X (own++fr) scope cl C s H ex) ifs (Q8 X.K ft) from ht cl C s H ex)) (fun cl C s H ex=>(show PE (ZF X (own++fr) scope cl C s H ex) elt (tM X.K fe) from he cl C s H ex)) hs) (OE hT)
end
def VJ(xs:List PV)(lo hi:Option Int):List PV:=(xs.drop (HT.sIx xs.length 0 lo)).take (HT.sIx xs.length xs.length hi-HT.sIx xs.length 0 lo)
theorem Iss.cut{H:Hp}{l:List PV}{xs:List V}{fp:List Addr}(lo hi:Option Int)(h:Iss K H l xs fp):∃f1,Iss K H (VJ l lo hi) (Nq xs lo hi) f1/\∀p∈f1,p∈fp:=by
 unfold VJ Nq;rw[h.len]
 obtain⟨f1,a,b⟩:=h.drop (HT.sIx l.length 0 lo)
 obtain⟨f2,c,d⟩:=a.take (HT.sIx l.length l.length hi-HT.sIx l.length 0 lo)
 exact⟨f2,c,fun p hp=>b p (d p hp)⟩
abbrev XO:=ZG->Option (Option Int)
def Fc(K:PySem.W.Frag)(f:XO):TO:=fun Z H Q=>∃(Rm:Addr->Prop) (s:ZG) (i:Option Int),(∀p,Rm p->Wj (H p))/\EnvIs K Rm H s Z/\f s=some i/\∀H',Same H H'->Q i H'
def VO(X:Cx)(e:Option Expr)(f:XO):Prop:=PO X e (Fc X.K f)
def Jl:XO:=fun _=>some none
def MQ(f:XE):XO:=fun s=>match f s with | some (.int i)=>some (some i) | _=>none
def NI(x:PV)(lo hi:Option Int):Option PV:=match x with | .lst l=>some (.lst (VJ l lo hi)) | .cst l=>some (.lst (VJ l lo hi)) | _=>none
def LC(g:PV->Option Int->Option Int->Option PV)(a:XE)(lo hi:XO):XE:=fun s=>(a s).bind fun x=>(lo s).bind fun l=>(hi s).bind fun u=>g x l u
theorem NJ{l:List PV}(lo hi:Option Int)(h:Zz l=true):Zz (VJ l lo hi)=true:=by
 rw[XM,List.all_eq_true] at *
 intro x hx;unfold VJ at hx
 exact h x (List.mem_of_mem_drop (List.mem_of_mem_take hx))
section
variable {X:Cx} {e:Expr} {lo hi:Option Expr} {p2 pos:Pos} {fa:XE} {fl fh:XO}
theorem OH:VO X none Jl:=fun pins s Z H Q I ⟨Rm,s',i,hd,env,e,k⟩=>by
 cases e
 exact LZ pins s Z H Q I (k H (Same.refl H))
theorem Tr{e:Expr}(h:VE X e fa):VO X (some e) (MQ fa):=fun pins s Z H Q I ⟨Rm,s',i,hd,env,e,k⟩=>by
 unfold MQ at e
 split at e
 ·cases e
  rename_i j hj
  exact L0 h pins s Z H Q I ⟨Rm,s',.int j,hd,env,hj,fun v H' fp sm i n=>⟨j,i.int_inv.1,k H' sm⟩⟩
 ·cases e
theorem Ri(ha:VE X e fa)(hl:VO X lo fl)(hh:VO X hi fh):VE X (.Subscript e (.Slice lo hi none p2) pos) (LC NI fa fl fh):=PE.imp (Qr L3 ha hl hh) fun Z H Q ⟨Rm,s,l,hd,env,e,k⟩=>by
 obtain⟨x,e1,e⟩:=Zd e
 obtain⟨a,e2,e⟩:=Zd e
 obtain⟨b,e3,e⟩:=Zd e
 refine⟨Rm,s,x,hd,env,e1,fun v H1 fp s1 i1 n1=>⟨Rm,s,a,fun p hp=>Same.mut s1 (hd p hp),env.mono s1,e2,fun H2 s2=>⟨Rm,s,b,fun p hp=>Same.mut (s1.trans s2) (hd p hp),env.mono (s1.trans s2),e3,fun H3 s3=>?_⟩⟩⟩
 cases x with
 | lst l=>
  cases e
  obtain⟨p,xs,fq,rfl,hp,hi,rfl⟩:=(i1.mono (s2.trans s3)).lst_inv
  obtain⟨f1,c,d⟩:=hi.cut a b
  refine⟨p,xs,rfl,SqL.of hp,fun q hq=>k _ _ (q::f1) (s1.trans (s2.trans (s3.trans (Same.new hq _)))) (Is.lst upd_same (c.mono (Same.new hq _))) fun r hr z=>?_⟩
  rcases List.mem_cons.mp hr with rfl | hr
  ·exact Yy (Same.mut (s1.trans (s2.trans s3)) (hd r z)) hq
  ·exact n1 r (List.mem_cons_of_mem _ (d r hr)) z
 | cst l=>
  cases e
  obtain⟨p,xs,rfl,hp,hi⟩:=(i1.mono (s2.trans s3)).cst_inv
  obtain⟨f1,c,d⟩:=hi.cut a b
  refine⟨p,xs,rfl,hp.sq,fun q hq=>k _ _ (q::f1) (s1.trans (s2.trans (s3.trans (Same.new hq _)))) (Is.lst upd_same (c.mono (Same.new hq _))) fun r hr z=>?_⟩
  rcases List.mem_cons.mp hr with rfl | hr
  ·exact Yy (Same.mut (s1.trans (s2.trans s3)) (hd r z)) hq
  ·exact n1 r (d r hr) z
 | _=>cases e
end
end VL
namespace VL
open PySem PySem.Spec PyProof.Rows L2
variable {K:PySem.W.Frag}
structure Rel(K:PySem.W.Frag)(O:List Nat)(H0:Hp)(fps:Nat->List Addr)(s:ZG)(Z:UP)(H:Hp):Prop where
 same:Same H0 H
 len:s.length=Z.length
 is:∀(i:Nat) l,s[i]?=some (some l)->∃v,Z[i]?=some (some v)/\Is K H l v (fps i)
 emp:∀(i:Nat),(∀l,s[i]?≠some (some l))->fps i=[]
 nd:∀i∈O,(fps i).Nodup
 own:∀i∈O,∀p∈fps i,H0 p=none/\Wj (H p)
 dis:∀i∈O,∀j,j≠i->∀p∈fps i,p∉fps j
def Ow(O:List Nat)(fps:Nat->List Addr)(p:Addr):Prop:=∃i∈O,p∈fps i
def ZK(O:List Nat)(s:ZG):ZG:=O.foldl (fun s i=>s.set i none) s
theorem T6:∀{O:List Nat}{s:ZG}{i:Nat}{l:PV},(ZK O s)[i]?=some (some l)->i∉O/\s[i]?=some (some l)
 | [],s,i,l,h=>⟨by simp,h⟩
 | o::O,s,i,l,h=>by
  obtain⟨h1,h2⟩:=T6 (O:=O) (s:=s.set o none) h
  rw[List.getElem?_set] at h2
  by_cases e:o=i
  ·rw[if_pos e] at h2;split at h2<;>cases h2
  ·rw[if_neg e] at h2
   exact⟨by simp only[List.mem_cons,not_or];exact⟨fun z=>e z.symm,h1⟩,h2⟩
section
variable {O:List Nat} {H0 H H':Hp} {fps:Nat->List Addr} {s:ZG} {Z:UP}
theorem Rel.at(r:Rel K O H0 fps s Z H)(i:Nat){p:Addr}(hp:p∈fps i):∃l v,s[i]?=some (some l)/\Z[i]?=some (some v)/\Is K H l v (fps i):=by
 cases q:s[i]? with
 | none=>rw[r.emp i (fun l z=>by rw[q] at z;cases z)] at hp;simp at hp
 | some o=>cases o with
  | none=>rw[r.emp i (fun l z=>by rw[q] at z;cases z)] at hp;simp at hp
  | some l=>
   obtain⟨v,a,b⟩:=r.is i l q
   exact⟨l,v,rfl,a,b⟩
theorem Rel.dom(r:Rel K O H0 fps s Z H)(i:Nat):∀p∈fps i,H p≠none:=fun p hp=>by
 obtain⟨l,v,_,_,b⟩:=r.at i hp
 exact Is.dom _ _ _ b p hp
theorem Rel.env(r:Rel K O H0 fps s Z H):EnvIs K (fun _=>False) H s Z:=⟨fun i l e=>by
 obtain⟨v,a,b⟩:=r.is i l e
 exact⟨v,_,a,b,fun _ _ z=>z⟩⟩
theorem Rel.envO(r:Rel K O H0 fps s Z H):EnvIs K (Ow O fps) H (ZK O s) Z:=⟨fun i l e=>by
 obtain⟨n,e⟩:=T6 e
 obtain⟨v,a,b⟩:=r.is i l e
 exact⟨v,_,a,b,fun p hp ⟨j,hj,hpj⟩=>r.dis j hj i (fun z=>n (z▸hj)) p hpj hp⟩⟩
theorem Rel.owMut(r:Rel K O H0 fps s Z H):∀p,Ow O fps p->Wj (H p):=fun p ⟨i,hi,hp⟩=>(r.own i hi p hp).2
theorem Rel.grow(r:Rel K O H0 fps s Z H)(e:Same H H'):Rel K O H0 fps s Z H':=
 ⟨r.same.trans e,r.len,fun i l q=>by obtain⟨v,a,b⟩:=r.is i l q;exact⟨v,a,b.mono e⟩,r.emp,r.nd,fun i hi p hp=>⟨(r.own i hi p hp).1,Same.mut e (r.own i hi p hp).2⟩,r.dis⟩
theorem Rel.less{F:Hp}(r:Rel K O F fps s Z H)(e:Same H0 F):Rel K O H0 fps s Z H:=
 ⟨e.trans r.same,r.len,r.is,r.emp,r.nd,fun i hi p hp=>⟨Same.off e (r.own i hi p hp).1,(r.own i hi p hp).2⟩,r.dis⟩
open Classical in
noncomputable def Xq(H:Hp)(Rm:Addr->Prop):Hp:=fun b=>if Rm b then none else H b
theorem Rj{Rm:Addr->Prop}:Same (Xq H Rm) H:=fun b o h=>by
 unfold Xq at h
 split at h
 ·cases h
 ·exact h
theorem Rel.frame(r:Rel K O H0 fps s Z H):Rel K O (Xq H (Ow O fps)) fps s Z H:=
 ⟨Rj,r.len,r.is,r.emp,r.nd,fun i hi p hp=>⟨by unfold Xq;rw[if_pos ⟨i,hi,hp⟩],(r.own i hi p hp).2⟩,r.dis⟩
theorem Rel.under(r:Rel K O H0 fps s Z H):Same H0 (Xq H (Ow O fps)):=fun b o h=>by
 unfold Xq
 rw[if_neg (fun⟨i,hi,hp⟩=>by rw[(r.own i hi b hp).1] at h;cases h)]
 exact r.same b o h
open Classical in
noncomputable def Th(fps:Nat->List Addr)(n:Nat)(i:Nat)(fp:List Addr):Nat->List Addr:=fun j=>if j=i/\i<n then fp else fps j
theorem ZU{n i j:Nat}{fp:List Addr}(h:j≠i):Th fps n i fp j=fps j:=by unfold Th;rw[if_neg (fun z=>h z.1)]
theorem OI{n i:Nat}{fp:List Addr}(h:i<n):Th fps n i fp i=fp:=by unfold Th;rw[if_pos ⟨rfl,h⟩]
theorem Rel.set(r:Rel K O H0 fps s Z H){i:Nat}{l:PV}{v:V}{fp:List Addr}(hi:Is K H l v fp)(ho:i∈O->fp.Nodup/\∀p∈fp,H0 p=none/\Wj (H p))
  (hd:∀j,j≠i->(j∈O\/i∈O)->∀p∈fp,p∉fps j):Rel K O H0 (Th fps s.length i fp) (s.set i (some l)) (Z.set i (some v)) H:=by
 by_cases hlt:i<s.length
 ·have e1:Th fps s.length i fp i=fp:=OI hlt
  refine⟨r.same,by rw[List.length_set,List.length_set];exact r.len,fun j a e=>?_,fun j h=>?_,fun j hj=>?_,fun j hj p hp=>?_,fun j hj k hk p hp=>?_⟩
  ·rw[List.getElem?_set] at e
   by_cases hj:i=j
   ·subst hj
    rw[if_pos rfl,if_pos hlt] at e;cases e;rw[e1]
    exact⟨v,by rw[List.getElem?_set,if_pos rfl,if_pos (by rw[<-r.len];exact hlt)],hi⟩
   ·rw[if_neg hj] at e
    obtain⟨w,h1,h2⟩:=r.is j a e
    rw[ZU (Ne.symm hj)]
    exact⟨w,by rw[List.getElem?_set,if_neg hj];exact h1,h2⟩
  ·by_cases hj:i=j
   ·subst hj
    exact absurd (by rw[List.getElem?_set,if_pos rfl,if_pos hlt]) (h l)
   ·rw[ZU (Ne.symm hj)]
    exact r.emp j fun a z=>h a (by rw[List.getElem?_set,if_neg hj];exact z)
  ·by_cases e:j=i
   ·subst e;rw[e1];exact(ho hj).1
   ·rw[ZU e];exact r.nd j hj
  ·by_cases e:j=i
   ·subst e;rw[e1] at hp;exact(ho hj).2 p hp
   ·rw[ZU e] at hp;exact r.own j hj p hp
  ·by_cases e:j=i
   ·subst e
    rw[e1] at hp;rw[ZU hk]
    exact hd k hk (.inr hj) p hp
   ·rw[ZU e] at hp
    by_cases e2:k=i
    ·subst e2
     rw[e1]
     exact fun z=>hd j e (.inl hj) p z hp
    ·rw[ZU e2];exact r.dis j hj k hk p hp
 ·have e1:s.set i (some l)=s:=List.set_eq_of_length_le (by omega)
  have e2:Z.set i (some v)=Z:=List.set_eq_of_length_le (by rw[<-r.len];omega)
  have e3:Th fps s.length i fp=fps:=by funext j;unfold Th;rw[if_neg (fun z=>hlt z.2)]
  rw[e1,e2,e3];exact r
theorem Rel.mutate(r:Rel K O H0 fps s Z H){i:Nat}(hi:i∈O){p:Addr}(hp:p∈fps i){o:HO}{l':PV}{v:V}{fp':List Addr}(hv:Z[i]?=some (some v))(hlt:i<s.length)
  (h':Is K (upd H p o) l' v fp') (nd:fp'.Nodup) (hm:∀q∈fp',H0 q=none/\Wj (upd H p o q)) (hd:∀j,j≠i->∀q∈fp',q∉fps j) (hmo:Wj (some o)):Rel K O H0 (Th fps s.length i fp') (s.set i (some l')) Z (upd H p o):=by
 have mu:=(r.own i hi p hp).2
 have pn:H0 p=none:=(r.own i hi p hp).1
 have e1:Th fps s.length i fp' i=fp':=OI hlt
 have tk:TK2 H (upd H p o):=⟨fun b xs h=>by
  rw[upd_ne (fun z=>by rw[z] at h;rw[h] at mu;exact mu)];exact h,fun b o xs h=>by
  rw[upd_ne (fun z=>by rw[z] at h;rw[h] at mu;exact mu)];exact h,fun b o x h=>by
  rw[upd_ne (fun z=>by rw[z] at h;rw[h] at mu;exact mu)];exact h⟩
 refine⟨fun b u h=>by rw[upd_ne (ZC h pn)];exact r.same b u h,by rw[List.length_set];exact r.len,fun j a e=>?_,fun j h=>?_,fun j hj=>?_,fun j hj q hq=>?_,fun j hj k hk q hq=>?_⟩
 ·rw[List.getElem?_set] at e
  by_cases hj:i=j
  ·subst hj
   rw[if_pos rfl,if_pos hlt] at e;cases e
   rw[e1];exact⟨v,hv,h'⟩
  ·rw[if_neg hj] at e
   obtain⟨w,h1,h2⟩:=r.is j a e
   rw[ZU (Ne.symm hj)]
   refine⟨w,h1,Is.tr tk _ _ _ (fun q hq=>RdK.of fun u hu=>?_) h2⟩
   have ne:q≠p:=fun z=>r.dis i hi j (Ne.symm hj) p hp (z▸hq)
   rw[upd_ne ne];exact hu
 ·by_cases hj:i=j
  ·subst hj
   exact absurd (by rw[List.getElem?_set,if_pos rfl,if_pos hlt]) (h l')
  ·rw[ZU (Ne.symm hj)]
   exact r.emp j fun a z=>h a (by rw[List.getElem?_set,if_neg hj];exact z)
 ·by_cases e:j=i
  ·subst e;rw[e1];exact nd
  ·rw[ZU e];exact r.nd j hj
 ·by_cases e:j=i
  ·subst e;rw[e1] at hq;exact hm q hq
  ·rw[ZU e] at hq
   refine⟨(r.own j hj q hq).1,?_⟩
   have ne:q≠p:=fun z=>r.dis j hj i (Ne.symm e) q hq (z▸hp)
   rw[upd_ne ne];exact(r.own j hj q hq).2
 ·by_cases e:j=i
  ·subst e
   rw[e1] at hq;rw[ZU hk]
   exact hd k hk q hq
  ·rw[ZU e] at hq
   by_cases e2:k=i
   ·subst e2
    rw[e1]
    exact fun z=>hd j e q z hq
   ·rw[ZU e2];exact r.dis j hj k hk q hq
end
def Kep(a b:List Addr):Prop:=a=b\/a=[]
theorem Kep.refl(a:List Addr):Kep a a:=.inl rfl
theorem Kep.trans{a b c:List Addr}(h:Kep a b)(k:Kep b c):Kep a c:=by
 rcases h with rfl | h
 ·exact k
 ·exact .inr h
inductive Pr where
 | nx (s:ZG) | rt (l:PV) | bk (s:ZG) | ct (s:ZG)
abbrev XS:=ZG->Option Pr
def OutOk(K:PySem.W.Frag)(O W:List Nat)(H0:Hp)(fps:Nat->List Addr)(Z:UP)(D:VZ):Pr->Prop
 | .nx s'=>∀fps' Z' H',Rel K O H0 fps' s' Z' H'->(∀j,j∉W->Z'[j]?=Z[j]?/\Kep (fps' j) (fps j))->D.nx Z' H'
 | .bk s'=>∀fps' Z' H',Rel K O H0 fps' s' Z' H'->(∀j,j∉W->Z'[j]?=Z[j]?/\Kep (fps' j) (fps j))->D.bk Z' H'
 | .ct s'=>∀fps' Z' H',Rel K O H0 fps' s' Z' H'->(∀j,j∉W->Z'[j]?=Z[j]?/\Kep (fps' j) (fps j))->D.ct Z' H'
 | .rt l=>∀v fp H',Same H0 H'->Is K H' l v fp->fp.Nodup->(∀p∈fp,H0 p=none/\Wj (H' p))->D.rt v H'
def LD(K:PySem.W.Frag)(O W:List Nat)(f:XS):TS:=fun D Z H=>∃H0 fps s out,Rel K O H0 fps s Z H/\f s=some out/\OutOk K O W H0 fps Z D out
def VS(X:Cx)(O W:List Nat)(st:Stmt)(f:XS):Prop:=PS X st (LD X.K O W f)
def LF(X:Cx)(O W:List Nat)(st:List Stmt)(f:XS):Prop:=PSs X st (LD X.K O W f)
theorem OutOk.same{O W W':List Nat}{H0:Hp}{fps fps1:Nat->List Addr}{Z Z1:UP}{D:VZ}{out:Pr}(h:OutOk K O W' H0 fps Z D out)(k:∀j,j∉W'->Z1[j]?=Z[j]?/\Kep (fps1 j) (fps j))(hs:∀j,j∉W'->j∉W):OutOk K O W H0 fps1 Z1 D out:=by
 cases out with
 | nx s'=>exact fun fps' Z' H' r q=>h fps' Z' H' r fun j hj=>⟨(q j (hs j hj)).1.trans (k j hj).1,(q j (hs j hj)).2.trans (k j hj).2⟩
 | bk s'=>exact fun fps' Z' H' r q=>h fps' Z' H' r fun j hj=>⟨(q j (hs j hj)).1.trans (k j hj).1,(q j (hs j hj)).2.trans (k j hj).2⟩
 | ct s'=>exact fun fps' Z' H' r q=>h fps' Z' H' r fun j hj=>⟨(q j (hs j hj)).1.trans (k j hj).1,(q j (hs j hj)).2.trans (k j hj).2⟩
 | rt l=>exact h
theorem OutOk.less{O W:List Nat}{H0 F:Hp}{fps:Nat->List Addr}{Z:UP}{D:VZ}{out:Pr}(h:OutOk K O W H0 fps Z D out)(e:Same H0 F):OutOk K O W F fps Z D out:=by
 cases out with
 | nx s'=>exact fun fps' Z' H' r q=>h fps' Z' H' (r.less e) q
 | bk s'=>exact fun fps' Z' H' r q=>h fps' Z' H' (r.less e) q
 | ct s'=>exact fun fps' Z' H' r q=>h fps' Z' H' (r.less e) q
 | rt l=>exact fun v fp H' sm i d n=>h v fp H' (e.trans sm) i d fun p hp=>⟨Same.off e (n p hp).1,(n p hp).2⟩
def ZD:XS:=fun s=>some (.nx s)
def Zk(f g:XS):XS:=fun s=>(f s).bind fun o=>match o with | .nx s'=>g s' | r=>some r
def XZ(c:XT)(f g:XS):XS:=fun s=>(c s).bind fun k=>if k=true then f s else g s
def Yd(f:XE):XS:=fun s=>(f s).map .rt
def Zo(i:Nat)(f:XE):XS:=fun s=>(f s).map fun l=>.nx (s.set i (some l))
section
variable {X:Cx} {O W W1 W2:List Nat} {st:Stmt} {Zn:List Stmt} {f g:XS} {pos:Pos}
theorem PS.imp{t t':TS}(h:PS X st t)(i:∀D Z H,t' D Z H->t D Z H):PS X st t':=fun pins s Z H D I q=>h pins s Z H D I (i D Z H q)
theorem PSs.imp{t t':TS}(h:PSs X Zn t)(i:∀D Z H,t' D Z H->t D Z H):PSs X Zn t':=fun pins s Z H D I q=>h pins s Z H D I (i D Z H q)
theorem MR:∀D Z H,LD K O W ZD D Z H->K9 D Z H:=fun D Z H ⟨H0,fps,s,out,r,e,k⟩=>by
 cases e
 exact k fps Z H r fun j _=>⟨rfl,Kep.refl _⟩
theorem ZN:LF X O [] [] ZD:=PSs.imp LM MR
theorem Zj(h:VS X O W st f):LF X O W [st] f:=LN h
theorem Zf(h1:VS X O W1 st f)(h2:LF X O W2 Zn g):LF X O (W1++W2) (st::Zn) (Zk f g):=PSs.imp (Mo h1 h2) fun D Z H ⟨H0,fps,s,out,r,e,k⟩=>by
 obtain⟨o1,e1,e⟩:=Zd e
 have sub1:∀j,j∉W1++W2->j∉W1:=fun j hj z=>hj (List.mem_append_left _ z)
 have sub2:∀j,j∉W1++W2->j∉W2:=fun j hj z=>hj (List.mem_append_right _ z)
 refine⟨H0,fps,s,o1,r,e1,?_⟩
 cases o1 with
 | nx s1=>
  intro fps1 Z1 H1 r1 q1
  exact⟨H0,fps1,s1,out,r1,e,k.same (fun j hj=>q1 j (sub1 j hj)) sub2⟩
 | bk s1=>cases e;exact fun fps' Z' H' r' q'=>k fps' Z' H' r' fun j hj=>q' j (sub1 j hj)
 | ct s1=>cases e;exact fun fps' Z' H' r' q'=>k fps' Z' H' r' fun j hj=>q' j (sub1 j hj)
 | rt l=>cases e;exact k
theorem YQ{c:Expr}{a b:List Stmt}{fc:XT}(hc:VT X c fc)(ha:LF X O W1 a f)(hb:LF X O W2 b g):VS X O (W1++W2) (.If c a b pos) (XZ fc f g):=PS.imp (Hf hc ha hb) fun D Z H ⟨H0,fps,s,out,r,e,k⟩=>by
 obtain⟨c,e1,e⟩:=Zd e
 have sub1:∀j,j∉W1++W2->j∉W1:=fun j hj z=>hj (List.mem_append_left _ z)
 have sub2:∀j,j∉W1++W2->j∉W2:=fun j hj z=>hj (List.mem_append_right _ z)
 refine⟨fun _=>False,s,c,fun _ z=>z.elim,r.env,e1,fun H1 s1=>?_⟩
 cases c with
 | true=>
  rw[if_pos rfl] at e ⊢
  exact⟨H0,fps,s,out,r.grow s1,e,k.same (fun j _=>⟨rfl,Kep.refl _⟩) sub1⟩
 | false=>
  rw[if_neg Bool.false_ne_true] at e ⊢
  exact⟨H0,fps,s,out,r.grow s1,e,k.same (fun j _=>⟨rfl,Kep.refl _⟩) sub2⟩
theorem ZO{e:Expr}{fe:XE}(he:VM X e fe):VS X O [] (.Return (some e) pos) (Yd fe):=PS.imp (Q9 he) fun D Z H ⟨H0,fps,s,out,r,e,k⟩=>by
 obtain⟨l,e1,rfl⟩:=map_some e
 exact⟨s,l,r.env,e1,fun v H' fp sm i d n=>k v fp H' (r.same.trans sm) i d fun p hp=>⟨Same.off r.same (n p hp).1,(n p hp).2⟩⟩
theorem OJ{e:Expr}{i:Nat}(he:PE X e (UA i))(hi:i∈O:=by decide):VS X O [] (.Return (some e) pos) (Yd (Za i)):=PS.imp (Q9 he) fun D Z H ⟨H0,fps,s,out,r,e,k⟩=>by
 obtain⟨l,e1,rfl⟩:=map_some e
 obtain⟨v,a,b⟩:=r.is i l (UQ e1)
 exact⟨v,a,k v _ H r.same b (r.nd i hi) (r.own i hi)⟩
theorem OK{t:TE}{i:Nat}{fe:XE}(ht:∀Z H Q,tM K fe Z H Q->t Z H Q):∀D Z H,LD K O [i] (Zo i fe) D Z H->Nd t (U6 i) D Z H:=fun D Z H ⟨H0,fps,s,out,r,e,k⟩=>by
 obtain⟨l,e1,rfl⟩:=map_some e
 refine ht Z H _ ⟨s,l,r.env,e1,fun v H' fp sm is d n=>?_⟩
 refine k _ _ H' ((r.grow sm).set (i:=i) is (fun _=>⟨d,fun p hp=>⟨Same.off r.same (n p hp).1,(n p hp).2⟩⟩) fun j _ _ p hp z=>r.dom j p z (n p hp).1) fun j hj=>?_
 have:j≠i:=by simpa using hj
 exact⟨by rw[List.getElem?_set,if_neg (Ne.symm this)],.inl (ZU this)⟩
theorem Zs{i:Nat}{x:Str}{e:Expr}{fe:XE}{pos':Pos}(hN:X.N.Nodup)(hi:X.N[i]?=some x)(hx:IV X.env.scope x)(he:VM X e fe)(hs:swapsWith e (some (.Name x pos')) pos.line X.env=pure false:=by rfl)(hf:X.fn x=true\/X.env.scope.names.lookup x=some .local:=by first | exact .inl rfl | exact .inr rfl | assumption) :
  VS X O [i] (.Assign [.Name x pos'] e pos) (Zo i fe):=PS.imp (JO hN hi hx he hs hf) (OK fun _ _ _ h=>h)
end
def XC(T:Tgt)(fb:XS):List PV->ZG->Option Pr
 | [],s=>some (.nx s)
 | l::r,s=>(VB T l s).bind fun s1=>(fb s1).bind fun o=>match o with | .nx s2=>XC T fb r s2 | .ct s2=>XC T fb r s2 | .bk s2=>some (.nx s2) | .rt v=>some (.rt v)
def YB(O:List Nat)(fi:XL)(T:Tgt)(fb:XS):XS:=fun s=>(fi (ZK O s)).bind fun ls=>XC T fb ls s
theorem Rel.setAll{O:List Nat}{H0 H:Hp}:∀{is:List Nat}{ls:List PV}{vs:List V}{fs:List Addr}{fps:Nat->List Addr}{s:ZG}{Z:UP},Rel K O H0 fps s Z H->Iss K H ls vs fs->ls.length=is.length->(∀i∈is,i∉O)->(∀i∈O,∀p∈fps i,p∉fs)->
  ∃fps',Rel K O H0 fps' (VL.setAll is ls s) (YJ is vs Z) H/\∀j,j∉is->(YJ is vs Z)[j]?=Z[j]?/\Kep (fps' j) (fps j)
 | [],ls,vs,fs,fps,s,Z,r,_,_,_,_=>⟨fps,by unfold VL.setAll YJ;exact r,fun j _=>⟨by unfold YJ;rfl,Kep.refl _⟩⟩
 | i::is,[],vs,fs,fps,s,Z,r,_,hl,_,_=>by simp at hl
 | i::is,l::ls,vs,fs,fps,s,Z,r,hi,hl,hO,hd=>by
  obtain⟨x,rr,f1,f2,rfl,h1,h2,rfl⟩:=hi.inv
  have hiO:=hO i List.mem_cons_self
  have r1:=r.set (i:=i) h1 (fun z=>absurd z hiO) fun j hj hjo p hp z=>by
   rcases hjo with hjo | hjo
   ·exact hd j hjo p z (List.mem_append_left _ hp)
   ·exact absurd hjo hiO
  obtain⟨fps',r2,q2⟩:=Rel.setAll (is:=is) r1 h2 (by simpa using hl) (fun j hj=>hO j (List.mem_cons_of_mem _ hj)) fun j hj p hp z=>by
   have hji:j≠i:=fun e=>hiO (by rw[<-e];exact hj)
   rw[ZU hji] at hp
   exact hd j hj p hp (List.mem_append_right _ z)
  refine⟨fps',r2,fun j hj=>?_⟩
  have hji:j≠i:=fun e=>hj (e▸List.mem_cons_self)
  obtain⟨a,b⟩:=q2 j (fun z=>hj (List.mem_cons_of_mem _ z))
  exact⟨a.trans (by rw[List.getElem?_set,if_neg (Ne.symm hji)]),b.trans (.inl (ZU hji))⟩
section
variable {O W:List Nat} {T:Tgt} {fb:XS}
theorem T7{H1:Hp}{fps:Nat->List Addr}{s:ZG}{Z:UP}{D:VZ}{J:It}{ls:List PV}{out:Pr}(r:Rel K O (Xq H1 (Ow O fps)) fps s Z H1)(jis:Gk K (Ow O fps) H1 J ls)(e:XC T fb ls s=some out)(hT:∀i∈T.slots,i∉O)
  (k:OutOk K O (T.slots++W) (Xq H1 (Ow O fps)) fps Z D out):Ih (gT K T) (LD K O W fb) D Z J H1:=by
 have subT:∀j,j∉T.slots++W->j∉T.slots:=fun j hj z=>hj (List.mem_append_left _ z)
 have subW:∀j,j∉T.slots++W->j∉W:=fun j hj z=>hj (List.mem_append_right _ z)
 refine⟨fun i m Z' H'=>m=ls.length-i/\i<=ls.length/\∃fps' s',Rel K O (Xq H1 (Ow O fps)) fps' s' Z' H'/\XC T fb (ls.drop i) s'=some out/\∀j,j∉T.slots++W->Z'[j]?=Z[j]?/\Kep (fps' j) (fps j),
  ⟨ls.length,by simp,Nat.zero_le _,fps,s,r,e,fun j _=>⟨rfl,Kep.refl _⟩⟩,?_⟩
 rintro i m Z' H' ⟨rfl,hi,fps',s',r',e',q'⟩
 have ab:Ab (Ow O fps) H1 H':=fun b o h n=>r'.same b o (by unfold Xq;rw[if_neg n];exact h)
 cases q:ls.drop i with
 | nil=>
  have hil:i=ls.length:=by
   have:=congrArg List.length q
   rw[List.length_drop] at this
   simp at this;omega
  subst hil
  rw[q] at e'
  cases e'
  exact .inl ⟨jis.stop H' ab,k fps' Z' H' r' q'⟩
 | cons l rr=>
  obtain⟨hl,hr⟩:=T5 q
  have hilt:i<ls.length:=(List.getElem?_eq_some_iff.mp hl).1
  rw[q] at e'
  unfold XC at e'
  obtain⟨sb,eb,e'⟩:=Zd e'
  obtain⟨o,eo,e'⟩:=Zd e'
  refine .inr ⟨jis.go H' i l ab hl,fun Z2 H2=>∃fps2 s2,Rel K O (Xq H1 (Ow O fps)) fps2 s2 Z2 H2/\XC T fb (ls.drop (i+1)) s2=some out/\∀j,j∉T.slots++W->Z2[j]?=Z[j]?/\Kep (fps2 j) (fps j),
   fun Z2 H2 h2=>⟨ls.length-(i+1),by omega,rfl,hilt,h2⟩,fun x H2 y=>?_⟩
  obtain⟨s2,fx,ix,nx⟩:=jis.yld H' i l x H2 ab hl y
  obtain⟨bl,bv,bf,rfl,bi,blen,bsub,buse⟩:=Pq (K:=K) ix eb
  obtain⟨fps3,r3,q3⟩:=Rel.setAll (is:=T.slots) (r'.grow s2) bi blen hT fun j hj p hp z=>by
   obtain⟨n1,n2⟩:=nx p (bsub p z)
   have:=(r'.own j hj p hp).1
   unfold Xq at this;rw[if_neg n2] at this
   exact n1 this
  refine buse _ _ ⟨_,fps3,_,o,r3,eo,?_⟩
  have keep:∀j,j∉T.slots++W->(YJ T.slots bv Z')[j]?=Z[j]?/\Kep (fps3 j) (fps j):=fun j hj=>⟨(q3 j (subT j hj)).1.trans (q' j hj).1,(q3 j (subT j hj)).2.trans (q' j hj).2⟩
  cases o with
  | nx s4=>exact fun fps4 Z4 H4 r4 q4=>⟨fps4,s4,r4,by rw[hr];exact e',fun j hj=>⟨(q4 j (subW j hj)).1.trans (keep j hj).1,(q4 j (subW j hj)).2.trans (keep j hj).2⟩⟩
  | ct s4=>exact fun fps4 Z4 H4 r4 q4=>⟨fps4,s4,r4,by rw[hr];exact e',fun j hj=>⟨(q4 j (subW j hj)).1.trans (keep j hj).1,(q4 j (subW j hj)).2.trans (keep j hj).2⟩⟩
  | bk s4=>
   cases e'
   exact fun fps4 Z4 H4 r4 q4=>k fps4 Z4 H4 r4 fun j hj=>⟨(q4 j (subW j hj)).1.trans (keep j hj).1,(q4 j (subW j hj)).2.trans (keep j hj).2⟩
  | rt v=>
   cases e'
   exact k
end
section
variable {X:Cx} {O W:List Nat} {tg iter:Expr} {body:List Stmt} {fi:XL} {T:Tgt} {fb:XS} {pos:Pos}
theorem Xg(hp:PassesOwn (model X.prog X.w) X.A X.env X.xe)(hc:X.calm=true)(hi:VI X tg iter fi)(hg:PG X tg (gT X.K T))(hb:LF X O W body fb)(hT:∀i∈T.slots,i∉O:=by decide)
  (hs:∀x,foldedSetIterable iter X.env x=pure x:=by intro _;rfl):VS X O (T.slots++W) (.For tg iter body [] pos) (YB O fi T fb):=PS.imp (RH hp hc hi hg hb hs) fun D Z H ⟨H0,fps,s,out,r,e,k⟩=>by
 obtain⟨ls,e1,e⟩:=Zd e
 refine⟨Ow O fps,ZK O s,ls,r.owMut,r.envO,e1,fun J H1 s1 jis=>?_⟩
 exact T7 (r.grow s1).frame jis e hT (k.less (r.grow s1).under)
end
def YC(c:XT)(fb:XS):Nat->ZG->Option Pr
 | 0,_=>none
 | n+1,s=>(c s).bind fun k=>if k=true then(fb s).bind fun o=>match o with | .nx s2=>YC c fb n s2 | .ct s2=>YC c fb n s2 | .bk s2=>some (.nx s2) | .rt v=>some (.rt v) else some (.nx s)
theorem WX{c:XT}{fb:XS}:∀{n:Nat}{s:ZG}{o:Pr},YC c fb n s=some o->YC c fb (n+1) s=some o
 | 0,_,_,h=>by cases h
 | n+1,s,o,h=>by
  unfold YC at h ⊢
  obtain⟨k,e1,h⟩:=Zd h
  rw[e1]
  cases k with
  | false=>exact h
  | true=>
   rw[if_pos rfl] at h
   obtain⟨o1,e2,h⟩:=Zd h
   simp only[Option.bind_some,if_true,e2]
   cases o1 with
   | nx s2=>exact WX h
   | ct s2=>exact WX h
   | bk s2=>exact h
   | rt v=>exact h
theorem Rk{c:XT}{fb:XS}{n m:Nat}{s:ZG}{o:Pr}(h:YC c fb n s=some o)(hm:n<=m):YC c fb m s=some o:=by
 induction m with
 | zero=>
  have:n=0:=by omega
  subst this;exact h
 | succ m ih=>
  by_cases e:n=m+1
  ·subst e;exact h
  ·exact WX (ih (by omega))
open Classical in
noncomputable def UW(c:XT)(fb:XS):XS:=fun s=>if h:∃n,(YC c fb n s).isSome=true then YC c fb h.choose s else none
theorem NK{c:XT}{fb:XS}{n:Nat}{s:ZG}{o:Pr}(h:YC c fb n s=some o):UW c fb s=some o:=by
 have ex:∃n,(YC c fb n s).isSome=true:=⟨n,by rw[h];rfl⟩
 unfold UW;rw[dif_pos ex]
 obtain⟨o',e⟩:=Option.isSome_iff_exists.mp ex.choose_spec
 rw[e]
 rcases Nat.le_total n ex.choose with hl | hl
 ·rw[Rk h hl] at e;exact e.symm
 ·rw[Rk e hl] at h;exact h
section
variable {X:Cx} {O W:List Nat} {c:Expr} {body:List Stmt} {fc:XT} {fb:XS} {pos:Pos}
theorem MS(hp:PassesOwn (model X.prog X.w) X.A X.env X.xe)(hc:VT X c fc)(hb:LF X O W body fb):VS X O W (.While c body [] pos) (UW fc fb):=PS.imp (Mp hp hc hb) fun D Z H ⟨H0,fps,s,out,r,e,k⟩=>by
 unfold UW at e
 split at e
 case isFalse=>cases e
 rename_i ex
 generalize ex.choose=n at e
 refine⟨fun m Z' H'=>∃fps' s',Rel X.K O H0 fps' s' Z' H'/\YC fc fb m s'=some out/\∀j,j∉W->Z'[j]?=Z[j]?/\Kep (fps' j) (fps j),⟨n,fps,s,r,e,fun j _=>⟨rfl,Kep.refl _⟩⟩,?_⟩
 rintro m Z' H' ⟨fps',s',r',e',q'⟩
 cases m with
 | zero=>cases e'
 | succ m=>
  unfold YC at e'
  obtain⟨b,e1,e'⟩:=Zd e'
  refine⟨fun _=>False,s',b,fun _ z=>z.elim,r'.env,e1,fun H2 s2=>?_⟩
  cases b with
  | false=>
   rw[if_neg Bool.false_ne_true] at e' ⊢
   cases e'
   exact k fps' Z' H2 (r'.grow s2) q'
  | true=>
   rw[if_pos rfl] at e' ⊢
   obtain⟨o,eo,e'⟩:=Zd e'
   refine⟨fun Z2 H2=>∃fps2 s2,Rel X.K O H0 fps2 s2 Z2 H2/\YC fc fb m s2=some out/\∀j,j∉W->Z2[j]?=Z[j]?/\Kep (fps2 j) (fps j),fun Z2 H2 h2=>⟨m,Nat.lt_succ_self m,h2⟩,H0,fps',s',o,r'.grow s2,eo,?_⟩
   cases o with
   | nx s4=>exact fun fps4 Z4 H4 r4 q4=>⟨fps4,s4,r4,e',fun j hj=>⟨(q4 j hj).1.trans (q' j hj).1,(q4 j hj).2.trans (q' j hj).2⟩⟩
   | ct s4=>exact fun fps4 Z4 H4 r4 q4=>⟨fps4,s4,r4,e',fun j hj=>⟨(q4 j hj).1.trans (q' j hj).1,(q4 j hj).2.trans (q' j hj).2⟩⟩
   | bk s4=>
    cases e'
    exact fun fps4 Z4 H4 r4 q4=>k fps4 Z4 H4 r4 fun j hj=>⟨(q4 j hj).1.trans (q' j hj).1,(q4 j hj).2.trans (q' j hj).2⟩
   | rt v=>cases e';exact k
end
end VL
namespace VL
open PySem PySem.Spec PyProof.Rows L2
variable {K:PySem.W.Frag}
section
variable {O:List Nat} {H0 H H':Hp} {fps:Nat->List Addr} {s:ZG} {Z:UP}
theorem Rel.lst_at(r:Rel K O H0 fps s Z H){i:Nat}(hi:i∈O){m:List PV}(e:s[i]?=some (some (.lst m))):∃p xs fq,Z[i]?=some (some (.ref p))/\H p=some (.lst xs)/\Iss K H m xs fq/\fps i=p::fq:=by
 obtain⟨v,a,b⟩:=r.is i _ e
 obtain⟨p,xs,fq,rfl,hp,hm,ef⟩:=b.lst_inv
 exact⟨p,xs,fq,a,hp,hm,ef⟩
theorem Rel.dT_at(r:Rel K O H0 fps s Z H){i:Nat}(hi:i∈O){ks:List (List Yi)}{m:List PV}(e:s[i]?=some (some (.dT ks m))):∃p kvs fq,Z[i]?=some (some (.ref p))/\H p=some (.dT kvs)/\kvs.map (·.1)=ks/\Iss K H m (kvs.map (·.2)) fq/\fps i=p::fq:=by
 obtain⟨v,a,b⟩:=r.is i _ e
 obtain⟨p,xs,fq,rfl,hp,hk,hm,ef⟩:=b.dT_inv
 refine⟨p,xs,fq,a,?_,hk,hm,ef⟩
 have mu:=(r.own i hi p (by rw[ef];exact List.mem_cons_self)).2
 rcases hp with hp | ⟨o,hp⟩
 ·exact hp
 ·rw[hp] at mu;exact mu.elim
theorem Rel.dK_at(r:Rel K O H0 fps s Z H){i:Nat}(hi:i∈O){ks:List Yi}{m:List PV}(e:s[i]?=some (some (.dK ks m))):∃p kvs fq,Z[i]?=some (some (.ref p))/\H p=some (.dK kvs)/\kvs.map (·.1)=ks/\Iss K H m (kvs.map (·.2)) fq/\fps i=p::fq:=by
 obtain⟨v,a,b⟩:=r.is i _ e
 obtain⟨p,xs,fq,rfl,hp,hk,hm,ef⟩:=b.dK_inv
 refine⟨p,xs,fq,a,?_,hk,hm,ef⟩
 have mu:=(r.own i hi p (by rw[ef];exact List.mem_cons_self)).2
 rcases hp with hp | ⟨o,hp⟩
 ·exact hp
 ·rw[hp] at mu;exact mu.elim
theorem Vm{α:Type}{l:List α}{i:Nat}{a:α}(h:l[i]?=some a):i<l.length:=(List.getElem?_eq_some_iff.mp h).1
theorem TK.upd'{p:Addr}{o:HO}(mu:Wj (H p)):TK2 H (L2.upd H p o):=⟨fun b xs h=>by
 rw[upd_ne (fun z=>by rw[z] at h;rw[h] at mu;exact mu)];exact h,fun b o xs h=>by
 rw[upd_ne (fun z=>by rw[z] at h;rw[h] at mu;exact mu)];exact h,fun b o x h=>by
 rw[upd_ne (fun z=>by rw[z] at h;rw[h] at mu;exact mu)];exact h⟩
theorem RdK.upd_ne{p q:Addr}{o:HO}(ne:q≠p):RdK H (L2.upd H p o) q:=RdK.of fun u hu=>by rw[L2.upd_ne ne];exact hu
theorem Rel.relist(r:Rel K O H0 fps s Z H){i:Nat}(hi:i∈O){m m':List PV}(e:s[i]?=some (some (.lst m))){p:Addr}{fq fq':List Addr}{xs':List V}(ef:fps i=p::fq)(hv:Z[i]?=some (some (.ref p)))
  (h':Iss K H m' xs' fq') (nd:(p::fq').Nodup) (hf:∀q∈fq',q∈fq\/((H0 q=none/\Wj (H q))/\∀j,q∉fps j)):Rel K O H0 (Th fps s.length i (p::fq')) (s.set i (some (.lst m'))) Z (L2.upd H p (.lst xs')):=by
 have hp:p∈fps i:=by rw[ef];exact List.mem_cons_self
 have mu:=(r.own i hi p hp).2
 have np:p∉fq':=(List.nodup_cons.mp nd).1
 refine r.mutate hi hp hv (Vm e) (Is.lst upd_same (Iss.tr (TK.upd' mu) _ _ _ (fun q hq=>RdK.upd_ne fun z=>np (z▸hq)) h')) nd (fun q hq=>?_) (fun j hj q hq z=>?_) True.intro
 ·rcases List.mem_cons.mp hq with rfl | hq
  ·exact⟨(r.own i hi q hp).1,by rw[upd_same];exact True.intro⟩
  ·have ne:q≠p:=fun z=>np (z▸hq)
   rw[L2.upd_ne ne]
   rcases hf q hq with h | h
   ·exact r.own i hi q (by rw[ef];exact List.mem_cons_of_mem _ h)
   ·exact h.1
 ·rcases List.mem_cons.mp hq with rfl | hq
  ·exact r.dis i hi j hj q hp z
  ·rcases hf q hq with h | h
   ·exact r.dis i hi j hj q (by rw[ef];exact List.mem_cons_of_mem _ h) z
   ·exact h.2 j z
end
def LG(s:ZG)(i:Nat):Option (List PV):=match s[i]? with | some (some (.lst m))=>some m | _=>none
def Mj:PV->Option Int
 | .int k=>some k
 | _=>none
def HU:PV->Option (List PV)
 | .lst k=>some k
 | _=>none
theorem Uh{s:ZG}{i:Nat}{m:List PV}(h:LG s i=some m):s[i]?=some (some (.lst m)):=by
 unfold LG at h;split at h
 ·cases h;assumption
 ·cases h
theorem Ui{a:PV}{k:Int}(h:Mj a=some k):a = .int k:=by
 unfold Mj at h;split at h
 ·cases h;rfl
 ·cases h
theorem QE{a:PV}{k:List PV}(h:HU a=some k):a = .lst k:=by
 unfold HU at h;split at h
 ·cases h;rfl
 ·cases h
def gd(c:Bool):Option Unit:=if c=true then some () else none
theorem Vn{c:Bool}{u:Unit}(h:gd c=some u):c=true:=by
 unfold gd at h;split at h
 ·assumption
 ·cases h
def Xl(i:Nat)(f:XE):XS:=fun s=>(f s).bind fun l=>(LG s i).bind fun m=>(gd (decide (m.length<=10000))).bind fun _=>some (.nx (s.set i (some (.lst (m++[l])))))
def XD(i:Nat)(f:XE):XS:=fun s=>(f s).bind fun l=>(HU l).bind fun n=>(LG s i).bind fun m=>(gd (decide (m.length+n.length<=10000))).bind fun _=>some (.nx (s.set i (some (.lst (m++n)))))
def XF(i:Nat)(fk:XE)(f:XE):XS:=fun s=>(fk s).bind fun k=>(f s).bind fun l=>(Mj k).bind fun k=>(LG s i).bind fun m=>(gd (Zz m&&ZR l&&decide (0<=k/\k<=1000000/\m.length<=10000))).bind fun _=>some (.nx (s.set i (some (.lst (m.take k.toNat++l::m.drop k.toNat)))))
section
variable {X:Cx} {O:List Nat} {i:Nat} {st:Stmt} {f fk:XE}
theorem GP{H:Hp}{p:Addr}{xs:List V}(h:H p=some (.lst xs)):GI K "list" (.ref p) H:=.inl ⟨rfl,_,SqL.of h⟩
theorem Rl{s:ZG}{Z:UP}{fps:Nat->List Addr}{fp:List Addr}:∀j,j∉[i]->Z[j]?=Z[j]?/\Kep (Th fps s.length i fp j) (fps j):=fun j hj=>⟨rfl,.inl (ZU (by simpa using hj))⟩
theorem UX(h:PS X st (Od (Gh X.K "list" Oh (UA i) (TB (tM X.K f) Mu))))(hi:i∈O:=by decide):VS X O [i] st (Xl i f):=PS.imp h fun D Z H ⟨H0,fps,s,out,r,e,k⟩=>by
 obtain⟨l,e1,e⟩:=Zd e
 obtain⟨m,em,e⟩:=Zd e
 obtain⟨_,eg,e⟩:=Zd e
 have em:=Uh em
 have hlen:=of_decide_eq_true (Vn eg)
 cases e
 obtain⟨p,xs,fq,hv,hp,hm,ef⟩:=r.lst_at hi em
 refine⟨.ref p,hv,GP hp,s,l,r.env,e1,fun y H2 fe s2 i2 d2 n2=>?_⟩
 refine⟨p,xs,y,rfl,rfl,s2 _ _ hp,by rw[hm.len];exact lt_size (by omega),?_⟩
 have r2:=r.grow s2
 have fr:∀q∈fe,∀j,q∉fps j:=fun q hq j z=>r.dom j q z (n2 q hq).1
 refine k _ _ _ (r2.relist hi em ef hv ((hm.mono s2).append (Iss.one i2)) ?_ fun q hq=>?_) Rl
 ·have nd:=r.nd i hi
  rw[ef] at nd;rw[<-List.cons_append]
  exact List.nodup_append.mpr ⟨nd,d2,fun a ha b hb z=>fr b hb i (by rw[ef,<-z];exact ha)⟩
 ·rcases List.mem_append.mp hq with h | h
  ·exact .inl h
  ·exact .inr ⟨⟨Same.off r.same (n2 q h).1,(n2 q h).2⟩,fr q h⟩
theorem Rn(h:PS X st (Od (Gh X.K "list" Oi (UA i) (TB (tM X.K f) Mu))))(hi:i∈O:=by decide):VS X O [i] st (XD i f):=PS.imp h fun D Z H ⟨H0,fps,s,out,r,e,k⟩=>by
 obtain⟨l,e1,e⟩:=Zd e
 obtain⟨n,en,e⟩:=Zd e
 obtain⟨m,em,e⟩:=Zd e
 obtain⟨_,eg,e⟩:=Zd e
 rw[QE en] at e1;have em:=Uh em
 have hlen:=of_decide_eq_true (Vn eg)
 cases e
 obtain⟨p,xs,fq,hv,hp,hm,ef⟩:=r.lst_at hi em
 refine⟨.ref p,hv,GP hp,s,_,r.env,e1,fun y H2 fe s2 i2 d2 n2=>?_⟩
 obtain⟨b,zs,fb,rfl,hb,hz,rfl⟩:=i2.lst_inv
 have hb':H2 b=some (.lst zs):=hb
 refine⟨p,b,xs,zs,rfl,rfl,s2 _ _ hp,hb',by rw[hm.len,hz.len];exact Nat.le_of_lt (lt_size (by omega)),?_⟩
 have r2:=r.grow s2
 have fr:∀q∈fb,∀j,q∉fps j:=fun q hq j z=>r.dom j q z (n2 q (List.mem_cons_of_mem _ hq)).1
 refine k _ _ _ (r2.relist hi em ef hv ((hm.mono s2).append hz) ?_ fun q hq=>?_) Rl
 ·have nd:=r.nd i hi
  rw[ef] at nd;rw[<-List.cons_append]
  exact List.nodup_append.mpr ⟨nd,(List.nodup_cons.mp d2).2,fun a ha b hb z=>fr b hb i (by rw[ef,<-z];exact ha)⟩
 ·rcases List.mem_append.mp hq with h | h
  ·exact .inl h
  ·exact .inr ⟨⟨Same.off r.same (n2 q (List.mem_cons_of_mem _ h)).1,(n2 q (List.mem_cons_of_mem _ h)).2⟩,fr q h⟩
theorem Iss.pureEq{H:Hp}{l:List PV}{xs:List V}{fp:List Addr}(h:Iss K H l xs fp)(hp:Zz l=true):Iss K H l xs []:=by
 have:=Iss.pure _ _ _ hp h
 subst this;exact h
theorem Pt{l:List PV}(n:Nat)(h:Zz l=true):Zz (l.take n)=true:=by
 rw[XM,List.all_eq_true] at *
 exact fun x hx=>h x (List.mem_of_mem_take hx)
theorem Pu{l:List PV}(n:Nat)(h:Zz l=true):Zz (l.drop n)=true:=by
 rw[XM,List.all_eq_true] at *
 exact fun x hx=>h x (List.mem_of_mem_drop hx)
theorem Ro(h:PS X st (Od (Gh X.K "list" Ov (UA i) (TB (tF X.K fk) (TB (tF X.K f) Mu)))))(hi:i∈O:=by decide):VS X O [i] st (XF i fk f):=PS.imp h fun D Z H ⟨H0,fps,s,out,r,e,k⟩=>by
 obtain⟨kk,e0,e⟩:=Zd e
 obtain⟨l,e1,e⟩:=Zd e
 obtain⟨ki,ek,e⟩:=Zd e
 obtain⟨m,em,e⟩:=Zd e
 obtain⟨_,eg,e⟩:=Zd e
 rw[Ui ek] at e0;have em:=Uh em;have hc:=Vn eg;simp only[Bool.and_eq_true,decide_eq_true_eq] at hc
 obtain⟨⟨pm,pl⟩,k0,k1,hlen⟩:=hc
 cases e
 obtain⟨p,xs,fq,hv,hp,hm,ef⟩:=r.lst_at hi em
 refine⟨.ref p,hv,GP hp,fun _=>False,s,_,fun _ z=>z.elim,r.env,e0,fun z H1 fz s1 i1 _=>⟨fun _=>False,s,l,fun _ z=>z.elim,r.env.mono s1,e1,fun y H2 fe s2 i2 _=>?_⟩⟩
 have s12:=s1.trans s2
 obtain⟨rfl,_⟩:=i1.int_inv
 have:=Is.pure _ _ _ pl i2
 subst this
 refine⟨p,xs,ki,y,rfl,rfl,s12 _ _ hp,k0,by omega,by rw[hm.len];exact lt_size (by omega),?_⟩
 have hm':=(hm.mono s12).pureEq pm
 obtain⟨f1,a1,_⟩:=hm'.take ki.toNat
 obtain⟨f2,a2,_⟩:=hm'.drop ki.toNat
 have a1:=a1.pureEq (Pt _ pm)
 have a2:=a2.pureEq (Pu _ pm)
 exact k _ _ _ ((r.grow s12).relist hi em ef hv (a1.append (Iss.cons i2 a2)) (by simp) fun q hq=>by simp at hq) Rl
end
theorem Iss.setRow{H:Hp}{o:List V}:∀{m:List PV}{xs:List V}{fq:List Addr}{j:Nat}{n n':List PV}{q:Addr},Iss K H m xs fq->m[j]?=some (.lst n)->xs[j]?=some (.ref q)->fq.Nodup->Wj (H q)->Zz n=true->Iss K (L2.upd H q (.lst o)) n' o []->
  Iss K (L2.upd H q (.lst o)) (m.set j (.lst n')) xs fq
 | [],_,_,_,_,_,_,_,e,_,_,_,_,_=>by simp at e
 | a::m,xs,fq,0,n,n',q,h,e,ex,nd,mu,pn,h'=>by
  obtain⟨x,r,f1,f2,rfl,h1,h2,rfl⟩:=h.inv
  simp at e ex
  subst e ex
  obtain⟨p',zs,fz,e,hp,hz,rfl⟩:=h1.lst_inv
  cases e
  have:=Iss.pure _ _ _ pn hz
  subst this
  have nq:q∉f2:=(List.nodup_cons.mp nd).1
  exact Iss.cons (Is.lst upd_same h') (Iss.tr (TK.upd' mu) _ _ _ (fun z hz=>RdK.upd_ne fun e=>nq (e▸hz)) h2)
 | a::m,xs,fq,j+1,n,n',q,h,e,ex,nd,mu,pn,h'=>by
  obtain⟨x,r,f1,f2,rfl,h1,h2,rfl⟩:=h.inv
  simp at e ex
  obtain⟨nd1,nd2,nd3⟩:=List.nodup_append.mp nd
  obtain⟨y,fy,hy,iy,suby⟩:=h2.get e
  rw[ex] at hy;cases hy
  obtain⟨p',zs,fz,e',_,_,rfl⟩:=iy.lst_inv
  cases e'
  have nq:q∉f1:=fun z=>nd3 q z q (suby q List.mem_cons_self) rfl
  exact Iss.cons (Is.tr (TK.upd' mu) _ _ _ (fun z hz=>RdK.upd_ne fun e=>nq (e▸hz)) h1) (Iss.setRow h2 e ex nd2 mu pn h')
def Yb(i:Nat)(fa fb:XE)(f:XE):XS:=fun s=>(f s).bind fun l=>(fa s).bind fun a=>(fb s).bind fun b=>(Mj a).bind fun a=>(Mj b).bind fun b=>(LG s i).bind fun m=>(Of m.length a).bind fun j=>(m[j]?).bind fun r=>(HU r).bind fun n=>
 (gd (Zz n&&ZR l)).bind fun _=>(Of n.length b).map fun c=>.nx (s.set i (some (.lst (m.set j (.lst (n.set c l))))))
theorem Vo{X:Cx}{O:List Nat}{i:Nat}{st:Stmt}{f fa fb:XE}(h:PS X st (Nd (tF X.K f) (Hj (JT (L1 X.K) (UA i) (tF X.K fa)) (tF X.K fb) Je)))(hi:i∈O:=by decide):VS X O [i] st (Yb i fa fb f):=PS.imp h fun D Z H ⟨H0,fps,s,out,r,e,k⟩=>by
 obtain⟨l,e0,e⟩:=Zd e
 obtain⟨a,e1,e⟩:=Zd e
 obtain⟨b,e2,e⟩:=Zd e
 obtain⟨ai,ea,e⟩:=Zd e
 obtain⟨bi,eb,e⟩:=Zd e
 obtain⟨m,em,e⟩:=Zd e
 obtain⟨j,ej,e⟩:=Zd e
 obtain⟨rw',en,e⟩:=Zd e
 obtain⟨n,er,e⟩:=Zd e
 obtain⟨_,eg,e⟩:=Zd e
 rw[Ui ea] at e1;rw[Ui eb] at e2;rw[QE er] at en;have em:=Uh em;have hc:=Vn eg;simp only[Bool.and_eq_true] at hc
 obtain⟨pn,pl⟩:=hc
 obtain⟨c,ec,rfl⟩:=map_some e
 obtain⟨p,xs,fq,hv,hp,hm,ef⟩:=r.lst_at hi em
 refine⟨fun _=>False,s,l,fun _ z=>z.elim,r.env,e0,fun y H1 fy s1 i1 _=>?_⟩
 refine⟨.ref p,hv,fun _=>False,s,_,fun _ z=>z.elim,r.env.mono s1,e1,fun z H2 fz s2 i2 _=>?_⟩
 obtain⟨rfl,_⟩:=i2.int_inv
 have s12:=s1.trans s2
 obtain⟨q,f1,hq,iq,subq⟩:=(hm.mono s12).get en
 obtain⟨qa,zs,fz',rfl,hqa,hz,rfl⟩:=id iq.lst_inv
 refine⟨p,xs,ai,.ref qa,rfl,rfl,SqL.of (s12 _ _ hp),?_,fun _=>False,s,_,fun _ z=>z.elim,r.env.mono s12,e2,fun w H3 fw s3 i3 _=>?_⟩
 ·unfold X6;rw[hm.len,ej];exact hq
 obtain⟨rfl,_⟩:=i3.int_inv
 have s123:=s12.trans s3;have r3:=r.grow s123
 have hqf:qa∈fps i:=by rw[ef];exact List.mem_cons_of_mem _ (subq qa List.mem_cons_self)
 have mu:=(r3.own i hi qa hqf).2
 have hqa3:H3 qa=some (.lst zs):=s3 _ _ hqa
 have:=Is.pure _ _ _ pl i1
 subst this
 refine⟨qa,zs,bi,c,rfl,rfl,hqa3,by rw[hz.len];exact ec,?_⟩
 have nd:=r.nd i hi;rw[ef] at nd
 have hqp:qa≠p:=fun z=>(List.nodup_cons.mp nd).1 (z▸subq qa List.mem_cons_self)
 have newrow:Iss X.K (L2.upd H3 qa (.lst (zs.set c y))) (n.set c l) (zs.set c y) []:=Iss.tr (TK.upd' mu) _ _ _ (fun q hq=>by simp at hq) (Iss.setP c pn pl ((hz.mono s3).pureEq pn) (i1.mono (s2.trans s3)))
 have rows:=Iss.setRow (hm.mono s123) en hq (List.nodup_cons.mp nd).2 mu pn newrow
 refine k _ _ _ (r3.mutate (o:=.lst (zs.set c y)) (l':=.lst (m.set j (.lst (n.set c l)))) (fp':=p::fq) hi hqf hv (Vm em) (Is.lst (by rw[L2.upd_ne (Ne.symm hqp)];exact s123 _ _ hp) rows) nd (fun q hq=>?_) (fun j hj q hq z=>r.dis i hi j hj q (by rw[ef];exact hq) z) True.intro) Rl
 refine⟨(r.own i hi q (by rw[ef];exact hq)).1,?_⟩
 by_cases e:q=qa
 ·subst e;rw[upd_same];exact True.intro
 ·rw[L2.upd_ne e];exact(r3.own i hi q (by rw[ef];exact hq)).2
def NL(i:Nat)(g:PV->PV->Option PV)(f:XE):XS:=fun s=>match s[i]? with | some (some a)=>(f s).bind fun b=>(g a b).map fun l=>.nx (s.set i (some l)) | _=>none
theorem Kp{X:Cx}{O:List Nat}{i:Nat}{st:Stmt}{f:XE}{g:Int->Int->Int}(h:PS X st (Hk i (tF X.K f) (GZ g))):VS X O [i] st (NL i (gI g) f):=PS.imp h fun D Z H ⟨H0,fps,s,out,r,e,k⟩=>by
 unfold NL at e
 split at e
 case h_2=>cases e
 rename_i a ea
 obtain⟨b,e1,e⟩:=Zd e
 obtain⟨l,e2,rfl⟩:=map_some e
 obtain⟨m,n,rfl,rfl,rfl⟩:=Oz e2
 obtain⟨v,hv,iv⟩:=r.is i _ ea
 refine⟨v,hv,fun _=>False,s,_,fun _ z=>z.elim,r.env,e1,fun y H1 fy s1 i1 _=>⟨m,n,iv.int_inv.1,i1.int_inv.1,?_⟩⟩
 refine k _ _ H1 ((r.grow s1).set (i:=i) (Is.int _) (fun _=>⟨List.nodup_nil,fun p hp=>by simp at hp⟩) fun j _ _ p hp=>by simp at hp) fun j hj=>?_
 have:j≠i:=by simpa using hj
 exact⟨by rw[List.getElem?_set,if_neg (Ne.symm this)],.inl (ZU this)⟩
end VL
namespace VL
open PySem PySem.Spec PyProof.Rows L2
variable {K:PySem.W.Frag}
def T8:PV->Option Yi
 | .int i=>some (.inl i)
 | .str x=>some (.inr x)
 | _=>none
def QF:List PV->Option (List Yi)
 | []=>some []
 | a::r=>(T8 a).bind fun k=>(QF r).map (k::·)
def T9:PV->Option (List Yi)
 | .tup l=>QF l
 | _=>none
def kP:Yi->PV
 | .inl i=>.int i
 | .inr x=>.str x
theorem RY{H:Hp}{a:PV}{k:Yi}{v:V}{fp:List Addr}(e:T8 a=some k)(h:Is K H a v fp):v=kV k/\fp=[]:=by
 cases a with
 | int i=>cases e;exact h.int_inv
 | str x=>cases e;exact h.str_inv
 | _=>cases e
theorem QG{H:Hp}:∀{l:List PV}{ks:List Yi}{xs:List V}{fp:List Addr},QF l=some ks->Iss K H l xs fp->xs=ks.map kV/\fp=[]
 | [],ks,xs,fp,e,h=>by
  cases e
  simpa only[List.map_nil,Iss] using h
 | a::r,ks,xs,fp,e,h=>by
  obtain⟨k,e1,e⟩:=Zd (show(T8 a).bind (fun k=>(QF r).map (k::·))=some ks from e)
  obtain⟨kr,e2,rfl⟩:=map_some e
  obtain⟨x,rr,f1,f2,rfl,h1,h2,rfl⟩:=h.inv
  obtain⟨rfl,rfl⟩:=RY e1 h1
  obtain⟨rfl,rfl⟩:=QG e2 h2
  exact⟨rfl,rfl⟩
theorem OL{H:Hp}{a:PV}{k:List Yi}{v:V}{fp:List Addr}(e:T9 a=some k)(h:Is K H a v fp):∃b,v = .ref b/\H b=some (.tup (k.map kV)):=by
 cases a with
 | tup l=>
  obtain⟨p,xs,rfl,hp,hi⟩:=h.tup_inv
  obtain⟨rfl,_⟩:=QG (show QF l=some k from e) hi
  exact⟨p,rfl,hp⟩
 | _=>cases e
theorem HV{H:Hp}(k:Yi):Is K H (kP k) (kV k) []:=by
 cases k with
 | inl i=>exact Is.int i
 | inr x=>exact Is.str x
theorem MT{H:Hp}:∀(ks:List Yi),Iss K H (ks.map kP) (ks.map kV) []
 | []=>Iss.nil
 | k::r=>Iss.cons (f1:=[]) (HV k) (MT r)
section
variable {κ:Type} [DecidableEq κ]
def X5(ks:List κ)(vs:List PV)(k:κ):Option PV:=((ks.zip vs).find? fun z=>decide (z.1=k)).map (·.2)
def WY(ks:List κ)(k:κ):List κ:=if k∈ks then ks else ks++[k]
def WZ(ks:List κ)(vs:List PV)(k:κ)(v:PV):List PV:=if k∈ks then(ks.zip vs).map fun z=>if z.1=k then v else z.2 else vs++[v]
theorem Sa{H:Hp}:∀{kvs:List (κ×V)}{l:List PV}{fq:List Addr}(k:κ),Iss K H l (kvs.map (·.2)) fq->
  (X5 (kvs.map (·.1)) l k=none/\WR kvs k=none)\/∃a x f,X5 (kvs.map (·.1)) l k=some a/\WR kvs k=some x/\Is K H a x f/\∀p∈f,p∈fq
 | [],l,fq,k,h=>.inl ⟨by unfold X5;simp,rfl⟩
 | kv::r,[],fq,k,h=>by have:=h.len;simp at this
 | kv::r,a::l,fq,k,h=>by
  obtain⟨x,rr,f1,f2,e,h1,h2,rfl⟩:=h.inv
  cases e
  by_cases hk:kv.1=k
  ·refine .inr ⟨a,kv.2,f1,?_,V2 hk,h1,fun p hp=>List.mem_append_left _ hp⟩
   unfold X5;rw[List.map_cons,List.zip_cons_cons,List.find?_cons];simp[hk]
  ·have e1:X5 ((kv::r).map (·.1)) (a::l) k=X5 (r.map (·.1)) l k:=by
    unfold X5;rw[List.map_cons,List.zip_cons_cons,List.find?_cons];simp[hk]
   rw[e1,V3 hk]
   rcases Sa (l:=l) k h2 with z | ⟨b,y,f,z1,z2,z3,z4⟩
   ·exact .inl z
   ·exact .inr ⟨b,y,f,z1,z2,z3,fun p hp=>List.mem_append_right _ (z4 p hp)⟩
theorem any_mem{kvs:List (κ×V)}{k:κ}:(kvs.any fun kv=>decide (kv.1=k))=true↔k∈kvs.map (·.1):=by
 rw[List.any_eq_true,List.mem_map];constructor
 ·rintro⟨x,hx,e⟩;exact⟨x,hx,of_decide_eq_true e⟩
 ·rintro⟨x,hx,e⟩;exact⟨x,hx,decide_eq_true e⟩
theorem OM{kvs:List (κ×V)}{k:κ}{x:V}:(Wk kvs k x).map (·.1)=WY (kvs.map (·.1)) k:=by
 unfold Wk WY
 by_cases h:k∈kvs.map (·.1)
 ·rw[if_pos (any_mem.mpr h),if_pos h,List.map_map]
  apply List.map_congr_left
  intro z _
  show(if z.1=k then(z.1,x) else z).1=z.1
  split<;>rfl
 ·rw[if_neg (fun z=>h (any_mem.mp z)),if_neg h,List.map_append];rfl
theorem ON{H:Hp}{kvs:List (κ×V)}{l:List PV}{k:κ}{a:PV}{x:V}(h:Iss K H l (kvs.map (·.2)) [])(hp:Zz l=true)(ha:Is K H a x [])(pa:ZR a=true):Iss K H (WZ (kvs.map (·.1)) l k a) ((Wk kvs k x).map (·.2)) []:=by
 unfold Wk WZ
 by_cases hk:k∈kvs.map (·.1)
 ·rw[if_pos (any_mem.mpr hk),if_pos hk]
  clear hk
  induction kvs generalizing l with
  | nil=>
   have:=h.len
   cases l with
   | nil=>exact Iss.nil
   | cons _ _=>simp at this
  | cons kv r ih=>
   cases l with
   | nil=>have:=h.len;simp at this
   | cons b l=>
    obtain⟨y,rr,f1,f2,e,h1,h2,e2⟩:=h.inv
    cases e;simp only[Zz,Bool.and_eq_true] at hp;have z1:=Is.pure _ _ _ hp.1 h1;have z2:=Iss.pure _ _ _ hp.2 h2
    subst z1 z2
    have ih:=ih h2 hp.2;rw[List.map_cons,List.zip_cons_cons,List.map_cons,List.map_cons,List.map_cons]
    by_cases e:kv.1=k
    ·rw[if_pos e,if_pos e]
     exact Iss.cons (f1:=[]) ha ih
    ·rw[if_neg e,if_neg e]
     exact Iss.cons (f1:=[]) h1 ih
 ·rw[if_neg (fun z=>hk (any_mem.mp z)),if_neg hk,List.map_append]
  exact h.append (Iss.one ha)
end
def Xr:PV->PV->Option PV
 | .dK ks vs,k=>(T8 k).bind fun k=>X5 ks vs k
 | .dT ks vs,k=>(T9 k).bind fun k=>X5 ks vs k
 | _,_=>none
def Gm:PV->PV->Option Bool
 | .dK ks vs,k=>(T8 k).map fun k=>(X5 ks vs k).isSome
 | .dT ks vs,k=>(T9 k).map fun k=>(X5 ks vs k).isSome
 | _,_=>none
theorem OO{H:Hp}{d k:PV}{x y:V}{fd fk:List Addr}(hd:Is K H d x fd)(hk:Is K H k y fk){b:Bool}(e:Gm d k=some b):∃a o,x = .ref a/\Nu H a y o/\o.isSome=b/\((Xr d k=none/\o=none)\/∃c v f,Xr d k=some c/\o=some v/\Is K H c v f/\∀p∈f,p∈fd):=by
 cases d with
 | dK ks vs=>
  obtain⟨kk,e1,rfl⟩:=map_some (show(T8 k).map (fun k=>(X5 ks vs k).isSome)=some b from e)
  obtain⟨p,kvs,fq,rfl,hp,rfl,hi,rfl⟩:=hd.dK_inv
  obtain⟨rfl,_⟩:=RY e1 hk
  refine⟨p,WR kvs kk,rfl,.inl ⟨kvs,kk,hp,rfl,rfl⟩,?_,?_⟩
  ·rcases Sa kk hi with⟨z1,z2⟩ | ⟨a,v,f,z1,z2,_⟩<;>rw[z1,z2]<;>rfl
  ·show(Xr (.dK _ vs) k=none/\_)\/_
   have eg:Xr (.dK (kvs.map (·.1)) vs) k=X5 (kvs.map (·.1)) vs kk:=by show(T8 k).bind _=_;rw[e1];rfl
   rw[eg]
   rcases Sa kk hi with z | ⟨a,v,f,z1,z2,z3,z4⟩
   ·exact .inl z
   ·exact .inr ⟨a,v,f,z1,z2,z3,fun q hq=>List.mem_cons_of_mem _ (z4 q hq)⟩
 | dT ks vs=>
  obtain⟨kk,e1,rfl⟩:=map_some (show(T9 k).map (fun k=>(X5 ks vs k).isSome)=some b from e)
  obtain⟨p,kvs,fq,rfl,hp,rfl,hi,rfl⟩:=hd.dT_inv
  obtain⟨b,rfl,hb⟩:=OL e1 hk
  refine⟨p,WR kvs kk,rfl,.inr ⟨kvs,kk,b,hp,rfl,hb,rfl⟩,?_,?_⟩
  ·rcases Sa kk hi with⟨z1,z2⟩ | ⟨a,v,f,z1,z2,_⟩<;>rw[z1,z2]<;>rfl
  ·have eg:Xr (.dT (kvs.map (·.1)) vs) k=X5 (kvs.map (·.1)) vs kk:=by show(T9 k).bind _=_;rw[e1];rfl
   rw[eg]
   rcases Sa kk hi with z | ⟨a,v,f,z1,z2,z3,z4⟩
   ·exact .inl z
   ·exact .inr ⟨a,v,f,z1,z2,z3,fun q hq=>List.mem_cons_of_mem _ (z4 q hq)⟩
 | _=>cases e
theorem Kq{d k c:PV}(h:Xr d k=some c):Gm d k=some true:=by
 cases d with
 | dK ks vs=>
  obtain⟨kk,e1,e2⟩:=Zd (show(T8 k).bind (fun k=>X5 ks vs k)=some c from h)
  show(T8 k).map _=_
  rw[e1];show some ((X5 ks vs kk).isSome)=_;rw[e2];rfl
 | dT ks vs=>
  obtain⟨kk,e1,e2⟩:=Zd (show(T9 k).bind (fun k=>X5 ks vs k)=some c from h)
  show(T9 k).map _=_
  rw[e1];show some ((X5 ks vs kk).isSome)=_;rw[e2];rfl
 | _=>cases h
section
variable {X:Cx} {o i e f:Expr} {fd fk fx:XE} {pos apos cpos:Pos}
theorem MU:∀Z H Q,tF K (Zi Xr fd fk) Z H Q->Jg (tF K fd) (tF K fk) Z H Q:=fun Z H Q ⟨Rm,s,l,hd,env,e,k⟩=>by
 obtain⟨d,kk,e1,e2,e3⟩:=Wm e
 refine⟨Rm,s,d,hd,env,e1,fun x H1 f1 s1 i1 n1=>⟨Rm,s,kk,fun p hp=>Same.mut s1 (hd p hp),env.mono s1,e2,fun y H2 f2 s2 i2 n2=>?_⟩⟩
 obtain⟨a,ov,rfl,dg,_,alt⟩:=OO (i1.mono s2) i2 (Kq e3)
 rcases alt with⟨z,_⟩ | ⟨c,v,fv,z1,rfl,z3,z4⟩
 ·rw[z] at e3;cases e3
 ·rw[z1] at e3;cases e3
  exact⟨a,v,rfl,dg,k v H2 fv (s1.trans s2) z3 fun p hp=>n1 p (z4 p hp)⟩
theorem RZ(hu:X.A.units+1<cLine)(ho:VE X o fd)(hi:VE X i fk)(hs:Ia i:=by exact fun _ _=>rfl):VE X (.Subscript o i pos) (Zi Xr fd fk):=PE.imp (L7 hu ho hi hs) MU
def Pw(neg:Bool)(fk fd:XE):XE:=fun s=>(fk s).bind fun k=>(fd s).bind fun d=>(Gm d k).map fun b=>.bl (if neg then !b else b)
theorem Px:∀Z H Q,tF K (Pw true fk fd) Z H Q->Oq (tF K fk) (tF K fd) Z H Q:=fun Z H Q ⟨Rm,s,l,hd,env,e,k⟩=>by
 obtain⟨kk,e1,e⟩:=Zd e
 obtain⟨d,e2,e⟩:=Zd e
 obtain⟨b,e3,rfl⟩:=map_some e
 refine⟨Rm,s,kk,hd,env,e1,fun y H1 f1 s1 i1 n1=>⟨Rm,s,d,fun p hp=>Same.mut s1 (hd p hp),env.mono s1,e2,fun x H2 f2 s2 i2 n2=>?_⟩⟩
 obtain⟨a,ov,rfl,dg,rfl,_⟩:=OO i2 (i1.mono s2) e3
 exact⟨a,ov,rfl,dg,k _ H2 [] (s1.trans s2) (Is.bl _) fun p hp=>by simp at hp⟩
theorem NM(hu:X.A.units+1<cLine)(hi:VE X i fk)(ho:VE X o fd)(hm:behindInMarks .NotIn o=false:=by with_unfolding_all rfl):VT X (.Compare i [.NotIn] [o] pos) (xB (Pw true fk fd)):=PT.imp (Mm (Nx hu hi ho) hm) fun Z H Q h=>OB Px Z H Q (Ji Z H Q h)
end
def Kr(d k v:PV):Option PV:=match d with
 | .dT ks vs=>(gd (Zz vs&&ZR v&&decide (ks.length<=10000))).bind fun _=>(T9 k).map fun k=>.dT (WY ks k) (WZ ks vs k v)
 | .dK ks vs=>(gd (Zz vs&&ZR v&&decide (ks.length<=10000))).bind fun _=>(T8 k).map fun k=>.dK (WY ks k) (WZ ks vs k v)
 | _=>none
def sDPut(i:Nat)(fk fv:XE):XS:=fun s=>(fv s).bind fun v=>(fk s).bind fun k=>((s[i]?).join).bind fun d=>(Kr d k v).map fun d=>.nx (s.set i (some d))
theorem Ts{X:Cx}{O:List Nat}{i:Nat}{st:Stmt}{fk fv:XE}(h:PS X st (L2.sDPut (UA i) (tF X.K fk) (tF X.K fv)))(hi:i∈O:=by decide):VS X O [i] st (sDPut i fk fv):=PS.imp h fun D Z H ⟨H0,fps,s,out,r,e,k⟩=>by
 obtain⟨v,e1,e⟩:=Zd e
 obtain⟨kk,e2,e⟩:=Zd e
 obtain⟨d,em,e⟩:=Zd e
 obtain⟨d',ed,rfl⟩:=map_some e
 have em:=join_some em
 cases d with
 | dT ks vs=>
  obtain⟨_,eg,ed⟩:=Zd (show(gd (Zz vs&&ZR v&&decide (ks.length<=10000))).bind (fun _=>(T9 kk).map fun k=>PV.dT (WY ks k) (WZ ks vs k v))=some d' from ed)
  have hc:=Vn eg;simp only[Bool.and_eq_true,decide_eq_true_eq] at hc
  obtain⟨⟨pm,pl⟩,hlen⟩:=hc
  obtain⟨kt,e3,rfl⟩:=map_some ed
  obtain⟨p,kvs,fq,hv,hp,rfl,hm,ef⟩:=r.dT_at hi em
  refine⟨fun _=>False,s,v,fun _ z=>z.elim,r.env,e1,fun y H1 fy s1 i1 _=>⟨.ref p,hv,fun _=>False,s,kk,fun _ z=>z.elim,r.env.mono s1,e2,fun z H2 fz s2 i2 _=>?_⟩⟩
  have s12:=s1.trans s2
  obtain⟨b,rfl,hb⟩:=OL e3 i2
  have z1:=Is.pure _ _ _ pl i1;subst z1
  have hm':=(hm.mono s12).pureEq pm
  have z2:=Iss.pure _ _ _ pm hm;subst z2;have r2:=r.grow s12
  have hpf:p∈fps i:=by rw[ef];exact List.mem_cons_self
  have mu:=(r2.own i hi p hpf).2
  refine⟨p,_,rfl,.inr ⟨kvs,kt,b,s12 _ _ hp,rfl,hb,by rw[<-List.length_map (·.1)];exact lt_size hlen,rfl⟩,?_⟩
  refine k _ _ _ (r2.mutate (o:=.dT (Wk kvs kt y)) (l':=.dT (WY (kvs.map (·.1)) kt) (WZ (kvs.map (·.1)) vs kt v)) (fp':=[p]) hi hpf hv (Vm em) (Is.dT upd_same OM (Iss.tr (TK.upd' mu) _ _ _ (fun q hq=>by simp at hq) (ON hm' pm (i1.mono s2) pl))) (by simp) (fun q hq=>?_) (fun j hj q hq z=>r.dis i hi j hj q (by rw[ef];exact hq) z) True.intro) Rl
  rw[List.mem_singleton.mp hq]
  exact⟨(r.own i hi p hpf).1,by rw[upd_same];exact True.intro⟩
 | dK ks vs=>
  obtain⟨_,eg,ed⟩:=Zd (show(gd (Zz vs&&ZR v&&decide (ks.length<=10000))).bind (fun _=>(T8 kk).map fun k=>PV.dK (WY ks k) (WZ ks vs k v))=some d' from ed)
  have hc:=Vn eg;simp only[Bool.and_eq_true,decide_eq_true_eq] at hc
  obtain⟨⟨pm,pl⟩,hlen⟩:=hc
  obtain⟨kt,e3,rfl⟩:=map_some ed
  obtain⟨p,kvs,fq,hv,hp,rfl,hm,ef⟩:=r.dK_at hi em
  refine⟨fun _=>False,s,v,fun _ z=>z.elim,r.env,e1,fun y H1 fy s1 i1 _=>⟨.ref p,hv,fun _=>False,s,kk,fun _ z=>z.elim,r.env.mono s1,e2,fun z H2 fz s2 i2 _=>?_⟩⟩
  have s12:=s1.trans s2
  obtain⟨rfl,_⟩:=RY e3 i2
  have z1:=Is.pure _ _ _ pl i1;subst z1
  have hm':=(hm.mono s12).pureEq pm
  have z2:=Iss.pure _ _ _ pm hm;subst z2;have r2:=r.grow s12
  have hpf:p∈fps i:=by rw[ef];exact List.mem_cons_self
  have mu:=(r2.own i hi p hpf).2
  refine⟨p,_,rfl,.inl ⟨kvs,kt,s12 _ _ hp,rfl,by rw[<-List.length_map (·.1)];exact lt_size hlen,rfl⟩,?_⟩
  refine k _ _ _ (r2.mutate (o:=.dK (Wk kvs kt y)) (l':=.dK (WY (kvs.map (·.1)) kt) (WZ (kvs.map (·.1)) vs kt v)) (fp':=[p]) hi hpf hv (Vm em) (Is.dK upd_same OM (Iss.tr (TK.upd' mu) _ _ _ (fun q hq=>by simp at hq) (ON hm' pm (i1.mono s2) pl))) (by simp) (fun q hq=>?_) (fun j hj q hq z=>r.dis i hi j hj q (by rw[ef];exact hq) z) True.intro) Rl
  rw[List.mem_singleton.mp hq]
  exact⟨(r.own i hi p hpf).1,by rw[upd_same];exact True.intro⟩
 | _=>cases ed
end VL
namespace VL
open PySem PySem.Spec PyProof.Rows L2
variable {K:PySem.W.Frag}
section
variable {X:Cx} {a b c d:Expr} {fa fb fc fd:XE} {pos:Pos}
theorem QH(hu:X.A.units+64<cLine)(ha:VE X a fa)(hb:VE X b fb):VE X (.Compare a [.Eq] [b] pos) (Zi (WW false) fa fb):=Pj (ML hu) (RW false) ha hb (UG _)
theorem HW(hu:X.A.units+64<cLine)(ha:VE X a fa)(hb:VE X b fb):VE X (.Compare a [.NotEq] [b] pos) (Zi (WW true) fa fb):=Pj (MM hu) (RW true) ha hb (UG _)
theorem MV(hu:X.A.units+64<cLine)(ha:VE X a fa)(hb:VE X b fb):VT X (.Compare a [.Eq] [b] pos) (xB (Zi (WW false) fa fb)):=US (ML hu) (RW false) ha hb (UG _)
theorem MW(hu:X.A.units+64<cLine)(ha:VE X a fa)(hb:VE X b fb):VT X (.Compare a [.NotEq] [b] pos) (xB (Zi (WW true) fa fb)):=US (MM hu) (RW true) ha hb (UG _)
theorem Jm(hu:X.A.units+64<cLine)(ha:VE X a fa)(hb:VE X b fb)(hm:behindInMarks .In b=false:=by with_unfolding_all rfl):VT X (.Compare a [.In] [b] pos) (xB (Zi (SF false) fa fb)):=US (Iw hu) (MN false) ha hb hm
theorem Sb(hu:X.A.units+64<cLine)(ha:VE X a fa)(hb:VE X b fb)(hm:behindInMarks .NotIn b=false:=by with_unfolding_all rfl):VT X (.Compare a [.NotIn] [b] pos) (xB (Zi (SF true) fa fb)):=US (NG hu) (MN true) ha hb hm
def Ks:PV->Option Bool
 | .bl c=>some c
 | _=>none
theorem Sd{a:PV}{k:Bool}(h:Ks a=some k):a = .bl k:=by
 unfold Ks at h;split at h
 ·cases h;rfl
 ·cases h
def Qi(g h:PV->PV->Option PV)(a b c:XE):XE:=fun s=>(a s).bind fun x=>(b s).bind fun y=>((g x y).bind Ks).bind fun k=>if k=true then(c s).bind fun z=>h y z else some (.bl false)
theorem QI{r r':R2}{g h:PV->PV->Option PV}(hr:RB K r g)(hr':RB K r' h):∀Z H Q,tF K (Qi g h fa fb fc) Z H Q->Pc r r' (tF K fa) (tF K fb) (tF K fc) Z H Q:=fun Z H Q ⟨Rm,s,l,hd,env,e,k⟩=>by
 obtain⟨x',e1,e⟩:=Zd e
 obtain⟨y',e2,e⟩:=Zd e
 obtain⟨b,e3,e⟩:=Zd e
 obtain⟨z',e3,eb⟩:=Zd e3
 rw[Sd eb] at e3
 refine⟨Rm,s,x',hd,env,e1,fun x H1 f1 s1 i1 n1=>⟨Rm,s,y',fun p hp=>Same.mut s1 (hd p hp),env.mono s1,e2,fun y H2 f2 s2 i2 n2=>?_⟩⟩
 refine hr H2 x y x' y' _ f1 f2 (i1.mono s2) i2 e3 _ fun v H3 fp s3 i3 n3=>⟨b,i3.bl_inv.1,?_⟩
 have s123:=s1.trans (s2.trans s3)
 cases b with
 | false=>
  rw[if_neg Bool.false_ne_true] at e ⊢
  cases e
  exact k _ H3 [] s123 (Is.bl _) fun p hp=>by simp at hp
 | true=>
  rw[if_pos rfl] at e ⊢
  obtain⟨w',e4,e⟩:=Zd e
  refine⟨Rm,s,w',fun p hp=>Same.mut s123 (hd p hp),env.mono s123,e4,fun w H4 f4 s4 i4 n4=>?_⟩
  refine hr' H4 y w y' w' l f2 f4 (i2.mono (s3.trans s4)) i4 e Q fun v H5 fp5 s5 i5 n5=>k v H5 fp5 (s123.trans (s4.trans s5)) i5 fun p hp z=>?_
  rcases n5 p hp with q | q | q
  ·exact n2 p q z
  ·exact n4 p q z
  ·exact Yy (Same.mut (s123.trans s4) (hd p z)) q
theorem MX{op op':CmpOp}{r r':R2}{g h:PV->PV->Option PV}(ho:Wt X (compareOp op) r)(ho':Wt X (compareOp op') r')(hr:RB X.K r g)(hr':RB X.K r' h)(ha:VE X a fa)(hb:VE X b fb)(hc:VE X c fc)
  (hm:lastMarks [op,op'] [b,c]=false:=by with_unfolding_all rfl):VE X (.Compare a [op,op'] [b,c] pos) (Qi g h fa fb fc):=PE.imp (Mr ho ho' ha hb hc hm) (QI hr hr')
theorem Se{op op':CmpOp}{r r':R2}{g h:PV->PV->Option PV}(ho:Wt X (compareOp op) r)(ho':Wt X (compareOp op') r')(hr:RB X.K r g)(hr':RB X.K r' h)(ha:VE X a fa)(hb:VE X b fb)(hc:VE X c fc)
  (hm:lastMarks [op,op'] [b,c]=false:=by with_unfolding_all rfl):VT X (.Compare a [op,op'] [b,c] pos) (xB (Qi g h fa fb fc)):=PT.imp (Ms ho ho' ha hb hc hm) fun Z H Q q=>VH (QI hr hr') Z H Q (TQ Z H Q q)
end
section
variable {X:Cx} {a b:Expr} {fa fb:XE} {pos:Pos}
def gCat:PV->PV->Option PV
 | .lst m,.lst n=>if m.length+n.length<=10000 then some (.lst (m++n)) else none
 | _,_=>none
def Sf:PV->PV->Option PV
 | .lst m,.lst n=>if m.length+n.length<=10000/\Zz m=true/\Zz n=true then some (.lst (m++n)) else none
 | _,_=>none
theorem OP(ha:VE X a fa)(hb:VE X b fb):VM X (.BinOp a .Add b pos) (Zi Sf fa fb):=PE.imp (Mq J7 ha hb) fun Z H Q ⟨s,l,env,e,k⟩=>by
 obtain⟨x',y',e1,e2,e⟩:=Wm e
 refine⟨fun _=>False,s,x',fun _ z=>z.elim,env,e1,fun x H1 f1 s1 i1 _=>⟨fun _=>False,s,y',fun _ z=>z.elim,env.mono s1,e2,fun y H2 f2 s2 i2 _=>?_⟩⟩
 cases x' with
 | lst m=>cases y' with
  | lst n=>
   have e:(if m.length+n.length<=10000/\Zz m=true/\Zz n=true then some (PV.lst (m++n)) else none)=some l:=e
   split at e
   case isFalse=>cases e
   rename_i hl
   cases e
   obtain⟨p,xs,fq,rfl,hp,hi,rfl⟩:=i1.lst_inv
   obtain⟨p',ys,fq',rfl,hp',hi',rfl⟩:=i2.lst_inv
   refine⟨p,p',xs,ys,rfl,rfl,s2 _ _ hp,hp',by rw[hi.len,hi'.len];exact Nat.le_of_lt (lt_size hl.1),fun q hq=>?_⟩
   refine k _ _ [q] (s1.trans (s2.trans (Same.new hq _))) (Is.lst upd_same ((((hi.mono s2).pureEq hl.2.1).append (hi'.pureEq hl.2.2)).mono (Same.new hq _))) (by simp) fun r hr=>?_
   rw[List.mem_singleton.mp hr]
   exact⟨Same.off (s1.trans s2) hq,by rw[upd_same];exact True.intro⟩
  | _=>cases e
 | _=>cases e
def Sg:PV->PV->Option PV
 | .lst m,.int k=>if Zz m=true/\-1000000<=k/\k<=1000000/\m.length*k.toNat<=10000 then some (.lst (List.replicate k.toNat m).flatten) else none
 | _,_=>none
theorem Iss.rep{H:Hp}{m:List PV}{xs:List V}(h:Iss K H m xs []):∀k:Nat,Iss K H (List.replicate k m).flatten (List.replicate k xs).flatten []
 | 0=>Iss.nil
 | k+1=>by
  rw[List.replicate_succ,List.replicate_succ,List.flatten_cons,List.flatten_cons]
  exact h.append (Iss.rep h k)
theorem MY(ha:VE X a fa)(hb:VE X b fb):VM X (.BinOp a .Mult b pos) (Zi Sg fa fb):=PE.imp (Mq J8 ha hb) fun Z H Q ⟨s,l,env,e,k⟩=>by
 obtain⟨x',y',e1,e2,e⟩:=Wm e
 refine⟨fun _=>False,s,x',fun _ z=>z.elim,env,e1,fun x H1 f1 s1 i1 _=>⟨fun _=>False,s,y',fun _ z=>z.elim,env.mono s1,e2,fun y H2 f2 s2 i2 _=>?_⟩⟩
 cases x' with
 | lst m=>cases y' with
  | int n=>
   have e:(if Zz m=true/\-1000000<=n/\n<=1000000/\m.length*n.toNat<=10000 then some (PV.lst (List.replicate n.toNat m).flatten) else none)=some l:=e
   split at e
   case isFalse=>cases e
   rename_i hl
   cases e
   obtain⟨p,xs,fq,rfl,hp,hi,rfl⟩:=i1.lst_inv
   refine⟨p,n,xs,rfl,i2.int_inv.1,s2 _ _ hp,by omega,by omega,by rw[hi.len];exact Nat.le_of_lt (lt_size hl.2.2.2),fun q hq=>?_⟩
   refine k _ _ [q] (s1.trans (s2.trans (Same.new hq _))) (Is.lst upd_same ((Iss.rep ((hi.mono s2).pureEq hl.1) n.toNat).mono (Same.new hq _))) (by simp) fun r hr=>?_
   rw[List.mem_singleton.mp hr]
   exact⟨Same.off (s1.trans s2) hq,by rw[upd_same];exact True.intro⟩
  | _=>cases e
 | _=>cases e
end
theorem Iss.fps{H:Hp}:∀{ls:List PV}{vs:List V}{fp:List Addr},Iss K H ls vs fp->∃fps:Nat->List Addr,(∀(i:Nat) l,ls[i]?=some l->∃v,vs[i]?=some v/\Is K H l v (fps i))/\∀i,ls.length<=i->fps i=[]
 | [],vs,fp,h=>⟨fun _=>[],fun i l e=>by simp at e,fun _ _=>rfl⟩
 | a::ls,vs,fp,h=>by
  obtain⟨x,r,f1,f2,rfl,h1,h2,rfl⟩:=h.inv
  obtain⟨fps,p1,p2⟩:=h2.fps
  refine⟨fun i=>match i with | 0=>f1 | k+1=>fps k,fun i l e=>?_,fun i hi=>?_⟩
  ·cases i with
   | zero=>simp at e;subst e;exact⟨x,rfl,h1⟩
   | succ k=>
    obtain⟨v,a,b⟩:=p1 k l (by simpa using e)
    exact⟨v,by simpa using a,b⟩
  ·cases i with
   | zero=>simp at hi
   | succ k=>exact p2 k (by simpa using hi)
def Y1(m:Nat)(ls:List PV):ZG:=ls.map some++List.replicate (m-ls.length) none
def Xs:Pr->Option PV
 | .rt v=>some v
 | .nx _=>some .non
 | _=>none
def Xz(m:Nat)(f:XS):List PV->Option PV:=fun ls=>(f (Y1 m ls)).bind Xs
theorem OQ{N:List Str}{n:Nat}{O W:List Nat}{f:XS}{vs:List V}{H:Hp}{Q:VK}{E:XK}(hO:∀i∈O,n<=i)(h:Xd K (Xz N.length f) n vs H Q E):LD K O W f { nx:=fun _ H'=>Q .non H',rt:=Q } (L2.start N vs) H:=by
 obtain⟨hl,ls,fp,l,hi,e,q⟩:=h
 obtain⟨out,e1,e2⟩:=Zd e
 obtain⟨fps,p1,p2⟩:=hi.fps
 have hlen:=hi.len
 have hout:∀i:Nat,ls.length<=i->∀l,(Y1 N.length ls)[i]?≠some (some l):=fun i hi l z=>by
  unfold Y1 at z;rw[List.getElem?_append_right (by simpa using hi),List.getElem?_replicate] at z
  split at z<;>cases z
 have rel:Rel K O H fps (Y1 N.length ls) (L2.start N vs) H:=by
  refine⟨Same.refl H,?_,fun i a z=>?_,fun i hne=>?_,fun i hi=>?_,fun i hi p hp=>?_,fun i hi j hj p hp=>?_⟩
  ·unfold Y1 L2.start;simp[hlen]
  ·by_cases hil:i<ls.length
   ·unfold Y1 at z
    rw[List.getElem?_append_left (by simpa using hil),List.getElem?_map] at z
    cases q:ls[i]? with
    | none=>rw[q] at z;cases z
    | some b=>
     rw[q] at z;cases z
     obtain⟨v,a1,b1⟩:=p1 i a q
     refine⟨v,?_,b1⟩
     unfold L2.start
     rw[List.getElem?_append_left (by simpa [hlen] using hil),List.getElem?_map,a1];rfl
   ·exact absurd z (hout i (by omega) a)
  ·by_cases hil:i<ls.length
   ·exact absurd (by unfold Y1;rw[List.getElem?_append_left (by simpa using hil),List.getElem?_map,List.getElem?_eq_getElem hil];rfl) (hne ls[i])
   ·exact p2 i (by omega)
  ·rw[p2 i (by have:=hO i hi;omega)];exact List.nodup_nil
  ·rw[p2 i (by have:=hO i hi;omega)] at hp;simp at hp
  ·rw[p2 i (by have:=hO i hi;omega)] at hp;simp at hp
 refine⟨H,fps,Y1 N.length ls,out,rel,e1,?_⟩
 cases out with
 | nx s'=>
  cases e2
  exact fun fps' Z' H' r' _=>q .non H' [] r'.same Is.non List.nodup_nil fun p hp=>by simp at hp
 | rt v=>
  cases e2
  exact fun v fp H' sm i d n=>q v H' fp sm i d n
 | bk s'=>cases e2
 | ct s'=>cases e2
section
variable {P:Program} {w:World} {mg:Str->Option Value} {base:Heap}
theorem Yf{x:Str}{st:Stmt}{N ps:List Str}{k n:Nat}{O W:List Nat}(m:Nat)(f:XS)(D:Def K mg x st)(S:ZE N ps (Zl st))
  (hb:∀(kV doc pm:Value)(an:Option Addr)(cdv ct:Value)(us:List Value),us.length=ps.length->bindArgs (PySem.W.fnOf x x (X7 st) (YU st) (Zl st) .none kV doc pm an cdv ct) ⟨us,[]⟩=pure (ps.zip us))
  (hn:ps.length=n) (hm:N.length=m) (hO:∀i∈O,n<=i)
  (hbody:∀(fa:Addr)(cdv:Value)(A:Around)(outer:List Env)(s:Shared)(H:Hp)(E:XK),Room k (A.deeper (envOfC x (Zl st) s.heap.objs.size fa cdv))->LF (RI Ot P w K mg base N x (Zl st) fa cdv A outer s H E).nox O W (YU st) f) :
  XR P w K mg base x ps (Xd K (Xz m f) n) (k+1):=by
 subst hm
 refine D.cal S hb (fun vs H Q E h=>by rw[hn];exact h.1) fun fa cdv A outer s H vs Q E hr h=>⟨_,hbody fa cdv A outer s H E hr,OQ hO h⟩
end
end VL
namespace VL
open PySem PySem.Spec PyProof.Rows L2
variable {K:PySem.W.Frag}
theorem Inv.thaw{X:Cx}{pins:List (Addr×Obj)}{Z:UP}{H:Hp}{s:Shared}{d:Addr}{kvs:List (List Yi×V)}{o:Obj}(I:L2.Inv X pins Z H s)(hd:H d=some (.frz o (.dT kvs)))(h0:∀o u,X.H₀ d≠some (.frz o u)) :
  L2.Inv X pins Z (upd H d (.dT kvs)) s:=by
 have ne:∀b u,H b=some u->(∀o v,u≠.frz o v)->b≠d:=fun b u q n z=>by rw[z,hd] at q;exact n _ _ (Option.some.inj q).symm
 have nn:∀b,H b=none->b≠d:=fun b q z=>by rw[z,hd] at q;cases q
 have hok:HOk X.prog X.w (upd H d (.dT kvs)) s.heap:=fun b u q=>by
  have hown:∀c y,H c=some (.own y)->upd H d (.dT kvs) c=some (.own y):=fun c y z=>by rw[upd_ne (ne c _ z fun _ _ z=>nomatch z)];exact z
  have htup:∀c xs,H c=some (.tup xs)->upd H d (.dT kvs) c=some (.tup xs):=fun c y z=>by rw[upd_ne (ne c _ z fun _ _ z=>nomatch z)];exact z
  by_cases hb:b=d
  ·subst hb
   rw[upd_same] at q;cases q
   obtain⟨_,x⟩:=(show ObjOk X.prog X.w H s.heap b (.frz o (.dT kvs)) from I.hok b _ hd)
   exact ObjOk.stay x (fun _ _ _ z=>z) (fun c z=>hown c _ z) htup
  ·rw[upd_ne hb] at q
   exact(I.hok b u q).stay (fun _ _ _ z=>z) (fun c z=>hown c _ z) htup
 refine⟨I.ok,I.os,I.bare,⟨I.base.keep,I.base.slot,fun b o q n hx=>?_,I.base.there,fun b xs q=>?_,fun b o u q=>?_,fun b ps q=>?_⟩,I.loc,I.cell,?_,fun x c e=>?_,fun p hp=>?_,hok,I.len⟩
 ·have z:=I.base.free b o q n hx
  rw[upd_ne (nn b z)];exact z
 ·have z:=I.base.tups b xs q
  rw[upd_ne (ne b _ z fun _ _ z=>nomatch z)];exact z
 ·have z:=I.base.frzs b o u q
  have hb:b≠d:=fun e=>h0 o u (by rw[<-e];exact q)
  rw[upd_ne hb];exact z
 ·obtain⟨more,z⟩:=I.base.tbls b ps q
  exact⟨more,by rw[upd_ne (ne b _ z fun _ _ z=>nomatch z)];exact z⟩
 ·rw[upd_ne (nn _ I.free)];exact I.free
 ·rw[upd_ne (nn _ (I.freeC x c e))];exact I.freeC x c e
 ·obtain⟨a,b,c⟩:=I.pin p hp
  exact⟨a,by rw[upd_ne (nn _ b)];exact b,c⟩
def thaw(d:Addr)(kvs:List (List Yi×V))(D:VZ):VZ where
 nx:=fun Z H=>(∃o,H d=some (.frz o (.dT kvs)))/\D.nx Z (upd H d (.dT kvs))
 bk:=fun Z H=>(∃o,H d=some (.frz o (.dT kvs)))/\D.bk Z (upd H d (.dT kvs))
 ct:=fun Z H=>(∃o,H d=some (.frz o (.dT kvs)))/\D.ct Z (upd H d (.dT kvs))
 rt:=fun v H=>(∃o,H d=some (.frz o (.dT kvs)))/\D.rt v (upd H d (.dT kvs))
def Jn(i:Nat)(g:TG)(tb:TS):TS:=fun D Z H=>∃d kvs,Z[i]?=some (some (.ref d))/\
 ((H d=some (.dT kvs)/\∀o,Ih g tb (thaw d kvs D) Z (Ie d o kvs) (upd H d (.frz o (.dT kvs))))\/∃o,H d=some (.frz o (.dT kvs))/\Ih g tb D Z (Ie d o kvs) H)
theorem OR{X:Cx}{st:Stmt}{i:Nat}{g:TG}{tb:TS}(h:PS X st (LP (Ou (UA i)) g tb)):PS X st (Jn i g tb):=by
 intro pins s Z H D I hq
 obtain⟨d,kvs,hv,alt⟩:=hq
 rcases alt with⟨hd,q⟩ | ⟨o,hd,q⟩
 ·have h0:∀o u,X.H₀ d≠some (.frz o u):=fun o u z=>by
   have:=I.base.frzs d o u z
   rw[hd] at this;cases this
  have main:=h pins s Z H (thaw d kvs D) I ⟨.ref d,hv,d,kvs,rfl,.inl ⟨hd,q⟩⟩
  refine ZT main fun f s' hsp=>?_
  cases f with
  | next=>
   obtain⟨Z',H',I',⟨o,ho⟩,q'⟩:=hsp
   exact⟨Z',_,Inv.thaw I' ho h0,q'⟩
  | brk=>
   obtain⟨Z',H',I',⟨o,ho⟩,q'⟩:=hsp
   exact⟨Z',_,Inv.thaw I' ho h0,q'⟩
  | cont=>
   obtain⟨Z',H',I',⟨o,ho⟩,q'⟩:=hsp
   exact⟨Z',_,Inv.thaw I' ho h0,q'⟩
  | ret u=>
   obtain⟨v,Z',H',I',r',⟨o,ho⟩,q'⟩:=hsp
   exact⟨v,Z',_,Inv.thaw I' ho h0,r',q'⟩
 ·exact h pins s Z H D I ⟨.ref d,hv,d,kvs,rfl,.inr ⟨o,hd,q⟩⟩
def Kt(k:List Yi):PV:=.tup (k.map kP)
theorem QJ{Rm:Addr->Prop}{H1:Hp}{d:Addr}{o:Obj}{kvs:List (List Yi×V)}(hd:H1 d=some (.frz o (.dT kvs)))(hn:¬Rm d):Gk K Rm H1 (Ie d o kvs) ((kvs.map (·.1)).map Kt):=by
 refine⟨fun H' ab=>⟨ab d _ hd hn,by simp⟩,fun H' i l ab hl=>⟨ab d _ hd hn,by have:=(List.getElem?_eq_some_iff.mp hl).1;simpa using this⟩,fun H' i l x H'' ab hl y=>?_⟩
 obtain⟨rfl,b,k,v,hk,rfl,hb⟩:=y
 rw[List.getElem?_map,List.getElem?_map,hk] at hl;cases hl
 exact⟨Same.refl _,[],Is.tup hb (MT k),fun p hp=>by simp at hp⟩
def Rp:PV->Option (List PV)
 | .dT ks _=>some (ks.map Kt)
 | _=>none
def Td(i:Nat)(T:Tgt)(fb:XS):XS:=fun s=>((s[i]?).join.bind Rp).bind fun ls=>XC T fb ls s
theorem Rd.dT_inj{H:Hp}{p:Addr}{xs ys:List (List Yi×V)}(a:Rd H p (.dT xs))(b:Rd H p (.dT ys)):xs=ys:=by
 rcases a with a | ⟨o,a⟩<;>rcases b with b | ⟨o',b⟩<;>rw[a] at b<;>cases b<;>rfl
theorem RdK.swap{H H':Hp}{d:Addr}{kvs:List (List Yi×V)}(h:Rd H d (.dT kvs))(h':Rd H' d (.dT kvs))(hs:∀b,b≠d->H' b=H b)(p:Addr):RdK H H' p:=by
 by_cases hp:p=d
 ·subst hp
  refine⟨fun xs z=>?_,fun k z=>?_,fun k z=>?_⟩
  ·rcases h with h | ⟨o,h⟩<;>rw[h] at z<;>cases z
  ·rcases h with h | ⟨o,h⟩<;>rcases z with z | ⟨o',z⟩<;>rw[h] at z<;>cases z
  ·rw[<-Rd.dT_inj h z];exact h'
 ·exact RdK.of fun o z=>by rw[hs p hp];exact z
theorem TK2.swap{H H':Hp}{d:Addr}{kvs:List (List Yi×V)}(h:Rd H d (.dT kvs))(hs:∀b,b≠d->H' b=H b):TK2 H H':=by
 have ne:∀b u,H b=some u->(∀k,u≠.dT k)->(∀o k,u≠.frz o (.dT k))->b≠d:=fun b u q n n' z=>by
  rw[z] at q
  rcases h with h | ⟨o,h⟩<;>rw[h] at q<;>cases q
  ·exact n _ rfl
  ·exact n' _ _ rfl
 exact⟨fun b xs z=>by rw[hs b (ne b _ z (fun _ z=>nomatch z) fun _ _ z=>nomatch z)];exact z,fun b o xs z=>by rw[hs b (ne b _ z (fun _ z=>nomatch z) fun o k z=>by cases z)];exact z,fun b o xs z=>by rw[hs b (ne b _ z (fun _ z=>nomatch z) fun o k z=>by cases z)];exact z⟩
section
variable {O W:List Nat} {T:Tgt} {fb:XS} {i:Nat}
theorem Rq{O':List Nat}{H0 H:Hp}{fps:Nat->List Addr}{s:ZG}{Z:UP}{D:VZ}{out:Pr}{ks:List (List Yi)}{vs:List PV}(r:Rel K O H0 fps s Z H)(hO':∀j∈O',j∈O/\j≠i)(e:s[i]?=some (some (.dT ks vs)))
  (ef:XC T fb (ks.map Kt) s=some out) (hT:∀j∈T.slots,j∉O')
  (k:∀(F:Hp)(th:Hp->Hp),(∀b,H b≠none->¬Ow O' fps b->F b≠none)->Same H0 (th F)->(∀H',Same F H'->Same (th F) (th H')/\TK2 H' (th H')/\(∀p,RdK H' (th H') p)/\(∀p,F p=none->th H' p=H' p)/\(∀p,p∈fps i->¬Ow O' fps p->H p=th H' p))->(∀p,F p=none->H0 p=none)->
   ∀out',out=out'->match out' with
    | .nx s'=>∀fps' Z' H',Rel K O' F fps' s' Z' H'->(∀j,j∉T.slots++W->Z'[j]?=Z[j]?/\Kep (fps' j) (fps j))->D.nx Z' (th H')
    | .rt l=>∀v fp H',Same F H'->Is K H' l v fp->fp.Nodup->(∀p∈fp,F p=none/\Wj (H' p))->D.rt v (th H')
    | _=>True):Jn i (gT K T) (LD K O' W fb) D Z H:=by
 obtain⟨v,hv,iv⟩:=r.is i _ e
 obtain⟨d,kvs,fq,rfl,hd,rfl,hi,efp⟩:=iv.dT_inv
 have dO:¬Ow O' fps d:=fun⟨j,hj,hp⟩=>r.dis j (hO' j hj).1 i (Ne.symm (hO' j hj).2) d hp (by rw[efp];exact List.mem_cons_self)
 have owm:∀p,Ow O' fps p->H0 p=none/\Wj (H p):=fun p ⟨j,hj,hp⟩=>r.own j (hO' j hj).1 p hp
 -- the frame and the relation at the loop's start,in a heap that differs from H at d alone
 have start:∀H2:Hp,Rd H2 d (.dT kvs)->(∀b,b≠d->H2 b=H b)->Rel K O' (Xq H2 (Ow O' fps)) fps s Z H2:=fun H2 h2 hs=>by
  refine⟨Rj,r.len,fun j l q=>?_,r.emp,fun j hj=>r.nd j (hO' j hj).1,fun j hj p hp=>⟨by unfold Xq;rw[if_pos ⟨j,hj,hp⟩],?_⟩,fun j hj=>r.dis j (hO' j hj).1⟩
  ·obtain⟨w,a,b⟩:=r.is j l q
   exact⟨w,a,Is.tr (TK2.swap hd hs) _ _ _ (fun p _=>RdK.swap hd h2 hs p) b⟩
  ·have pd:p≠d:=fun z=>dO ⟨j,hj,z▸hp⟩
   rw[hs p pd];exact(r.own j (hO' j hj).1 p hp).2
 have outk:∀(F:Hp)(th:Hp->Hp)(D':VZ),(∀Z' H',Same F H'->D.nx Z' (th H')->D'.nx Z' H')->(∀v H',Same F H'->D.rt v (th H')->D'.rt v H')->(∀b,H b≠none->¬Ow O' fps b->F b≠none)->Same H0 (th F)->(∀H',Same F H'->Same (th F) (th H')/\TK2 H' (th H')/\(∀p,RdK H' (th H') p)/\(∀p,F p=none->th H' p=H' p)/\(∀p,p∈fps i->¬Ow O' fps p->H p=th H' p))->(∀p,F p=none->H0 p=none)->(∀s',out≠.bk s')->(∀s',out≠.ct s')->OutOk K O' (T.slots++W) F fps Z D' out:=fun F th D' h1 h2 h3 h4 h5 h6 hb hc=>by
  have kk:=k F th h3 h4 h5 h6 out rfl
  cases out with
  | nx s'=>exact fun fps' Z' H' r' q'=>h1 Z' H' r'.same (kk fps' Z' H' r' q')
  | rt l=>exact fun v fp H' sm i d n=>h2 v H' sm (kk v fp H' sm i d n)
  | bk s'=>exact absurd rfl (hb s')
  | ct s'=>exact absurd rfl (hc s')
 have nobc:(∀s',out≠.bk s')/\(∀s',out≠.ct s'):=by
  have:∀(ls:List PV)(s:ZG)(o:Pr),XC T fb ls s=some o->(∀s',o≠.bk s')/\(∀s',o≠.ct s'):=by
   intro ls
   induction ls with
   | nil=>intro s o h;cases h;exact⟨fun _ z=>(nomatch z),fun _ z=>(nomatch z)⟩
   | cons l rr ih=>
    intro s o h;unfold XC at h
    obtain⟨s1,_,h⟩:=Zd h
    obtain⟨o1,_,h⟩:=Zd h
    cases o1 with
    | nx s2=>exact ih s2 o h
    | ct s2=>exact ih s2 o h
    | bk s2=>cases h;exact⟨fun _ z=>(nomatch z),fun _ z=>(nomatch z)⟩
    | rt v=>cases h;exact⟨fun _ z=>(nomatch z),fun _ z=>(nomatch z)⟩
  exact this _ _ _ ef
 rcases hd with hd | ⟨o,hd⟩
 ·refine⟨d,kvs,hv,.inl ⟨hd,fun o=>?_⟩⟩
  have h2:upd H d (.frz o (.dT kvs)) d=some (.frz o (.dT kvs)):=upd_same
  have hs:∀b,b≠d->upd H d (.frz o (.dT kvs)) b=H b:=fun b hb=>upd_ne hb
  have Fd:Xq (upd H d (.frz o (.dT kvs))) (Ow O' fps) d=some (.frz o (.dT kvs)):=by unfold Xq;rw[if_neg dO];exact h2
  refine T7 (K:=K) (start _ (.inr ⟨o,h2⟩) hs) (QJ h2 dO) ef hT (outk _ (fun Hx=>upd Hx d (.dT kvs)) (thaw d kvs D) (fun Z' H' sm q=>⟨⟨o,sm d _ Fd⟩,q⟩) (fun v H' sm q=>⟨⟨o,sm d _ Fd⟩,q⟩) (fun b hb nb=>?_) (fun b u h=>?_) (fun H' sm=>⟨?_,?_,fun p=>?_,fun p hp=>?_,fun p hp np=>?_⟩) (fun p hp=>?_) nobc.1 nobc.2)
  ·unfold Xq;rw[if_neg nb]
   by_cases e:b=d
   ·subst e;rw[h2];simp
   ·rw[hs b e];exact hb
  ·by_cases e:b=d
   ·subst e
    have:=r.same b u h
    rw[hd] at this;cases this;exact upd_same
   ·rw[upd_ne e]
    unfold Xq
    rw[if_neg (fun z=>by rw[(owm b z).1] at h;cases h),hs b e]
    exact r.same b u h
  ·intro b u h
   by_cases e:b=d
   ·subst e;rw[upd_same] at h ⊢;exact h
   ·rw[upd_ne e] at h ⊢;exact sm b u h
  ·exact TK2.swap (d:=d) (kvs:=kvs) (.inr ⟨o,sm d _ Fd⟩) fun b hb=>upd_ne hb
  ·exact RdK.swap (d:=d) (kvs:=kvs) (.inr ⟨o,sm d _ Fd⟩) (.inl upd_same) (fun b hb=>upd_ne hb) p
  ·exact upd_ne fun e=>by rw[e,Fd] at hp;cases hp
  ·by_cases e:p=d
   ·subst e;rw[hd];exact upd_same.symm
   ·show H p=upd H' d (.dT kvs) p
    rw[upd_ne e];have hpn:=r.dom i p hp
    cases q:H p with
    | none=>exact absurd q hpn
    | some u=>exact(sm p u (by unfold Xq;rw[if_neg np,hs p e];exact q)).symm
  ·cases q:H0 p with
   | none=>rfl
   | some u=>
    exfalso
    have hpd:p≠d:=fun e=>by rw[e,Fd] at hp;cases hp
    unfold Xq at hp
    rw[if_neg (fun z=>by rw[(owm p z).1] at q;cases q),hs p hpd,r.same p u q] at hp
    cases hp
 ·refine⟨d,kvs,hv,.inr ⟨o,hd,?_⟩⟩
  have Fd:Xq H (Ow O' fps) d=some (.frz o (.dT kvs)):=by unfold Xq;rw[if_neg dO];exact hd
  refine T7 (K:=K) (start H (.inr ⟨o,hd⟩) fun _ _=>rfl) (QJ hd dO) ef hT (outk _ (fun Hx=>Hx) D (fun Z' H' sm q=>q) (fun v H' sm q=>q) (fun b hb nb=>by unfold Xq;rw[if_neg nb];exact hb) (fun b u h=>?_) (fun H' sm=>⟨sm,Same.tk2 (Same.refl _),fun p=>RdK.of fun _ z=>z,fun p _=>rfl,fun p hp np=>?_⟩) (fun p hp=>?_) nobc.1 nobc.2)
  ·unfold Xq
   rw[if_neg (fun z=>by rw[(owm b z).1] at h;cases h)]
   exact r.same b u h
  ·have hpn:=r.dom i p hp
   cases q:H p with
   | none=>exact absurd q hpn
   | some u=>exact(sm p u (by unfold Xq;rw[if_neg np];exact q)).symm
  ·cases q:H0 p with
   | none=>rfl
   | some u=>
    exfalso;unfold Xq at hp
    rw[if_neg (fun z=>by rw[(owm p z).1] at q;cases q),r.same p u q] at hp
    cases hp
end
section
variable {X:Cx} {O O' W:List Nat} {T:Tgt} {fb:XS} {i:Nat} {st:Stmt}
theorem OS(h:PS X st (LP (Ou (UA i)) (gT X.K T) (LD X.K O W fb)))(hi:i∉O:=by decide)(hT:∀j∈T.slots,j∉O:=by decide):VS X O (T.slots++W) st (Td i T fb):=PS.imp (OR h) fun D Z H ⟨H0,fps,s,out,r,e,k⟩=>by
 obtain⟨ls,e1,e⟩:=Zd e
 obtain⟨d,e2,e3⟩:=Zd e1
 have e2:=join_some e2
 cases d with
 | dT ks vs=>
  cases e3
  refine Rq (O':=O) r (fun j hj=>⟨hj,fun z=>hi (z▸hj)⟩) e2 e hT fun F th _ h4 h5 h6 out' eo=>?_
  subst eo
  cases out with
  | nx s'=>
   intro fps' Z' H' r' q'
   obtain⟨t1,t2,t3,t4,_⟩:=h5 H' r'.same
   refine k fps' Z' (th H') ⟨h4.trans t1,r'.len,fun j l q=>?_,r'.emp,r'.nd,fun j hj p hp=>⟨h6 p (r'.own j hj p hp).1,by rw[t4 p (r'.own j hj p hp).1];exact(r'.own j hj p hp).2⟩,r'.dis⟩ q'
   obtain⟨v,a,b⟩:=r'.is j l q
   exact⟨v,a,Is.tr t2 _ _ _ (fun p _=>t3 p) b⟩
  | rt l=>
   intro v fp H' sm is nd fr
   obtain⟨t1,t2,t3,t4,_⟩:=h5 H' sm
   exact k v fp (th H') (h4.trans t1) (Is.tr t2 _ _ _ (fun p _=>t3 p) is) nd fun p hp=>⟨h6 p (fr p hp).1,by rw[t4 p (fr p hp).1];exact(fr p hp).2⟩
  | bk s'=>trivial
  | ct s'=>trivial
 | _=>cases e3
def Y7(O:List Nat):Nat->ZG->ZG
 | _,[]=>[]
 | k,o::r=>(if k∈O then o else match o with | some l=>if ZR l=true then some l else none | none=>none)::Y7 O (k+1) r
theorem VN{O:List Nat}:∀{s:ZG}{k j:Nat}{l:PV},(Y7 O k s)[j]?=some (some l)->s[j]?=some (some l)/\(k+j∈O\/ZR l=true)
 | [],k,j,l,h=>by simp[Y7] at h
 | o::r,k,0,l,h=>by
  unfold Y7 at h;simp only[List.getElem?_cons_zero,Option.some.injEq] at h
  by_cases hk:k∈O
  ·rw[if_pos hk] at h;exact⟨by simp[h],.inl hk⟩
  ·rw[if_neg hk] at h
   cases o with
   | none=>cases h
   | some a=>
    simp only at h
    split at h
    ·cases h;exact⟨rfl,.inr (by assumption)⟩
    ·cases h
 | o::r,k,j+1,l,h=>by
  unfold Y7 at h;rw[List.getElem?_cons_succ] at h
  obtain⟨a,b⟩:=VN h
  exact⟨by simpa using a,by rw[show k+(j+1)=k+1+j by omega];exact b⟩
theorem Sh{O:List Nat}:∀{s:ZG}{k:Nat},(Y7 O k s).length=s.length
 | [],_=>rfl
 | o::r,k=>by unfold Y7;rw[List.length_cons,List.length_cons,Sh]
def Py(O:List Nat):Pr->Pr
 | .nx s=>.nx (Y7 O 0 s)
 | o=>o
def VP(O:List Nat)(i:Nat)(T:Tgt)(fb:XS):XS:=fun s=>((s[i]?).join.bind Rp).bind fun ls=>(XC T fb ls s).map (Py O)
open Classical in
theorem MZ(h:PS X st (LP (Ou (UA i)) (gT X.K T) (LD X.K O' W fb)))(hi:i∈O:=by decide)(hO:∀j,j∈O'↔(j∈O/\j≠i))(hT:∀j∈T.slots,j∉O:=by decide)(hW:i∉T.slots++W:=by decide):VS X O (T.slots++W) st (VP O i T fb):=PS.imp (OR h) fun D Z H ⟨H0,fps,s,out,r,e,k⟩=>by
 obtain⟨ls,e1,e⟩:=Zd e
 obtain⟨d,e2,e3⟩:=Zd e1
 obtain⟨out0,e5,rfl⟩:=map_some e
 have e2:=join_some e2
 cases d with
 | dT ks vs=>
  cases e3
  refine Rq (O':=O') r (fun j hj=>(hO j).mp hj) e2 e5 (fun j hj z=>hT j hj ((hO j).mp z).1) fun F th h3 h4 h5 h6 out' eo=>?_
  subst eo
  cases out0 with
  | nx s'=>
   intro fps' Z' H' r' q'
   obtain⟨t1,t2,t3,t4,t5⟩:=h5 H' r'.same
   have ki:=q' i hW
   have fi:∀p∈fps i,¬Ow O' fps p:=fun p hp ⟨j,hj,z⟩=>r.dis i hi j ((hO j).mp hj).2 p hp z
   have Fi:∀p∈fps i,F p≠none:=fun p hp=>h3 p (r.dom i p hp) (fi p hp)
   have sub:∀p,p∈fps' i->p∈fps i:=fun p hp=>by
    rcases ki.2 with z | z
    ·rw[<-z];exact hp
    ·rw[z] at hp;simp at hp
   have ow':∀j∈O',∀p∈fps' j,F p=none:=fun j hj p hp=>(r'.own j hj p hp).1
   have inO:∀j∈O,j≠i->j∈O':=fun j hj n=>(hO j).mpr ⟨hj,n⟩
   have get:∀j p,p∈(if(Y7 O 0 s')[j]?=s'[j]? then fps' j else [])->p∈fps' j/\(Y7 O 0 s')[j]?=s'[j]?:=fun j p hp=>by
    split at hp
    ·exact⟨hp,by assumption⟩
    ·simp at hp
   refine k (fun j=>if(Y7 O 0 s')[j]?=s'[j]? then fps' j else []) Z' (th H') ⟨h4.trans t1,by rw[Sh];exact r'.len,fun j l q=>?_,fun j hne=>?_,fun j hj=>?_,fun j hj p hp=>?_,fun j hj m hm p hp z=>?_⟩ fun j hj=>⟨(q' j hj).1,?_⟩
   ·obtain⟨q1,_⟩:=VN q
    obtain⟨v,a,b⟩:=r'.is j l q1
    rw[if_pos (q.trans q1.symm)]
    exact⟨v,a,Is.tr t2 _ _ _ (fun p _=>t3 p) b⟩
   ·show(if(Y7 O 0 s')[j]?=s'[j]? then fps' j else [])=[]
    split
    ·rename_i h;exact r'.emp j fun l z=>hne l (by rw[h];exact z)
    ·rfl
   ·show(if(Y7 O 0 s')[j]?=s'[j]? then fps' j else []).Nodup
    split
    ·by_cases e:j=i
     ·subst e
      rcases ki.2 with z | z
      ·rw[z];exact r.nd j hi
      ·rw[z];exact List.nodup_nil
     ·exact r'.nd j (inO j hj e)
    ·exact List.nodup_nil
   ·obtain⟨hp,_⟩:=get j p hp
    by_cases e:j=i
    ·subst e
     have hp:=sub p hp
     exact⟨(r.own j hi p hp).1,by rw[<-t5 p hp (fi p hp)];exact(r.own j hi p hp).2⟩
    ·have o:=r'.own j (inO j hj e) p hp
     exact⟨h6 p o.1,by rw[t4 p o.1];exact o.2⟩
   ·obtain⟨hp,_⟩:=get j p hp
    obtain⟨zp,zc⟩:=get m p z
    by_cases e:j=i
    ·subst e
     have hpi:=sub p hp
     by_cases hmO:m∈O'
     ·exact Fi p hpi (ow' m hmO p zp)
     ·obtain⟨l,v,ql,_,b⟩:=r'.at m zp
      rw[ql] at zc
      obtain⟨_,alt⟩:=VN zc
      rcases alt with alt | alt
      ·rw[Nat.zero_add] at alt
       exact hmO (inO m alt hm)
      ·rw[Is.pure _ _ _ alt b] at zp;simp at zp
    ·exact r'.dis j (inO j hj e) m hm p hp zp
   ·show Kep (if(Y7 O 0 s')[j]?=s'[j]? then fps' j else []) (fps j)
    split
    ·exact(q' j hj).2
    ·exact .inr rfl
  | rt l=>
   intro v fp H' sm is nd fr
   obtain⟨t1,t2,t3,t4,_⟩:=h5 H' sm
   exact k v fp (th H') (h4.trans t1) (Is.tr t2 _ _ _ (fun p _=>t3 p) is) nd fun p hp=>⟨h6 p (fr p hp).1,by rw[t4 p (fr p hp).1];exact(fr p hp).2⟩
  | bk s'=>trivial
  | ct s'=>trivial
 | _=>cases e3
end
end VL
namespace VL
open PySem PySem.Spec PyProof.Rows L2
variable {K:PySem.W.Frag}
section
variable {X:Cx} {O:List Nat} {tg elt iter:Expr} {ifs:List Expr} {scope:Scope} {pos:Pos} {fi:XL} {T:Tgt} {ft:XT} {fe:XE}
theorem R0(own fr:List Str)(ix:List Nat){i:Nat}{y:Str}{py spos:Pos}(hN:X.N.Nodup)(hy:X.N[i]?=some y)(hloc:X.env.scope.names.lookup y=some .local)(hcalm:X.calm=true)(hi:VI X tg iter fi)(S:VF X.N X.env.scope scope own fr ix=true)
  (hg:∀cl C s H ex,PG (ZF X (own++fr) scope cl C s H ex) tg (gT X.K T)) (ht:∀cl C s H ex,HS (ZF X (own++fr) scope cl C s H ex) ifs ft) (he:∀cl C s H ex,VM (ZF X (own++fr) scope cl C s H ex) elt fe)
  (hT:∀i∈T.slots,i<own.length:=by decide)
  (hsw:swapsWith (.ListComp elt [⟨tg,iter,ifs,0⟩] scope pos) (some (.Name y py)) spos.line X.env=pure true:=by rfl)
  (hs:∀x,foldedSetIterable iter X.env x=pure x:=by intro _;rfl):VS X O [i] (.Assign [.Name y py] (.ListComp elt [⟨tg,iter,ifs,0⟩] scope pos) spos) (Zo i (ZJ own.length ix fi T ft fe)):=
 PS.imp (MB own fr ix hN hy hloc hcalm hi S hg (fun cl C s H ex=>(show Mz (ZF X (own++fr) scope cl C s H ex) ifs (Q8 X.K ft) from ht cl C s H ex)) (fun cl C s H ex=>(show PE (ZF X (own++fr) scope cl C s H ex) elt (tM X.K fe) from he cl C s H ex)) hsw hs) (OK (OE hT))
end
def R1(i:Nat)(fk:XE):XS:=fun s=>(Za i s).bind fun a=>((fk s).bind Mj).bind fun k=>if k=0 then some (.rt .non) else if k=1 then some (.rt a) else none
theorem NN{X:Cx}{O:List Nat}{e:Expr}{i:Nat}{fk:XE}{pos:Pos}(he:PE X e (JT (L1 X.K) (Hv (TB (tC .non) (TB (UA i) Mu))) (tF X.K fk)))(hi:i∈O:=by decide):VS X O [] (.Return (some e) pos) (R1 i fk):=PS.imp (Q9 he) fun D Z H ⟨H0,fps,s,out,r,e,k⟩=>by
 obtain⟨a,e0,e⟩:=Zd e
 obtain⟨n,e1,e⟩:=Zd e
 obtain⟨l,e1,e2⟩:=Zd e1
 rw[Ui e2] at e1
 obtain⟨v,hv,iv⟩:=r.is i a (UQ e0)
 refine⟨v,hv,(by show 2<=sizeLine;decide),fun p hp=>?_⟩
 have sn:Same H (upd H p (.lst [V.non,v])):=Same.new hp _
 refine⟨fun _=>False,s,_,fun _ z=>z.elim,r.env.mono sn,e1,fun y H2 fy s2 i2 _=>?_⟩
 have hp2:H2 p=some (.lst [V.non,v]):=s2 _ _ upd_same
 by_cases h0:n=0
 ·rw[if_pos h0] at e;cases e
  exact⟨p,[V.non,v],n,V.non,rfl,i2.int_inv.1,SqL.of hp2,by rw[h0];rfl,k .non [] H2 (r.same.trans (sn.trans s2)) Is.non List.nodup_nil fun p hp=>by simp at hp⟩
 ·rw[if_neg h0] at e
  split at e
  ·rename_i h1
   cases e;have s12:=sn.trans s2
   exact⟨p,[V.non,v],n,v,rfl,i2.int_inv.1,SqL.of hp2,by rw[h1];rfl,k v (fps i) H2 (r.same.trans s12) (iv.mono s12) (r.nd i hi) fun q hq=>⟨(r.own i hi q hq).1,Same.mut s12 (r.own i hi q hq).2⟩⟩
  ·cases e
section
variable {P:Program} {w:World} {mg:Str->Option Value} {base:Heap}
theorem Iz{x:Str}{st:Stmt}{N ps:List Str}{k n:Nat}{O W:List Nat}{fa:Addr}{fd:FuncData}(m:Nat)(f:XS)(F:Fun K x x st fa fd)(S:ZE N ps (Zl st))
  (hn:ps.length=n) (hm:N.length=m) (hO:∀i∈O,n<=i)
  (hbody:∀(fa:Addr)(cdv:Value)(A:Around)(outer:List Env)(s:Shared)(H:Hp)(E:XK),Room k (A.deeper (envOfC x (Zl st) s.heap.objs.size fa cdv))->LF (RI Ot P w K mg base N x (Zl st) fa cdv A outer s H E).nox O W (YU st) f) :
  UJ P w K mg base Ot (k+1) fa fd ps (Xd K (Xz m f) n):=by
 subst hm
 refine F.ok S (fun vs H Q E h=>by rw[hn];exact h.1) fun cdv A outer s H vs Q E hr h=>⟨_,hbody fa cdv A outer s H E hr,?_⟩
 exact OQ hO h
theorem M0{st:Stmt}{x:Str}{D:List PV->Option PV}{k:Nat}{fa:Addr}(Df:Def K mg "law" st)(hfa:mg "law" = some (.ref fa))
  (hb:∀(kV doc pm:Value)(an:Option Addr)(cdv ct u:Value),bindArgs (PySem.W.fnOf "law" "law" (X7 st) (YU st) (Zl st) .none kV doc pm an cdv ct) ⟨[u],[]⟩=pure [(x,u)])
  (H:∀(base:Heap)(f:Addr)(fd:FuncData),K.In base->base.Ns mainGlobals mg->Fun K "law" "law" st f fd->UJ P w K mg base Ot k f fd [x] (Xd K D 1)) :
  ∃fd:FuncData,(∀(s:Shared)(u:Value),BindsTo s fd ⟨[u],[]⟩ [(x,u)])/\∀base:Heap,K.In base->base.Ns mainGlobals mg->UJ P w K mg base Ot k fa fd [x] (Xd K D 1):=by
 obtain⟨f,fd,hm,F⟩:=Df.ex
 have e:=hfa.symm.trans hm;cases e
 refine⟨fd,?_,fun base h1 h2=>H base fa fd h1 h2 F⟩
 obtain⟨oc,od,kV,doc,pm,an,cdv,ct,osl,rfl,lk,hcd⟩:=F.ex
 exact fun s u=>.of_eq (hb kV doc pm an cdv ct u)
end
theorem IA{H:Hp}{a:Addr}{ns:List Int}{D:List PV->Option PV}{E:XK}(hD:D [.cst (iL ns)]=some (.bl true))(hO:L8 H)(hS:SqL K H a (ns.map V.int)):Xd K D 1 [.ref a] H (fun v _=>v = .bl true) E:=by
 have cs:CsK K H a (ns.map V.int):=by
  rcases hS with h | h
  ·rcases h with h | ⟨o,h⟩
   ·rcases hO a with z | ⟨o,xs,z⟩
    ·rw[h] at z;cases z
    ·rw[h] at z;cases z
   ·exact .inl ⟨o,h⟩
  ·exact .inr h
 exact⟨rfl,[.cst (iL ns)],[],.bl true,Iss.one (Is.cst cs (Iss.ofInts ns)),hD,fun v H' fq _ i _ _=>i.bl_inv.1⟩
theorem law_walk{l:PySem.W.OpenLaw}{q:Program}{loose:List Str}{XP:(Str->Option Value)->Heap->Prop}{YP:World->Heap->Prop}{d:DefRec}{KK:Params->PySem.W.Frag}{x:Str}{D:List PV->Option PV}(k:Nat)(hn:l.most=some 63)(hdf:d.params.defaults=[])
  (hr:Room k callerA) (hD:∀ns:List Int,ns.length<=63->D [.cst (iL ns)]=some (.bl true))
  (hY:∀(w:World)(h:Heap),YP w h->(KK w.params).In h)
  (F:∀(w:World)(mg:Str->Option Value)(fa:Addr)(h:Heap),(KK w.params).In h->h.Ns mainGlobals mg->mg d.name=some (.ref fa)->
   ∃fd:FuncData,(∀(s:Shared)(u:Value),BindsTo s fd ⟨[u],[]⟩ [(x,u)])/\∀base:Heap,(KK w.params).In base->base.Ns mainGlobals mg->UJ l.prog w (KK w.params) mg base Ot k fa fd [x] (Xd (KK w.params) D 1)) :
  PySem.W.WalkO q loose XP YP l.row.toRowW d [] (fun f vs=>PySem.call f vs):=
 L2.walk_of (n:=63) (k:=k) (x:=x) (CX:=fun _=>Ot) (sp:=fun w=>Xd (KK w.params) D 1) hn (by decide) hdf hr hY F (fun w H a ns hl hO hS=>IA (hD ns hl) hO hS) fun _ _ _ _ _ z=>z
end VL
namespace VL
open PySem L2
@[simp] theorem Xt(i:Nat)(s:ZG):Za i s=(s[i]?).join:=rfl
@[simp] theorem M1(l:PV)(s:ZG):eC l s=some l:=rfl
@[simp] theorem ZA(g:PV->PV->Option PV)(a b:XE)(s:ZG):Zi g a b s=(a s).bind fun x=>(b s).bind fun y=>g x y:=rfl
@[simp] theorem eUn_def(g:PV->Option PV)(a:XE)(s:ZG):Ta g a s=(a s).bind g:=rfl
@[simp] theorem Xw(f:XE)(s:ZG):eP f s=(f s).bind fun l=>if ZR l=true then some l else none:=rfl
@[simp] theorem Ku(s:ZG):Tb [] s=some []:=rfl
@[simp] theorem Zu(f:XE)(fs:List XE)(s:ZG):Tb (f::fs) s=(f s).bind fun x=>(Tb fs s).map (x::·):=rfl
@[simp] theorem Zp(D:List PV->Option PV)(fs:List XE)(s:ZG):Ze D fs s=(Tb fs s).bind D:=rfl
@[simp] theorem M3(fs:List XE)(s:ZG):Xc fs s=(Tb fs s).map .tup:=rfl
@[simp] theorem QK(fs:List XE)(s:ZG):Yz fs s=(Tb fs s).map .lst:=rfl
@[simp] theorem OT(g:PV->Option Int->Option Int->Option PV)(a:XE)(lo hi:XO)(s:ZG):LC g a lo hi s=(a s).bind fun x=>(lo s).bind fun l=>(hi s).bind fun u=>g x l u:=rfl
@[simp] theorem xoN_def(s:ZG):Jl s=some none:=rfl
@[simp] theorem gI_ii(g:Int->Int->Int)(i j:Int):gI g (.int i) (.int j)=some (.int (g i j)):=rfl
@[simp] theorem gB_ii(g:Int->Int->Bool)(i j:Int):gB g (.int i) (.int j)=some (.bl (g i j)):=rfl
@[simp] theorem gIC_ii(C:Int->Int->Prop)[∀i j,Decidable (C i j)](g:Int->Int->Int)(i j:Int):Ik C g (.int i) (.int j)=if C i j then some (.int (g i j)) else none:=rfl
@[simp] theorem gIx_ti(l:List PV)(i:Int):ZI (.tup l) (.int i)=X6 l i:=rfl
@[simp] theorem gIx_li(l:List PV)(i:Int):ZI (.lst l) (.int i)=X6 l i:=rfl
@[simp] theorem gIx_ci(l:List PV)(i:Int):ZI (.cst l) (.int i)=X6 l i:=rfl
@[simp] theorem Yt(f:XE)(s:ZG):xB f s=(f s).bind Ks:=by
 unfold xB
 cases f s with
 | none=>rfl
 | some a=>cases a<;>rfl
@[simp] theorem M4(b:Bool):Ks (.bl b)=some b:=rfl
@[simp] theorem QL(a b:XT)(s:ZG):Wv a b s=(a s).bind fun c=>if c=true then b s else some false:=rfl
@[simp] theorem R3(a b:XT)(s:ZG):Pl a b s=(a s).bind fun c=>if c=true then some true else b s:=rfl
@[simp] theorem Y8(a:XT)(s:ZG):YY a s=(a s).map not:=rfl
@[simp] theorem M5(a b:XE)(s:ZG):ND a b s=(xB a s).bind fun c=>if c=true then b s else some (.bl false):=rfl
@[simp] theorem Kv(a b:XE)(s:ZG):Gi a b s=(xB a s).bind fun c=>if c=true then some (.bl true) else b s:=rfl
@[simp] theorem eNot_def(a:XE)(s:ZG):Kj a s=(xB a s).map fun c=>.bl !c:=rfl
@[simp] theorem OU(c:XT)(a b:XE)(s:ZG):IW c a b s=(c s).bind fun k=>if k=true then a s else b s:=rfl
@[simp] theorem eIsN_def(neg:Bool)(a:XE)(s:ZG):NF neg a s=(a s).bind (Ip neg):=rfl
@[simp] theorem NO(s:ZG):ZD s=some (.nx s):=rfl
@[simp] theorem Z9(f g:XS)(s:ZG):Zk f g s=(f s).bind fun o=>match o with | .nx s'=>g s' | r=>some r:=rfl
@[simp] theorem Yc(c:XT)(f g:XS)(s:ZG):XZ c f g s=(c s).bind fun k=>if k=true then f s else g s:=rfl
@[simp] theorem YR(f:XE)(s:ZG):Yd f s=(f s).map .rt:=rfl
@[simp] theorem ZL(i:Nat)(f:XE)(s:ZG):Zo i f s=(f s).map fun l=>.nx (s.set i (some l)):=rfl
@[simp] theorem retO_rt(v:PV):Xs (.rt v)=some v:=rfl
@[simp] theorem NP(i:Int):ZR (.int i)=true:=rfl
@[simp] theorem pureV_bl(i:Bool):ZR (.bl i)=true:=rfl
@[simp] theorem pureV_str(i:Str):ZR (.str i)=true:=rfl
@[simp] theorem pureV_non:ZR .non=true:=rfl
@[simp] theorem pureV_tup(l:List PV):ZR (.tup l)=Zz l:=by rw[ZR]
@[simp] theorem pureL_nil:Zz []=true:=rfl
@[simp] theorem pureL_cons(a:PV)(l:List PV):Zz (a::l)=(ZR a&&Zz l):=rfl
theorem UY{α:Type}{l:List α}{f:α->PV}(h:∀a∈l,ZR (f a)=true):Zz (l.map f)=true:=by
 rw[XM,List.all_map,List.all_eq_true];exact h
@[simp] theorem pureL_iL(l:List Int):Zz (l.map PV.int)=true:=Xa l
abbrev pP(l:List Int):PV:=.tup (iL l)
abbrev wP(W:List (List Int)):PV:=.tup (W.map pP)
@[simp] theorem pureL_wP(W:List (List Int)):Zz (W.map pP)=true:=UY fun a _=>by simp
theorem M6{l:List Int}{k:Nat}(h:k<l.length):(iL l)[k]?=some (.int (Yo l k)):=by
 rw[List.getElem?_map,List.getElem?_eq_getElem h];simp[Yo,List.getD_eq_getElem?_getD,List.getElem?_eq_getElem h]
theorem Si{l:List Int}{k:Nat}(h:k<l.length):X6 (iL l) (k:Int)=some (.int (Yo l k)):=Xk (M6 h)
theorem OV{W:List (List Int)}{k:Nat}(h:k<W.length):X6 (W.map pP) (k:Int)=some (pP (Zv W k)):=by
 refine Xk ?_
 rw[List.getElem?_map,Wl h];rfl
@[simp] theorem M7(l:List Bool):TZ [.lst (l.map PV.bl)]=some (.bl (l.all id)):=by
 simp[TZ,QB,Vz l]
@[simp] theorem gLen_t(l:List PV):Ya [.tup l]=some (.int l.length):=rfl
@[simp] theorem gLen_l(l:List PV):Ya [.lst l]=some (.int l.length):=rfl
@[simp] theorem gLen_c(l:List PV):Ya [.cst l]=some (.int l.length):=rfl
@[simp] theorem gTuple_l(l:List PV):Y0 [.lst l]=some (.tup l):=rfl
@[simp] theorem gTuple_t(l:List PV):Y0 [.tup l]=some (.tup l):=rfl
@[simp] theorem gListP_t(l:List PV):MJ [.tup l]=if Zz l=true then some (.lst l) else none:=rfl
@[simp] theorem gListP_l(l:List PV):MJ [.lst l]=if Zz l=true then some (.lst l) else none:=rfl
@[simp] theorem gMin2_ii(i j:Int):WM [.int i,.int j]=some (.int (if j<i then j else i)):=rfl
@[simp] theorem gMax2_ii(i j:Int):Rg [.int i,.int j]=some (.int (if j>i then j else i)):=rfl
@[simp] theorem gInt1_b(c:Bool):T1 [.bl c]=some (.int (if c then 1 else 0)):=rfl
@[simp] theorem gInt1_i(c:Int):T1 [.int c]=some (.int c):=rfl
@[simp] theorem gInst_ii(i:Int):Xp [.int i,.ty "int"]=some (.bl true):=rfl
@[simp] theorem gInst_ib(i:Int):Xp [.int i,.ty "bool"]=some (.bl false):=rfl
@[simp] theorem gInst_tt(l:List PV):Xp [.tup l,.ty "tuple"]=some (.bl true):=rfl
@[simp] theorem gInst_ll(l:List PV):Xp [.lst l,.ty "list"]=some (.bl true):=rfl
theorem OW(n:Nat)(i j:Int):Xe (n+1) (.int i) (.int j)=true:=rfl
theorem W0{α β:Type}{f:α->PV}{g:β->PV}{p:PV->PV->Bool}(h:∀a b,p (f a) (g b)=true):∀(l:List α)(m:List β),((l.map f).zip (m.map g)).all (fun z=>p z.1 z.2)=true
 | [],_=>by simp
 | _::_,[]=>by simp
 | a::l,b::m=>by
  rw[List.map_cons,List.map_cons,List.zip_cons_cons,List.all_cons,W0 h l m,h a b];rfl
theorem Kw(n:Nat)(l m:List Int):Xe (n+2) (pP l) (pP m)=true:=W0 (fun a b=>OW n a b) l m
theorem Kx(n:Nat)(l m:List (List Int)):Xe (n+3) (wP l) (wP m)=true:=W0 (fun a b=>Kw n a b) l m
@[simp] theorem gEq_ii(neg:Bool)(i j:Int):WW neg (.int i) (.int j)=some (.bl (if neg then !decide (i=j) else decide (i=j))):=by
 unfold WW;rw[if_pos (OW 7 i j)]
 congr 2
 cases neg<;>simp
theorem Rr{α:Type}{T:Tgt}{ft:XT}{fe:XE}{s0:ZG}{q g:α->PV}:∀{ls:List α},(∀a∈ls,∃s1,VB T (q a) s0=some s1/\ft s1=some true/\fe s1=some (g a))->XY T ft fe s0 (ls.map q)=some (ls.map g)
 | [],_=>rfl
 | a::r,h=>by
  obtain⟨s1,h1,h2,h3⟩:=h a List.mem_cons_self
  have ih:=Rr (ls:=r) fun b hb=>h b (List.mem_cons_of_mem _ hb)
  rw[List.map_cons,List.map_cons];unfold XY;rw[h1];simp only[Option.bind_some,h2,if_true,h3,ih,Option.map_some]
theorem Uj{α:Type}{T:Tgt}{ft:XT}{fe:XE}{s0:ZG}{q g:α->PV}{c:α->Bool}:∀{ls:List α},(∀a∈ls,∃s1,VB T (q a) s0=some s1/\ft s1=some (c a)/\(c a=true->fe s1=some (g a)))->XY T ft fe s0 (ls.map q)=some ((ls.filter c).map g)
 | [],_=>rfl
 | a::r,h=>by
  obtain⟨s1,h1,h2,h3⟩:=h a List.mem_cons_self
  have ih:=Uj (ls:=r) fun b hb=>h b (List.mem_cons_of_mem _ hb)
  rw[List.map_cons];unfold XY;rw[h1];simp only[Option.bind_some,h2]
  cases hc:c a with
  | true=>simp[h3 hc,ih,hc]
  | false=>simp[ih,hc]
theorem Xh{α:Type}{n:Nat}{ix:List Nat}{fi:XL}{T:Tgt}{ft:XT}{fe:XE}{s:ZG}(ls:List α)(q g:α->PV)(hfi:fi s=some (ls.map q))(hl:ls.length<=10000)
  (h:∀a∈ls,∃s1,VB T (q a) (Z8 n ix s)=some s1/\ft s1=some true/\fe s1=some (g a)):ZJ n ix fi T ft fe s=some (.lst (ls.map g)):=by
 unfold ZJ;rw[hfi];simp only[Option.bind_some,List.length_map,if_pos hl,Rr h,Option.map_some]
theorem Uk{α:Type}{n:Nat}{ix:List Nat}{fi:XL}{T:Tgt}{ft:XT}{fe:XE}{s:ZG}(ls:List α)(q g:α->PV)(c:α->Bool)(hfi:fi s=some (ls.map q))(hl:ls.length<=10000)
  (h:∀a∈ls,∃s1,VB T (q a) (Z8 n ix s)=some s1/\ft s1=some (c a)/\(c a=true->fe s1=some (g a))):ZJ n ix fi T ft fe s=some (.lst ((ls.filter c).map g)):=by
 unfold ZJ;rw[hfi];simp only[Option.bind_some,List.length_map,if_pos hl,Uj h,Option.map_some]
theorem ZP{T:Tgt}{fb:XS}:∀{ls:List PV}{s:ZG}(Jv:Nat->ZG->Prop),Jv 0 s->(∀(i:Nat) l st,ls[i]?=some l->Jv i st->∃s1 s2,VB T l st=some s1/\fb s1=some (.nx s2)/\Jv (i+1) s2)->
  ∃s',XC T fb ls s=some (.nx s')/\Jv ls.length s'
 | [],s,Jv,h0,_=>⟨s,rfl,h0⟩
 | l::r,s,Jv,h0,h=>by
  obtain⟨s1,s2,a,b,c⟩:=h 0 l s rfl h0
  obtain⟨s',d,e⟩:=ZP (ls:=r) (s:=s2) (fun i=>Jv (i+1)) c fun i l' st hl hi=>h (i+1) l' st (by simpa using hl) hi
  refine⟨s',?_,e⟩
  unfold XC;rw[a];simp only[Option.bind_some,b];exact d
theorem W3{n i:Nat}{l:PV}(h:(Wh n)[i]?=some l):i<n/\l = .int (i:Int):=by
 have hi:=(List.getElem?_eq_some_iff.mp h).1
 unfold Wh at hi h;rw[List.length_map,List.length_range] at hi;rw[List.getElem?_map,List.getElem?_range hi] at h
 exact⟨hi,(Option.some.inj h).symm⟩
theorem Ul{lo:Int}{n i:Nat}{l:PV}(h:(XW lo n)[i]?=some l):i<n/\l = .int (lo+(i:Int)):=by
 have hi:=(List.getElem?_eq_some_iff.mp h).1
 unfold XW at hi h;rw[List.length_map,List.length_range] at hi;rw[List.getElem?_map,List.getElem?_range hi] at h
 exact⟨hi,(Option.some.inj h).symm⟩
@[simp] theorem W4(n:Nat):(Wh n).length=n:=by unfold Wh;simp
@[simp] theorem Um(lo:Int)(n:Nat):(XW lo n).length=n:=by unfold XW;simp
@[simp] theorem bindT_one(i:Nat)(l:PV)(s:ZG):VB (.one i) l s=some (s.set i (some l)):=rfl
theorem X9(m:List PV):XX m=(List.range m.length).map fun(i:Nat)=>.tup [.int (i:Int),m.getD i .non]:=by
 apply List.ext_getElem?
 intro i;rw[List.getElem?_map]
 by_cases h:i<m.length
 ·have:(XX m)[i]?=some (.tup [.int (i:Int),m[i]]):=by
   unfold XX;rw[List.getElem?_map,List.getElem?_zipIdx,List.getElem?_eq_getElem h]
   simp
  rw[this,List.getElem?_range h];simp[List.getD_eq_getElem?_getD,List.getElem?_eq_getElem h]
 ·rw[List.getElem?_eq_none (by rw[UU];omega),List.getElem?_eq_none (by simpa using h)];rfl
theorem Ky(l:List Int)(i:Nat)(h:i<l.length):(iL l).getD i .non = .int (Yo l i):=by
 rw[List.getD_eq_getElem?_getD,M6 h];rfl
theorem M8(W:List (List Int))(i:Nat)(h:i<W.length):(W.map pP).getD i .non=pP (Zv W i):=by
 rw[List.getD_eq_getElem?_getD,List.getElem?_map,Wl h];rfl
@[simp] theorem Kz(f:XE)(s:ZG):Yk [f] s=(f s).bind fun a=>(Mj a).bind fun j=>if -1000000<=j/\j<=1000000 then some (Wh j.toNat) else none:=by
 unfold Yk
 cases h:f s with
 | none=>simp[h]
 | some a=>cases a<;>simp[h,Mj]
@[simp] theorem KA(f g:XE)(s:ZG):Yq [f,g] s=(f s).bind fun a=>(g s).bind fun b=>(Mj a).bind fun i=>(Mj b).bind fun j=>if -1000000<=i/\i<=1000000/\-1000000<=j/\j<=1000000 then some (XW i (j-i).toNat) else none:=by
 unfold Yq
 cases h:f s with
 | none=>simp[h]
 | some a=>cases h2:g s with
  | none=>simp[h,h2]
  | some b=>cases a<;>cases b<;>simp[h,h2,Mj]
@[simp] theorem Tt(i:Int):Mj (.int i)=some i:=rfl
@[simp] theorem OX(i:List PV):HU (.lst i)=some i:=rfl
@[simp] theorem NQ(b:Bool)(f:XE)(s:ZG):X8 b [f] s=(f s).bind fun l=>(seqB b l).map XX:=by
 unfold X8
 cases h:f s<;>simp[h]
@[simp] theorem seqB_f(l:List PV):seqB false (.tup l)=some l:=rfl
@[simp] theorem seqB_t(l:List PV):seqB true (.lst l)=some l:=rfl
@[simp] theorem seqB_c(l:List PV):seqB true (.cst l)=some l:=rfl
@[simp] theorem M9(f:XE)(s:ZG):Ue f s=(f s).bind Iy:=rfl
@[simp] theorem asS_l(l:List PV):Iy (.lst l)=some l:=rfl
@[simp] theorem asS_c(l:List PV):Iy (.cst l)=some l:=rfl
theorem La{f:XE}{s:ZG}{l:List PV}(h:f s=some (.tup l)):Ug f s=some l:=by unfold Ug;rw[h]
@[simp] theorem Yg(O:List Nat)(fi:XL)(T:Tgt)(fb:XS)(s:ZG):YB O fi T fb s=(fi (ZK O s)).bind fun ls=>XC T fb ls s:=rfl
@[simp] theorem xTrue_def(s:ZG):Yr s=some true:=rfl
theorem Xi{f:XE}{s:ZG}{n:Nat}(h:f s=some (.int (n:Int)))(hn:n<=10000):Yk [f] s=some (Wh n):=by
 rw[Kz,h];simp only[Option.bind_some,Tt];rw[if_pos ⟨by omega,by omega⟩,Int.toNat_natCast]
theorem Wo{f g:XE}{s:ZG}{i j:Int}(h:f s=some (.int i))(h':g s=some (.int j))(hi : -10000<=i/\i<=10000)(hj : -10000<=j/\j<=10000):Yq [f,g] s=some (XW i (j-i).toNat):=by
 rw[KA,h,h'];simp only[Option.bind_some,Tt];rw[if_pos ⟨by omega,by omega,by omega,by omega⟩]
theorem IB{i j:Int}(h0 : -10000<=i)(h:i<=10000):CMul i j:=by
 refine .inl ?_
 have e:(2^64:Int)=18446744073709551616:=by decide
 rw[e];omega
theorem Uo{c:Bool}(h:c=true):gd c=some ():=by unfold gd;rw[if_pos h]
theorem Sj{i:Nat}{f:XE}{s:ZG}{m n:List PV}(h:f s=some (.lst n))(hm:LG s i=some m)(hl:m.length+n.length<=10000):XD i f s=some (.nx (s.set i (some (.lst (m++n))))):=by
 unfold XD;rw[h];simp only[Option.bind_some,OX,hm,Uo (decide_eq_true hl)]
theorem Sk{i:Nat}{f:XE}{s:ZG}{m:List PV}{l:PV}(h:f s=some l)(hm:LG s i=some m)(hl:m.length<=10000):Xl i f s=some (.nx (s.set i (some (.lst (m++[l]))))):=by
 unfold Xl;rw[h];simp only[Option.bind_some,hm,Uo (decide_eq_true hl)]
theorem Sl{i:Nat}{fk f:XE}{s:ZG}{m:List PV}{l:PV}{k:Int}(hk:fk s=some (.int k))(h:f s=some l)(hm:LG s i=some m)(hp:Zz m=true)(hq:ZR l=true)(h0:0<=k)(h1:k<=1000000)(hl:m.length<=10000) :
  XF i fk f s=some (.nx (s.set i (some (.lst (m.take k.toNat++l::m.drop k.toNat))))):=by
 unfold XF;rw[hk,h]
 have c:(Zz m&&ZR l&&decide (0<=k/\k<=1000000/\m.length<=10000))=true:=by rw[hp,hq,decide_eq_true ⟨h0,h1,hl⟩];rfl
 simp only[Option.bind_some,Tt,hm,Uo c]
theorem Wz{i:Nat}{fa fb f:XE}{s:ZG}{m n:List PV}{l:PV}{a b:Int}{j c:Nat}(h:f s=some l)(ha:fa s=some (.int a))(hb:fb s=some (.int b))(hm:LG s i=some m)(hj:Of m.length a=some j)(hn:m[j]?=some (.lst n))(hp:Zz n=true)(hq:ZR l=true)(hc:Of n.length b=some c) :
  Yb i fa fb f s=some (.nx (s.set i (some (.lst (m.set j (.lst (n.set c l))))))):=by
 unfold Yb;rw[h,ha,hb]
 have cc:(Zz n&&ZR l)=true:=by rw[hp,hq];rfl
 simp only[Option.bind_some,Tt,OX,hm,hj,hn,Uo cc,hc,Option.map_some]
theorem Wa{n k:Nat}(h:k<n):Of n (k:Int)=some k:=by
 unfold Of
 rw[if_pos (by omega),if_pos (by omega)];rfl
theorem Wi{i j:Int}(h0:0<j)(h:j<=10000):VD i j:=⟨h0,by omega⟩
end VL
namespace PW
open PySem L2 VL
noncomputable def Sm:XS:=(Yd (eP (Zi ZI (Zi Sf (LC NI (Za 0) (MQ (Za 1)) (MQ (Zi Z4 (Za 1) (eC (.int 1))))) (Yz [(eC (.int 0))])) (eC (.int 0)))))
noncomputable def Zt:List PV->Option PV:=Xz 2 Sm
noncomputable def UZ:XS:=(Yd (eP (ND (Ze Xp [(Za 0),(eC (.ty "int"))]) (Kj (Ze Xp [(Za 0),(eC (.ty "bool"))])))))
noncomputable def YL:List PV->Option PV:=Xz 1 UZ
noncomputable def Wb:XS:=(Zk (Zo 3 (Yz []))
  (Zk (YB [3,5] (Yk [(Za 2)]) (.one 4) (Zk (XF 3 (Zi YH (Za 1) (Zi Z4 (Za 4) (eC (.int 1)))) (Za 4))
  (Zo 1 (eP (Zi YG (Za 1) (Zi Z4 (Za 4) (eC (.int 1))))))))
  (Zk (Zo 5 (eC (.dT [] [])))
  (Zk (Td 0 (.many [6,7]) (Zk (Zo 8 (eP (Xc [(Ze WM [(Zi ZI (Za 3) (Za 6)),(Zi ZI (Za 3) (Za 7))]),(Ze Rg [(Zi ZI (Za 3) (Za 6)),(Zi ZI (Za 3) (Za 7))])])))
  (sDPut 5 (Za 8) (Zi Xr (Za 0) (Xc [(Za 6),(Za 7)])))))
  (Yd (Za 5))))))
noncomputable def Wc:List PV->Option PV:=Xz 9 Wb
noncomputable def Y9:XS:=(Zk (Zo 4 (eC (.dT [] [])))
  (Zk (Zo 5 (Yz [(eP (eC (.int 0)))]))
  (Zk (YB [4,5] (Yk [(Za 1)]) (.one 6) (YB [4,5] (Yq [(Zi Z4 (Za 6) (eC (.int 1))),(Za 1)]) (.one 7) (Zk (Zo 8 (eP (Ze WM [(Zi Kh (Zi YH (Za 0) (eC (.int 2))) (Zi Z4 (eC (.int 1)) (Zi YH (Zi YG (Za 0) (eC (.int 2))) (Za 3)))),(Za 2)])))
  (Zk (Zo 0 (eP (Zi ZI (Yz [(Zi YG (Za 0) (eC (.int 2))),(Zi YG (Zi YG (Za 0) (eC (.int 2))) (Za 3))]) (Zi YH (Za 0) (eC (.int 2))))))
  (XZ (xB (Zi Tg (Za 8) (eC (.int 0)))) (Zk (sDPut 4 (Xc [(Za 6),(Za 7)]) (Za 8))
  (Zo 2 (eP (Zi WN (Za 2) (Za 8))))) ZD)))))
  (Zk (YB [4,5] (Yk [(Za 1)]) (.one 9) (VP [4,5] 4 (.many [6,7]) (Zk (XZ (Wv (xB (Zi (SF false) (Za 6) (Za 5))) (xB (Zi (SF true) (Za 7) (Za 5)))) (Xl 5 (eP (Za 7))) ZD)
  (XZ (Wv (xB (Zi (SF false) (Za 7) (Za 5))) (xB (Zi (SF true) (Za 6) (Za 5)))) (Xl 5 (eP (Za 6))) ZD))))
  (R1 4 (Ze T1 [(Zi (WW false) (Ze Ya [(Za 5)]) (Za 1))]))))))
noncomputable def Yh:List PV->Option PV:=Xz 10 Y9
noncomputable def VQ:XS:=(Zk (Zo 2 (ZJ 1 [1] (Yk [(Za 1)]) (.one 0) Yr (Zi Sg (Yz [(eC (.int 0))]) (Za 1))))
  (Zk (Td 0 (.many [3,4]) (Zk (Yb 2 (Za 3) (Za 4) (Zi Xr (Za 0) (Xc [(Za 3),(Za 4)])))
  (Yb 2 (Za 4) (Za 3) (Zi Xr (Za 0) (Xc [(Za 3),(Za 4)])))))
  (Yd (eP (Ze Y0 [(ZJ 1 [] (Ue (Za 2)) (.one 0) Yr (Ze Y0 [(Za 0)]))])))))
noncomputable def Pz:List PV->Option PV:=Xz 5 VQ
end PW
namespace VL
open PySem PySem.Spec PyProof.Rows L2
def Up(l:List Int):List Int:=l.mergeSort fun a b=>decide (a<=b)
theorem Sn(l:List Int):(Up l).Perm l:=List.mergeSort_perm l _
theorem R4(l:List Int):(Up l).Pairwise (·<=·):=by
 have:=List.pairwise_mergeSort (le:=fun a b:Int=>decide (a<=b)) (fun a b c h1 h2=>by simp only[decide_eq_true_eq] at *;omega) (fun a b=>by simp only[Bool.or_eq_true,decide_eq_true_eq];omega) l
 exact this.imp fun h=>of_decide_eq_true h
theorem QM{l m:List Int}(hp:m.Perm l)(hs:m.Pairwise (·<=·)):m=Up l:=
 List.Perm.eq_of_pairwise (le:=(·<=·)) (fun a b _ _ h1 h2=>Int.le_antisymm h1 h2) hs (R4 l) (hp.trans (Sn l).symm)
theorem Uq:∀{us:List Value}{ns:List Int},IntsAre us ns->Vals (ns.map V.int) us
 | _,_,.nil=>.nil
 | _,_,.cons n t h=>.cons ⟨t,rfl⟩ (Uq h)
def R5(K:PySem.W.Frag):List V->Hp->VK->Prop:=fun xs H Q=>∃p ns,xs=[.ref p]/\SqL K H p (ns.map V.int)/\ns.length<64/\∀l,H l=none->Q (.ref l) (upd H l (.lst ((Up ns).map V.int)))
theorem R6{X:Cx}:Xy X (.builtin "sorted") (R5 X.K):=by
 intro pins s Z H xs us Q I r h
 obtain⟨p,ns,rfl,hq,hl,q⟩:=h
 obtain⟨u,rfl,rx⟩:=WK r
 cases rx
 obtain⟨its,r',pl,hz⟩:=I.list hq
 have hlen:=r'.length
 rw[List.length_map] at hlen hz
 refine sorted_ints pl.isList (Pg r') (by omega) fun out ns' a1 a2 a3=>?_
 obtain⟨e,he⟩:=sortedAll_at s.heap its out
 have hns:=QM a2 a3;subst hns
 refine⟨.ref (s.heap.objs.size+1),_,I.laid (t':=s.toks) (fun b o=>sortedAll_old) (Nat.le_succ _) (show ObjOk X.prog X.w _ _ _ (.lst ((Up ns).map V.int)) from⟨?_,out.toList,e,Uq a1,?_⟩),rfl,q _ (I.hok.fresh (Nat.le_succ _))⟩
 ·rw[List.length_map,(Sn ns).length_eq];exact hz
 ·rw[Array.toArray_toList];exact he
def Tu:List PV->Option PV
 | [.lst l]=>(WU l).bind fun ns=>if ns.length<64 then some (.lst (iL (Up ns))) else none
 | [.cst l]=>(WU l).bind fun ns=>if ns.length<64 then some (.lst (iL (Up ns))) else none
 | _=>none
theorem PB{K:PySem.W.Frag}:GO K (R5 K) Tu:=fun H vs ls l fp h e Q k=>by
 have fin:∀(p:Addr)(ns:List Int),SqL K H p (ns.map V.int)->ns.length<64->l = .lst (iL (Up ns))->R5 K [.ref p] H Q:=by
  rintro p ns hp hl rfl
  refine⟨p,ns,rfl,hp,hl,fun q hq=>k _ _ [q] (Same.new hq _) (Is.lst upd_same (Iss.ofInts _)) (by simp) fun r hr=>?_⟩
  rw[List.mem_singleton.mp hr]
  exact⟨hq,by rw[upd_same];exact True.intro⟩
 unfold Tu at e
 split at e
 ·obtain⟨ns,e1,e2⟩:=Zd e
  split at e2
  ·cases e2
   obtain⟨v,rfl,i⟩:=h.one_inv
   have em:=WV e1;subst em
   obtain⟨p,xs,fq,rfl,hp,hi,_⟩:=i.lst_inv
   obtain⟨rfl,rfl⟩:=hi.iL
   exact fin p ns (.inl (.inl hp)) (by assumption) rfl
  ·cases e2
 ·obtain⟨ns,e1,e2⟩:=Zd e
  split at e2
  ·cases e2
   obtain⟨v,rfl,i⟩:=h.one_inv
   have em:=WV e1;subst em
   obtain⟨p,xs,rfl,hp,hi⟩:=i.cst_inv
   obtain⟨rfl,rfl⟩:=hi.iL
   exact fin p ns hp.sq (by assumption) rfl
  ·cases e2
 ·cases e
def YD:XS:=fun _=>none
theorem X0{X:Cx}{O W:List Nat}{st:Stmt}:VS X O W st YD:=by
 intro pins s Z H D I h;unfold LD at h;simp only[YD] at h
 obtain⟨_,_,_,_,_,q,_⟩:=h
 cases q
variable {K:PySem.W.Frag}
def OY(r r' r'':R2)(ta tb tc td:TE):TE:=fun Z H Q=>ta Z H fun x H1=>tb Z H1 fun y H2=>r x y H2 fun z H3=>∃k,z = .bl k/\
 (if k=true then tc Z H3 fun w' H4=>r' y w' H4 fun z' H5=>∃k',z' = .bl k'/\(if k'=true then td Z H5 fun u' H6=>r'' w' u' H6 Q else Q (.bl false) H5) else Q (.bl false) H3)
section
variable {X:Cx} {a b c d:Expr} {ta tb tc td:TE} {fa fb fc fd:XE} {pos:Pos}
theorem NR{op op' op'':CmpOp}{r r' r'':R2}(ho:Wt X (compareOp op) r)(ho':Wt X (compareOp op') r')(ho'':Wt X (compareOp op'') r'')(ha:PE X a ta)(hb:PE X b tb)(hc:PE X c tc)(hd:PE X d td)
  (hm:lastMarks [op,op',op''] [b,c,d]=false:=by with_unfolding_all rfl):PT X (.Compare a [op,op',op''] [b,c,d] pos) (SV (OY r r' r'' ta tb tc td)):=by
 intro pins s Z H Q I h
 refine isTrue_chain (ZT (ha pins s Z H _ I h) fun v s1 ⟨x,H1,I1,r1,q1⟩=>test_link (ZT (hb pins s1 Z H1 _ I1 q1) fun u s2 ⟨y,H2,I2,r2,q2⟩=>
  ZT (ho pins s2 Z H2 x y v u _ I2 r1 r2 q2) fun d s3 ⟨z,H3,I3,r3,k,e,q3⟩=>?_)) hm
 subst e;cases r3
 refine wpAny_truthy_bool ?_
 cases k with
 | false=>
  obtain⟨k',e',q'⟩:=q3
  cases e'
  exact ite_ff ⟨H3,I3,q'⟩
 | true=>
  refine ite_tt (test_link (ZT (hc pins s3 Z H3 _ I3 q3) fun w' s4 ⟨z',H4,I4,r4,q4⟩=>ZT (ho' pins s4 Z H4 y z' u w' _ I4 r2 r4 q4) fun d' s5 ⟨z2,H5,I5,r5,k',e',q5⟩=>?_))
  subst e'
  cases r5
  refine wpAny_truthy_bool ?_
  cases k' with
  | false=>
   obtain⟨k2,e2,q'⟩:=q5
   cases e2
   exact ite_ff ⟨H5,I5,q'⟩
  | true=>
   refine ite_tt (test_last (ZT (hd pins s5 Z H5 _ I5 q5) fun w2 s6 ⟨z3,H6,I6,r6,q6⟩=>ZT (ho'' pins s6 Z H6 z' z3 w' w2 _ I6 r4 r6 q6) fun d2 s7 ⟨z4,H7,I7,r7,k2,e2,q7⟩=>?_))
   subst e2;cases r7
   exact wpAny_truthy_bool ⟨H7,I7,q7⟩
def KC(g h i:PV->PV->Option PV)(a b c d:XE):XE:=fun s=>(a s).bind fun x=>(b s).bind fun y=>((g x y).bind Ks).bind fun k=>if k=true then(c s).bind fun z=>((h y z).bind Ks).bind fun k'=>if k'=true then(d s).bind fun u=>i z u else some (.bl false) else some (.bl false)
theorem NS{r r' r'':R2}{g h i:PV->PV->Option PV}(hr:RB K r g)(hr':RB K r' h)(hr'':RB K r'' i):∀Z H Q,tF K (KC g h i fa fb fc fd) Z H Q->OY r r' r'' (tF K fa) (tF K fb) (tF K fc) (tF K fd) Z H Q:=fun Z H Q ⟨Rm,s,l,hd,env,e,k⟩=>by
 obtain⟨x',e1,e⟩:=Zd e
 obtain⟨y',e2,e⟩:=Zd e
 obtain⟨b,e3,e⟩:=Zd e
 obtain⟨z',e3,eb⟩:=Zd e3
 rw[Sd eb] at e3
 refine⟨Rm,s,x',hd,env,e1,fun x H1 f1 s1 i1 n1=>⟨Rm,s,y',fun p hp=>Same.mut s1 (hd p hp),env.mono s1,e2,fun y H2 f2 s2 i2 n2=>?_⟩⟩
 refine hr H2 x y x' y' _ f1 f2 (i1.mono s2) i2 e3 _ fun v H3 fp s3 i3 n3=>⟨b,i3.bl_inv.1,?_⟩
 have s123:=s1.trans (s2.trans s3)
 cases b with
 | false=>
  rw[if_neg Bool.false_ne_true] at e ⊢
  cases e
  exact k _ H3 [] s123 (Is.bl _) fun p hp=>by simp at hp
 | true=>
  rw[if_pos rfl] at e ⊢
  obtain⟨w',e4,e⟩:=Zd e
  obtain⟨b',e5,e⟩:=Zd e
  obtain⟨z2,e5,eb'⟩:=Zd e5
  rw[Sd eb'] at e5
  refine⟨Rm,s,w',fun p hp=>Same.mut s123 (hd p hp),env.mono s123,e4,fun w H4 f4 s4 i4 n4=>?_⟩
  refine hr' H4 y w y' w' _ f2 f4 (i2.mono (s3.trans s4)) i4 e5 _ fun v5 H5 fp5 s5 i5 n5=>⟨b',i5.bl_inv.1,?_⟩
  have s12345:=s123.trans (s4.trans s5)
  cases b' with
  | false=>
   rw[if_neg Bool.false_ne_true] at e ⊢
   cases e
   exact k _ H5 [] s12345 (Is.bl _) fun p hp=>by simp at hp
  | true=>
   rw[if_pos rfl] at e ⊢
   obtain⟨u',e6,e⟩:=Zd e
   refine⟨Rm,s,u',fun p hp=>Same.mut s12345 (hd p hp),env.mono s12345,e6,fun u H6 f6 s6 i6 n6=>?_⟩
   refine hr'' H6 w u w' u' l f4 f6 (i4.mono (s5.trans s6)) i6 e Q fun v H7 fp7 s7 i7 n7=>k v H7 fp7 (s12345.trans (s6.trans s7)) i7 fun p hp z=>?_
   rcases n7 p hp with q | q | q
   ·exact n4 p q z
   ·exact n6 p q z
   ·exact Yy (Same.mut (s12345.trans s6) (hd p z)) q
theorem NT{op op' op'':CmpOp}{r r' r'':R2}{g h i:PV->PV->Option PV}(ho:Wt X (compareOp op) r)(ho':Wt X (compareOp op') r')(ho'':Wt X (compareOp op'') r'')(hr:RB X.K r g)(hr':RB X.K r' h)(hr'':RB X.K r'' i)(ha:VE X a fa)(hb:VE X b fb)(hc:VE X c fc)(hd:VE X d fd)
  (hm:lastMarks [op,op',op''] [b,c,d]=false:=by with_unfolding_all rfl):VT X (.Compare a [op,op',op''] [b,c,d] pos) (xB (KC g h i fa fb fc fd)):=PT.imp (NR ho ho' ho'' ha hb hc hd hm) fun Z H Q q=>VH (NS hr hr' hr'') Z H Q (TQ Z H Q q)
end
def Jo(mg:Str->Option Value)(x:Str)(k:Int):Prop:=∃t,mg x=some (Value.int k t)
theorem PD{X:Cx}{x:Str}{k:Int}{pos:Pos}(hg:Gl X x)(hm:Jo X.mg x k)(hd:(x==("__debug__" : Str))=false:=by decide):VE X (.Name x pos) (eC (.int k)):=by
 obtain⟨t,e⟩:=hm
 exact NC (Oc hg e (v:=.int k) ⟨t,rfl⟩ hd) fun _=>Is.int k
end VL
namespace VL
open PySem PySem.Spec PyProof.Rows L2
variable {K:PySem.W.Frag}
def Jp(i j:Int):Prop:=i.natAbs.log2<67108863/\j.natAbs.log2<67108863
def Jq(i j:Int):Prop:=j≠0/\j.natAbs.log2<9000
instance (i j:Int):Decidable (Jp i j):=by unfold Jp;infer_instance
instance (i j:Int):Decidable (Jq i j):=by unfold Jq;infer_instance
end VL
namespace L2
open PySem PySem.Spec PyProof.Rows
abbrev WJ:=Addr->Obj->List (List Yi×V)->It
end L2
namespace VL
open PySem PySem.Spec PyProof.Rows L2
variable {K:PySem.W.Frag}
def KD(mg:Str->Option Value)(x:Str)(k:Str):Prop:=∃t,mg x=some (Value.str k t)
theorem KG{X:Cx}{x:Str}{k:Str}{pos:Pos}(hg:Gl X x)(hm:KD X.mg x k)(hd:(x==("__debug__" : Str))=false:=by decide):VE X (.Name x pos) (eC (.str k)):=by
 obtain⟨t,e⟩:=hm
 exact NC (Oc hg e (v:=.str k) ⟨t,rfl⟩ hd) fun _=>Is.str k
section
variable {X:Cx} {o e:Expr} {fo fe:XE} {apos cpos:Pos} {name:Str} {id:String} {r:V->List V->Hp->VK->Prop} {g:PV->PV->Option PV}
theorem Lb(slot:Slot "str" name id)(hty:typeOf (.builtin id)=pure (.type "method_descriptor"))(hm:Hz X id r)(hr:RB X.K (fun x y H Q=>r x [y] H Q) g)
  (hT:∀a b l,g a b=some l->∃z,a = .str z) (ho:VE X o fo) (he:VE X e fe)
  (hbase:attributeBase o name X.env (eval o X.env)=eval o X.env:=by rfl)
  (hfew:((backTo cpos (starEach [e] X.env)).all (fun x=>!x.1)&&(backToKw cpos (keywordEach [] X.env)).all (fun x=>x.1.isSome)
   &&decide (([e]:List Expr).length+([]:List Keyword).length+(if([]:List Keyword).isEmpty then 0 else 1)<30))=true:=by rfl)
  (hline:(apos.endLine==cpos.line)=true:=by rfl) (hs:starEach [e] X.env=(false,eval e X.env)::starEach [] X.env:=by rfl) (hplain:(backTo cpos (starEach [] X.env)).any (·.1)=false:=by rfl) :
  VE X (.Call (.Attribute o name apos) [e] [] cpos) (Zi g fo fe):=
 PE.imp (V1 F.plainAttrs_str slot hty hm ho (Zb he Zg hs) hbase hfew hline hs hplain) fun Z H Q ⟨Rm,s,l,hd,env,e,k⟩=>by
  obtain⟨x',y',e1,e2,e⟩:=Wm e
  obtain⟨z,rfl⟩:=hT _ _ _ e
  refine⟨Rm,s,.str z,hd,env,e1,fun v H1 fp s1 i1 n1=>?_⟩
  obtain⟨rfl,rfl⟩:=i1.str_inv
  refine⟨rfl,Rm,s,[y'],fun q hq=>Same.mut s1 (hd q hq),env.mono s1,by show(fe s).bind _=_;rw[e2];rfl,fun vs H2 fq s2 i2 n2=>?_⟩
  obtain⟨w,rfl,iw⟩:=i2.one_inv
  refine hr H2 _ w (.str z) y' l [] fq (Is.str z) iw e Q fun v3 H3 fp3 s3 i3 n3=>k v3 H3 fp3 (s1.trans (s2.trans s3)) i3 fun p hp zz=>?_
  rcases n3 p hp with h | h | h
  ·simp at h
  ·exact n2 p h zz
  ·exact Yy (Same.mut (s1.trans s2) (hd p zz)) h
end
def Jr:V->List V->Hp->VK->Prop:=fun x vs H Q=>∃a b,x = .str a/\vs=[.str b]/\Q (.bl (Txt.endswith a b)) H
theorem KH{X:Cx}:Hz X "str.endswith" Jr:=by
 intro pins s Z H x vs v us Q I rx rv h
 obtain⟨a,b,rfl,rfl,q⟩:=h
 obtain⟨t,rfl⟩:=rx
 obtain⟨u,rfl,ru⟩:=WK rv
 obtain⟨t',rfl⟩:=ru
 exact SC.endswith ⟨.bl _,H,I,rfl,q⟩
def Ur:PV->PV->Option PV
 | .str a,.str b=>some (.bl (Txt.endswith a b))
 | _,_=>none
theorem KI:RB K (fun x y H Q=>Jr x [y] H Q) Ur:=fun H x y a b l fa fb ha hb e Q k=>by
 unfold Ur at e;split at e
 ·cases e
  exact⟨_,_,ha.str_inv.1,by rw[hb.str_inv.1],k _ H [] (Same.refl H) (Is.bl _) fun p hp=>by simp at hp⟩
 ·cases e
theorem NU:∀a b l,Ur a b=some l->∃z,a = .str z:=fun a b l h=>by
 unfold Ur at h;split at h
 ·exact⟨_,rfl⟩
 ·cases h
def X1:List PV->Option (List Str)
 | []=>some []
 | .str x::r=>(X1 r).map (x::·)
 | _=>none
theorem W5:∀{l:List PV}{xs:List Str},X1 l=some xs->l=xs.map PV.str
 | [],_,h=>by cases h;rfl
 | .str x::r,xs,h=>by
  simp only[X1] at h
  obtain⟨ys,h1,rfl⟩:=map_some h
  rw[W5 h1];rfl
 | .int _::_,_,h=>by cases h
 | .bl _::_,_,h=>by cases h
 | .non::_,_,h=>by cases h
 | .ty _::_,_,h=>by cases h
 | .exc _::_,_,h=>by cases h
 | .tup _::_,_,h=>by cases h
 | .lst _::_,_,h=>by cases h
 | .cst _::_,_,h=>by cases h
 | .dK _ _::_,_,h=>by cases h
 | .dT _ _::_,_,h=>by cases h
theorem WA:∀xs:List Str,X1 (xs.map PV.str)=some xs
 | []=>rfl
 | x::r=>by simp only[List.map_cons,X1,WA r];rfl
theorem Iss.sL{H:Hp}:∀{l:List Str}{xs:List V}{fp:List Addr},Iss K H (l.map PV.str) xs fp->xs=l.map V.str/\fp=[]
 | [],xs,fp,h=>by simpa only[List.map_nil,Iss] using h
 | i::l,xs,fp,h=>by
  obtain⟨x,r,f1,f2,rfl,h1,h2,rfl⟩:=Iss.inv (show Iss K H (PV.str i::l.map PV.str) xs fp from h)
  obtain⟨rfl,rfl⟩:=h1.str_inv
  obtain⟨rfl,rfl⟩:=h2.sL
  exact⟨rfl,rfl⟩
theorem Iss.ofStrs{H:Hp}:∀(l:List Str),Iss K H (l.map PV.str) (l.map V.str) []
 | []=>Iss.nil
 | i::l=>Iss.cons (f1:=[]) (Is.str i) (Iss.ofStrs l)
theorem Rt:∀{ts:List Str}{us:List Value},Vals (ts.map V.str) us->∃l:List (Str×Tok),us=strValues l/\l.map (·.1)=ts
 | [],_,.nil=>⟨[],rfl,rfl⟩
 | x::r,_,.cons h1 h2=>by
  obtain⟨t,rfl⟩:=h1
  obtain⟨l,rfl,e⟩:=Rt h2
  exact⟨(x,t)::l,rfl,by rw[List.map_cons,e]⟩
theorem Us:∀l:List (Str×Tok),Vals ((l.map (·.1)).map V.str) (strValues l)
 | []=>.nil
 | p::l=>.cons ⟨p.2,rfl⟩ (Us l)
def Js(K:PySem.W.Frag):V->List V->Hp->VK->Prop:=fun x vs H Q=>∃a p ts,x = .str a/\vs=[.ref p]/\SqL K H p (ts.map V.str)/\JoinOk a ts=true/\Q (.str (Txt.join a ts)) H
theorem OZ{X:Cx}:Hz X "str.join" (Js X.K):=by
 intro pins s Z H x vs v us Q I rx rv h
 obtain⟨a,p,ts,rfl,rfl,hq,hj,q⟩:=h
 obtain⟨t,rfl⟩:=rx
 obtain⟨u,rfl,ru⟩:=WK rv
 cases ru
 obtain⟨its,r,pl,hz⟩:=I.list hq
 obtain⟨l,rfl,e⟩:=Rt r
 exact SC.join pl.isList e hj fun t' k=>⟨.str _,H,I.tok _,⟨_,rfl⟩,q⟩
def VC:PV->PV->Option PV
 | .str a,.lst l=>(X1 l).bind fun ts=>if JoinOk a ts=true then some (.str (Txt.join a ts)) else none
 | _,_=>none
theorem O0:RB K (fun x y H Q=>Js K x [y] H Q) VC:=fun H x y a b l fa fb ha hb e Q k=>by
 unfold VC at e;split at e
 ·obtain⟨ts,e1,e2⟩:=Zd e
  split at e2
  ·cases e2
   have:=W5 e1
   subst this
   obtain⟨p,xs,fq,rfl,hp,hi,rfl⟩:=hb.lst_inv
   obtain⟨rfl,rfl⟩:=hi.sL
   exact⟨_,p,ts,ha.str_inv.1,rfl,SqL.of hp,by assumption,k _ H [] (Same.refl H) (Is.str _) fun p hp=>by simp at hp⟩
  ·cases e2
 ·cases e
theorem Ru:∀a b l,VC a b=some l->∃z,a = .str z:=fun a b l h=>by
 unfold VC at h;split at h
 ·exact⟨_,rfl⟩
 ·cases h
def IC:V->List V->Hp->VK->Prop:=fun x vs H Q=>∃a b,x = .str a/\vs=[.str b]/\(b.length==0)=false/\a.length+2<=sizeLine/\∀p,H p=none->Q (.ref p) (upd H p (.lst ((Txt.split a b).map V.str)))
theorem NV(x y:Str):(Txt.split x y).length<=x.length+2:=by
 unfold Txt.split
 split
 ·simp
 ·split
  ·simp
  ·rw[length_partsBetween]
   have:=StrLaws.occ_length_le x y 0 x.length (x.length+1)
   omega
theorem Lc{X:Cx}:Hz X "str.split" IC:=by
 intro pins s Z H x vs v us Q I rx rv h
 obtain⟨x,y,rfl,rfl,hy,hsz,q⟩:=h
 obtain⟨t,rfl⟩:=rx
 obtain⟨u,rfl,ru⟩:=WK rv
 obtain⟨u,rfl⟩:=ru
 have hn:(Builtin.Str.partsBetween x (Builtin.Str.occurrences x y 0 x.length (x.length+1)) y.length).length<=sizeLine:=by
  have e1:=StrLaws.occ_length_le x y 0 x.length (x.length+1)
  rw[length_partsBetween];omega
 have fin:∀(l:List (Str×Tok))(k:Nat),l.map (·.1)=Txt.split x y->EP X pins Z Q (.ref s.heap.objs.size) { s with heap:=s.heap.push { cls:=.type "list",data:=.seq (strValues l).toArray },toks:=k }:=fun l k e=>by
  have hv:=Us l;rw[e] at hv
  have hz:((Txt.split x y).map V.str).length<=sizeLine:=by
   rw[List.length_map]
   have:=NV x y
   omega
  exact⟨.ref s.heap.objs.size,_,I.lnew hv hz,rfl,q _ I.fresh⟩
 cases h1:(decide (x.length<y.length) || decide (Builtin.Str.strKind x<Builtin.Str.strKind y))
 ·cases hf:(Builtin.Str.occurrences x y 0 x.length (x.length+1)).isEmpty
  ·refine call_meets F.slot_str_split (typeIs_str _ _ _) F.entry_str_split (F.args_str_split_2 _ _) (meets_str_split_sep x y t u h1 hy hf (by omega) hn) ?_
   show wants _ _ _ { s with toks:=_,heap:=s.heap.push { cls:=.type "list",data:=.seq (strsFrom s.toks (Builtin.Str.partsBetween x (Builtin.Str.occurrences x y 0 x.length (x.length+1)) y.length)).toArray } }
   rw[strsFrom_eq]
   exact fin (numbered s.toks _) _ ((numbered_texts _ _).trans ((if_neg (ne_true_of_eq_false h1)).trans (if_neg (ne_true_of_eq_false hf))).symm)
  ·exact call_meets F.slot_str_split (typeIs_str _ _ _) F.entry_str_split (F.args_str_split_2 _ _) (meets_str_split_not_found x y t u h1 hy hf)
    (fin [(x,t)] s.toks ((if_neg (ne_true_of_eq_false h1)).trans (if_pos hf)).symm)
 ·exact call_meets F.slot_str_split (typeIs_str _ _ _) F.entry_str_split (F.args_str_split_2 _ _) (meets_str_split_cannot_occur x y t u h1)
   (fin [(x,t)] s.toks (if_pos h1).symm)
def Yu:PV->PV->Option PV
 | .str a,.str b=>if(b.length==0)=false/\a.length+2<=sizeLine then some (.lst ((Txt.split a b).map .str)) else none
 | _,_=>none
section
variable {X:Cx} {o e:Expr} {fo fe:XE} {apos cpos:Pos}
theorem So(ho:VE X o fo)(he:VE X e fe)
  (hbase:attributeBase o "split" X.env (eval o X.env)=eval o X.env:=by rfl)
  (hfew:((backTo cpos (starEach [e] X.env)).all (fun x=>!x.1)&&(backToKw cpos (keywordEach [] X.env)).all (fun x=>x.1.isSome)
   &&decide (([e]:List Expr).length+([]:List Keyword).length+(if([]:List Keyword).isEmpty then 0 else 1)<30))=true:=by rfl)
  (hline:(apos.endLine==cpos.line)=true:=by rfl) (hs:starEach [e] X.env=(false,eval e X.env)::starEach [] X.env:=by rfl) (hplain:(backTo cpos (starEach [] X.env)).any (·.1)=false:=by rfl) :
  VM X (.Call (.Attribute o "split" apos) [e] [] cpos) (Zi Yu fo fe):=
 PE.imp (V1 F.plainAttrs_str F.slot_str_split F.type_str_split Lc ho (Zb he Zg hs) hbase hfew hline hs hplain) fun Z H Q ⟨s,l,env,e,k⟩=>by
  obtain⟨x',y',e1,e2,e⟩:=Wm e
  refine⟨fun _=>False,s,x',fun _ z=>z.elim,env,e1,fun v H1 fp s1 i1 n1=>?_⟩
  unfold Yu at e
  split at e
  ·rename_i a b
   split at e
   ·rename_i hc
    cases e
    obtain⟨rfl,rfl⟩:=i1.str_inv
    refine⟨rfl,fun _=>False,s,[.str b],fun _ z=>z.elim,env.mono s1,by show(fe s).bind _=_;rw[e2];rfl,fun vs H2 fq s2 i2 n2=>?_⟩
    obtain⟨w,rfl,iw⟩:=i2.one_inv
    obtain⟨rfl,_⟩:=iw.str_inv
    refine⟨a,b,rfl,rfl,hc.1,hc.2,fun p hp=>k _ _ [p] (s1.trans (s2.trans (Same.new hp _))) (Is.lst upd_same (Iss.ofStrs _)) (by simp) fun q hq=>?_⟩
    rw[List.mem_singleton.mp hq]
    exact⟨Same.off (s1.trans s2) hp,by rw[upd_same];exact True.intro⟩
   ·cases e
  ·cases e
end
def GQ:V->Option Int->Option Int->Hp->VK->Prop:=fun x lo hi H Q=>∃a,x = .str a/\a.length<=sizeLine/\Q (.str (Txt.slice a lo hi)) H
theorem ID{X:Cx}:GG X GQ:=by
 intro pins s Z H x v vl vu lo hi sl Q I rx hs pl pu h
 obtain⟨a,rfl,hz,q⟩:=h
 obtain⟨t,rfl⟩:=rx
 obtain⟨os,hos,hcs,hds⟩:=hs
 have go:∀(l u:Option (Int×Tok)),s.heap.IsSlice sl l u none->wpAny (model X.prog X.w) X.A (getItem (.str a t) (.ref sl)) (fun v s'=>EP X pins Z (fun v' H'=>v' = .str (Txt.slice a (l.map (·.1)) (u.map (·.1)))/\H'=H) v s') X.xe s:=fun l u hsl=>by
  refine wpAny_getItem_str_slice (l:=l) (u:=u) (st:=none) hsl rfl ?_
  exact post_val_or_str ⟨Nat.le_trans (Txt.slice_le a _ _) hz,fun t' k=>⟨.str _,H,I.tok _,⟨_,rfl⟩,rfl,rfl⟩⟩
 refine⟨"str",_,F.slot_str_getitem.lookup,typeIs_str _ _ _,?_⟩
 cases pl with
 | none=>cases pu with
  | none=>exact ZT (go none none ⟨os,hos,hcs,hds⟩) fun v s' ⟨v',H',I',r',e1,e2⟩=>by subst e1 e2;exact⟨_,_,I',r',q⟩
  | int j u=>exact ZT (go none (some (j,u)) ⟨os,hos,hcs,hds⟩) fun v s' ⟨v',H',I',r',e1,e2⟩=>by subst e1 e2;exact⟨_,_,I',r',q⟩
 | int i u=>cases pu with
  | none=>exact ZT (go (some (i,u)) none ⟨os,hos,hcs,hds⟩) fun v s' ⟨v',H',I',r',e1,e2⟩=>by subst e1 e2;exact⟨_,_,I',r',q⟩
  | int j u'=>exact ZT (go (some (i,u)) (some (j,u')) ⟨os,hos,hcs,hds⟩) fun v s' ⟨v',H',I',r',e1,e2⟩=>by subst e1 e2;exact⟨_,_,I',r',q⟩
def PF(x:PV)(lo hi:Option Int):Option PV:=match x with | .str a=>if a.length<=sizeLine then some (.str (Txt.slice a lo hi)) else none | _=>none
section
variable {X:Cx} {e:Expr} {lo hi:Option Expr} {p2 pos:Pos} {fa:XE} {fl fh:XO}
theorem NW(ha:VE X e fa)(hl:VO X lo fl)(hh:VO X hi fh):VE X (.Subscript e (.Slice lo hi none p2) pos) (LC PF fa fl fh):=PE.imp (Qr ID ha hl hh) fun Z H Q ⟨Rm,s,l,hd,env,e,k⟩=>by
 obtain⟨x,e1,e⟩:=Zd e
 obtain⟨a,e2,e⟩:=Zd e
 obtain⟨b,e3,e⟩:=Zd e
 refine⟨Rm,s,x,hd,env,e1,fun v H1 fp s1 i1 n1=>⟨Rm,s,a,fun p hp=>Same.mut s1 (hd p hp),env.mono s1,e2,fun H2 s2=>⟨Rm,s,b,fun p hp=>Same.mut (s1.trans s2) (hd p hp),env.mono (s1.trans s2),e3,fun H3 s3=>?_⟩⟩⟩
 unfold PF at e
 split at e
 ·split at e
  ·cases e
   exact⟨_,i1.str_inv.1,by assumption,k _ H3 [] (s1.trans (s2.trans s3)) (Is.str _) fun p hp=>by simp at hp⟩
  ·cases e
 ·cases e
end
def Rv:List PV->Option PV
 | [.str x]=>if x.length<=640 then(PySem.intText? x).map .int else none
 | _=>none
theorem NX{X:Cx}:Xy X (.type "int") (fun xs H Q=>∃x n,xs=[.str x]/\PySem.intText? x=some n/\x.length<=640/\Q (.int n) H):=by
 intro pins s Z H xs us Q I r h
 obtain⟨x,n,rfl,hn,hl,q⟩:=h
 obtain⟨u,rfl,t,rfl⟩:=WK r
 exact PySem.W.KIN.call_text hn hl ⟨.int n,H,I.tok _,⟨_,rfl⟩,q⟩
theorem KJ:RC K (fun xs H Q=>∃x n,xs=[.str x]/\PySem.intText? x=some n/\x.length<=640/\Q (.int n) H) Rv:=fun H vs ls l fp h e Q k=>by
 unfold Rv at e
 split at e
 ·split at e
  ·obtain⟨n,e1,rfl⟩:=map_some e
   obtain⟨v,rfl,a⟩:=h.one_inv
   exact⟨_,n,by rw[a.str_inv.1],e1,by assumption,k _ H [] (Same.refl H) (Is.int _) fun p hp=>by simp at hp⟩
  ·cases e
 ·cases e
def YE:List PV->Option PV
 | [.int i]=>if i.natAbs.log2<1920 then some (.str (toString i)) else none
 | _=>none
theorem Tv:RC K (fun xs H Q=>∃i,xs=[.int i]/\i.natAbs.log2<1920/\Q (.str (toString i)) H) YE:=fun H vs ls l fp h e Q k=>by
 unfold YE at e
 split at e
 ·split at e
  ·cases e
   obtain⟨v,rfl,a⟩:=h.one_inv
   exact⟨_,by rw[a.int_inv.1],by assumption,k _ H [] (Same.refl H) (Is.str _) fun p hp=>by simp at hp⟩
  ·cases e
 ·cases e
def PH(neg:Bool):PV->PV->Option PV
 | .str i,.str j=>some (.bl (neg != !(Builtin.Str.occurrences j i 0 j.length 1).isEmpty))
 | _,_=>none
theorem IE:RB K (fun x y H Q=>∃i j,x = .str i/\y = .str j/\Q (.bl (!(Builtin.Str.occurrences j i 0 j.length 1).isEmpty)) H) (PH false):=fun H x y a b l fa fb ha hb e Q k=>by
 unfold PH at e;split at e
 ·cases e
  exact⟨_,_,ha.str_inv.1,hb.str_inv.1,by
   have:=k (.bl (false != !(Builtin.Str.occurrences _ _ 0 _ 1).isEmpty)) H [] (Same.refl H) (Is.bl _) fun p hp=>by simp at hp
   simpa using this⟩
 ·cases e
section
variable {X:Cx} {a b:Expr} {fa fb:XE} {pos:Pos}
theorem IF(ha:VE X a fa)(hb:VE X b fb)(hm:behindInMarks .In b=false:=by rfl):VE X (.Compare a [.In] [b] pos) (Zi (PH false) fa fb):=Pj Nj IE ha hb hm
end
def Rw(x:Str):List PV:=x.cps.toList.map fun c=>.str ⟨#[c]⟩
def G4(x:Str):It:=⟨fun i _=>i<x.cps.size,fun i H v H'=>H'=H/\∃c,x.cps[i]?=some c/\v = .str ⟨#[c]⟩,fun i _=>x.cps.size<=i⟩
theorem QN{P:Program}{w:World}{K:PySem.W.Frag}{tg:Expr}(it:Addr)(x:Str)(t:Tok)(ty:String)
  (hn:["enumerate","zip","dict_itemiterator","dict_reverseitemiterator","odict_iterator","itertools.zip_longest","itertools.pairwise"].contains ty=false)
  (W:∀A:Around,A.handled=none->Walks P w A it [it] [it] x.cps.size (SignAt x) (fun i h=>h.IsStrIter it ty x t i))
  (he:∀(A:Around)(i:Nat)(s:Shared)(Q:Option Value->Shared->Prop)(E:Value->Shared->Prop),A.handled=none->s.heap.IsStrIter it ty x t i->x.cps[i]?=none->(∀h',Heap.ExtBut it s.heap h'->Q none { s with heap:=h' })->wpAny (model P w) A (pyNext (.ref it)) Q E s)
  (hsf:∀(A:Around)(i:Nat)(s:Shared)(Q:Value->Shared->Prop)(E:Value->Shared->Prop),s.heap.IsStrIter it ty x t i->Q (.ref it) s->wpAny (model P w) A (pyIter (.ref it)) Q E s) :
  Qm P w K tg (G4 x) [it] it (fun i h=>h.IsStrIter it ty x t i) where
 mem:=by simp
 obj:=fun i h st b hb=>by
  have e:b=it:=by simpa using hb
  subst e
  obtain⟨o,e,c,d⟩:=st
  exact⟨o,e,fun v z=>by rw[d] at z;cases z⟩
 keep:=fun i h h' st k=>by
  obtain⟨o,e,r⟩:=st
  exact⟨o,k it (by simp) o e,r⟩
 item:=by
  intro X hP hw hK hc i pins s Z H E I hf st hg
  subst hP hw hK
  obtain⟨f0,f1,f2,f3,f4,f5⟩:=hf it (by simp)
  refine(W X.A (I.ok.hd hc)).item i s _ _ hg st fun v h' tk hv st' kk=>?_
  obtain⟨c,u,hcx,rfl⟩:=hv
  have I1:Inv X pins Z H { s with heap:=h',toks:=tk }:=I.turned (fun b o hb e=>kk b o (by simpa using hb) e) f0 f1 f3 f4 f5
  obtain⟨o,e,cl,d⟩:=id st'
  exact⟨_,rfl,Qn (s:={ s with heap:=h',toks:=tk }) e cl d hn ⟨.str ⟨#[c]⟩,H,I1,⟨u,rfl⟩,⟨rfl,c,hcx,rfl⟩,st',fun b hb=>(hf b hb).1⟩⟩
 done:=by
  intro X hP hw hK hc i pins s Z H E I hf st hg
  subst hP hw hK
  obtain⟨f0,f1,f2,f3,f4,f5⟩:=hf it (by simp)
  exact he X.A i s _ _ (I.ok.hd hc) st (by have:x.cps.size<=i:=hg;simp;omega) fun h' eb=>⟨rfl,I.turned (t':=s.toks) (fun b o hb e=>eb b o hb e) f0 f1 f3 f4 f5⟩
 self:=fun A i s Q E st h=>hsf A i s Q E st h
def GR(tl:TE):TI:=fun Z H R=>tl Z H fun v H1=>∃x,v = .str x/\R (G4 x) H1
theorem IG{X:Cx}{tg l:Expr}{tl:TE}(hl:PE X l tl):PI X tg l (GR tl):=by
 intro pins s Z H R I h
 refine ZT (hl pins s Z H _ I h) fun v s1 ⟨x,H1,I1,r1,q1⟩=>?_
 obtain⟨z,rfl,q⟩:=q1
 obtain⟨t,rfl⟩:=r1
 have fpo:∀b∈[s1.heap.objs.size],UD X pins H1 b:=fun b hb=>by
  have e:b=s1.heap.objs.size:=by simpa using hb
  subst e
  exact I1.fpOk (Nat.le_refl _) (I1.hok.fresh (Nat.le_refl _))
 cases ha:z.cps.all (· < 128)
 ·exact wpAny_pyIter_wide ha ⟨s1.heap.objs.size,[s1.heap.objs.size],_,_,H1,rfl,I1.kept (t':=s1.toks) fun b o e=>Heap.get?_push_of_some _ e,QN _ z t "str_iterator" (by decide) (fun A' hA=>Walks.strWide hA _ z t) (fun A i s Q E hA st hx k=>wpAny_pyNext_wide_end hA st hx k) (fun A i s Q E st k=>wpAny_pyIter_striter_wide st k),⟨_,Heap.get?_push_size _ rfl,rfl,rfl⟩,fpo,q⟩
 ·exact wpAny_pyIter_ascii ha ⟨s1.heap.objs.size,[s1.heap.objs.size],_,_,H1,rfl,I1.kept (t':=s1.toks) fun b o e=>Heap.get?_push_of_some _ e,QN _ z t "str_ascii_iterator" (by decide) (fun A' hA=>Walks.strAscii hA _ z t) (fun A i s Q E hA st hx k=>wpAny_pyNext_ascii_end hA st hx k) (fun A i s Q E st k=>wpAny_pyIter_striter_ascii st k),⟨_,Heap.get?_push_size _ rfl,rfl,rfl⟩,fpo,q⟩
def NY(f:XE):XL:=fun s=>match f s with | some (.str x)=>some (Rw x) | _=>none
theorem NZ{f:XE}{s:ZG}{m:List PV}(h:NY f s=some m):∃x,f s=some (.str x)/\m=Rw x:=by
 unfold NY at h;split at h
 ·cases h;exact⟨_,by assumption,rfl⟩
 ·cases h
theorem IH{X:Cx}{tg e:Expr}{f:XE}(h:VE X e f):VI X tg e (NY f):=PI.imp (IG h) fun Z H R ⟨Rm,s,ls,hd,env,e,k⟩=>by
 obtain⟨x,e1,rfl⟩:=NZ e
 refine⟨Rm,s,.str x,hd,env,e1,fun v H1 fp s1 i1 n1=>⟨x,i1.str_inv.1,k _ H1 s1 ⟨fun H' ab=>?_,fun H' i l ab hl=>?_,fun H' i l v H'' ab hl y=>?_⟩⟩⟩
 ·show x.cps.size<=(Rw x).length
  simp[Rw]
 ·have:=(List.getElem?_eq_some_iff.mp hl).1
  show i<x.cps.size
  simpa [Rw] using this
 ·obtain⟨rfl,c,hc,rfl⟩:=y
  unfold Rw at hl;rw[List.getElem?_map] at hl
  have e2:x.cps.toList[i]?=some c:=by simpa using hc
  rw[e2] at hl;cases hl
  exact⟨Same.refl _,[],Is.str _,fun p hp=>by simp at hp⟩
def X2:PV->Option PV
 | .int i=>if i.natAbs.log2<1920 then some (.str (toString i)) else none
 | _=>none
theorem U0{X:Cx}{e:Expr}{fe:XE}{pos:Pos}(he:VE X e fe):VE X (.FormattedValue e (-1) none pos) (Ta X2 fe):=by
 intro pins s Z H Q I h
 obtain⟨Rm,s',l,hd,env,e1,k⟩:=h
 obtain⟨m,e2,e3⟩:=Zd e1
 unfold X2 at e3
 split at e3
 ·split at e3
  ·cases e3
   rename_i i hi
   refine wpAny_FormattedValue_plain ?_
   refine ZT (he pins s Z H (fun v H1=>v = .int i/\Same H H1) I ⟨Rm,s',.int i,hd,env,e2,fun v H1 fp s1 i1 n1=>⟨i1.int_inv.1,s1⟩⟩) fun u s1 ⟨v,H1,I1,r,hv,sm⟩=>?_
   subst hv
   obtain⟨t,rfl⟩:=r
   exact formatField_int_small hi ⟨.str (toString i),H1,I1.tok _,⟨_,rfl⟩,k _ H1 [] sm (Is.str _) fun p hp=>by simp at hp⟩
  ·cases e3
 ·cases e3
def N0:Str->List Str->Str
 | acc,[]=>acc
 | acc,x::r=>N0 (acc++x) r
def QO:Str->List Str->Bool
 | acc,[]=>decide (acc.length<=sizeLine)
 | acc,x::r=>decide ((acc++x).length<=sizeLine)&&QO (acc++x) r
def Ld(l:List PV):Option PV:=(X1 l).bind fun ts=>if QO Str.empty ts=true then some (.str (N0 Str.empty ts)) else none
def Sq(fs:List XE):XE:=fun s=>(Tb fs s).bind Ld
inductive VEs(X:Cx):List Expr->List XE->Prop
 | nil:VEs X [] []
 | cons {e:Expr} {f:XE} {es:List Expr} {fs:List XE}:VE X e f->VEs X es fs->VEs X (e::es) (f::fs)
theorem QP{x:PV}{r:List PV}{ts:List Str}(h:X1 (x::r)=some ts):∃a as,x = .str a/\X1 r=some as/\ts=a::as:=by
 have e:=W5 h
 cases ts with
 | nil=>cases e
 | cons a as=>
  rw[List.map_cons] at e
  injection e with e1 e2
  subst e1 e2
  exact⟨a,as,rfl,WA as,rfl⟩
theorem QQ{X:Cx}{pins:List (Addr×Obj)}{Z:UP}:∀{es:List Expr}{fs:List XE},VEs X es fs->∀(acc:Str)(s:Shared)(H:Hp)(Rm:Addr->Prop)(sp:ZG)(ls:List PV)(ts:List Str)(Q:Str->Shared->Prop),
  Inv X pins Z H s->(∀p,Rm p->Wj (H p))->EnvIs X.K Rm H sp Z->Tb fs sp=some ls->X1 ls=some ts->QO acc ts=true->
  (∀s' H',Inv X pins Z H' s'->Same H H'->(N0 acc ts).length<=sizeLine->Q (N0 acc ts) s')->Joins (model X.prog X.w) X.A X.xe (evalEach es X.env) acc Q s
 | [],_,.nil,acc,s,H,Rm,sp,ls,ts,Q,I,hd,env,e,et,hf,k=>by
  cases e;cases et
  exact k s H I (Same.refl H) (by simpa [QO,N0] using hf)
 | e::es,_,.cons (f:=f) h1 h2,acc,s,H,Rm,sp,ls,ts,Q,I,hd,env,ev,et,hf,k=>by
  obtain⟨x,r,q1,q2,rfl⟩:=V9 ev
  obtain⟨a,as,rfl,q3,rfl⟩:=QP et
  simp only[QO,Bool.and_eq_true,decide_eq_true_eq] at hf
  show wpAny _ _ (eval e X.env) _ _ s
  refine ZT (h1 pins s Z H (fun v H1=>v = .str a/\Same H H1) I ⟨Rm,sp,.str a,hd,env,q1,fun v H1 fp s1 i1 n1=>⟨i1.str_inv.1,s1⟩⟩) fun u s1 ⟨v,H1,I1,rr,hv,sm⟩=>?_
  subst hv
  obtain⟨t,rfl⟩:=rr
  exact⟨a,t,rfl,hf.1,QQ h2 (acc++a) s1 H1 Rm sp r as Q I1 (fun p hp=>Same.mut sm (hd p hp)) (env.mono sm) q2 q3 hf.2 fun s' H' I' sm' hz=>k s' H' I' (sm.trans sm') hz⟩
theorem R7{X:Cx}{e1 e2:Expr}{es:List Expr}{fs:List XE}{pos:Pos}(h:VEs X (e1::e2::es) fs):VE X (.JoinedStr (e1::e2::es) pos) (Sq fs):=by
 intro pins s Z H Q I q
 obtain⟨Rm,sp,l,hd,env,ev,k⟩:=q
 obtain⟨ls,q1,q2⟩:=Zd ev
 obtain⟨ts,q3,q4⟩:=Zd q2
 split at q4
 ·cases q4
  refine wpAny_JoinedStr (QQ h Str.empty s H Rm sp ls ts _ I hd env q1 q3 (by assumption) fun s' H' I' sm hz=>⟨hz,.str _,H',I'.tok _,⟨_,rfl⟩,k _ H' [] sm (Is.str _) fun p hp=>by simp at hp⟩)
 ·cases q4
end VL
namespace PW
open PySem L2 VL
noncomputable def Te:XS:=(Zk (Zo 2 (ZJ 1 [1] (Yk [(Za 1)]) (.one 0) Yr (Zi Sg (Yz [(eC (.int 0))]) (Za 1))))
  (Zk (Td 0 (.many [3,4]) (Zk (Yb 2 (Za 3) (Za 4) (Zi Xr (Za 0) (Xc [(Za 3),(Za 4)])))
  (Yb 2 (Za 4) (Za 3) (Zi Xr (Za 0) (Xc [(Za 3),(Za 4)])))))
  (Yd (eP (Ze Y0 [(ZJ 1 [] (Ue (Za 2)) (.one 0) Yr (Ze Y0 [(Za 0)]))])))))
noncomputable def ZQ:List PV->Option PV:=Xz 5 Te
noncomputable def Vp:XS:=(Zk (Zo 1 (Yz []))
  (Zk (YB [1] (Yk [(Ze Ya [(Za 0)])]) (.one 2) (YB [1] (Yq [(Zi Z4 (Za 2) (eC (.int 1))),(Ze Ya [(Za 0)])]) (.one 3) (Zk (Zo 4 (eP (Zi ZS (Zi ZS (Ze YE [(Za 2)]) (eC (.str "-"))) (Ze YE [(Za 3)]))))
  (Zk (XZ (xB (Zi Tg (Zi ZI (Zi ZI (Za 0) (Za 2)) (Za 3)) (eC (.int 1)))) (Zo 4 (eP (Zi ZS (Zi ZS (Za 4) (eC (.str "*"))) (Ze YE [(Zi ZI (Zi ZI (Za 0) (Za 2)) (Za 3))])))) ZD)
  (XZ (xB (Zi Tg (Zi ZI (Zi ZI (Za 0) (Za 2)) (Za 3)) (eC (.int 0)))) (Xl 1 (eP (Za 4))) ZD)))))
  (Yd (Za 1))))
noncomputable def XN:List PV->Option PV:=Xz 5 Vp
noncomputable def Wd:XS:=(Yd (eP (IW (xB (Zi (WW false) (Za 2) (eC (.int 1)))) (Sq [(Ta X2 (Za 0)),(eC (.str "-")),(Ta X2 (Za 1))]) (Sq [(Ta X2 (Za 0)),(eC (.str "-")),(Ta X2 (Za 1)),(eC (.str "*")),(Ta X2 (Za 2))]))))
noncomputable def Yl:List PV->Option PV:=Xz 3 Wd
noncomputable def We:XS:=(Zk (Zo 1 (eP (Ze Ya [(Za 0)])))
  (Zk (Zo 2 (Yz [(eP (Sq [(Ta X2 (Za 1)),(eC (.str ":"))]))]))
  (Zk (YB [2] (X8 false [(Za 0)]) (.many [3,4]) (XD 2 (ZJ 1 [3,4] (Yq [(Zi Z4 (Za 3) (eC (.int 1))),(Za 1)]) (.one 0) (xB (Zi Tg (Zi ZI (Za 2) (Za 0)) (eC (.int 0)))) (Ze Yl [(Za 1),(Za 0),(Zi ZI (Za 2) (Za 0))]))))
  (Yd (eP (Zi VC (eC (.str " ")) (Za 2)))))))
noncomputable def Y4:List PV->Option PV:=Xz 5 We
noncomputable def Ut:XS:=(Zk (XZ (Pl (YY (xB (Ze Xp [(Za 0),(eC (.ty "tuple"))]))) (xB (Zi (WW true) (Ze Ya [(Za 0)]) (Ze Ya [(Za 1)])))) (Yd (eP (eC (.bl false)))) ZD)
  (Zk (YB [] (Ug (Za 0)) (.one 2) (XZ (Pl (YY (xB (Ze Xp [(Za 2),(eC (.ty "tuple"))]))) (YY (xB (Ze TZ [(ZJ 1 [] (Ug (Za 2)) (.one 0) Yr (Ze YL [(Za 0)]))])))) (Yd (eP (eC (.bl false)))) ZD))
  (Yd (eP (Zi (WW false) (Za 0) (Za 1))))))
noncomputable def Ys:List PV->Option PV:=Xz 3 Ut
noncomputable def WB:XS:=(Zk (XZ (YY (xB (Qi Qz Qz (eC (.int 1)) (Ze Ya [(Za 0)]) (Za 1)))) (Yd (eP (eC (.bl false)))) ZD)
  (Yd (eP (ND (Ze TZ [(ZJ 1 [] (NY (Za 0)) (.one 0) Yr (Zi (PH false) (Za 0) (eC (.str "0123456789"))))]) (Gi (Zi (WW false) (Za 0) (eC (.str "0"))) (Zi (WW true) (Zi ZI (Za 0) (eC (.int 0))) (eC (.str "0"))))))))
noncomputable def Xj:List PV->Option PV:=Xz 2 WB
noncomputable def XG:XS:=(Zk (XZ (YY (xB (Ze Xj [(Za 0),(eC (.int 2))]))) YD ZD)
  (Yd (eP (Ze Rv [(Za 0)]))))
noncomputable def Zy:List PV->Option PV:=Xz 1 XG
noncomputable def Vq:XS:=(Zk (Zo 1 (Yz [(eP (eC (.int 0)))]))
  (Zk (Zo 2 (eP (eC (.int 0))))
  (Zk (UW (xB (Zi OA (Za 2) (Ze Ya [(Za 1)]))) (Zk (Zo 3 (eP (Zi ZI (Za 0) (Zi ZI (Za 1) (Za 2)))))
  (Zk (XD 1 (ZJ 2 [1] (X8 false [(Za 3)]) (.many [0,1]) (Wv (xB (Zi Tg (Za 1) (eC (.int 0)))) (xB (Zi (SF true) (Za 0) (Za 2)))) (eP (Za 0))))
  (NL 2 Z4 (eC (.int 1))))))
  (Yd (eP (Ze Y0 [(Ze Tu [(Za 1)])]))))))
noncomputable def Wq:List PV->Option PV:=Xz 4 Vq
noncomputable def PJ:XS:=(Zk (XZ (YY (xB (KC Qz OA OA (eC (.int 0)) (Zi ZI (Za 1) (eC (.int 0))) (Zi ZI (Za 1) (eC (.int 1))) (Ze Ya [(Za 0)])))) (Yd (eP (eC (.bl false)))) ZD)
  (Yd (eP (ND (Qi Qz Qz (eC (.int 1)) (Zi ZI (Za 1) (eC (.int 2))) (eC (.int 9))) (Zi (WW false) (Zi ZI (Zi ZI (Za 0) (Zi ZI (Za 1) (eC (.int 0)))) (Zi ZI (Za 1) (eC (.int 1)))) (eC (.int 0)))))))
noncomputable def W6:List PV->Option PV:=Xz 2 PJ
noncomputable def Uu:XS:=(Zk (XZ (YY (xB (Qi Qz Qz (eC (.int 1)) (Za 0) (eC (.int 7))))) YD ZD)
  (Zk (Zo 2 (ZJ 1 [0] (Yk [(Za 0)]) (.one 0) Yr (Zi Sg (Yz [(eC (.int 0))]) (Za 1))))
  (Zk (YB [2] (X8 true [(Za 1)]) (.many [3,4]) (Zk (XZ (YY (xB (Ze W6 [(Za 2),(Za 4)]))) YD ZD)
  (Zk (Yb 2 (Zi ZI (Za 4) (eC (.int 0))) (Zi ZI (Za 4) (eC (.int 1))) (Zi ZI (Za 4) (eC (.int 2))))
  (Yb 2 (Zi ZI (Za 4) (eC (.int 1))) (Zi ZI (Za 4) (eC (.int 0))) (Zi ZI (Za 4) (eC (.int 2)))))))
  (Zk (Zo 5 (eP (Ze Y0 [(ZJ 1 [] (Ue (Za 2)) (.one 0) Yr (Ze Y0 [(Za 0)]))])))
  (Zk (Zo 6 (Ze Wq [(Za 5)]))
  (Zk (XZ (xB (Zi OA (Ze Ya [(Za 6)]) (Za 0))) YD ZD)
  (Yd (eP (Za 5)))))))))
noncomputable def W7:List PV->Option PV:=Xz 7 Uu
noncomputable def XH:XS:=(Zk (Zo 1 (Ze Zy [(Za 0)]))
  (Zk (XZ (xB (Zi OA (Za 1) (eC (.int 2)))) YD ZD)
  (Yd (eP (Za 1)))))
noncomputable def YM:List PV->Option PV:=Xz 2 XH
noncomputable def WC:XS:=(Zk (Zo 1 (Zi Yu (Za 0) (eC (.str "*"))))
  (Zk (Zo 2 (Zi Yu (Zi ZI (Za 1) (eC (.int 0))) (eC (.str "-"))))
  (Zk (XZ (Pl (xB (Zi Tg (Ze Ya [(Za 1)]) (eC (.int 2)))) (xB (Zi (WW true) (Ze Ya [(Za 2)]) (eC (.int 2))))) YD ZD)
  (Zk (Zo 3 (eP (IW (xB (Zi (WW false) (Ze Ya [(Za 1)]) (eC (.int 2)))) (Ze YM [(Zi ZI (Za 1) (eC (.int 1)))]) (eC (.int 1)))))
  (Yd (eP (Xc [(Ze Zy [(Zi ZI (Za 2) (eC (.int 0)))]),(Ze Zy [(Zi ZI (Za 2) (eC (.int 1)))]),(Za 3)])))))))
noncomputable def Y2:List PV->Option PV:=Xz 4 WC
noncomputable def WD:XS:=(Zk (Zo 1 (Zi Yu (Za 0) (eC (.str " "))))
  (Zk (XZ (YY (xB (Zi Ur (Zi ZI (Za 1) (eC (.int 0))) (eC (.str ":"))))) YD ZD)
  (Zk (Zo 2 (Ze Zy [(LC PF (Zi ZI (Za 1) (eC (.int 0))) Jl (MQ (Ta MH (eC (.int 1)))))]))
  (Zk (Zo 3 (ZJ 1 [] (Ue (LC NI (Za 1) (MQ (eC (.int 1))) Jl)) (.one 0) Yr (Ze Y2 [(Za 0)])))
  (Yd (Ze W7 [(Za 2),(Za 3)]))))))
noncomputable def ZY:List PV->Option PV:=Xz 4 WD
noncomputable def Uv:XS:=(Yd (eP (Zi VC (eC (.str " ")) (Zi Sf (Yz [(Zi ZS (Ze YE [(Ze Ya [(Za 0)])]) (eC (.str ":")))]) (Za 1)))))
noncomputable def YS:List PV->Option PV:=Xz 2 Uv
noncomputable def Yn:XS:=(Zk (Zo 2 (Ze XN [(Za 0)]))
  (Zk (Zo 3 (Ze Y4 [(Za 0)]))
  (Zk (XZ (Pl (YY (xB (Ze Xp [(Za 3),(eC (.ty "str"))]))) (xB (Zi (WW true) (Za 3) (Ze YS [(Za 0),(Za 2)])))) (Yd (eP (eC (.bl false)))) ZD)
  (Zk (XZ (YY (xB (Ze Ys [(Ze ZY [(Za 3)]),(Za 0)]))) (Yd (eP (eC (.bl false)))) ZD)
  (Zk (Zo 4 (Yz []))
  (Zk (YB [4] (Ue (Za 2)) (.one 5) (Zk (XF 4 (Zi YH (Za 1) (Zi Z4 (Ze Ya [(Za 4)]) (eC (.int 1)))) (Za 5))
  (Zo 1 (eP (Zi YG (Za 1) (eC (.int 3)))))))
  (Yd (Ze Ys [(Ze ZY [(Ze YS [(Za 0),(Za 4)])]),(Za 0)]))))))))
noncomputable def Zm:List PV->Option PV:=Xz 6 Yn
noncomputable def WE:XS:=(Zk (Zo 4 (Ze Zt [(Za 0),(Za 1)]))
  (Zk (XZ (Wv (xB (Zi (WW false) (Zi YH (Za 4) (eC (.int 2))) (eC (.int 1)))) (xB (NF true (Ze Yh [(Zi YG (Za 4) (eC (.int 2))),(Za 2),(Za 3),(eC (.int 9))])))) (Yd (Ze Yh [(Zi YG (Za 4) (eC (.int 2))),(Za 2),(Za 3),(eC (.int 9))])) ZD)
  (Zk (Zo 5 (eC (.dT [] [])))
  (Zk (YB [5] (Yq [(eC (.int 1)),(Za 2)]) (.one 6) (Zk (Zo 7 (Ze Zt [(Za 0),(Zi Z4 (Za 1) (Za 6))]))
  (Zk (Zo 8 (eP (Ze WM [(Zi ZI (Yz [(eC (.int 1)),(eC (.int 1)),(eC (.int 1)),(eC (.int 2)),(eC (.int 3)),(eC (.int 9))]) (Zi YH (Zi YG (Za 7) (Za 6)) (eC (.int 6)))),(Zi WN (Za 3) (Zi WN (Zi WN (Za 2) (eC (.int 1))) (Za 6)))])))
  (Zk (sDPut 5 (Xc [(Zi YH (Za 7) (Za 6)),(Za 6)]) (Za 8))
  (Zo 3 (eP (Zi WN (Za 3) (Za 8))))))))
  (Zk (Zo 9 (eP (Zi Z4 (Za 1) (eC (.int 7)))))
  (Zk (YB [5] (Yk [(Za 2)]) (.one 10) (YB [5] (Yq [(Zi Z4 (Za 10) (eC (.int 1))),(Za 2)]) (.one 11) (Zk (Zo 8 (eP (Zi ZI (Yz [(eC (.int 0)),(eC (.int 0)),(eC (.int 0)),(eC (.int 1)),(eC (.int 1)),(eC (.int 2)),(eC (.int 4)),(eC (.int 9))]) (Zi YH (Ze Zt [(Za 0),(Za 9)]) (eC (.int 8))))))
  (Zk (Zo 9 (eP (Zi Z4 (Za 9) (eC (.int 1)))))
  (XZ (Wv (xB (Pw true (Xc [(Za 10),(Za 11)]) (Za 5))) (xB (Qi OA Qz (eC (.int 0)) (Za 8) (Za 3)))) (Zk (sDPut 5 (Xc [(Za 10),(Za 11)]) (Za 8))
  (Zo 3 (eP (Zi WN (Za 3) (Za 8))))) ZD)))))
  (Yd (Ze Wc [(Za 5),(Zi YG (Ze Zt [(Za 0),(Za 1)]) (eC (.int 7))),(Za 2)]))))))))
noncomputable def ZZ:List PV->Option PV:=Xz 12 WE
noncomputable def O1:XS:=(Zk (Zo 1 (eP (Zi Z4 (eC (.int 1)) (Zi YH (Ze Zt [(Za 0),(eC (.int 0))]) (eC (.int 7))))))
  (Zk (Zo 2 (eP (Zi ZI (Yz [(eC (.int 30)),(eC (.int 189))]) (Ze T1 [(Zi (WW false) (Zi YH (Zi YG (Ze Zt [(Za 0),(eC (.int 0))]) (eC (.int 7))) (eC (.int 8))) (eC (.int 3)))]))))
  (Zk (Zo 3 (Ze ZQ [(Ze ZZ [(Za 0),(eC (.int 1)),(Za 1),(Za 2)]),(Za 1)]))
  (Zk (Zo 4 (eP (Zi Z4 (eC (.int 1)) (Zi YH (Ze Zt [(Za 0),(eC (.int 29))]) (eC (.int 7))))))
  (Zk (Zo 5 (Ze ZQ [(Ze ZZ [(Za 0),(eC (.int 29)),(Za 4),(Zi WN (eC (.int 219)) (Za 2))]),(Za 4)]))
  (Zk (Zo 6 (Ze Zt [(Za 0),(eC (.int 58))]))
  (Zk (XZ (Pl (YY (xB (Ze Zm [(Za 3),(Za 6)]))) (YY (xB (Ze Zm [(Za 5),(Zi YG (Za 6) (eC (.int 5)))])))) (Yd (eP (eC (.bl false)))) ZD)
  (Yd (Ze Zm [(Za 3),(Zi YG (Za 6) (eC (.int 2)))])))))))))
noncomputable def D_law:List PV->Option PV:=Xz 7 O1
def SM(i:Nat):Stmt:=PySem.Challenge.pw_purseweb_k03_webs_written.main.body.getD i (.Pass ⟨0,0,0,0⟩)
section
variable {P:Program} {w:World} {K:PySem.W.Frag} {mg:Str->Option Value} {base:Heap}
abbrev W8:Stmt:=SM 27
theorem sc_l_squareR:ZE (["_law_times_here","_law_many","_law_rows_here","_law_one","_law_other"]:List Str) (["_law_times_here","_law_many"]:List Str) (Zl W8):=⟨rfl,rfl,rfl,by decide +kernel,rfl,by decide +kernel,by decide +kernel⟩
theorem R8(Df:Def K mg "_law_square" W8)(B:SE mg):XR P w K mg base "_law_square" (["_law_times_here","_law_many"]:List Str) (Xd K ZQ 2) 1:=
 Yf (O:=[2]) (k:=0) 5 Te Df sc_l_squareR (fun _ _ _ _ _ _ us hl=>match us,hl with | [_,_],_=>rfl) rfl rfl (by decide) (fun fa cdv A outer s H E hr=>
  (Zf (R0 (["_law_house"]:List Str) (["_law_many"]:List Str) [1] (i:=2) sc_l_squareR.nd rfl rfl rfl (Xf rfl B.range (Zb (Zc (pv 1)) Zg)) (by kernel_rfl) (fun _ _ _ _ _=>(Zx (i:=0) (show((["_law_house"]:List Str)++(["_law_many"]:List Str)).Nodup by decide +kernel) rfl (Or.inl rfl) (.inr rfl))) (fun _ _ _ _ _=>Wy) (fun _ _ _ _ _=>(MY (WS (Zb Zh Zg)) (Zc (pv 1)))))
  (Zf (OS (RH PassesOwn.never rfl (RQ (pv 0)) (UC (n:=2) rfl (Yp (Zx (i:=3) sc_l_squareR.nd rfl (Or.inl rfl)) (Yp (Zx (i:=4) sc_l_squareR.nd rfl (Or.inl rfl)) Vi))) (Zf (Vo (RG (RZ (U9 hr) (Zc (pv 0)) (Ww (Zb (Zc (pv 3)) (Zb (Zc (pv 4)) Zg)))) (RF (S2 ix_list (pv 2) (Zc (pv 3)) (fun _ _=>rfl)) (Zc (pv 4)) V0)))
  (Zj (Vo (RG (RZ (U9 hr) (Zc (pv 0)) (Ww (Zb (Zc (pv 3)) (Zb (Zc (pv 4)) Zg)))) (RF (S2 ix_list (pv 2) (Zc (pv 4)) (fun _ _=>rfl)) (Zc (pv 3)) V0)))))))
  (Zj (ZO (VE.pure (Z6 YO WT rfl B.tuple (by decide +kernel) (Zb (Tq (["_law_row"]:List Str) ([]:List Str) [] rfl (Tp (Zc (pv 2))) (by kernel_rfl) (fun _ _ _ _ _=>(Zx (i:=0) (show((["_law_row"]:List Str)++([]:List Str)).Nodup by decide +kernel) rfl (Or.inl rfl) (.inr rfl))) (fun _ _ _ _ _=>Wy) (fun _ _ _ _ _=>(Z6 YO WT rfl B.tuple (by decide +kernel) (Zb (Zc (pv 0)) Zg)))) Zg))))))))
abbrev Sr:Stmt:=SM 22
theorem N1:ZE (["_law_script","_law_k"]:List Str) (["_law_script","_law_k"]:List Str) (Zl Sr):=⟨rfl,rfl,rfl,by decide +kernel,rfl,by decide +kernel,by decide +kernel⟩
theorem N2(Df:Def K mg "_law_cell" Sr)(B:SE mg):XR P w K mg base "_law_cell" (["_law_script","_law_k"]:List Str) (Xd K Zt 2) 1:=
 Yf (O:=[]) (k:=0) 2 Sm Df N1 (fun _ _ _ _ _ _ us hl=>match us,hl with | [_,_],_=>rfl) rfl rfl (by decide) (fun fa cdv A outer s H E hr=>
  (Zj (ZO (VE.pure (Zq (VM.ve (OP (Ri (Zc (pv 0)) (Tr (Zc (pv 1))) (Tr (Y6 (Zc (pv 1)) Zh))) (WS (Zb Zh Zg)))) Zh)))))
abbrev U1:Stmt:=SM 28
theorem sc_l_words:ZE (["_law_web","_law_words_here","_law_one","_law_other","_law_word"]:List Str) (["_law_web"]:List Str) (Zl U1):=⟨rfl,rfl,rfl,by decide +kernel,rfl,by decide +kernel,by decide +kernel⟩
theorem PK(Df:Def K mg "_law_words" U1)(B:SE mg):XR P w K mg base "_law_words" (["_law_web"]:List Str) (Xd K XN 1) 1:=
 Yf (O:=[1]) (k:=0) 5 Vp Df sc_l_words (fun _ _ _ _ _ _ us hl=>match us,hl with | [_],_=>rfl) rfl rfl (by decide) (fun fa cdv A outer s H E hr=>
  (Zf (Zs (i:=1) sc_l_words.nd rfl (Or.inl rfl) (UT Vk))
  (Zf (Xg PassesOwn.never rfl (Xf rfl B.range (Zb (Zw ZX YZ rfl B.len (by decide +kernel) (Zb (Zc (pv 0)) Zg)) Zg)) (Zx (i:=2) sc_l_words.nd rfl (Or.inl rfl)) (Zj (Xg PassesOwn.never rfl (Wn rfl B.range (Zb (Y6 (Zc (pv 2)) Zh) (Zb (Zw ZX YZ rfl B.len (by decide +kernel) (Zb (Zc (pv 0)) Zg)) Zg))) (Zx (i:=3) sc_l_words.nd rfl (Or.inl rfl)) (Zf (Zs (i:=4) sc_l_words.nd rfl (Or.inl rfl) (VE.pure (Vy XQ V7 (Vy XQ V7 (Z6 XA Tv rfl B.str (by decide +kernel) (Zb (Zc (pv 2)) Zg)) YX) (Z6 XA Tv rfl B.str (by decide +kernel) (Zb (Zc (pv 3)) Zg)))))
  (Zf (YQ (Rf (Zq (Zq (Zc (pv 0)) (Zc (pv 2))) (Zc (pv 3))) Zh) (Zj (Zs (i:=4) sc_l_words.nd rfl (Or.inl rfl) (VE.pure (Vy XQ V7 (Vy XQ V7 (Zc (pv 4)) YX) (Z6 XA Tv rfl B.str (by decide +kernel) (Zb (Zq (Zq (Zc (pv 0)) (Zc (pv 2))) (Zc (pv 3))) Zg)))))) ZN)
  (Zj (YQ (Rf (Zq (Zq (Zc (pv 0)) (Zc (pv 2))) (Zc (pv 3))) Zh) (Zj (UX (Wr (V1 PySem.F.plainAttrs_list PySem.F.slot_list_append PySem.F.type_list_append UK (pv 1) (YF (VE.pure (Zc (pv 4))) Wf))))) ZN)))))))
  (Zj (OJ (pv 1))))))
abbrev W9:Stmt:=SM 20
theorem R9:ZE (["a","b","times"]:List Str) (["a","b","times"]:List Str) (Zl W9):=⟨rfl,rfl,rfl,by decide +kernel,rfl,by decide +kernel,by decide +kernel⟩
theorem Qa(Df:Def K mg "shown_tie" W9)(B:SE mg):XR P w K mg base "shown_tie" (["a","b","times"]:List Str) (Xd K Yl 3) 1:=
 Yf (O:=[]) (k:=0) 3 Wd Df R9 (fun _ _ _ _ _ _ us hl=>match us,hl with | [_,_,_],_=>rfl) rfl rfl (by decide) (fun fa cdv A outer s H E hr=>
  (Zj (ZO (VE.pure (Jh (MV hr.units (Zc (pv 2)) Zh) (R7 (VEs.cons (U0 (Zc (pv 0))) (VEs.cons YX (VEs.cons (U0 (Zc (pv 1))) VEs.nil)))) (R7 (VEs.cons (U0 (Zc (pv 0))) (VEs.cons YX (VEs.cons (U0 (Zc (pv 1))) (VEs.cons YX (VEs.cons (U0 (Zc (pv 2))) VEs.nil)))))))))))
abbrev Va:Stmt:=SM 19
theorem sc_shown_web:ZE (["web","many","words","a","row"]:List Str) (["web"]:List Str) (Zl Va):=⟨rfl,rfl,rfl,by decide +kernel,rfl,by decide +kernel,by decide +kernel⟩
theorem Qb(Df:Def K mg "shown_web" Va)(B:SE mg)(C_shown_tie:XR P w K mg base "shown_tie" (["a","b","times"]:List Str) (Xd K Yl 3) 1):XR P w K mg base "shown_web" (["web"]:List Str) (Xd K Y4 1) 2:=
 Yf (O:=[2]) (k:=1) 5 We Df sc_shown_web (fun _ _ _ _ _ _ us hl=>match us,hl with | [_],_=>rfl) rfl rfl (by decide) (fun fa cdv A outer s H E hr=>
  (Zf (Zs (i:=1) sc_shown_web.nd rfl (Or.inl rfl) (VE.pure (Zw ZX YZ rfl B.len (by decide +kernel) (Zb (Zc (pv 0)) Zg))))
  (Zf (Zs (i:=2) sc_shown_web.nd rfl (Or.inl rfl) (UT (TX (VE.pure (R7 (VEs.cons (U0 (Zc (pv 1))) (VEs.cons YX VEs.nil)))) Vk)))
  (Zf (Xg PassesOwn.never rfl (RX false rfl B.enumerate (Zb (Zc (pv 0)) Zg)) (UC (n:=2) rfl (Yp (Zx (i:=3) sc_shown_web.nd rfl (Or.inr rfl)) (Yp (Zx (i:=4) sc_shown_web.nd rfl (Or.inr rfl)) Vi))) (Zj (Rn (Wr (V1 PySem.F.plainAttrs_list PySem.F.slot_list_extend PySem.F.type_list_extend S4 (pv 2) (YF (OG (["b"]:List Str) (["a","row"]:List Str) [3,4] rfl (Wn rfl B.range (Zb (Y6 (Zc (pv 3)) Zh) (Zb (Zc (pv 1)) Zg))) (by kernel_rfl) (fun _ _ _ _ _=>(Zx (i:=0) (show((["b"]:List Str)++(["a","row"]:List Str)).Nodup by decide +kernel) rfl (Or.inl rfl) (.inr rfl))) (fun _ _ _ _ _=>(OF (Rf (Zq (Zc (pv 2)) (Zc (pv 0))) Zh))) (fun _ _ _ _ _=>(Zr C_shown_tie (hr.mono (by decide)) rfl (Zb (Zc (pv 1)) (Zb (Zc (pv 0)) (Zb (Zq (Zc (pv 2)) (Zc (pv 0))) Zg)))))) Wf))))))
  (Zj (ZO (VE.pure (Lb F.slot_str_join F.type_str_join OZ O0 Ru YX (Zc (pv 2))))))))))
abbrev U2:Stmt:=SM 23
theorem PL:ZE (["_law_thing"]:List Str) (["_law_thing"]:List Str) (Zl U2):=⟨rfl,rfl,rfl,by decide +kernel,rfl,by decide +kernel,by decide +kernel⟩
theorem PM(Df:Def K mg "_law_whole" U2)(B:SE mg):XR P w K mg base "_law_whole" (["_law_thing"]:List Str) (Xd K YL 1) 1:=
 Yf (O:=[]) (k:=0) 1 UZ Df PL (fun _ _ _ _ _ _ us hl=>match us,hl with | [_],_=>rfl) rfl rfl (by decide) (fun fa cdv A outer s H E hr=>
  (Zj (ZO (VE.pure (Pm (Zw Xo Uc rfl B.isinstance (by decide +kernel) (Zb (Zc (pv 0)) (Zb (QC rfl B.int (by decide +kernel)) Zg))) (RU (Io (Zw Xo Uc rfl B.isinstance (by decide +kernel) (Zb (Zc (pv 0)) (Zb (QC rfl B.bool (by decide +kernel)) Zg))))))))))
abbrev Ss:Stmt:=SM 30
theorem sc_l_rows:ZE (["_law_found","_law_web","_law_row"]:List Str) (["_law_found","_law_web"]:List Str) (Zl Ss):=⟨rfl,rfl,rfl,by decide +kernel,rfl,by decide +kernel,by decide +kernel⟩
theorem N3(Df:Def K mg "_law_rows" Ss)(B:SE mg)(C_l_whole:XR P w K mg base "_law_whole" (["_law_thing"]:List Str) (Xd K YL 1) 1):XR P w K mg base "_law_rows" (["_law_found","_law_web"]:List Str) (Xd K Ys 2) 2:=
 Yf (O:=[]) (k:=1) 3 Ut Df sc_l_rows (fun _ _ _ _ _ _ us hl=>match us,hl with | [_,_],_=>rfl) rfl rfl (by decide) (fun fa cdv A outer s H E hr=>
  (Zf (YQ (VW.vt (QA (Xb (Wg (Zw Xo Uc rfl B.isinstance (by decide +kernel) (Zb (Zc (pv 0)) (Zb (QC rfl B.tuple (by decide +kernel)) Zg))))) (TR (MW hr.units (Zw ZX YZ rfl B.len (by decide +kernel) (Zb (Zc (pv 0)) Zg)) (Zw ZX YZ rfl B.len (by decide +kernel) (Zb (Zc (pv 1)) Zg)))))) (Zj (ZO (VE.pure TN))) ZN)
  (Zf (Xg PassesOwn.never rfl (MP (Zc (pv 0))) (Zx (i:=2) sc_l_rows.nd rfl (Or.inl rfl)) (Zj (YQ (VW.vt (QA (Xb (Wg (Zw Xo Uc rfl B.isinstance (by decide +kernel) (Zb (Zc (pv 2)) (Zb (QC rfl B.tuple (by decide +kernel)) Zg))))) (TR (Xb (Wg (Zw (S8 rfl) MK rfl B.all (by decide +kernel) (Zb (Tq (["_law_part"]:List Str) ([]:List Str) [] rfl (MP (Zc (pv 2))) (by kernel_rfl) (fun _ _ _ _ _=>(Zx (i:=0) (show((["_law_part"]:List Str)++([]:List Str)).Nodup by decide +kernel) rfl (Or.inl rfl) (.inr rfl))) (fun _ _ _ _ _=>Wy) (fun _ _ _ _ _=>(VM.ve (Zr C_l_whole (hr.mono (by decide)) rfl (Zb (Zc (pv 0)) Zg))))) Zg))))))) (Zj (ZO (VE.pure TN))) ZN)))
  (Zj (ZO (VE.pure (QH hr.units (Zc (pv 0)) (Zc (pv 1)))))))))
abbrev VR:Stmt:=SM 18
theorem QR:ZE (["word","most_figures"]:List Str) (["word","most_figures"]:List Str) (Zl VR):=⟨rfl,rfl,rfl,by decide +kernel,rfl,by decide +kernel,by decide +kernel⟩
theorem QS(Df:Def K mg "is_plain" VR)(B:SE mg)(Z_FIGURES:KD mg "FIGURES" "0123456789"):XR P w K mg base "is_plain" (["word","most_figures"]:List Str) (Xd K Xj 2) 1:=
 Yf (O:=[]) (k:=0) 2 WB Df QR (fun _ _ _ _ _ _ us hl=>match us,hl with | [_,_],_=>rfl) rfl rfl (by decide) (fun fa cdv A outer s H E hr=>
  (Zf (YQ (Xb (Se U7 U7 (UR _) (UR _) Zh (Zw ZX YZ rfl B.len (by decide +kernel) (Zb (Zc (pv 0)) Zg)) (Zc (pv 1)))) (Zj (ZO (VE.pure TN))) ZN)
  (Zj (ZO (VE.pure (Pm (Zw (S8 rfl) MK rfl B.all (by decide +kernel) (Zb (Tq (["sign"]:List Str) ([]:List Str) [] rfl (IH (Zc (pv 0))) (by kernel_rfl) (fun _ _ _ _ _=>(Zx (i:=0) (show((["sign"]:List Str)++([]:List Str)).Nodup by decide +kernel) rfl (Or.inl rfl) (.inr rfl))) (fun _ _ _ _ _=>Wy) (fun _ _ _ _ _=>(IF (Zc (pv 0)) (KG rfl Z_FIGURES)))) Zg)) (RU (HQ (QH hr.units (Zc (pv 0)) YX) (RU (HW hr.units (Zq (Zc (pv 0)) Zh) YX))))))))))
abbrev WG:Stmt:=SM 17
theorem SN:ZE (["word"]:List Str) (["word"]:List Str) (Zl WG):=⟨rfl,rfl,rfl,by decide +kernel,rfl,by decide +kernel,by decide +kernel⟩
theorem SO(Df:Def K mg "read_small" WG)(B:SE mg)(Z_MOST_FIGURES_IN_WEBS:Jo mg "MOST_FIGURES_IN_WEBS" 2)(C_is_plain:XR P w K mg base "is_plain" (["word","most_figures"]:List Str) (Xd K Xj 2) 1):XR P w K mg base "read_small" (["word"]:List Str) (Xd K Zy 1) 2:=
 Yf (O:=[]) (k:=1) 1 XG Df SN (fun _ _ _ _ _ _ us hl=>match us,hl with | [_],_=>rfl) rfl rfl (by decide) (fun fa cdv A outer s H E hr=>
  (Zf (YQ (Xb (Wg (VM.ve (Zr C_is_plain (hr.mono (by decide)) rfl (Zb (Zc (pv 0)) (Zb (PD rfl Z_MOST_FIGURES_IN_WEBS) Zg)))))) (Zj (X0 (W:=[]))) ZN)
  (Zj (ZO (VE.pure (Z6 NX KJ rfl B.int (by decide +kernel) (Zb (Zc (pv 0)) Zg)))))))
abbrev U3:Stmt:=SM 10
theorem sc_reached:ZE (["web","found","looked","row"]:List Str) (["web"]:List Str) (Zl U3):=⟨rfl,rfl,rfl,by decide +kernel,rfl,by decide +kernel,by decide +kernel⟩
theorem PN(Df:Def K mg "reached" U3)(B:SE mg):XR P w K mg base "reached" (["web"]:List Str) (Xd K Wq 1) 1:=
 Yf (O:=[1]) (k:=0) 4 Vq Df sc_reached (fun _ _ _ _ _ _ us hl=>match us,hl with | [_],_=>rfl) rfl rfl (by decide) (fun fa cdv A outer s H E hr=>
  (Zf (Zs (i:=1) sc_reached.nd rfl (Or.inr rfl) (UT (TX (VE.pure Zh) Vk)))
  (Zf (Zs (i:=2) sc_reached.nd rfl (Or.inl rfl) (VE.pure Zh))
  (Zf (MS PassesOwn.never (MF (Zc (pv 2)) (Zw ZX YZ rfl B.len (by decide +kernel) (Zb (Zc (pv 1)) Zg))) (Zf (Zs (i:=3) sc_reached.nd rfl (Or.inl rfl) (VE.pure (Zq (Zc (pv 0)) (Zq (Zc (pv 1)) (Zc (pv 2))))))
  (Zf (Rn (Wr (V1 PySem.F.plainAttrs_list PySem.F.slot_list_extend PySem.F.type_list_extend S4 (pv 1) (YF (OG (["house","times"]:List Str) (["found"]:List Str) [1] rfl (RX false rfl B.enumerate (Zb (Zc (pv 3)) Zg)) (by kernel_rfl) (fun _ _ _ _ _=>(UC (n:=2) rfl (Yp (Zx (i:=0) (show((["house","times"]:List Str)++(["found"]:List Str)).Nodup by decide +kernel) rfl (Or.inl rfl) (.inr rfl)) (Yp (Zx (i:=1) (show((["house","times"]:List Str)++(["found"]:List Str)).Nodup by decide +kernel) rfl (Or.inl rfl) (.inr rfl)) Vi)))) (fun _ _ _ _ _=>(OF (VW.vt (TU (Rf (Zc (pv 1)) Zh) (V8 (Sb hr.units (Zc (pv 0)) (Zc (pv 2)))))))) (fun _ _ _ _ _=>(VE.pure (Zc (pv 0))))) Wf))))
  (Zj (Kp (JP (i:=2) sc_reached.nd rfl (Or.inl rfl) Zh JQ))))))
  (Zj (ZO (VE.pure (Z6 YO WT rfl B.tuple (by decide +kernel) (Zb (VM.ve (MI R6 PB rfl B.sorted (by decide +kernel) (Zb (Zc (pv 1)) Zg))) Zg)))))))))
abbrev PQ:Stmt:=SM 9
theorem KN:ZE (["rows","tie"]:List Str) (["rows","tie"]:List Str) (Zl PQ):=⟨rfl,rfl,rfl,by decide +kernel,rfl,by decide +kernel,by decide +kernel⟩
theorem KO(Df:Def K mg "fits" PQ)(B:SE mg)(Z_MOST_TIMES:Jo mg "MOST_TIMES" 9):XR P w K mg base "fits" (["rows","tie"]:List Str) (Xd K W6 2) 1:=
 Yf (O:=[]) (k:=0) 2 PJ Df KN (fun _ _ _ _ _ _ us hl=>match us,hl with | [_,_],_=>rfl) rfl rfl (by decide) (fun fa cdv A outer s H E hr=>
  (Zf (YQ (Xb (NT U7 Oe Oe (UR _) (UR _) (UR _) Zh (Zq (Zc (pv 1)) Zh) (Zq (Zc (pv 1)) Zh) (Zw ZX YZ rfl B.len (by decide +kernel) (Zb (Zc (pv 0)) Zg)))) (Zj (ZO (VE.pure TN))) ZN)
  (Zj (ZO (VE.pure (Pm (MX U7 U7 (UR _) (UR _) Zh (Zq (Zc (pv 1)) Zh) (PD rfl Z_MOST_TIMES)) (RU (QH hr.units (Zq (Zq (Zc (pv 0)) (Zq (Zc (pv 1)) Zh)) (Zq (Zc (pv 1)) Zh)) Zh))))))))
abbrev Su:Stmt:=SM 8
theorem sc_web_of:ZE (["many","ties","rows","place","tie","web","houses"]:List Str) (["many","ties"]:List Str) (Zl Su):=⟨rfl,rfl,rfl,by decide +kernel,rfl,by decide +kernel,by decide +kernel⟩
theorem N4(Df:Def K mg "web_of" Su)(B:SE mg)(Z_MOST_HOUSES:Jo mg "MOST_HOUSES" 7)(C_fits:XR P w K mg base "fits" (["rows","tie"]:List Str) (Xd K W6 2) 1)(C_reached:XR P w K mg base "reached" (["web"]:List Str) (Xd K Wq 1) 1):XR P w K mg base "web_of" (["many","ties"]:List Str) (Xd K W7 2) 2:=
 Yf (O:=[2]) (k:=1) 7 Uu Df sc_web_of (fun _ _ _ _ _ _ us hl=>match us,hl with | [_,_],_=>rfl) rfl rfl (by decide) (fun fa cdv A outer s H E hr=>
  (Zf (YQ (Xb (Se U7 U7 (UR _) (UR _) Zh (Zc (pv 0)) (PD rfl Z_MOST_HOUSES))) (Zj (X0 (W:=[]))) ZN)
  (Zf (R0 (["house"]:List Str) (["many"]:List Str) [0] (i:=2) sc_web_of.nd rfl rfl rfl (Xf rfl B.range (Zb (Zc (pv 0)) Zg)) (by kernel_rfl) (fun _ _ _ _ _=>(Zx (i:=0) (show((["house"]:List Str)++(["many"]:List Str)).Nodup by decide +kernel) rfl (Or.inl rfl) (.inr rfl))) (fun _ _ _ _ _=>Wy) (fun _ _ _ _ _=>(MY (WS (Zb Zh Zg)) (Zc (pv 1)))))
  (Zf (Xg PassesOwn.never rfl (RX true rfl B.enumerate (Zb (Zc (pv 1)) Zg)) (UC (n:=2) rfl (Yp (Zx (i:=3) sc_web_of.nd rfl (Or.inl rfl)) (Yp (Zx (i:=4) sc_web_of.nd rfl (Or.inl rfl)) Vi))) (Zf (YQ (Xb (Wg (VM.ve (Zr C_fits (hr.mono (by decide)) rfl (Zb (Zc (pv 2)) (Zb (Zc (pv 4)) Zg)))))) (Zj (X0 (W:=[]))) ZN)
  (Zf (Vo (RG (Zq (Zc (pv 4)) Zh) (RF (S2 ix_list (pv 2) (Zq (Zc (pv 4)) Zh) (fun _ _=>rfl)) (Zq (Zc (pv 4)) Zh) V0)))
  (Zj (Vo (RG (Zq (Zc (pv 4)) Zh) (RF (S2 ix_list (pv 2) (Zq (Zc (pv 4)) Zh) (fun _ _=>rfl)) (Zq (Zc (pv 4)) Zh) V0)))))))
  (Zf (Zs (i:=5) sc_web_of.nd rfl (Or.inl rfl) (VE.pure (Z6 YO WT rfl B.tuple (by decide +kernel) (Zb (Tq (["row"]:List Str) ([]:List Str) [] rfl (Tp (Zc (pv 2))) (by kernel_rfl) (fun _ _ _ _ _=>(Zx (i:=0) (show((["row"]:List Str)++([]:List Str)).Nodup by decide +kernel) rfl (Or.inl rfl) (.inr rfl))) (fun _ _ _ _ _=>Wy) (fun _ _ _ _ _=>(Z6 YO WT rfl B.tuple (by decide +kernel) (Zb (Zc (pv 0)) Zg)))) Zg))))
  (Zf (Zs (i:=6) sc_web_of.nd rfl (Or.inl rfl) (Zr C_reached (hr.mono (by decide)) rfl (Zb (Zc (pv 5)) Zg)))
  (Zf (YQ (MF (Zw ZX YZ rfl B.len (by decide +kernel) (Zb (Zc (pv 6)) Zg)) (Zc (pv 0))) (Zj (X0 (W:=[]))) ZN)
  (Zj (ZO (VE.pure (Zc (pv 5))))))))))))
abbrev WH:Stmt:=SM 16
theorem sc_read_times:ZE (["word","times"]:List Str) (["word"]:List Str) (Zl WH):=⟨rfl,rfl,rfl,by decide +kernel,rfl,by decide +kernel,by decide +kernel⟩
theorem SQ(Df:Def K mg "read_times" WH)(B:SE mg)(C_read_small:XR P w K mg base "read_small" (["word"]:List Str) (Xd K Zy 1) 2):XR P w K mg base "read_times" (["word"]:List Str) (Xd K YM 1) 3:=
 Yf (O:=[]) (k:=2) 2 XH Df sc_read_times (fun _ _ _ _ _ _ us hl=>match us,hl with | [_],_=>rfl) rfl rfl (by decide) (fun fa cdv A outer s H E hr=>
  (Zf (Zs (i:=1) sc_read_times.nd rfl (Or.inl rfl) (Zr C_read_small (hr.mono (by decide)) rfl (Zb (Zc (pv 0)) Zg)))
  (Zf (YQ (MF (Zc (pv 1)) Zh) (Zj (X0 (W:=[]))) ZN)
  (Zj (ZO (VE.pure (Zc (pv 1))))))))
abbrev VU:Stmt:=SM 15
theorem sc_read_tie:ZE (["word","halves","ends","times"]:List Str) (["word"]:List Str) (Zl VU):=⟨rfl,rfl,rfl,by decide +kernel,rfl,by decide +kernel,by decide +kernel⟩
theorem QT(Df:Def K mg "read_tie" VU)(B:SE mg)(C_read_times:XR P w K mg base "read_times" (["word"]:List Str) (Xd K YM 1) 3)(C_read_small:XR P w K mg base "read_small" (["word"]:List Str) (Xd K Zy 1) 2):XR P w K mg base "read_tie" (["word"]:List Str) (Xd K Y2 1) 4:=
 Yf (O:=[]) (k:=3) 4 WC Df sc_read_tie (fun _ _ _ _ _ _ us hl=>match us,hl with | [_],_=>rfl) rfl rfl (by decide) (fun fa cdv A outer s H E hr=>
  (Zf (Zs (i:=1) sc_read_tie.nd rfl (Or.inl rfl) (So (Zc (pv 0)) YX))
  (Zf (Zs (i:=2) sc_read_tie.nd rfl (Or.inl rfl) (So (Zq (Zc (pv 1)) Zh) YX))
  (Zf (YQ (VW.vt (QA (Rf (Zw ZX YZ rfl B.len (by decide +kernel) (Zb (Zc (pv 1)) Zg)) Zh) (TR (MW hr.units (Zw ZX YZ rfl B.len (by decide +kernel) (Zb (Zc (pv 2)) Zg)) Zh)))) (Zj (X0 (W:=[]))) ZN)
  (Zf (Zs (i:=3) sc_read_tie.nd rfl (Or.inl rfl) (VE.pure (Jh (MV hr.units (Zw ZX YZ rfl B.len (by decide +kernel) (Zb (Zc (pv 1)) Zg)) Zh) (VM.ve (Zr C_read_times (hr.mono (by decide)) rfl (Zb (Zq (Zc (pv 1)) Zh) Zg))) Zh)))
  (Zj (ZO (VE.pure (Ww (Zb (VM.ve (Zr C_read_small (hr.mono (by decide)) rfl (Zb (Zq (Zc (pv 2)) Zh) Zg))) (Zb (VM.ve (Zr C_read_small (hr.mono (by decide)) rfl (Zb (Zq (Zc (pv 2)) Zh) Zg))) (Zb (Zc (pv 3)) Zg))))))))))))
abbrev VV:Stmt:=SM 14
theorem sc_read_web:ZE (["text","words","many","ties"]:List Str) (["text"]:List Str) (Zl VV):=⟨rfl,rfl,rfl,by decide +kernel,rfl,by decide +kernel,by decide +kernel⟩
theorem QU(Df:Def K mg "read_web" VV)(B:SE mg)(C_read_small:XR P w K mg base "read_small" (["word"]:List Str) (Xd K Zy 1) 2)(C_read_tie:XR P w K mg base "read_tie" (["word"]:List Str) (Xd K Y2 1) 4)(C_web_of:XR P w K mg base "web_of" (["many","ties"]:List Str) (Xd K W7 2) 2):XR P w K mg base "read_web" (["text"]:List Str) (Xd K ZY 1) 5:=
 Yf (O:=[]) (k:=4) 4 WD Df sc_read_web (fun _ _ _ _ _ _ us hl=>match us,hl with | [_],_=>rfl) rfl rfl (by decide) (fun fa cdv A outer s H E hr=>
  (Zf (Zs (i:=1) sc_read_web.nd rfl (Or.inl rfl) (So (Zc (pv 0)) YX))
  (Zf (YQ (Xb (Wg (Lb F.slot_str_endswith F.type_str_endswith KH KI NU (Zq (Zc (pv 1)) Zh) YX))) (Zj (X0 (W:=[]))) ZN)
  (Zf (Zs (i:=2) sc_read_web.nd rfl (Or.inl rfl) (Zr C_read_small (hr.mono (by decide)) rfl (Zb (NW (Zq (Zc (pv 1)) Zh) OH (Tr (Iq Zh))) Zg)))
  (Zf (R0 (["word"]:List Str) ([]:List Str) [] (i:=3) sc_read_web.nd rfl rfl rfl (Tp (Ri (Zc (pv 1)) (Tr Zh) OH)) (by kernel_rfl) (fun _ _ _ _ _=>(Zx (i:=0) (show((["word"]:List Str)++([]:List Str)).Nodup by decide +kernel) rfl (Or.inl rfl) (.inr rfl))) (fun _ _ _ _ _=>Wy) (fun _ _ _ _ _=>(Zr C_read_tie (hr.mono (by decide)) rfl (Zb (Zc (pv 0)) Zg))))
  (Zj (ZO (Zr C_web_of (hr.mono (by decide)) rfl (Zb (Zc (pv 2)) (Zb (Zc (pv 3)) Zg))))))))))
abbrev Sv:Stmt:=SM 29
theorem N5:ZE (["_law_web","_law_words_here"]:List Str) (["_law_web","_law_words_here"]:List Str) (Zl Sv):=⟨rfl,rfl,rfl,by decide +kernel,rfl,by decide +kernel,by decide +kernel⟩
theorem N6(Df:Def K mg "_law_text" Sv)(B:SE mg):XR P w K mg base "_law_text" (["_law_web","_law_words_here"]:List Str) (Xd K YS 2) 1:=
 Yf (O:=[]) (k:=0) 2 Uv Df N5 (fun _ _ _ _ _ _ us hl=>match us,hl with | [_,_],_=>rfl) rfl rfl (by decide) (fun fa cdv A outer s H E hr=>
  (Zj (ZO (VE.pure (Lb F.slot_str_join F.type_str_join OZ O0 Ru YX (VM.ve (OP (WS (Zb (Vy XQ V7 (Z6 XA Tv rfl B.str (by decide +kernel) (Zb (Zw ZX YZ rfl B.len (by decide +kernel) (Zb (Zc (pv 0)) Zg)) Zg)) YX) Zg)) (Zc (pv 1)))))))))
abbrev Y3:Stmt:=SM 31
theorem sc_l_there_and_back:ZE (["_law_web","_law_cell_here","_law_words_here","_law_told","_law_mixed","_law_word"]:List Str) (["_law_web","_law_cell_here"]:List Str) (Zl Y3):=⟨rfl,rfl,rfl,by decide +kernel,rfl,by decide +kernel,by decide +kernel⟩
theorem Vv(Df:Def K mg "_law_there_and_back" Y3)(B:SE mg)(C_l_words:XR P w K mg base "_law_words" (["_law_web"]:List Str) (Xd K XN 1) 1)(C_shown_web:XR P w K mg base "shown_web" (["web"]:List Str) (Xd K Y4 1) 2)(C_l_text:XR P w K mg base "_law_text" (["_law_web","_law_words_here"]:List Str) (Xd K YS 2) 1)(C_l_rows:XR P w K mg base "_law_rows" (["_law_found","_law_web"]:List Str) (Xd K Ys 2) 2)(C_read_web:XR P w K mg base "read_web" (["text"]:List Str) (Xd K ZY 1) 5):XR P w K mg base "_law_there_and_back" (["_law_web","_law_cell_here"]:List Str) (Xd K Zm 2) 6:=
 Yf (O:=[4]) (k:=5) 6 Yn Df sc_l_there_and_back (fun _ _ _ _ _ _ us hl=>match us,hl with | [_,_],_=>rfl) rfl rfl (by decide) (fun fa cdv A outer s H E hr=>
  (Zf (Zs (i:=2) sc_l_there_and_back.nd rfl (Or.inl rfl) (Zr C_l_words (hr.mono (by decide)) rfl (Zb (Zc (pv 0)) Zg)))
  (Zf (Zs (i:=3) sc_l_there_and_back.nd rfl (Or.inl rfl) (Zr C_shown_web (hr.mono (by decide)) rfl (Zb (Zc (pv 0)) Zg)))
  (Zf (YQ (VW.vt (QA (Xb (Wg (Zw Xo Uc rfl B.isinstance (by decide +kernel) (Zb (Zc (pv 3)) (Zb (QC rfl B.str (by decide +kernel)) Zg))))) (TR (MW hr.units (Zc (pv 3)) (VM.ve (Zr C_l_text (hr.mono (by decide)) rfl (Zb (Zc (pv 0)) (Zb (Zc (pv 2)) Zg)))))))) (Zj (ZO (VE.pure TN))) ZN)
  (Zf (YQ (Xb (Wg (VM.ve (Zr C_l_rows (hr.mono (by decide)) rfl (Zb (VM.ve (Zr C_read_web (hr.mono (by decide)) rfl (Zb (Zc (pv 3)) Zg))) (Zb (Zc (pv 0)) Zg)))))) (Zj (ZO (VE.pure TN))) ZN)
  (Zf (Zs (i:=4) sc_l_there_and_back.nd rfl (Or.inl rfl) (UT Vk))
  (Zf (Xg PassesOwn.never rfl (Tp (Zc (pv 2))) (Zx (i:=5) sc_l_there_and_back.nd rfl (Or.inl rfl)) (Zf (Ro (Wr (V1 PySem.F.plainAttrs_list PySem.F.slot_list_insert PySem.F.type_list_insert S9 (pv 4) (YF (Xv (Zc (pv 1)) (Y6 (Zw ZX YZ rfl B.len (by decide +kernel) (Zb (Zc (pv 4)) Zg)) Zh)) (YF (Zc (pv 5)) Wf)))))
  (Zj (Zs (i:=1) sc_l_there_and_back.nd rfl (Or.inl rfl) (VE.pure (YI (Zc (pv 1)) Zh))))))
  (Zj (ZO (Zr C_l_rows (hr.mono (by decide)) rfl (Zb (VM.ve (Zr C_read_web (hr.mono (by decide)) rfl (Zb (VM.ve (Zr C_l_text (hr.mono (by decide)) rfl (Zb (Zc (pv 0)) (Zb (Zc (pv 4)) Zg)))) Zg))) (Zb (Zc (pv 0)) Zg))))))))))))
abbrev Vb:Stmt:=SM 24
theorem sc_l_renamed:ZE (["_law_found","_law_cell_here","_law_many","_law_names","_law_house","_law_told","_law_one","_law_other","_law_pair"]:List Str) (["_law_found","_law_cell_here","_law_many"]:List Str) (Zl Vb):=⟨rfl,rfl,rfl,by decide +kernel,rfl,by decide +kernel,by decide +kernel⟩
theorem Qc(Df:Def K mg "_law_renamed" Vb)(B:SE mg):XR P w K mg base "_law_renamed" (["_law_found","_law_cell_here","_law_many"]:List Str) (Xd K Wc 3) 1:=
 Yf (O:=[3,5]) (k:=0) 9 Wb Df sc_l_renamed (fun _ _ _ _ _ _ us hl=>match us,hl with | [_,_,_],_=>rfl) rfl rfl (by decide) (fun fa cdv A outer s H E hr=>
  (Zf (Zs (i:=3) sc_l_renamed.nd rfl (Or.inl rfl) (UT Vk))
  (Zf (Xg PassesOwn.never rfl (Xf rfl B.range (Zb (Zc (pv 2)) Zg)) (Zx (i:=4) sc_l_renamed.nd rfl (Or.inl rfl)) (Zf (Ro (Wr (V1 PySem.F.plainAttrs_list PySem.F.slot_list_insert PySem.F.type_list_insert S9 (pv 3) (YF (Xv (Zc (pv 1)) (Y6 (Zc (pv 4)) Zh)) (YF (Zc (pv 4)) Wf)))))
  (Zj (Zs (i:=1) sc_l_renamed.nd rfl (Or.inl rfl) (VE.pure (YI (Zc (pv 1)) (Y6 (Zc (pv 4)) Zh)))))))
  (Zf (Zs (i:=5) sc_l_renamed.nd rfl (Or.inl rfl) TY)
  (Zf (OS (RH PassesOwn.never rfl (RQ (pv 0)) (UC (n:=2) rfl (Yp (Zx (i:=6) sc_l_renamed.nd rfl (Or.inl rfl)) (Yp (Zx (i:=7) sc_l_renamed.nd rfl (Or.inl rfl)) Vi))) (Zf (Zs (i:=8) sc_l_renamed.nd rfl (Or.inl rfl) (VE.pure (Ww (Zb (Zw (UI rfl) RV rfl B.min (by decide +kernel) (Zb (Zq (Zc (pv 3)) (Zc (pv 6))) (Zb (Zq (Zc (pv 3)) (Zc (pv 7))) Zg))) (Zb (Zw (Nk rfl) Kl rfl B.max (by decide +kernel) (Zb (Zq (Zc (pv 3)) (Zc (pv 6))) (Zb (Zq (Zc (pv 3)) (Zc (pv 7))) Zg))) Zg)))))
  (Zj (Ts (Tj (U9 hr) (pv 5) (Zc (pv 8)) (RZ (U9 hr) (Zc (pv 0)) (Ww (Zb (Zc (pv 6)) (Zb (Zc (pv 7)) Zg)))) rfl))))))
  (Zj (OJ (pv 5))))))))
abbrev X3:Stmt:=SM 25
theorem sc_l_read_times:ZE (["_law_rest","_law_many","_law_room","_law_most","_law_found","_law_met","_law_one","_law_other","_law_deep","_law_turn"]:List Str) (["_law_rest","_law_many","_law_room","_law_most"]:List Str) (Zl X3):=⟨rfl,rfl,rfl,by decide +kernel,rfl,by decide +kernel,by decide +kernel⟩
theorem Ti(Df:Def K mg "_law_read_times" X3)(B:SE mg):XR P w K mg base "_law_read_times" (["_law_rest","_law_many","_law_room","_law_most"]:List Str) (Xd K Yh 4) 1:=
 Yf (O:=[4,5]) (k:=0) 10 Y9 Df sc_l_read_times (fun _ _ _ _ _ _ us hl=>match us,hl with | [_,_,_,_],_=>rfl) rfl rfl (by decide) (fun fa cdv A outer s H E hr=>
  (Zf (Zs (i:=4) sc_l_read_times.nd rfl (Or.inl rfl) TY)
  (Zf (Zs (i:=5) sc_l_read_times.nd rfl (Or.inl rfl) (UT (TX (VE.pure Zh) Vk)))
  (Zf (Xg PassesOwn.never rfl (Xf rfl B.range (Zb (Zc (pv 1)) Zg)) (Zx (i:=6) sc_l_read_times.nd rfl (Or.inl rfl)) (Zj (Xg PassesOwn.never rfl (Wn rfl B.range (Zb (Y6 (Zc (pv 6)) Zh) (Zb (Zc (pv 1)) Zg))) (Zx (i:=7) sc_l_read_times.nd rfl (Or.inl rfl)) (Zf (Zs (i:=8) sc_l_read_times.nd rfl (Or.inl rfl) (VE.pure (Zw (UI rfl) RV rfl B.min (by decide +kernel) (Zb (Il (Xv (Zc (pv 0)) Zh) (Y6 Zh (Xv (YI (Zc (pv 0)) Zh) (Zc (pv 3))))) (Zb (Zc (pv 2)) Zg)))))
  (Zf (Zs (i:=0) sc_l_read_times.nd rfl (Or.inl rfl) (VE.pure (Zq (WS (Zb (YI (Zc (pv 0)) Zh) (Zb (YI (YI (Zc (pv 0)) Zh) (Zc (pv 3))) Zg))) (Xv (Zc (pv 0)) Zh))))
  (Zj (YQ (Rf (Zc (pv 8)) Zh) (Zf (Ts (Tj (U9 hr) (pv 4) (Ww (Zb (Zc (pv 6)) (Zb (Zc (pv 7)) Zg))) (Zc (pv 8)) rfl))
  (Zj (Zs (i:=2) sc_l_read_times.nd rfl (Or.inl rfl) (VE.pure (VG (Zc (pv 2)) (Zc (pv 8))))))) ZN)))))))
  (Zf (Xg PassesOwn.never rfl (Xf rfl B.range (Zb (Zc (pv 1)) Zg)) (Zx (i:=9) sc_l_read_times.nd rfl (Or.inl rfl)) (Zj (MZ (O':=[5]) (RH PassesOwn.never rfl (RQ (pv 4)) (UC (n:=2) rfl (Yp (Zx (i:=6) sc_l_read_times.nd rfl (Or.inl rfl)) (Yp (Zx (i:=7) sc_l_read_times.nd rfl (Or.inl rfl)) Vi))) (Zf (YQ (VW.vt (TU (Jm hr.units (Zc (pv 6)) (Zc (pv 5))) (V8 (Sb hr.units (Zc (pv 7)) (Zc (pv 5)))))) (Zj (UX (Wr (V1 PySem.F.plainAttrs_list PySem.F.slot_list_append PySem.F.type_list_append UK (pv 5) (YF (VE.pure (Zc (pv 7))) Wf))))) ZN)
  (Zj (YQ (VW.vt (TU (Jm hr.units (Zc (pv 7)) (Zc (pv 5))) (V8 (Sb hr.units (Zc (pv 6)) (Zc (pv 5)))))) (Zj (UX (Wr (V1 PySem.F.plainAttrs_list PySem.F.slot_list_append PySem.F.type_list_append UK (pv 5) (YF (VE.pure (Zc (pv 6))) Wf))))) ZN)))) (by decide) (by intro j;simp;try omega))))
  (Zj (NN (S2 ix_list (Pe (YF JE (YF (pv 4) Wf))) (Z6 SW OC rfl B.int (by decide +kernel) (Zb (QH hr.units (Zw ZX YZ rfl B.len (by decide +kernel) (Zb (Zc (pv 5)) Zg)) (Zc (pv 1))) Zg)) (fun _ _=>rfl)))))))))
abbrev VX:Stmt:=SM 26
theorem sc_l_timesR:ZE (["_law_script","_law_at","_law_many","_law_room","_law_first","_law_found","_law_house","_law_cell_here","_law_deep","_law_k","_law_one","_law_other"]:List Str) (["_law_script","_law_at","_law_many","_law_room"]:List Str) (Zl VX):=⟨rfl,rfl,rfl,by decide +kernel,rfl,by decide +kernel,by decide +kernel⟩
theorem QV(Df:Def K mg "_law_times" VX)(B:SE mg)(C_l_cell:XR P w K mg base "_law_cell" (["_law_script","_law_k"]:List Str) (Xd K Zt 2) 1)(C_l_read_times:XR P w K mg base "_law_read_times" (["_law_rest","_law_many","_law_room","_law_most"]:List Str) (Xd K Yh 4) 1)(C_l_renamed:XR P w K mg base "_law_renamed" (["_law_found","_law_cell_here","_law_many"]:List Str) (Xd K Wc 3) 1):XR P w K mg base "_law_times" (["_law_script","_law_at","_law_many","_law_room"]:List Str) (Xd K ZZ 4) 2:=
 Yf (O:=[5]) (k:=1) 12 WE Df sc_l_timesR (fun _ _ _ _ _ _ us hl=>match us,hl with | [_,_,_,_],_=>rfl) rfl rfl (by decide) (fun fa cdv A outer s H E hr=>
  (Zf (Zs (i:=4) sc_l_timesR.nd rfl (Or.inl rfl) (Zr C_l_cell (hr.mono (by decide)) rfl (Zb (Zc (pv 0)) (Zb (Zc (pv 1)) Zg))))
  (Zf (YQ (VW.vt (TU (MV hr.units (Xv (Zc (pv 4)) Zh) Zh) (V8 (Kk (VM.ve (Zr C_l_read_times (hr.mono (by decide)) rfl (Zb (YI (Zc (pv 4)) Zh) (Zb (Zc (pv 2)) (Zb (Zc (pv 3)) (Zb Zh Zg)))))))))) (Zj (ZO (Zr C_l_read_times (hr.mono (by decide)) rfl (Zb (YI (Zc (pv 4)) Zh) (Zb (Zc (pv 2)) (Zb (Zc (pv 3)) (Zb Zh Zg))))))) ZN)
  (Zf (Zs (i:=5) sc_l_timesR.nd rfl (Or.inl rfl) TY)
  (Zf (Xg PassesOwn.never rfl (Wn rfl B.range (Zb Zh (Zb (Zc (pv 2)) Zg))) (Zx (i:=6) sc_l_timesR.nd rfl (Or.inl rfl)) (Zf (Zs (i:=7) sc_l_timesR.nd rfl (Or.inl rfl) (Zr C_l_cell (hr.mono (by decide)) rfl (Zb (Zc (pv 0)) (Zb (Y6 (Zc (pv 1)) (Zc (pv 6))) Zg))))
  (Zf (Zs (i:=8) sc_l_timesR.nd rfl (Or.inl rfl) (VE.pure (Zw (UI rfl) RV rfl B.min (by decide +kernel) (Zb (Zq (WS (Zb Zh (Zb Zh (Zb Zh (Zb Zh (Zb Zh (Zb Zh Zg))))))) (Xv (YI (Zc (pv 7)) (Zc (pv 6))) Zh)) (Zb (VG (Zc (pv 3)) (VG (VG (Zc (pv 2)) Zh) (Zc (pv 6)))) Zg)))))
  (Zf (Ts (Tj (U9 hr) (pv 5) (Ww (Zb (Xv (Zc (pv 7)) (Zc (pv 6))) (Zb (Zc (pv 6)) Zg))) (Zc (pv 8)) rfl))
  (Zj (Zs (i:=3) sc_l_timesR.nd rfl (Or.inl rfl) (VE.pure (VG (Zc (pv 3)) (Zc (pv 8))))))))))
  (Zf (Zs (i:=9) sc_l_timesR.nd rfl (Or.inl rfl) (VE.pure (Y6 (Zc (pv 1)) Zh)))
  (Zf (Xg PassesOwn.never rfl (Xf rfl B.range (Zb (Zc (pv 2)) Zg)) (Zx (i:=10) sc_l_timesR.nd rfl (Or.inl rfl)) (Zj (Xg PassesOwn.never rfl (Wn rfl B.range (Zb (Y6 (Zc (pv 10)) Zh) (Zb (Zc (pv 2)) Zg))) (Zx (i:=11) sc_l_timesR.nd rfl (Or.inl rfl)) (Zf (Zs (i:=8) sc_l_timesR.nd rfl (Or.inl rfl) (VE.pure (Zq (WS (Zb Zh (Zb Zh (Zb Zh (Zb Zh (Zb Zh (Zb Zh (Zb Zh (Zb Zh Zg))))))))) (Xv (VM.ve (Zr C_l_cell (hr.mono (by decide)) rfl (Zb (Zc (pv 0)) (Zb (Zc (pv 9)) Zg)))) Zh))))
  (Zf (Zs (i:=9) sc_l_timesR.nd rfl (Or.inl rfl) (VE.pure (Y6 (Zc (pv 9)) Zh)))
  (Zj (YQ (VW.vt (TU (NM (U9 hr) (Ww (Zb (Zc (pv 10)) (Zb (Zc (pv 11)) Zg))) (Zc (pv 5))) (V8 (Se Oe U7 (UR _) (UR _) Zh (Zc (pv 8)) (Zc (pv 3)))))) (Zf (Ts (Tj (U9 hr) (pv 5) (Ww (Zb (Zc (pv 10)) (Zb (Zc (pv 11)) Zg))) (Zc (pv 8)) rfl))
  (Zj (Zs (i:=3) sc_l_timesR.nd rfl (Or.inl rfl) (VE.pure (VG (Zc (pv 3)) (Zc (pv 8))))))) ZN)))))))
  (Zj (ZO (Zr C_l_renamed (hr.mono (by decide)) rfl (Zb (Zc (pv 5)) (Zb (YI (VM.ve (Zr C_l_cell (hr.mono (by decide)) rfl (Zb (Zc (pv 0)) (Zb (Zc (pv 1)) Zg)))) Zh) (Zb (Zc (pv 2)) Zg)))))))))))))
abbrev Lf:Stmt:=SM 32
theorem sc_law:ZE (["_law_script","_law_many","_law_room","_law_web","_law_other","_law_second","_law_cell_here"]:List Str) (["_law_script"]:List Str) (Zl Lf):=⟨rfl,rfl,rfl,by decide +kernel,rfl,by decide +kernel,by decide +kernel⟩
theorem II{ff:Addr}{fd:FuncData}(Fn:Fun K "law" "law" Lf ff fd)(B:SE mg)(C_l_cell:XR P w K mg base "_law_cell" (["_law_script","_law_k"]:List Str) (Xd K Zt 2) 1)(C_l_squareR:XR P w K mg base "_law_square" (["_law_times_here","_law_many"]:List Str) (Xd K ZQ 2) 1)(C_l_timesR:XR P w K mg base "_law_times" (["_law_script","_law_at","_law_many","_law_room"]:List Str) (Xd K ZZ 4) 2)(C_l_there_and_back:XR P w K mg base "_law_there_and_back" (["_law_web","_law_cell_here"]:List Str) (Xd K Zm 2) 6):UJ P w K mg base Ot 7 ff fd (["_law_script"]:List Str) (Xd K D_law 1):=
 Iz (O:=[]) (k:=6) 7 O1 Fn sc_law rfl rfl (by decide) (fun fa cdv A outer s H E hr=>
  (Zf (Zs (i:=1) sc_law.nd rfl (Or.inl rfl) (VE.pure (Y6 Zh (Xv (VM.ve (Zr C_l_cell (hr.mono (by decide)) rfl (Zb (Zc (pv 0)) (Zb Zh Zg)))) Zh))))
  (Zf (Zs (i:=2) sc_law.nd rfl (Or.inl rfl) (VE.pure (Zq (WS (Zb Zh (Zb Zh Zg))) (Z6 SW OC rfl B.int (by decide +kernel) (Zb (QH hr.units (Xv (YI (VM.ve (Zr C_l_cell (hr.mono (by decide)) rfl (Zb (Zc (pv 0)) (Zb Zh Zg)))) Zh) Zh) Zh) Zg)))))
  (Zf (Zs (i:=3) sc_law.nd rfl (Or.inl rfl) (Zr C_l_squareR (hr.mono (by decide)) rfl (Zb (VM.ve (Zr C_l_timesR (hr.mono (by decide)) rfl (Zb (Zc (pv 0)) (Zb Zh (Zb (Zc (pv 1)) (Zb (Zc (pv 2)) Zg)))))) (Zb (Zc (pv 1)) Zg))))
  (Zf (Zs (i:=4) sc_law.nd rfl (Or.inl rfl) (VE.pure (Y6 Zh (Xv (VM.ve (Zr C_l_cell (hr.mono (by decide)) rfl (Zb (Zc (pv 0)) (Zb Zh Zg)))) Zh))))
  (Zf (Zs (i:=5) sc_law.nd rfl (Or.inl rfl) (Zr C_l_squareR (hr.mono (by decide)) rfl (Zb (VM.ve (Zr C_l_timesR (hr.mono (by decide)) rfl (Zb (Zc (pv 0)) (Zb Zh (Zb (Zc (pv 4)) (Zb (VG Zh (Zc (pv 2))) Zg)))))) (Zb (Zc (pv 4)) Zg))))
  (Zf (Zs (i:=6) sc_law.nd rfl (Or.inl rfl) (Zr C_l_cell (hr.mono (by decide)) rfl (Zb (Zc (pv 0)) (Zb Zh Zg))))
  (Zf (YQ (VW.vt (QA (Xb (Wg (VM.ve (Zr C_l_there_and_back (hr.mono (by decide)) rfl (Zb (Zc (pv 3)) (Zb (Zc (pv 6)) Zg)))))) (TR (Xb (Wg (VM.ve (Zr C_l_there_and_back (hr.mono (by decide)) rfl (Zb (Zc (pv 5)) (Zb (YI (Zc (pv 6)) Zh) Zg))))))))) (Zj (ZO (VE.pure TN))) ZN)
  (Zj (ZO (Zr C_l_there_and_back (hr.mono (by decide)) rfl (Zb (Zc (pv 3)) (Zb (YI (Zc (pv 6)) Zh) Zg)))))))))))))
end
end PW
namespace PW
open L2 VL
theorem Lg(l:List PV)(lo hi:Option Int):(VJ l lo hi).length<=l.length:=by
 unfold VJ;rw[List.length_take,List.length_drop];omega
theorem N7(ns:List Int)(k:Nat):X6 (VJ (iL ns) (some (k:Int)) (some ((k:Int)+1))++[PV.int 0]) 0=some (.int (Yo ns k)):=by
 have e1:((k:Int)+1)=((k+1:Nat):Int):=by omega
 rw[e1]
 refine Xk (j:=0) ?_
 unfold VJ;rw[HT.sIx_nat,HT.sIx_nat,List.length_map]
 by_cases h:k<ns.length
 ·rw[Nat.min_eq_left (by omega),Nat.min_eq_left (by omega),show k+1-k=1 by omega]
  rw[List.drop_eq_getElem_cons (by rw[List.length_map];exact h)]
  simp[Yo,List.getD_eq_getElem?_getD,List.getElem?_eq_getElem h]
 ·rw[Nat.min_eq_right (by omega),List.drop_eq_nil_of_le (by rw[List.length_map];omega)]
  simp[Yo,List.getD_eq_getElem?_getD,List.getElem?_eq_none (Nat.not_lt.mp h)]
theorem Vr{ns:List Int}(h:ns.length<=63)(k:Nat):Zt [.cst (iL ns),.int (k:Int)]=some (.int (Yo ns k)):=by
 have hl:=Lg (iL ns) (some (k:Int)) (some ((k:Int)+1))
 rw[List.length_map] at hl
 have hp:Zz (VJ (iL ns) (some (k:Int)) (some ((k:Int)+1)))=true:=NJ _ _ (Xa ns)
 have c:(VJ (iL ns) (some (k:Int)) (some ((k:Int)+1))).length+1<=10000:=by omega
 simp[Zt,Sm,Xz,Y1,MQ,NI,Sf,hp,c,N7]
theorem Lh(i:Int):YL [.int i]=some (.bl true):=by
 simp[YL,UZ,Xz,Y1]
theorem KP(l:List Int):XX (iL l)=(List.range l.length).map fun(i:Nat)=>.tup [.int (i:Int),.int (Yo l i)]:=by
 rw[X9,List.length_map]
 apply List.map_congr_left
 intro i hi;rw[Ky l i (List.mem_range.mp hi)]
theorem Vs{α:Type}(f:Nat->List α)(i:Nat):(List.range (i+1)).flatMap f=(List.range i).flatMap f++f i:=by rw[List.range_succ,List.flatMap_append];simp
def tk(e:ZV):List Yi:=[.inl (e.1:Int),.inl (e.2.1:Int)]
def dP(ts:List ZV):PV:=.dT (ts.map tk) (ts.map fun e=>.int e.2.2)
theorem N8(ts:List ZV):Zz (ts.map fun e=>PV.int e.2.2)=true:=UY fun _ _=>rfl
theorem QW(a b:Int):T9 (.tup [.int a,.int b])=some [.inl a,.inl b]:=rfl
theorem PR{e:ZV}{a b:Nat}(h:tk e=[.inl (a:Int),.inl (b:Int)]):e.1=a/\e.2.1=b:=RT h
theorem QX(ts:List ZV):(ts.map tk).zip (ts.map fun e=>PV.int e.2.2)=ts.map fun e=>(tk e,PV.int e.2.2):=by
 induction ts with
 | nil=>rfl
 | cons e r ih=>rw[List.map_cons,List.map_cons,List.zip_cons_cons,ih];rfl
theorem KQ{n:Nat}{ts:List ZV}(ok:DictOk n ts){a b:Nat}{t:Int}(h:(a,b,t)∈ts):X5 (ts.map tk) (ts.map fun e=>PV.int e.2.2) [.inl (a:Int),.inl (b:Int)]=some (.int t):=by
 unfold X5;rw[QX];have nd:=ok.nd
 clear ok
 induction ts with
 | nil=>simp at h
 | cons e r ih=>
  rw[List.map_cons,List.find?_cons];rw[List.map_cons,List.nodup_cons] at nd
  rcases List.mem_cons.mp h with q | q
  ·subst q
   have:decide (tk (a,b,t)=[Sum.inl (a:Int),Sum.inl (b:Int)])=true:=decide_eq_true rfl
   simp only[this,Option.map_some]
  ·have:decide (tk e=[Sum.inl (a:Int),Sum.inl (b:Int)])=false:=decide_eq_false fun z=>by
    obtain⟨h1,h2⟩:=PR z
    exact nd.1 (List.mem_map.mpr ⟨_,q,by simp[h1,h2]⟩)
   simp only[this]
   exact ih q nd.2
theorem QY{n:Nat}{ts:List ZV}(ok:DictOk n ts){a b:Nat}{t:Int}(h:(a,b,t)∈ts):Xr (dP ts) (.tup [.int (a:Int),.int (b:Int)])=some (.int t):=by
 show(T9 (.tup [.int (a:Int),.int (b:Int)])).bind (fun k=>X5 (ts.map tk) (ts.map fun e=>PV.int e.2.2) k)=_
 rw[QW];exact KQ ok h
theorem key_mem{ts:List ZV}{a b:Nat}:[Sum.inl (a:Int),Sum.inl (b:Int)]∈ts.map tk↔∃t,(a,b,t)∈ts:=by
 rw[List.mem_map];constructor
 ·rintro⟨e,he,z⟩
  obtain⟨h1,h2⟩:=PR z
  exact⟨e.2.2,by rw[<-h1,<-h2];exact he⟩
 ·rintro⟨t,ht⟩;exact⟨_,ht,rfl⟩
def PU(ts:List ZV)(a b:Nat):Prop:=∃t,(a,b,t)∈ts
def Ext(ts ts':List ZV):Prop:=∀c d,PU ts c d->PU ts' c d
theorem Ext.refl(ts:List ZV):Ext ts ts:=fun _ _ h=>h
theorem Ext.trans{a b c:List ZV}(h:Ext a b)(g:Ext b c):Ext a c:=fun x y z=>g x y (h x y z)
theorem Tw{n:Nat}{ts:List ZV}{a b:Nat}{t:Int}(ok:DictOk n ts)(hab:a<b)(hb:b<n)(h1:1<=t)(h9:t<=9)(hl:ts.length<=10000) :
  ∃ts',Kr (dP ts) (.tup [.int (a:Int),.int (b:Int)]) (.int t)=some (dP ts')/\DictOk n ts'/\ts'.length<=ts.length+1/\PU ts' a b/\Ext ts ts':=by
 have c:(Zz (ts.map fun e=>PV.int e.2.2)&&ZR (.int t)&&decide ((ts.map tk).length<=10000))=true:=by
  rw[N8,List.length_map,decide_eq_true hl];rfl
 have e0:Kr (dP ts) (.tup [.int (a:Int),.int (b:Int)]) (.int t)=some (.dT (WY (ts.map tk) [.inl (a:Int),.inl (b:Int)]) (WZ (ts.map tk) (ts.map fun e=>PV.int e.2.2) [.inl (a:Int),.inl (b:Int)] (.int t))):=by
  show(gd _).bind _=_
  rw[Uo c,QW];rfl
 rw[e0]
 obtain⟨ts',p1,p2,p3⟩:=Ij ok hab hb h1 h9
 by_cases hm:∃t',(a,b,t')∈ts
 ·refine⟨ts.map fun e=>if(e.1,e.2.1)=(a,b) then(e.1,e.2.1,t) else e,?_,⟨?_,?_⟩,by simp,?_,?_⟩
  ·unfold WY WZ dP
   rw[if_pos (key_mem.mpr hm),if_pos (key_mem.mpr hm),QX,List.map_map,List.map_map,List.map_map]
   congr 2
   ·apply List.map_congr_left
    intro e _
    show tk e=tk (if(e.1,e.2.1)=(a,b) then(e.1,e.2.1,t) else e)
    split<;>rfl
   ·apply List.map_congr_left
    intro e _
    show(if tk e=[Sum.inl (a:Int),Sum.inl (b:Int)] then PV.int t else PV.int e.2.2)=PV.int (if(e.1,e.2.1)=(a,b) then((e.1,e.2.1,t):ZV) else e).2.2
    by_cases q:(e.1,e.2.1)=(a,b)
    ·rw[if_pos q,if_pos (by have:=Prod.mk.inj q;show [Sum.inl (e.1:Int),Sum.inl (e.2.1:Int)]=_;rw[this.1,this.2])]
    ·rw[if_neg q,if_neg (fun z=>q (by obtain⟨h1,h2⟩:=PR z;rw[h1,h2]))]
  ·intro e he
   obtain⟨e',he',rfl⟩:=List.mem_map.mp he
   have:=ok.ok e' he'
   split
   ·exact⟨this.1,this.2.1,h1,h9⟩
   ·exact this
  ·rw[List.map_map]
   have e:((fun e:ZV=>(e.1,e.2.1)) ∘ fun e:ZV=>if(e.1,e.2.1)=(a,b) then(e.1,e.2.1,t) else e)=fun e:ZV=>(e.1,e.2.1):=by
    funext e
    show((if(e.1,e.2.1)=(a,b) then((e.1,e.2.1,t):ZV) else e).1,(if(e.1,e.2.1)=(a,b) then((e.1,e.2.1,t):ZV) else e).2.1)=_
    split<;>rfl
   rw[e];exact ok.nd
  ·obtain⟨t',ht'⟩:=hm
   exact⟨t,List.mem_map.mpr ⟨(a,b,t'),ht',if_pos rfl⟩⟩
  ·rintro c d ⟨u,hu⟩
   by_cases q:(c,d)=(a,b)
   ·exact⟨t,List.mem_map.mpr ⟨(c,d,u),hu,if_pos q⟩⟩
   ·exact⟨u,List.mem_map.mpr ⟨(c,d,u),hu,if_neg q⟩⟩
 ·have hn:∀t',(a,b,t')∉ts:=fun t' h=>hm ⟨t',h⟩
  refine⟨ts++[(a,b,t)],?_,⟨?_,?_⟩,by simp,⟨t,by simp⟩,fun c d ⟨u,hu⟩=>⟨u,List.mem_append_left _ hu⟩⟩
  ·unfold WY WZ dP
   rw[if_neg (fun z=>hm (key_mem.mp z)),if_neg (fun z=>hm (key_mem.mp z)),List.map_append,List.map_append];rfl
  ·intro e he
   rcases List.mem_append.mp he with q | q
   ·exact ok.ok e q
   ·rw[List.mem_singleton.mp q];exact⟨hab,hb,h1,h9⟩
  ·rw[List.map_append]
   refine RN ok.nd ?_
   rw[List.mem_map]
   rintro⟨e,he,q⟩
   have:=Prod.mk.inj q
   obtain⟨a',b',t'⟩:=e
   simp only at this
   rw[this.1,this.2] at he
   exact hn t' he
theorem Uw{i:Nat}{fk fv:XE}{s:ZG}{d k v d':PV}(hv:fv s=some v)(hk:fk s=some k)(hd:(s[i]?).join=some d)(hp:Kr d k v=some d'):VL.sDPut i fk fv s=some (.nx (s.set i (some d'))):=by
 unfold VL.sDPut;rw[hv,hk];simp only[Option.bind_some,hd,hp,Option.map_some]
theorem Qd(ts:List ZV):Rp (dP ts)=some (ts.map fun e=>.tup [.int (e.1:Int),.int (e.2.1:Int)]):=by
 show some ((ts.map tk).map Kt)=_
 rw[List.map_map];rfl
def Cl(ts:List ZV)(P:Nat->Prop):Prop:=∀a b,PU ts a b->(P a↔P b)
def Hang(n:Nat)(ts:List ZV):Prop:=∀P:Nat->Prop,Cl ts P->∀i j,i<n->j<n->(P i↔P j)
def IJ(W:List (List Int)):Prop:=∀P:Nat->Prop,(∀a b,a<W.length->b<W.length->0<Yj W a b->(P a↔P b))->∀i j,i<W.length->j<W.length->(P i↔P j)
theorem Vc{n:Nat}{M:List (List Int)}{e:ZV}(ok:MatOk n M)(h:e.1<e.2.1/\e.2.1<n/\1<=e.2.2/\e.2.2<=9)(i j:Nat):Yj (ZH M e) i j=if e.2.1=i/\e.1=j then e.2.2 else if e.1=i/\e.2.1=j then e.2.2 else Yj M i j:=by
 obtain⟨a,b,t⟩:=e
 simp only at h ⊢
 obtain⟨l1,r1⟩:=XU (t:=t) (b:=b) ok.len ok.row (show a<n by omega)
 show Yj (YW (YW M a b t) b a t) i j=_
 rw[V6 l1 r1 (by omega) (by omega),V6 ok.len ok.row (by omega) (by omega)]
theorem KR{n:Nat}{ts:List ZV}(ok:DictOk n ts){a b:Nat}(h:PU ts a b):a<n/\b<n/\0<Yj (WQ n ts) a b:=by
 have keep:∀(l:List ZV)(M:List (List Int)),(∀e∈l,e.1<e.2.1/\e.2.1<n/\1<=e.2.2/\e.2.2<=9)->MatOk n M->0<Yj M a b->0<Yj (l.foldl ZH M) a b:=by
  intro l
  induction l with
  | nil=>exact fun M _ _ h=>h
  | cons e r ih=>
   intro M hl hM hp
   have he:=hl e (by simp)
   refine ih _ (fun e' h'=>hl e' (by simp[h'])) (hM.step he) ?_
   rw[Vc hM he]
   split
   ·omega
   ·split
    ·omega
    ·exact hp
 have gen:∀(l:List ZV)(M:List (List Int)),(∀e∈l,e.1<e.2.1/\e.2.1<n/\1<=e.2.2/\e.2.2<=9)->MatOk n M->PU l a b->0<Yj (l.foldl ZH M) a b:=by
  intro l
  induction l with
  | nil=>rintro M _ _ ⟨t,ht⟩;simp at ht
  | cons e r ih=>
   rintro M hl hM ⟨t,ht⟩
   have he:=hl e (by simp)
   rcases List.mem_cons.mp ht with q | q
   ·refine keep r _ (fun e' h'=>hl e' (by simp[h'])) (hM.step he) ?_
    rw[Vc hM he];subst q
    simp only at he
    split
    ·show 0<t;omega
    ·rw[if_pos ⟨rfl,rfl⟩];show 0<t;omega
   ·exact ih _ (fun e' h'=>hl e' (by simp[h'])) (hM.step he) ⟨t,q⟩
 obtain⟨t,ht⟩:=id h
 have:=ok.ok _ ht
 simp only at this
 exact⟨by omega,by omega,gen ts _ ok.ok (MatOk.zero n) h⟩
theorem Hang.conn{n:Nat}{ts:List ZV}(h:Hang n ts)(ok:DictOk n ts):IJ (WQ n ts):=by
 intro P hP i j hi hj
 have hl:=(Xu ok).len
 refine h P (fun a b hab=>?_) i j (by omega) (by omega)
 obtain⟨ha,hb,hp⟩:=KR ok hab
 exact hP a b (by omega) (by omega) hp
theorem Ux:∀{l m:List Int},l.Nodup->(∀x∈l,x∈m)->l.length<=m.length
 | [],m,_,_=>Nat.zero_le _
 | x::r,m,nd,h=>by
  have hx:x∈m:=h x (by simp)
  have nd':=List.nodup_cons.mp nd
  have:=Ux (l:=r) (m:=m.erase x) nd'.2 fun y hy=>(List.mem_erase_of_ne (show y≠x from fun z=>nd'.1 (by rw[<-z];exact hy))).mpr (h y (by simp[hy]))
  rw[List.length_erase_of_mem hx] at this;have hp:=List.length_pos_of_mem hx
  rw[List.length_cons];omega
theorem HX{n:Nat}{l:List Int}(nd:l.Nodup)(h:∀x∈l,∃k:Nat,k<n/\x=(k:Int))(hl:l.length=n){j:Nat}(hj:j<n):(j:Int)∈l:=by
 by_cases q:(j:Int)∈l
 ·exact q
 ·have:=Ux (l:=(j:Int)::l) (m:=(List.range n).map fun(k:Nat)=>(k:Int)) (List.nodup_cons.mpr ⟨q,nd⟩) (fun x hx=>by
   rcases List.mem_cons.mp hx with rfl | hx
   ·exact List.mem_map.mpr ⟨j,List.mem_range.mpr hj,rfl⟩
   ·obtain⟨k,hk,rfl⟩:=h x hx
    exact List.mem_map.mpr ⟨k,List.mem_range.mpr hk,rfl⟩)
  rw[List.length_cons,List.length_map,List.length_range] at this;omega
def rL(M:List (List Int)):List PV:=M.map fun r=>.lst (iL r)
theorem Sw{M:List (List Int)}{a:Nat}(h:a<M.length):(rL M)[a]?=some (.lst (iL (Zv M a))):=by
 unfold rL
 rw[List.getElem?_map,Wl h];rfl
theorem Qe{M:List (List Int)}{a b:Nat}{t:Int}:(rL M).set a (.lst ((iL (Zv M a)).set b (.int t)))=rL (YW M a b t):=by
 unfold rL YW;rw[List.map_set]
 show _=(List.map (fun r=>PV.lst (iL r)) M).set a (PV.lst (((Zv M a).set b t).map PV.int))
 rw[List.map_set]
theorem N9{n:Nat}{ts:List ZV}(ok:DictOk n ts)(hn:n<=7):Pz [dP ts,.int (n:Int)]=some (wP (WQ n ts)):=by
 have hc:ZJ 1 [1] (Yk [Za 1]) (.one 0) Yr (Zi Sg (Yz [eC (.int 0)]) (Za 1)) [some (dP ts),some (.int (n:Int)),none,none,none]=some (.lst (rL (List.replicate n (List.replicate n 0)))):=by
  rw[Xh (List.range n) (fun(i:Nat)=>.int (i:Int)) (fun _=>.lst (iL (List.replicate n 0))) (Xi (by simp) (by omega)) (by simp;omega) (fun i _=>⟨_,rfl,rfl,?_⟩)]
  ·unfold rL
   rw[List.map_const',List.length_range,List.map_replicate]
  ·have e:Sg (.lst [.int 0]) (.int (n:Int))=some (.lst (iL (List.replicate n 0))):=by
    show(if Zz [PV.int 0]=true/\(-1000000:Int)<=(n:Int)/\(n:Int)<=1000000/\[PV.int 0].length*((n:Int)).toNat<=10000 then some (PV.lst (List.replicate ((n:Int)).toNat [PV.int 0]).flatten) else none)=_
    rw[if_pos ⟨rfl,by omega,by omega,by simp;omega⟩,Int.toNat_natCast,MC]
    simp
   simp[Z8,e]
 have mat:∀i,MatOk n ((ts.take i).foldl ZH (List.replicate n (List.replicate n 0))):=fun i=>Xu (ts:=ts.take i) ⟨fun e he=>ok.ok e (List.mem_of_mem_take he),by rw[List.map_take];exact ok.nd.sublist (List.take_sublist _ _)⟩
 obtain⟨s',h1,x,y,h2⟩:=ZP (T:=.many [3,4]) (fb:=Zk (Yb 2 (Za 3) (Za 4) (Zi Xr (Za 0) (Xc [Za 3,Za 4]))) (Yb 2 (Za 4) (Za 3) (Zi Xr (Za 0) (Xc [Za 3,Za 4])))) (ls:=ts.map fun e=>.tup [.int (e.1:Int),.int (e.2.1:Int)]) (s:=[some (dP ts),some (.int (n:Int)),some (.lst (rL (List.replicate n (List.replicate n 0)))),none,none])
  (fun i st=>∃x y,st=[some (dP ts),some (.int (n:Int)),some (.lst (rL ((ts.take i).foldl ZH (List.replicate n (List.replicate n 0))))),x,y]) ⟨none,none,rfl⟩ (fun i l st hl hJ=>by
   obtain⟨x,y,rfl⟩:=hJ
   rw[List.getElem?_map] at hl
   cases he:ts[i]? with
   | none=>rw[he] at hl;cases hl
   | some e=>
    rw[he] at hl;cases hl
    obtain⟨a,b,t⟩:=e
    have hmem:(a,b,t)∈ts:=List.mem_of_getElem? he
    obtain⟨hab,hbn,t1,t9⟩:=ok.ok _ hmem
    simp only at hab hbn t1 t9
    have mi:=mat i;have hg:=QY ok hmem
    refine⟨_,_,rfl,?_,some (.int (a:Int)),some (.int (b:Int)),rfl⟩
    show Zk _ _ [some (dP ts),some (.int (n:Int)),some (.lst (rL ((ts.take i).foldl ZH (List.replicate n (List.replicate n 0))))),some (.int (a:Int)),some (.int (b:Int))]=_
    have sh:=XU (t:=t) (b:=b) mi.len mi.row (show a<n by omega)
    have lenM:(rL ((ts.take i).foldl ZH (List.replicate n (List.replicate n 0)))).length=n:=by unfold rL;rw[List.length_map];exact mi.len
    have lenM2:(rL (YW ((ts.take i).foldl ZH (List.replicate n (List.replicate n 0))) a b t)).length=n:=by unfold rL;rw[List.length_map];exact sh.1
    rw[Z9,Wz (l:=.int t) (a:=(a:Int)) (b:=(b:Int)) (j:=a) (c:=b) (m:=rL ((ts.take i).foldl ZH (List.replicate n (List.replicate n 0)))) (n:=iL (Zv ((ts.take i).foldl ZH (List.replicate n (List.replicate n 0))) a)) (by simp[hg]) rfl rfl rfl (Wa (by rw[lenM];omega)) (Sw (by rw[mi.len];omega)) (Xa _) rfl (Wa (by rw[List.length_map,mi.row a (by omega)];omega))]
    simp only[Option.bind_some,Qe]
    show Yb _ _ _ _ [some (dP ts),some (.int (n:Int)),some (.lst (rL (YW ((ts.take i).foldl ZH (List.replicate n (List.replicate n 0))) a b t))),some (.int (a:Int)),some (.int (b:Int))]=_
    rw[Wz (l:=.int t) (a:=(b:Int)) (b:=(a:Int)) (j:=b) (c:=a) (m:=rL (YW ((ts.take i).foldl ZH (List.replicate n (List.replicate n 0))) a b t)) (n:=iL (Zv (YW ((ts.take i).foldl ZH (List.replicate n (List.replicate n 0))) a b t) b)) (by simp[hg]) rfl rfl rfl (Wa (by rw[lenM2];omega)) (Sw (by rw[sh.1];omega)) (Xa _) rfl (Wa (by rw[List.length_map,sh.2 b (by omega)];omega)),Qe]
    have e5:(ts.take (i+1)).foldl ZH (List.replicate n (List.replicate n 0))=ZH ((ts.take i).foldl ZH (List.replicate n (List.replicate n 0))) (a,b,t):=TM _ _ he
    rw[e5];rfl)
 rw[List.length_map,List.take_length] at h2
 have hsq:(ts.foldl ZH (List.replicate n (List.replicate n 0)))=WQ n ts:=rfl
 rw[hsq] at h2
 have hc2:ZJ 1 [] (Ue (Za 2)) (.one 0) Yr (Ze Y0 [Za 0]) [some (dP ts),some (.int (n:Int)),some (.lst (rL (WQ n ts))),x,y]=some (.lst ((WQ n ts).map pP)):=by
  rw[Xh (WQ n ts) (fun r=>.lst (iL r)) pP (by simp[rL]) (by rw[(Xu ok).len];omega) (fun r _=>⟨_,rfl,rfl,by simp[Z8]⟩)]
 show Xz 5 VQ [dP ts,.int (n:Int)]=_
 unfold VQ;simp only[Xz,Y1,List.map_cons,List.map_nil,List.length_cons,List.length_nil,Z9,ZL]
 show(((ZJ 1 [1] (Yk [Za 1]) (.one 0) Yr (Zi Sg (Yz [eC (.int 0)]) (Za 1)) [some (dP ts),some (.int (n:Int)),none,none,none]).map _).bind _).bind Xs=_
 rw[hc];simp only[Option.map_some,Option.bind_some]
 show((Td 0 _ _ [some (dP ts),some (.int (n:Int)),some (.lst (rL (List.replicate n (List.replicate n 0)))),none,none]).bind _).bind Xs=_
 unfold Td
 show(((Rp (dP ts)).bind fun ls=>XC _ _ ls [some (dP ts),some (.int (n:Int)),some (.lst (rL (List.replicate n (List.replicate n 0)))),none,none]).bind _).bind Xs=_
 rw[Qd];simp only[Option.bind_some];rw[h1,h2];simp[hc2]
theorem IK(l:List Int)(k:Nat)(x:Int):(iL l).take k++PV.int x::(iL l).drop k=iL (l.take k++x::l.drop k):=by
 show(l.map PV.int).take k++PV.int x::(l.map PV.int).drop k=(l.take k++x::l.drop k).map PV.int
 rw[List.map_append,List.map_cons,List.map_take,List.map_drop]
theorem PX{n:Nat}{ts:List ZV}(ok:DictOk n ts)(hn:n<=7)(hl:ts.length<=1000)(c:Int):∃ts',Wc [dP ts,.int c,.int (n:Int)]=some (dP ts')/\DictOk n ts'/\ts'.length<=ts.length/\(Hang n ts->Hang n ts'):=by
 obtain⟨s1,h1,c1,x1,l1,e1,nk⟩:=ZP (T:=.one 4) (fb:=Zk (XF 3 (Zi YH (Za 1) (Zi Z4 (Za 4) (eC (.int 1)))) (Za 4)) (Zo 1 (eP (Zi YG (Za 1) (Zi Z4 (Za 4) (eC (.int 1))))))) (ls:=Wh n) (s:=[some (dP ts),some (.int c),some (.int (n:Int)),some (.lst []),none,none,none,none,none])
  (fun i st=>∃(c':Int) (x:Option PV) (l:List Int),st=[some (dP ts),some (.int c'),some (.int (n:Int)),some (.lst (iL l)),x,none,none,none,none]/\NamesOk i l) ⟨c,none,[],rfl,NamesOk.nil⟩ (fun i l st hl hJ=>by
   obtain⟨hi,rfl⟩:=W3 hl
   obtain⟨c',x,nl,rfl,nk⟩:=hJ
   have hd:0<(i:Int)+1:=by omega
   have hm0:=Int.emod_nonneg c' (show(i:Int)+1≠0 by omega)
   have hm1:=Int.emod_lt_of_pos c' hd
   refine⟨_,_,rfl,?_,c'/((i:Int)+1),some (.int (i:Int)),nl.take (c'%((i:Int)+1)).toNat++(i:Int)::nl.drop (c'%((i:Int)+1)).toNat,rfl,nk.ins _⟩
   show Zk _ _ [some (dP ts),some (.int c'),some (.int (n:Int)),some (.lst (iL nl)),some (.int (i:Int)),none,none,none,none]=_
   rw[Z9,Sl (k:=c'%((i:Int)+1)) (l:=.int (i:Int)) (m:=iL nl) (by simp[hd]) rfl rfl (Xa nl) rfl hm0 (by omega) (by rw[List.length_map,nk.len];omega),IK]
   have hcd:VD c' ((i:Int)+1):=Wi hd (by omega)
   simp[hcd])
 have nkn:=nk;rw[W4] at nkn
 obtain⟨s2,h2,x6,x7,x8,ts',e2,ok',hle,hall⟩:=ZP (T:=.many [6,7]) (fb:=Zk (Zo 8 (eP (Xc [Ze WM [Zi ZI (Za 3) (Za 6),Zi ZI (Za 3) (Za 7)],Ze Rg [Zi ZI (Za 3) (Za 6),Zi ZI (Za 3) (Za 7)]]))) (VL.sDPut 5 (Za 8) (Zi Xr (Za 0) (Xc [Za 6,Za 7])))) (ls:=ts.map fun e=>.tup [.int (e.1:Int),.int (e.2.1:Int)])
  (s:=[some (dP ts),some (.int c1),some (.int (n:Int)),some (.lst (iL l1)),x1,some (dP []),none,none,none])
  (fun i st=>∃(x6 x7 x8:Option PV) (ts':List ZV),st=[some (dP ts),some (.int c1),some (.int (n:Int)),some (.lst (iL l1)),x1,some (dP ts'),x6,x7,x8]/\DictOk n ts'/\ts'.length<=i/\∀(j:Nat)(e:ZV),j<i->ts[j]?=some e->PU ts' (Yo l1 e.1).toNat (Yo l1 e.2.1).toNat\/PU ts' (Yo l1 e.2.1).toNat (Yo l1 e.1).toNat) ⟨none,none,none,[],rfl,DictOk.nil n,Nat.le_refl _,fun j e hj _=>by omega⟩ (fun i l st hl' hJ=>by
   obtain⟨x6,x7,x8,ts',rfl,ok',hle,hall⟩:=hJ
   rw[List.getElem?_map] at hl'
   cases he:ts[i]? with
   | none=>rw[he] at hl';cases hl'
   | some e=>
    rw[he] at hl'
    cases hl'
    obtain⟨a,b,t⟩:=e
    have hil:=(List.getElem?_eq_some_iff.mp he).1
    have hmem:(a,b,t)∈ts:=List.mem_of_getElem? he
    obtain⟨hab,hbn,t1,t9⟩:=ok.ok _ hmem
    simp only at hab hbn t1 t9
    have hg:=QY ok hmem;rw[W4] at nk
    have na:=nk.at (x:=a) (by omega)
    have nb:=nk.at (x:=b) (by omega)
    have ne:=nk.ne (x:=a) (y:=b) (by omega) (by omega) (by omega)
    -- the pair
    obtain⟨p,q,ep,eq,hpq,hqn⟩:∃p q:Nat,(if Yo l1 b<Yo l1 a then Yo l1 b else Yo l1 a)=(p:Int)/\(if Yo l1 b>Yo l1 a then Yo l1 b else Yo l1 a)=(q:Int)/\p<q/\q<n:=by
     refine⟨(if Yo l1 b<Yo l1 a then Yo l1 b else Yo l1 a).toNat,(if Yo l1 b>Yo l1 a then Yo l1 b else Yo l1 a).toNat,?_,?_,?_,?_⟩<;>split<;>(try split)<;>omega
    obtain⟨ts2,pe,ok2,hle2,hh2,hx2⟩:=Tw (t:=t) ok' hpq hqn t1 t9 (by omega)
    have ia:=Si (l:=l1) (k:=a) (by rw[nk.len];omega)
    have ib:=Si (l:=l1) (k:=b) (by rw[nk.len];omega)
    refine⟨_,_,rfl,?_,some (.int (a:Int)),some (.int (b:Int)),some (.tup [.int (p:Int),.int (q:Int)]),ts2,rfl,ok2,by omega,fun j e hj hje=>by
     by_cases hji:j<i
     ·exact(hall j e hji hje).imp (hx2 _ _) (hx2 _ _)
     ·have hj':j=i:=by omega
      subst hj'
      rw[he] at hje;cases hje
      show PU ts2 (Yo l1 a).toNat (Yo l1 b).toNat\/PU ts2 (Yo l1 b).toNat (Yo l1 a).toNat
      by_cases hlt:Yo l1 b<Yo l1 a
      ·rw[if_pos hlt] at ep
       rw[if_neg (by omega)] at eq
       exact .inr (by rw[ep,eq];exact hh2)
      ·rw[if_neg hlt] at ep
       rw[if_pos (by omega)] at eq
       exact .inl (by rw[ep,eq];exact hh2)⟩
    show Zk _ _ [some (dP ts),some (.int c1),some (.int (n:Int)),some (.lst (iL l1)),x1,some (dP ts'),some (.int (a:Int)),some (.int (b:Int)),x8]=_
    have hset:Zo 8 (eP (Xc [Ze WM [Zi ZI (Za 3) (Za 6),Zi ZI (Za 3) (Za 7)],Ze Rg [Zi ZI (Za 3) (Za 6),Zi ZI (Za 3) (Za 7)]])) [some (dP ts),some (.int c1),some (.int (n:Int)),some (.lst (iL l1)),x1,some (dP ts'),some (.int (a:Int)),some (.int (b:Int)),x8]=some (.nx [some (dP ts),some (.int c1),some (.int (n:Int)),some (.lst (iL l1)),x1,some (dP ts'),some (.int (a:Int)),some (.int (b:Int)),some (.tup [.int (p:Int),.int (q:Int)])]):=by
     simp[ia,ib,ep,eq]
    rw[Z9,hset];simp only[Option.bind_some]
    rw[Uw (v:=.int t) (k:=.tup [.int (p:Int),.int (q:Int)]) (d:=dP ts') (by simp[hg]) rfl rfl pe]
    rfl)
 rw[List.length_map] at hle hall
 refine⟨ts',?_,ok',hle,fun hg P hP i j hi hj=>?_⟩
 rotate_left
 ·have sur:∀k,k<n->∃x,x<n/\(Yo l1 x).toNat=k:=fun k hk=>by
   have hm:=HX nkn.nd (fun x hx=>⟨x.toNat,by have:=nkn.lo x hx;have:=nkn.hi x hx;omega,by have:=nkn.lo x hx;omega⟩) nkn.len hk
   obtain⟨x,hx,ex⟩:=List.getElem_of_mem hm
   refine⟨x,by rw[<-nkn.len];exact hx,?_⟩
   unfold Yo
   rw[List.getD_eq_getElem?_getD,List.getElem?_eq_getElem hx,ex];rfl
  obtain⟨x,hx,rfl⟩:=sur i hi
  obtain⟨y,hy,rfl⟩:=sur j hj
  refine hg (fun k=>P (Yo l1 k).toNat) (fun a b hab=>?_) x y hx hy
  obtain⟨t,ht⟩:=hab
  obtain⟨k,hk,ek⟩:=List.getElem_of_mem ht
  rcases hall k (a,b,t) hk (by rw[List.getElem?_eq_getElem hk,ek]) with q | q
  ·exact hP _ _ q
  ·exact(hP _ _ q).symm
 show Xz 9 Wb [dP ts,.int c,.int (n:Int)]=_
 unfold Wb;simp only[Xz,Y1,List.map_cons,List.map_nil,List.length_cons,List.length_nil,Z9,ZL]
 have hr:Yk [Za 2] (ZK [3,5] [some (dP ts),some (.int c),some (.int (n:Int)),some (.lst []),none,none,none,none,none])=some (Wh n):=Xi (by simp[ZK]) (by omega)
 show((YB [3,5] (Yk [Za 2]) (.one 4) _ [some (dP ts),some (.int c),some (.int (n:Int)),some (.lst []),none,none,none,none,none]).bind _).bind Xs=_
 rw[Yg,hr];simp only[Option.bind_some]
 rw[show(XC (.one 4) (Zk (XF 3 (Zi YH (Za 1) (Zi Z4 (Za 4) (eC (.int 1)))) (Za 4)) (Zo 1 (eP (Zi YG (Za 1) (Zi Z4 (Za 4) (eC (.int 1))))))) (Wh n) [some (dP ts),some (.int c),some (.int (n:Int)),some (.lst []),none,none,none,none,none])=some (.nx s1) from h1,e1]
 show((Td 0 _ _ [some (dP ts),some (.int c1),some (.int (n:Int)),some (.lst (iL l1)),x1,some (dP []),none,none,none]).bind _).bind Xs=_
 unfold Td
 show(((Rp (dP ts)).bind fun ls=>XC _ _ ls [some (dP ts),some (.int c1),some (.int (n:Int)),some (.lst (iL l1)),x1,some (dP []),none,none,none]).bind _).bind Xs=_
 rw[Qd];simp only[Option.bind_some];rw[h2,e2];rfl
theorem Li{r m:Int}(h1:1<=m)(h9:m<=9):0<=r%2*(1+r/2%m)/\r%2*(1+r/2%m)<=9:=by
 have a1:=Int.emod_nonneg (r/2) (show m≠0 by omega)
 have a2:=Int.emod_lt_of_pos (r/2) (show 0<m by omega)
 have a3:r%2=0\/r%2=1:=by omega
 rcases a3 with e | e<;>rw[e]<;>omega
theorem GS{x y:PV}(c:Int):X6 [x,y] (c%2)=some (if c%2=0 then x else y):=by
 have h:c%2=0\/c%2=1:=by omega
 rcases h with h | h<;>rw[h]<;>rfl
theorem Jt(neg:Bool)(a:Int)(l:List Int):SF neg (.int a) (.lst (iL l))=some (.bl (if neg then !decide (a∈l) else decide (a∈l))):=by
 unfold SF
 have c:((iL l).all fun z=>Xe 8 z (.int a))=true:=by
  rw[List.all_map,List.all_eq_true]
  intro x _;rfl
 show(some (iL l)).bind _=_
 simp only[Option.bind_some,if_pos c]
 have:decide (PV.int a∈iL l)=decide (a∈l):=decide_eq_decide.mpr (by
  rw[List.mem_map];constructor
  ·rintro⟨x,hx,e⟩;cases e;exact hx
  ·intro h;exact⟨a,h,rfl⟩)
 rw[this]
noncomputable def Ju:XS:=(Zk (Zo 8 (eP (Ze WM [(Zi Kh (Zi YH (Za 0) (eC (.int 2))) (Zi Z4 (eC (.int 1)) (Zi YH (Zi YG (Za 0) (eC (.int 2))) (Za 3)))),(Za 2)])))
  (Zk (Zo 0 (eP (Zi ZI (Yz [(Zi YG (Za 0) (eC (.int 2))),(Zi YG (Zi YG (Za 0) (eC (.int 2))) (Za 3))]) (Zi YH (Za 0) (eC (.int 2))))))
  (XZ (xB (Zi Tg (Za 8) (eC (.int 0)))) (Zk (VL.sDPut 4 (Xc [(Za 6),(Za 7)]) (Za 8))
  (Zo 2 (eP (Zi WN (Za 2) (Za 8))))) ZD)))
def Xx(n:Nat)(most:Int)(ts:List ZV)(Zn room:Int)(x6 x7 x8:Option Int)(x9:Option Int)(met:List Int):ZG:=
 [some (.int Zn),some (.int (n:Int)),some (.int room),some (.int most),some (dP ts),some (.lst (iL met)),x6.map PV.int,x7.map PV.int,x8.map PV.int,x9.map PV.int]
theorem IL{n:Nat}{most:Int}{ts:List ZV}{Zn room:Int}{a b:Nat}{x8 x9:Option Int}{met:List Int}(h1:1<=most)(h9:most<=9)(ok:DictOk n ts)(hl:ts.length<=1000)(hab:a<b)(hb:b<n) :
  ∃ts' rest' room' x8',Ju (Xx n most ts Zn room (some (a:Int)) (some (b:Int)) x8 x9 met)=some (.nx (Xx n most ts' rest' room' (some (a:Int)) (some (b:Int)) (some x8') x9 met))/\DictOk n ts'/\ts'.length<=ts.length+1:=by
 obtain⟨d0,d9⟩:=Li (r:=Zn) h1 h9
 have cm:CMul (Zn%2) (1+Zn/2%most):=IB (by omega) (by omega)
 have cd:VD Zn 2:=Wi (by omega) (by omega)
 have cd2:VD (Zn/2) most:=Wi (by omega) (by omega)
 have hm:0<most:=by omega
 generalize hdp:(if room<Zn%2*(1+Zn/2%most) then room else Zn%2*(1+Zn/2%most))=dp
 have hdp9:dp<=9:=by rw[<-hdp];split<;>omega
 generalize hrs:(if Zn%2=0 then Zn/2 else Zn/2/most)=rs
 have hif:(if Zn%2=0 then PV.int (Zn/2) else PV.int (Zn/2/most))=PV.int rs:=by rw[<-hrs];split<;>rfl
 have first:(Zk (Zo 8 (eP (Ze WM [(Zi Kh (Zi YH (Za 0) (eC (.int 2))) (Zi Z4 (eC (.int 1)) (Zi YH (Zi YG (Za 0) (eC (.int 2))) (Za 3)))),(Za 2)]))) (Zo 0 (eP (Zi ZI (Yz [(Zi YG (Za 0) (eC (.int 2))),(Zi YG (Zi YG (Za 0) (eC (.int 2))) (Za 3))]) (Zi YH (Za 0) (eC (.int 2)))))))
   (Xx n most ts Zn room (some (a:Int)) (some (b:Int)) x8 x9 met)=some (.nx (Xx n most ts rs room (some (a:Int)) (some (b:Int)) (some dp) x9 met)):=by
  simp[Xx,cm,cd,cd2,hm,GS,hif,hdp]
 have split3:∀(f g h:XS)(s s1:ZG),Zk f g s=some (.nx s1)->Zk f (Zk g h) s=h s1:=fun f g h s s1 e=>by
  simp only[Z9] at e ⊢
  cases q:f s with
  | none=>rw[q] at e;cases e
  | some o=>
   rw[q] at e
   cases o with
   | nx s2=>
    simp only[Option.bind_some] at e ⊢
    rw[e];rfl
   | _=>cases e
 by_cases hpos:0<dp
 ·obtain⟨ts2,pe,ok2,hle2,_,_⟩:=Tw (t:=dp) ok hab hb (by omega) hdp9 (by omega)
  refine⟨ts2,rs,room-dp,dp,?_,ok2,hle2⟩
  unfold Ju;rw[split3 _ _ _ _ _ first]
  have hput:=Uw (i:=4) (fk:=Xc [Za 6,Za 7]) (fv:=Za 8) (s:=Xx n most ts rs room (some (a:Int)) (some (b:Int)) (some dp) x9 met) (v:=.int dp) (k:=.tup [.int (a:Int),.int (b:Int)]) (d:=dP ts) rfl (by simp[Xx]) rfl pe
  have ht:xB (Zi Tg (Za 8) (eC (.int 0))) (Xx n most ts rs room (some (a:Int)) (some (b:Int)) (some dp) x9 met)=some true:=by simp[Xx,hpos]
  rw[Yc,ht];simp only[Option.bind_some,if_true];rw[Z9,hput];simp[Xx]
 ·refine⟨ts,rs,room,dp,?_,ok,by omega⟩
  unfold Ju;rw[split3 _ _ _ _ _ first]
  have ht:xB (Zi Tg (Za 8) (eC (.int 0))) (Xx n most ts rs room (some (a:Int)) (some (b:Int)) (some dp) x9 met)=some false:=by simp[Xx,hpos]
  rw[Yc,ht]
  simp
theorem Lj{n:Nat}{most:Int}{a:Nat}{ts:List ZV}{Zn room:Int}{x7 x8 x9:Option Int}{met:List Int}(h1:1<=most)(h9:most<=9)(ok:DictOk n ts)(hl:ts.length<=100)(ha:a<n)(hn:n<=7) :
  ∃ts' rest' room' y7 y8,XC (.one 7) Ju (XW ((a:Int)+1) (n-(a+1))) (Xx n most ts Zn room (some (a:Int)) x7 x8 x9 met)=some (.nx (Xx n most ts' rest' room' (some (a:Int)) y7 y8 x9 met))/\DictOk n ts'/\ts'.length<=ts.length+7:=by
 obtain⟨s',h,ts',rest',room',y7,y8,e,ok',hle⟩:=ZP (T:=.one 7) (fb:=Ju) (ls:=XW ((a:Int)+1) (n-(a+1))) (s:=Xx n most ts Zn room (some (a:Int)) x7 x8 x9 met)
  (fun j st=>∃ts' rest' room' y7 y8,st=Xx n most ts' rest' room' (some (a:Int)) y7 y8 x9 met/\DictOk n ts'/\ts'.length<=ts.length+j) ⟨ts,Zn,room,x7,x8,rfl,ok,by omega⟩ (fun j l st hl' hJ=>by
   obtain⟨hj,rfl⟩:=Ul hl'
   obtain⟨ts',rest',room',y7,y8,rfl,ok',hle⟩:=hJ
   have e1:(a:Int)+1+(j:Int)=((a+1+j:Nat):Int):=by omega
   rw[e1]
   obtain⟨ts2,r2,m2,z8,e2,ok2,hle2⟩:=IL (Zn:=rest') (room:=room') (x8:=y8) (x9:=x9) (met:=met) h1 h9 ok' (by omega) (show a<a+1+j by omega) (by omega)
   exact⟨_,_,rfl,e2,ts2,r2,m2,some ((a+1+j:Nat):Int),some z8,rfl,ok2,by omega⟩)
 rw[Um] at hle
 exact⟨ts',rest',room',y7,y8,by rw[h,e],ok',by omega⟩
theorem Lk{n:Nat}{most:Int}{Zn room:Int}{met:List Int}(h1:1<=most)(h9:most<=9)(hn:n<=7) :
  ∃ts' rest' room' y6 y7 y8,XC (.one 6) (YB [4,5] (Yq [Zi Z4 (Za 6) (eC (.int 1)),Za 1]) (.one 7) Ju) (Wh n) (Xx n most [] Zn room none none none none met)=some (.nx (Xx n most ts' rest' room' y6 y7 y8 none met))/\DictOk n ts'/\ts'.length<=49:=by
 obtain⟨s',h,ts',rest',room',y6,y7,y8,e,ok',hle⟩:=ZP (T:=.one 6) (fb:=YB [4,5] (Yq [Zi Z4 (Za 6) (eC (.int 1)),Za 1]) (.one 7) Ju) (ls:=Wh n) (s:=Xx n most [] Zn room none none none none met)
  (fun i st=>∃ts' rest' room' y6 y7 y8,st=Xx n most ts' rest' room' y6 y7 y8 none met/\DictOk n ts'/\ts'.length<=7*i) ⟨[],Zn,room,none,none,none,rfl,DictOk.nil n,by simp⟩ (fun i l st hl' hJ=>by
   obtain⟨hi,rfl⟩:=W3 hl'
   obtain⟨ts',rest',room',y6,y7,y8,rfl,ok',hle⟩:=hJ
   obtain⟨ts2,r2,m2,z7,z8,e2,ok2,hle2⟩:=Lj (Zn:=rest') (room:=room') (x7:=y7) (x8:=y8) (x9:=none) (met:=met) h1 h9 ok' (by omega) hi hn
   refine⟨_,_,rfl,?_,ts2,r2,m2,some (i:Int),z7,z8,rfl,ok2,by omega⟩
   have hr:Yq [Zi Z4 (Za 6) (eC (.int 1)),Za 1] (ZK [4,5] (Xx n most ts' rest' room' (some (i:Int)) y7 y8 none met))=some (XW ((i:Int)+1) (n-(i+1))):=by
    rw[Wo (i:=(i:Int)+1) (j:=(n:Int)) (by simp[ZK,Xx]) (by simp[ZK,Xx]) ⟨by omega,by omega⟩ ⟨by omega,by omega⟩]
    congr 2;omega
   show YB _ _ _ _ (Xx n most ts' rest' room' (some (i:Int)) y7 y8 none met)=_
   rw[Yg,hr]
   exact e2)
 rw[W4] at hle
 exact⟨ts',rest',room',y6,y7,y8,by rw[h,e],ok',by omega⟩
noncomputable def PY:XS:=(Zk (XZ (Wv (xB (Zi (SF false) (Za 6) (Za 5))) (xB (Zi (SF true) (Za 7) (Za 5)))) (Xl 5 (eP (Za 7))) ZD)
  (XZ (Wv (xB (Zi (SF false) (Za 7) (Za 5))) (xB (Zi (SF true) (Za 6) (Za 5)))) (Xl 5 (eP (Za 6))) ZD))
structure MetOk(n:Nat)(ts:List ZV)(met:List Int):Prop where
 nd:met.Nodup
 ok:∀m∈met,∃k:Nat,k<n/\m=(k:Int)/\∀P:Nat->Prop,Cl ts P->(P k↔P 0)
theorem MetOk.add{n:Nat}{ts:List ZV}{met:List Int}{a b:Nat}(h:MetOk n ts met)(hab:PU ts a b\/PU ts b a)(hb:b<n)(ha:(a:Int)∈met)(hnb:(b:Int)∉met):MetOk n ts (met++[(b:Int)]):=by
 refine⟨?_,fun m hm=>?_⟩
 ·rw[List.nodup_append]
  refine⟨h.nd,by simp,fun x hx y hy z=>?_⟩
  rw[List.mem_singleton.mp hy] at z
  exact hnb (z▸hx)
 ·rcases List.mem_append.mp hm with hm | hm
  ·exact h.ok m hm
  ·refine⟨b,hb,List.mem_singleton.mp hm,fun P hP=>?_⟩
   obtain⟨k,hk,e,q⟩:=h.ok _ ha
   have:a=k:=by omega
   subst this
   rcases hab with z | z
   ·exact(hP _ _ z).symm.trans (q P hP)
   ·exact(hP _ _ z).trans (q P hP)
theorem MetOk.hang{n:Nat}{ts:List ZV}{met:List Int}(h:MetOk n ts met)(hl:met.length=n):Hang n ts:=by
 have all:∀P,Cl ts P->∀i,i<n->(P i↔P 0):=fun P hP i hi=>by
  have hm:=HX h.nd (fun x hx=>by obtain⟨k,hk,e,_⟩:=h.ok x hx;exact⟨k,hk,e⟩) hl hi
  obtain⟨k,hk,e,q⟩:=h.ok _ hm
  have:i=k:=by omega
  subst this
  exact q P hP
 exact fun P hP i j hi hj=>(all P hP i hi).trans (all P hP j hj).symm
theorem QZ{n:Nat}{most:Int}{ts:List ZV}{Zn room:Int}{a b:Int}{x8 x9:Option Int}{met:List Int}(hl:met.length<=5000)(f g:Nat)(va vb:Int)(hf:∀met,(Xx n most ts Zn room (some a) (some b) x8 x9 met)[f]?=some (some (.int va)))(hg:∀met,(Xx n most ts Zn room (some a) (some b) x8 x9 met)[g]?=some (some (.int vb))) :
  ∃met',XZ (Wv (xB (Zi (SF false) (Za f) (Za 5))) (xB (Zi (SF true) (Za g) (Za 5)))) (Xl 5 (eP (Za g))) ZD (Xx n most ts Zn room (some a) (some b) x8 x9 met)=some (.nx (Xx n most ts Zn room (some a) (some b) x8 x9 met'))/\met'.length<=met.length+1/\(met'=met\/(va∈met/\vb∉met/\met'=met++[vb])):=by
 have h5:(Xx n most ts Zn room (some a) (some b) x8 x9 met)[5]?=some (some (.lst (iL met))):=rfl
 have t:Wv (xB (Zi (SF false) (Za f) (Za 5))) (xB (Zi (SF true) (Za g) (Za 5))) (Xx n most ts Zn room (some a) (some b) x8 x9 met)=some (decide (va∈met)&&!decide (vb∈met)):=by
  simp only[QL,Yt,ZA,Xt,hf,hg,h5,Option.join_some,Option.bind_some,Jt,M4]
  by_cases h:va∈met<;>simp[h]
 rw[Yc,t];simp only[Option.bind_some]
 split
 ·rename_i hc
  refine⟨met++[vb],?_,by simp,.inr ⟨by simp at hc;exact hc.1,by simp at hc;exact hc.2,rfl⟩⟩
  rw[Sk (l:=.int vb) (m:=iL met) (by simp only[Xw,Xt,hg,Option.join_some,Option.bind_some,NP,if_true]) rfl (by rw[List.length_map];omega)]
  simp[Xx]
 ·exact⟨met,rfl,by omega,.inl rfl⟩
theorem KS{n:Nat}{most:Int}{ts:List ZV}{Zn room:Int}{a b:Int}{x8 x9:Option Int}{met:List Int}(hl:met.length<=4000) :
  ∃met',PY (Xx n most ts Zn room (some a) (some b) x8 x9 met)=some (.nx (Xx n most ts Zn room (some a) (some b) x8 x9 met'))/\met'.length<=met.length+2/\(∀a' b':Nat,a=a'->b=b'->PU ts a' b'->a'<n->b'<n->MetOk n ts met->MetOk n ts met'):=by
 obtain⟨m1,e1,l1,o1⟩:=QZ (n:=n) (most:=most) (ts:=ts) (Zn:=Zn) (room:=room) (a:=a) (b:=b) (x8:=x8) (x9:=x9) (met:=met) (by omega) 6 7 a b (fun _=>rfl) (fun _=>rfl)
 obtain⟨m2,e2,l2,o2⟩:=QZ (n:=n) (most:=most) (ts:=ts) (Zn:=Zn) (room:=room) (a:=a) (b:=b) (x8:=x8) (x9:=x9) (met:=m1) (by omega) 7 6 b a (fun _=>rfl) (fun _=>rfl)
 refine⟨m2,?_,by omega,fun a' b' ha hb hab han hbn mk=>?_⟩
 rotate_left
 ·subst ha hb
  have k1:MetOk n ts m1:=by
   rcases o1 with rfl | ⟨u,v,rfl⟩
   ·exact mk
   ·exact mk.add (.inl hab) hbn u v
  rcases o2 with rfl | ⟨u,v,rfl⟩
  ·exact k1
  ·exact k1.add (.inr hab) han u v
 unfold PY;rw[Z9,e1];exact e2
theorem Ma{n:Nat}{most:Int}{ts:List ZV}{Zn room:Int}{x6 x7 x8 x9:Option Int}{met:List Int}:Py [4,5] (.nx (Xx n most ts Zn room x6 x7 x8 x9 met)) = .nx (Xx n most ts Zn room x6 x7 x8 x9 met):=by
 cases x6<;>cases x7<;>cases x8<;>cases x9<;>rfl
theorem Ll{n:Nat}{most:Int}{ts:List ZV}{Zn room:Int}{x6 x7 x8 x9:Option Int}{met:List Int}(hl:met.length<=2000)(ht:ts.length<=49)(ok:DictOk n ts)(mk:MetOk n ts met) :
  ∃y6 y7 met',VP [4,5] 4 (.many [6,7]) PY (Xx n most ts Zn room x6 x7 x8 x9 met)=some (.nx (Xx n most ts Zn room y6 y7 x8 x9 met'))/\met'.length<=met.length+98/\MetOk n ts met':=by
 obtain⟨s',h,y6,y7,met',e,hle,mk'⟩:=ZP (T:=.many [6,7]) (fb:=PY) (ls:=ts.map fun e=>.tup [.int (e.1:Int),.int (e.2.1:Int)]) (s:=Xx n most ts Zn room x6 x7 x8 x9 met)
  (fun j st=>∃y6 y7 met',st=Xx n most ts Zn room y6 y7 x8 x9 met'/\met'.length<=met.length+2*j/\MetOk n ts met') ⟨x6,x7,met,rfl,by omega,mk⟩ (fun j l st hl' hJ=>by
   obtain⟨y6,y7,met',rfl,hle,mk'⟩:=hJ
   rw[List.getElem?_map] at hl'
   cases he:ts[j]? with
   | none=>rw[he] at hl';cases hl'
   | some e=>
    rw[he] at hl'
    cases hl'
    have hj:=(List.getElem?_eq_some_iff.mp he).1
    have hmem:=List.mem_of_getElem? he
    have hoe:=ok.ok e hmem
    obtain⟨m2,e2,l2,o2⟩:=KS (n:=n) (most:=most) (ts:=ts) (Zn:=Zn) (room:=room) (a:=(e.1:Int)) (b:=(e.2.1:Int)) (x8:=x8) (x9:=x9) (met:=met') (by omega)
    exact⟨_,_,rfl,e2,some (e.1:Int),some (e.2.1:Int),m2,rfl,by omega,o2 e.1 e.2.1 rfl rfl ⟨e.2.2,hmem⟩ (by omega) (by omega) mk'⟩)
 rw[List.length_map] at hle
 refine⟨y6,y7,met',?_,by omega,mk'⟩
 unfold VP
 show((Rp (dP ts)).bind fun ls=>(XC _ _ ls _).map (Py [4,5]))=_
 rw[Qd];simp only[Option.bind_some];rw[h,e,Option.map_some,Ma]
theorem KU{n:Nat}{most:Int}{ts:List ZV}{Zn room:Int}{x6 x7 x8:Option Int}(ht:ts.length<=49)(hn:n<=7)(ok:DictOk n ts)(hn1:1<=n) :
  ∃y6 y7 y9 met',XC (.one 9) (VP [4,5] 4 (.many [6,7]) PY) (Wh n) (Xx n most ts Zn room x6 x7 x8 none [0])=some (.nx (Xx n most ts Zn room y6 y7 x8 y9 met'))/\MetOk n ts met':=by
 obtain⟨s',h,y6,y7,y9,met',e,hle,mk⟩:=ZP (T:=.one 9) (fb:=VP [4,5] 4 (.many [6,7]) PY) (ls:=Wh n) (s:=Xx n most ts Zn room x6 x7 x8 none [0])
  (fun i st=>∃y6 y7 y9 met',st=Xx n most ts Zn room y6 y7 x8 y9 met'/\met'.length<=1+98*i/\MetOk n ts met') ⟨x6,x7,none,[0],rfl,by simp,⟨by simp,fun m hm=>⟨0,by omega,List.mem_singleton.mp hm,fun P _=>Iff.rfl⟩⟩⟩ (fun i l st hl' hJ=>by
   obtain⟨hi,rfl⟩:=W3 hl'
   obtain⟨y6,y7,y9,met',rfl,hle,mk⟩:=hJ
   obtain⟨z6,z7,m2,e2,l2,mk2⟩:=Ll (n:=n) (most:=most) (ts:=ts) (Zn:=Zn) (room:=room) (x6:=y6) (x7:=y7) (x8:=x8) (x9:=some (i:Int)) (met:=met') (by omega) ht ok mk
   exact⟨_,_,rfl,e2,z6,z7,some (i:Int),m2,rfl,by omega,mk2⟩)
 exact⟨y6,y7,y9,met',by rw[h,e],mk⟩
theorem SR{n:Nat}{most Zn room:Int}(h1:1<=most)(h9:most<=9)(hn:n<=7)(hn1:1<=n):∃r,Yh [.int Zn,.int (n:Int),.int room,.int most]=some r/\(r = .non\/∃ts,r=dP ts/\DictOk n ts/\ts.length<=49/\Hang n ts):=by
 obtain⟨ts,rest',room',y6,y7,y8,e1,ok,hle⟩:=Lk (n:=n) (Zn:=Zn) (room:=room) (met:=[0]) h1 h9 hn
 obtain⟨z6,z7,z9,met,e2,mk⟩:=KU (n:=n) (most:=most) (ts:=ts) (Zn:=rest') (room:=room') (x6:=y6) (x7:=y7) (x8:=y8) hle hn ok hn1
 refine⟨if met.length=n then dP ts else .non,?_,?_⟩
 ·show Xz 10 Y9 [.int Zn,.int (n:Int),.int room,.int most]=_
  have r1:Yk [Za 1] (ZK [4,5] (Xx n most [] Zn room none none none none [0]))=some (Wh n):=Xi (by simp[ZK,Xx]) (by omega)
  have r2:Yk [Za 1] (ZK [4,5] (Xx n most ts rest' room' y6 y7 y8 none [0]))=some (Wh n):=Xi (by simp[ZK,Xx]) (by omega)
  unfold Y9;simp only[Xz,Y1,List.map_cons,List.map_nil,List.length_cons,List.length_nil,Z9,ZL]
  show((YB [4,5] (Yk [Za 1]) (.one 6) (YB [4,5] (Yq [Zi Z4 (Za 6) (eC (.int 1)),Za 1]) (.one 7) Ju) (Xx n most [] Zn room none none none none [0])).bind _).bind Xs=_
  rw[Yg,r1];simp only[Option.bind_some];rw[e1];simp only[Option.bind_some]
  show((YB [4,5] (Yk [Za 1]) (.one 9) (VP [4,5] 4 (.many [6,7]) PY) (Xx n most ts rest' room' y6 y7 y8 none [0])).bind _).bind Xs=_
  rw[Yg,r2];simp only[Option.bind_some];rw[e2];simp only[Option.bind_some];unfold R1
  by_cases h:met.length=n
  ·simp[Xx,h]
  ·have h':¬((met.length:Int)=(n:Int)):=by omega
   simp[Xx,h,h']
 ·by_cases h:met.length=n
  ·rw[if_pos h];exact .inr ⟨ts,rfl,ok,hle,mk.hang h⟩
  ·rw[if_neg h];exact .inl rfl
theorem GU(c:Int):∃v:Int,1<=v/\v<=9/\X6 [PV.int 1,PV.int 1,PV.int 1,PV.int 2,PV.int 3,PV.int 9] (c%6)=some (.int v):=by
 have h:c%6=0\/c%6=1\/c%6=2\/c%6=3\/c%6=4\/c%6=5:=by omega
 rcases h with h | h | h | h | h | h<;>rw[h]
 ·exact⟨1,by decide,by decide,rfl⟩
 ·exact⟨1,by decide,by decide,rfl⟩
 ·exact⟨1,by decide,by decide,rfl⟩
 ·exact⟨2,by decide,by decide,rfl⟩
 ·exact⟨3,by decide,by decide,rfl⟩
 ·exact⟨9,by decide,by decide,rfl⟩
theorem GV(c:Int):∃v:Int,0<=v/\v<=9/\X6 [PV.int 0,PV.int 0,PV.int 0,PV.int 1,PV.int 1,PV.int 2,PV.int 4,PV.int 9] (c%8)=some (.int v):=by
 have h:c%8=0\/c%8=1\/c%8=2\/c%8=3\/c%8=4\/c%8=5\/c%8=6\/c%8=7:=by omega
 rcases h with h | h | h | h | h | h | h | h<;>rw[h]
 ·exact⟨0,by decide,by decide,rfl⟩
 ·exact⟨0,by decide,by decide,rfl⟩
 ·exact⟨0,by decide,by decide,rfl⟩
 ·exact⟨1,by decide,by decide,rfl⟩
 ·exact⟨1,by decide,by decide,rfl⟩
 ·exact⟨2,by decide,by decide,rfl⟩
 ·exact⟨4,by decide,by decide,rfl⟩
 ·exact⟨9,by decide,by decide,rfl⟩
theorem IM(ts:List ZV)(a b:Int):∃c,Gm (dP ts) (.tup [.int a,.int b])=some c:=⟨_,rfl⟩
theorem HY{f g h k:XS}{s s1 s2 s3:ZG}(e1:f s=some (.nx s1))(e2:g s1=some (.nx s2))(e3:h s2=some (.nx s3)):Zk f (Zk g (Zk h k)) s=k s3:=by
 simp only[Z9,e1,e2,e3,Option.bind_some]
theorem ZW{f g:XS}{s s1:ZG}(e1:f s=some (.nx s1)):Zk f g s=g s1:=by
 simp only[Z9,e1,Option.bind_some]
theorem HZ{f g h:XS}{s s1 s2:ZG}(e1:f s=some (.nx s1))(e2:g s1=some (.nx s2)):Zk f (Zk g h) s=h s2:=by
 simp only[Z9,e1,e2,Option.bind_some]
theorem KW{a b:List Int}(hl:a.length=b.length)(h:∀i,i<a.length->Yo a i=Yo b i):a=b:=by
 rw[<-Rb a,<-Rb b,hl]
 apply List.map_congr_left
 intro i hi
 exact h i (by rw[hl];exact List.mem_range.mp hi)
theorem Ox{l:List Int}{h i:Nat}{v:Int}(hi:i<l.length):Yo (l.set h v) i=if i=h then v else Yo l i:=by
 unfold Yo;rw[List.getD_eq_getElem?_getD,List.getD_eq_getElem?_getD,List.getElem?_set]
 by_cases e:h=i
 ·subst e
  rw[if_pos rfl,if_pos rfl,if_pos hi];rfl
 ·rw[if_neg e,if_neg (Ne.symm e)]
theorem IP(n:Nat)(c:Int):(List.replicate n [PV.int c]).flatten=iL (List.replicate n c):=by
 induction n with
 | zero=>rfl
 | succ n ih=>rw[List.replicate_succ,List.flatten_cons,ih,List.replicate_succ];rfl
theorem IQ{M:List (List Int)}{a:Nat}(h:a<M.length):X6 (rL M) (a:Int)=some (.lst (iL (Zv M a))):=Xk (Sw h)
theorem KY{M:List (List Int)}{a b:Nat}{t:Int}(hr:∀i,i<M.length->(Zv M i).length=M.length)(hab:a<b)(hb:b<M.length)(h1:1<=t)(h9:t<=9)(h0:Yj M a b=0) :
  W6 [.lst (rL M),pP [(a:Int),(b:Int),t]]=some (.bl true):=by
 have g0:X6 [PV.int (a:Int),PV.int (b:Int),PV.int t] 0=some (.int (a:Int)):=rfl
 have g1:X6 [PV.int (a:Int),PV.int (b:Int),PV.int t] 1=some (.int (b:Int)):=rfl
 have g2:X6 [PV.int (a:Int),PV.int (b:Int),PV.int t] 2=some (.int t):=rfl
 have lr:(rL M).length=M.length:=by simp[rL]
 have ev:X6 (iL (Zv M a)) (b:Int)=some (.int 0):=by
  have:=Si (l:=Zv M a) (k:=b) (by rw[hr a (by omega)];exact hb)
  rw[this];show some (PV.int (Yj M a b))=_;rw[h0]
 have p1:(0:Int)<=(a:Int):=by omega
 have p2:(a:Int)<(b:Int):=by omega
 have p3:(b:Int)<(M.length:Int):=by omega
 simp[W6,PJ,Xz,Y1,KC,Qi,g0,g1,g2,lr,hab,hb,h1,h9,IQ (show a<M.length by omega),ev]
theorem Mb{c:XT}{fb:XS}(Jv:ZG->Prop)(μ:ZG->Nat)(step:∀st,Jv st->c st=some false\/(c st=some true/\∃s2,fb st=some (.nx s2)/\Jv s2/\μ s2<μ st)){s:ZG}(h0:Jv s) :
  ∃s',UW c fb s=some (.nx s')/\Jv s'/\c s'=some false:=by
 have gen:∀(k:Nat)(st:ZG),μ st<k->Jv st->∃s',YC c fb k st=some (.nx s')/\Jv s'/\c s'=some false:=by
  intro k
  induction k with
  | zero=>intro st h;omega
  | succ k ih=>
   intro st hk hJ
   rcases step st hJ with hc | ⟨hc,s2,e,hJ2,hm⟩
   ·exact⟨st,by unfold YC;rw[hc];rfl,hJ,hc⟩
   ·obtain⟨s',a,b,d⟩:=ih s2 (by omega) hJ2
    refine⟨s',?_,b,d⟩
    unfold YC;rw[hc];simp only[Option.bind_some,if_true,e];exact a
 obtain⟨s',a,b,d⟩:=gen (μ s+1) s (by omega) h0
 exact⟨s',NK a,b,d⟩
def Yv(l:List Nat):List Int:=l.map fun(i:Nat)=>(i:Int)
noncomputable abbrev bR:XS:=(Zk (Zo 3 (eP (Zi ZI (Za 0) (Zi ZI (Za 1) (Za 2)))))
  (Zk (XD 1 (ZJ 2 [1] (X8 false [(Za 3)]) (.many [0,1]) (Wv (xB (Zi Tg (Za 1) (eC (.int 0)))) (xB (Zi (SF true) (Za 0) (Za 2)))) (eP (Za 0))))
  (NL 2 Z4 (eC (.int 1)))))
structure Reach(W:List (List Int))(l:List Nat)(k:Nat):Prop where
 nd:l.Nodup
 lt:∀x∈l,x<W.length
 ze:0∈l
 kl:k<=l.length
 cl:∀m x,m<k->l[m]?=some x->∀y,y<W.length->0<Yj W x y->y∈l
def SS(W:List (List Int))(l:List Nat)(x:Nat):List Nat:=(List.range W.length).filter fun y=>decide (0<Yj W x y)&&!decide (y∈l)
theorem Reach.step{W:List (List Int)}{l:List Nat}{k x:Nat}(h:Reach W l k)(hx:l[k]?=some x):Reach W (l++SS W l x) (k+1):=by
 have hk:=(List.getElem?_eq_some_iff.mp hx).1
 have mem:∀y,y∈SS W l x↔y<W.length/\0<Yj W x y/\y∉l:=fun y=>by
  unfold SS;rw[List.mem_filter,List.mem_range]
  simp
 refine⟨?_,fun y hy=>?_,List.mem_append_left _ h.ze,by rw[List.length_append];omega,fun m z hm hz y hy hp=>?_⟩
 ·rw[List.nodup_append]
  refine⟨h.nd,List.Pairwise.filter _ List.nodup_range,fun y hy z hz e=>?_⟩
  subst e
  exact((mem y).mp hz).2.2 hy
 ·rcases List.mem_append.mp hy with hy | hy
  ·exact h.lt y hy
  ·exact((mem y).mp hy).1
 ·rw[List.getElem?_append_left (by omega)] at hz
  by_cases q:m=k
  ·subst q
   rw[hx] at hz;cases hz
   by_cases hl:y∈l
   ·exact List.mem_append_left _ hl
   ·exact List.mem_append_right _ ((mem y).mpr ⟨hy,hp,hl⟩)
  ·exact List.mem_append_left _ (h.cl m z (by omega) hz y hy hp)
theorem Reach.all{W:List (List Int)}{l:List Nat}(h:Reach W l l.length)(ok:WL W)(cn:IJ W){i:Nat}(hi:i<W.length):i∈l:=by
 have:=cn (fun x=>x∈l) fun a b ha hb hp=>⟨fun z=>?_,fun z=>?_⟩
 ·exact(this 0 i ok.pos hi).mp h.ze
 ·obtain⟨m,hm,e⟩:=List.getElem_of_mem z
  exact h.cl m a hm (by rw[List.getElem?_eq_getElem hm,e]) b hb hp
 ·obtain⟨m,hm,e⟩:=List.getElem_of_mem z
  exact h.cl m b hm (by rw[List.getElem?_eq_getElem hm,e]) a ha (by rw[ok.sym b a hb ha];exact hp)
def sR(W:List (List Int))(l:List Nat)(k:Nat)(x3:Option PV):ZG:=[some (wP W),some (.lst (iL (Yv l))),some (.int (k:Int)),x3]
theorem KZ(y:Nat)(l:List Nat):SF true (.int (y:Int)) (.lst (iL (Yv l)))=some (.bl (!decide (y∈l))):=by
 rw[Jt]
 have:((y:Int)∈Yv l)↔y∈l:=by
  unfold Yv;rw[List.mem_map]
  exact⟨fun⟨a,h,e⟩=>by rw[show y=a by omega];exact h,fun h=>⟨y,h,rfl⟩⟩
 simp[this]
theorem H9{W:List (List Int)}{l:List Nat}{k x:Nat}{x3:Option PV}(ok:WL W)(h:Reach W l k)(hx:l[k]?=some x) :
  ∃y3,bR (sR W l k x3)=some (.nx (sR W (l++SS W l x) (k+1) y3)):=by
 have hf:=ok.few
 have hk:=(List.getElem?_eq_some_iff.mp hx).1
 have hxn:x<W.length:=h.lt x (List.mem_of_getElem? hx)
 have hl:l.length<=W.length:=by
  have nd:(Yv l).Nodup:=List.Pairwise.map _ (fun a b z=>by omega) h.nd
  have:=Ux (l:=Yv l) (m:=Yv (List.range W.length)) nd fun y hy=>by
   obtain⟨a,ha,rfl⟩:=List.mem_map.mp hy
   exact List.mem_map.mpr ⟨a,List.mem_range.mpr (h.lt a ha),rfl⟩
  simpa [Yv] using this
 have ix:X6 (iL (Yv l)) (k:Int)=some (.int (x:Int)):=Xk (by unfold Yv;rw[List.getElem?_map,List.getElem?_map,hx];rfl)
 have e1:Zo 3 (eP (Zi ZI (Za 0) (Zi ZI (Za 1) (Za 2)))) (sR W l k x3)=some (.nx (sR W l k (some (pP (Zv W x))))):=by
  simp[sR,ix,OV hxn]
 have lr:=ok.sq x hxn
 have en:X8 false [(Za 3)] (sR W l k (some (pP (Zv W x))))=some ((List.range W.length).map fun(i:Nat)=>.tup [.int (i:Int),.int (Yj W x i)]):=by
  have:=KP (Zv W x)
  rw[lr] at this;simp[sR,this]
  exact fun _ _=>rfl
 have k2:ZJ 2 [1] (X8 false [(Za 3)]) (.many [0,1]) (Wv (xB (Zi Tg (Za 1) (eC (.int 0)))) (xB (Zi (SF true) (Za 0) (Za 2)))) (eP (Za 0)) (sR W l k (some (pP (Zv W x))))=some (.lst (iL (Yv (SS W l x)))):=by
  rw[Uk (List.range W.length) (fun(i:Nat)=>.tup [.int (i:Int),.int (Yj W x i)]) (fun(i:Nat)=>.int (i:Int)) (fun y=>decide (0<Yj W x y)&&!decide (y∈l)) en (by simp;omega) fun y hy=>⟨[some (.int (y:Int)),some (.int (Yj W x y)),some (.lst (iL (Yv l)))],rfl,?_,fun _=>by simp⟩]
  ·unfold Yv SS iL
   rw[List.map_map];rfl
  ·by_cases q:0<Yj W x y
   ·simp[q,KZ]
   ·simp[q]
 have e2:XD 1 (ZJ 2 [1] (X8 false [(Za 3)]) (.many [0,1]) (Wv (xB (Zi Tg (Za 1) (eC (.int 0)))) (xB (Zi (SF true) (Za 0) (Za 2)))) (eP (Za 0))) (sR W l k (some (pP (Zv W x))))=some (.nx (sR W (l++SS W l x) k (some (pP (Zv W x))))):=by
  rw[Sj (m:=iL (Yv l)) k2 rfl (by simp[Yv,SS];have:=List.length_filter_le (fun y=>decide (0<Yj W x y)&&!decide (y∈l)) (List.range W.length);rw[List.length_range] at this;omega)]
  simp[sR,Yv]
 have e3:NL 2 Z4 (eC (.int 1)) (sR W (l++SS W l x) k (some (pP (Zv W x))))=some (.nx (sR W (l++SS W l x) (k+1) (some (pP (Zv W x))))):=by
  simp[sR,NL]
 exact⟨_,by unfold bR;rw[ZW e1,ZW e2,e3]⟩
theorem Reach.len{W:List (List Int)}{l:List Nat}{k:Nat}(h:Reach W l k):l.length<=W.length:=by
 have nd:(Yv l).Nodup:=List.Pairwise.map _ (fun a b z=>by omega) h.nd
 have:=Ux (l:=Yv l) (m:=Yv (List.range W.length)) nd fun y hy=>by
  obtain⟨a,ha,rfl⟩:=List.mem_map.mp hy
  exact List.mem_map.mpr ⟨a,List.mem_range.mpr (h.lt a ha),rfl⟩
 simpa [Yv] using this
theorem PZ{W:List (List Int)}(ok:WL W)(cn:IJ W):Wq [wP W]=some (pP (Yv (List.range W.length))):=by
 have hf:=ok.few
 obtain⟨s',q1,⟨l,k,x3,rfl,hR⟩,q3⟩:=Mb (c:=xB (Zi OA (Za 2) (Ze Ya [(Za 1)]))) (fb:=bR) (fun st=>∃l k x3,st=sR W l k x3/\Reach W l k)
  (fun(st:ZG)=>match st[2]? with | some (some (PV.int k))=>W.length+1-k.toNat | _=>0) (by
   rintro st ⟨l,k,x3,rfl,hR⟩
   have hl:=hR.len
   by_cases q:k<l.length
   ·refine .inr ⟨by simp[sR,Yv,q],?_⟩
    obtain⟨y3,e⟩:=H9 (x3:=x3) ok hR (List.getElem?_eq_getElem q)
    refine⟨_,e,⟨_,_,_,rfl,hR.step (List.getElem?_eq_getElem q)⟩,?_⟩
    show W.length+1-((k+1:Nat):Int).toNat<W.length+1-((k:Nat):Int).toNat
    omega
   ·exact .inl (by simp[sR,Yv,q])) (s:=sR W [0] 0 none) ⟨[0],0,none,rfl,⟨by simp,fun x hx=>by rw[List.mem_singleton.mp hx];exact ok.pos,by simp,by simp,fun m x hm=>by omega⟩⟩
 have hk:k=l.length:=by
  have h1:¬k<l.length:=fun q=>by
   have:(xB (Zi OA (Za 2) (Ze Ya [(Za 1)]))) (sR W l k x3)=some true:=by simp[sR,Yv,q]
   rw[q3] at this;cases this
  have:=hR.kl
  omega
 subst hk;have hl:=hR.len
 have srt:Up (Yv l)=Yv (List.range W.length):=by
  refine(QM ?_ ?_).symm
  ·have nd1:(Yv (List.range W.length)).Nodup:=List.Pairwise.map _ (fun a b z=>by omega) List.nodup_range
   have nd2:(Yv l).Nodup:=List.Pairwise.map _ (fun a b z=>by omega) hR.nd
   rw[List.perm_iff_count];intro a;rw[nd1.count,nd2.count]
   congr 1
   refine propext ⟨fun h=>?_,fun h=>?_⟩
   ·obtain⟨i,hi,rfl⟩:=List.mem_map.mp h
    exact List.mem_map.mpr ⟨i,hR.all ok cn (List.mem_range.mp hi),rfl⟩
   ·obtain⟨i,hi,rfl⟩:=List.mem_map.mp h
    exact List.mem_map.mpr ⟨i,List.mem_range.mpr (hR.lt i hi),rfl⟩
  ·refine List.Pairwise.map _ (fun a b h=>?_) (List.pairwise_lt_range (n:=W.length))
   omega
 have gs:Tu [.lst (iL (Yv l))]=some (.lst (iL (Yv (List.range W.length)))):=by
  show(WU (iL (Yv l))).bind _=_
  rw[Tc];simp only[Option.bind_some]
  rw[if_pos (by simp[Yv];omega),srt]
 have e1:Zo 1 (Yz [(eP (eC (.int 0)))]) [some (wP W),none,none,none]=some (.nx [some (wP W),some (.lst [.int 0]),none,none]):=by simp
 have e2:Zo 2 (eP (eC (.int 0))) [some (wP W),some (.lst [.int 0]),none,none]=some (.nx (sR W [0] 0 none)):=by simp[sR,Yv]
 show Xz 4 Vq [wP W]=_
 unfold Vq
 show(Zk (Zo 1 _) _ [some (wP W),none,none,none]).bind Xs=_
 rw[ZW e1,ZW e2,ZW q1]
 generalize Yv (List.range W.length)=rl at gs
 simp[sR,gs]
abbrev Vd(n:Nat):List (List Int):=List.replicate n (List.replicate n 0)
theorem Rx{n a b:Nat}(ha:a<n)(hb:b<n):Yj (Vd n) a b=0:=by
 unfold Yj Zv Yo;simp[List.getD_eq_getElem?_getD,List.getElem?_replicate,ha,hb]
theorem Jw{n a b:Nat}(hab:a<b):∀(l:List ZV)(M:List (List Int)),(∀e∈l,e.1<e.2.1/\e.2.1<n/\1<=e.2.2/\e.2.2<=9)->(∀e∈l,(e.1,e.2.1)≠(a,b))->MatOk n M->Yj M a b=0->Yj (l.foldl ZH M) a b=0
 | [],M,_,_,_,h=>h
 | e::r,M,hl,hn,hM,h0=>by
  have he:=hl e (by simp)
  refine Jw hab r _ (fun e' h'=>hl e' (by simp[h'])) (fun e' h'=>hn e' (by simp[h'])) (hM.step he) ?_
  rw[Vc hM he,if_neg (by omega),if_neg (fun z=>hn e (by simp) (by rw[z.1,z.2])),h0]
theorem K0{n:Nat}{ts:List ZV}(ok:DictOk n ts){i a b:Nat}{t:Int}(he:ts[i]?=some (a,b,t)):Yj ((ts.take i).foldl ZH (Vd n)) a b=0:=by
 have hm:=ok.ok _ (List.mem_of_getElem? he)
 simp only at hm
 refine Jw hm.1 _ _ (fun e h=>ok.ok e (List.mem_of_mem_take h)) (fun e h z=>?_) (MatOk.zero n) (Rx (by omega) (by omega))
 obtain⟨j,hj,ej⟩:=List.getElem_of_mem h
 rw[List.length_take] at hj
 have hi:=(List.getElem?_eq_some_iff.mp he).1
 have nd:=ok.nd;rw[List.getElem_take] at ej
 have e1:(ts.map fun e=>(e.1,e.2.1))[j]?=some (a,b):=by rw[List.getElem?_map,List.getElem?_eq_getElem (by omega),ej,Option.map_some,z]
 have e2:(ts.map fun e=>(e.1,e.2.1))[i]?=some (a,b):=by rw[List.getElem?_map,he];rfl
 have:=(List.getElem?_inj (by rw[List.length_map];omega) nd).mp (e1.trans e2.symm)
 omega
def YT(e:ZV):PV:=.tup [.int (e.1:Int),.int (e.2.1:Int),.int e.2.2]
theorem Mc{n:Nat}{ts:List ZV}(ok:DictOk n ts)(hg:Hang n ts)(h1:1<=n)(hn:n<=7)(hl:ts.length<=1000):W7 [.int (n:Int),.lst (ts.map YT)]=some (wP (WQ n ts)):=by
 have wok:=(Xu ok).web h1 hn
 have wl:=(Xu ok).len
 have re:=PZ wok (hg.conn ok)
 have lr:(Yv (List.range (WQ n ts).length)).length=n:=by simp[Yv,wl]
 generalize Yv (List.range (WQ n ts).length)=rl at re lr
 have hrep:Sg (.lst [.int 0]) (.int (n:Int))=some (.lst (iL (List.replicate n 0))):=by
  unfold Sg
  simp only
  rw[if_pos ⟨rfl,by omega,by omega,by simp;omega⟩,Int.toNat_natCast,IP]
 have hc:ZJ 1 [0] (Yk [(Za 0)]) (.one 0) Yr (Zi Sg (Yz [(eC (.int 0))]) (Za 1)) [some (.int (n:Int)),some (.lst (ts.map YT)),none,none,none,none,none]=some (.lst (rL (Vd n))):=by
  rw[Xh (List.range n) (fun(i:Nat)=>.int (i:Int)) (fun _=>.lst (iL (List.replicate n 0))) (Xi (by simp) (by omega)) (by simp;omega) (fun i _=>⟨_,rfl,rfl,?_⟩)]
  ·unfold rL
   rw[List.map_const',List.length_range,List.map_replicate]
  ·simp only[ZA,Yz,Tb,M1,Option.bind_some,Option.map_some,Z8,Xt]
   exact hrep
 have mat:∀i,MatOk n ((ts.take i).foldl ZH (Vd n)):=fun i=>Xu (ts:=ts.take i) ⟨fun e he=>ok.ok e (List.mem_of_mem_take he),by rw[List.map_take];exact ok.nd.sublist (List.take_sublist _ _)⟩
 obtain⟨s',q1,x,y,q2⟩:=ZP (T:=.many [3,4]) (fb:=(Zk (XZ (YY (xB (Ze W6 [(Za 2),(Za 4)]))) YD ZD)
  (Zk (Yb 2 (Zi ZI (Za 4) (eC (.int 0))) (Zi ZI (Za 4) (eC (.int 1))) (Zi ZI (Za 4) (eC (.int 2))))
  (Yb 2 (Zi ZI (Za 4) (eC (.int 1))) (Zi ZI (Za 4) (eC (.int 0))) (Zi ZI (Za 4) (eC (.int 2))))))) (ls:=XX (ts.map YT)) (s:=[some (.int (n:Int)),some (.lst (ts.map YT)),some (.lst (rL (Vd n))),none,none,none,none])
  (fun i st=>∃x y,st=[some (.int (n:Int)),some (.lst (ts.map YT)),some (.lst (rL ((ts.take i).foldl ZH (Vd n)))),x,y,none,none]) ⟨none,none,rfl⟩ (fun i l st hl hJ=>by
   obtain⟨x,y,rfl⟩:=hJ
   rw[X9,List.getElem?_map,List.length_map] at hl
   by_cases hi:i<ts.length
   ·rw[List.getElem?_range hi,Option.map_some] at hl
    cases hl
    obtain⟨⟨a,b,t⟩,hte⟩:∃e,ts[i]=e:=⟨_,rfl⟩
    have he:ts[i]?=some (a,b,t):=by rw[List.getElem?_eq_getElem hi,hte]
    have hv:(ts.map YT).getD i .non = .tup [.int (a:Int),.int (b:Int),.int t]:=by
     rw[List.getD_eq_getElem?_getD,List.getElem?_map,he];rfl
    rw[hv]
    obtain⟨hab,hbn,t1,t9⟩:=ok.ok _ (List.mem_of_getElem? he)
    simp only at hab hbn t1 t9
    have mi:=mat i;have b0:=K0 ok he
    generalize hM:(ts.take i).foldl ZH (Vd n)=M at mi b0
    have fe:=KY (M:=M) (a:=a) (b:=b) (t:=t) (fun i hi=>by rw[mi.row i (by rw[<-mi.len];exact hi),mi.len]) hab (by rw[mi.len];exact hbn) t1 t9 b0
    have sh:=XU (t:=t) (b:=b) mi.len mi.row (show a<n by omega)
    have lenM:(rL M).length=n:=by unfold rL;rw[List.length_map];exact mi.len
    have lenM2:(rL (YW M a b t)).length=n:=by unfold rL;rw[List.length_map];exact sh.1
    have fe':W6 [.lst (rL M),.tup [.int (a:Int),.int (b:Int),.int t]]=some (.bl true):=fe
    have g0:X6 [PV.int (a:Int),PV.int (b:Int),PV.int t] 0=some (.int (a:Int)):=rfl
    have g1:X6 [PV.int (a:Int),PV.int (b:Int),PV.int t] 1=some (.int (b:Int)):=rfl
    have g2:X6 [PV.int (a:Int),PV.int (b:Int),PV.int t] 2=some (.int t):=rfl
    refine⟨[some (.int (n:Int)),some (.lst (ts.map YT)),some (.lst (rL M)),some (.int (i:Int)),some (.tup [.int (a:Int),.int (b:Int),.int t]),none,none],_,rfl,?_,some (.int (i:Int)),some (.tup [.int (a:Int),.int (b:Int),.int t]),rfl⟩
    have e1:XZ (YY (xB (Ze W6 [(Za 2),(Za 4)]))) YD ZD [some (.int (n:Int)),some (.lst (ts.map YT)),some (.lst (rL M)),some (.int (i:Int)),some (.tup [.int (a:Int),.int (b:Int),.int t]),none,none]=some (.nx [some (.int (n:Int)),some (.lst (ts.map YT)),some (.lst (rL M)),some (.int (i:Int)),some (.tup [.int (a:Int),.int (b:Int),.int t]),none,none]):=by
     simp[fe']
    have e2:Yb 2 (Zi ZI (Za 4) (eC (.int 0))) (Zi ZI (Za 4) (eC (.int 1))) (Zi ZI (Za 4) (eC (.int 2))) [some (.int (n:Int)),some (.lst (ts.map YT)),some (.lst (rL M)),some (.int (i:Int)),some (.tup [.int (a:Int),.int (b:Int),.int t]),none,none]=some (.nx [some (.int (n:Int)),some (.lst (ts.map YT)),some (.lst (rL (YW M a b t))),some (.int (i:Int)),some (.tup [.int (a:Int),.int (b:Int),.int t]),none,none]):=by
     rw[Wz (l:=.int t) (a:=(a:Int)) (b:=(b:Int)) (j:=a) (c:=b) (m:=rL M) (n:=iL (Zv M a)) (by simp[g2]) (by simp[g0]) (by simp[g1]) rfl (Wa (by rw[lenM];omega)) (Sw (by rw[mi.len];omega)) (Xa _) rfl (Wa (by rw[List.length_map,mi.row a (by omega)];omega)),Qe]
     rfl
    have e3:Yb 2 (Zi ZI (Za 4) (eC (.int 1))) (Zi ZI (Za 4) (eC (.int 0))) (Zi ZI (Za 4) (eC (.int 2))) [some (.int (n:Int)),some (.lst (ts.map YT)),some (.lst (rL (YW M a b t))),some (.int (i:Int)),some (.tup [.int (a:Int),.int (b:Int),.int t]),none,none]=some (.nx [some (.int (n:Int)),some (.lst (ts.map YT)),some (.lst (rL (ZH M (a,b,t)))),some (.int (i:Int)),some (.tup [.int (a:Int),.int (b:Int),.int t]),none,none]):=by
     rw[Wz (l:=.int t) (a:=(b:Int)) (b:=(a:Int)) (j:=b) (c:=a) (m:=rL (YW M a b t)) (n:=iL (Zv (YW M a b t) b)) (by simp[g2]) (by simp[g1]) (by simp[g0]) rfl (Wa (by rw[lenM2];omega)) (Sw (by rw[sh.1];omega)) (Xa _) rfl (Wa (by rw[List.length_map,sh.2 b (by omega)];omega)),Qe]
     rfl
    have e5:(ts.take (i+1)).foldl ZH (Vd n)=ZH M (a,b,t):=by rw[<-hM];exact TM _ _ he
    rw[HZ e1 e2,e3,e5]
   ·rw[List.getElem?_eq_none (by rw[List.length_range];omega)] at hl;cases hl)
 rw[X9,List.length_map,List.length_range,List.length_map,List.take_length] at q2
 have hsq:ts.foldl ZH (Vd n)=WQ n ts:=rfl
 rw[hsq] at q2;subst q2
 have e0:XZ (YY (xB (Qi Qz Qz (eC (.int 1)) (Za 0) (eC (.int 7))))) YD ZD [some (.int (n:Int)),some (.lst (ts.map YT)),none,none,none,none,none]=some (.nx [some (.int (n:Int)),some (.lst (ts.map YT)),none,none,none,none,none]):=by
  simp[Qi,show(1:Int)<=(n:Int) by omega,show(n:Int)<=7 by omega]
 have e1:Zo 2 (ZJ 1 [0] (Yk [(Za 0)]) (.one 0) Yr (Zi Sg (Yz [(eC (.int 0))]) (Za 1))) [some (.int (n:Int)),some (.lst (ts.map YT)),none,none,none,none,none]=some (.nx [some (.int (n:Int)),some (.lst (ts.map YT)),some (.lst (rL (Vd n))),none,none,none,none]):=by
  rw[ZL,hc];rfl
 have en:X8 true [(Za 1)] (ZK [2] [some (.int (n:Int)),some (.lst (ts.map YT)),some (.lst (rL (Vd n))),none,none,none,none])=some (XX (ts.map YT)):=by
  rw[NQ];rfl
 have k5:ZJ 1 [] (Ue (Za 2)) (.one 0) Yr (Ze Y0 [(Za 0)]) [some (.int (n:Int)),some (.lst (ts.map YT)),some (.lst (rL (WQ n ts))),x,y,none,none]=some (.lst ((WQ n ts).map pP)):=by
  rw[Xh (WQ n ts) (fun r=>.lst (iL r)) pP (by simp[rL]) (by rw[wl];omega) (fun r _=>⟨_,rfl,rfl,by simp[Z8]⟩)]
 generalize hW:WQ n ts=W at *
 have e5:Zo 5 (eP (Ze Y0 [(ZJ 1 [] (Ue (Za 2)) (.one 0) Yr (Ze Y0 [(Za 0)]))])) [some (.int (n:Int)),some (.lst (ts.map YT)),some (.lst (rL W)),x,y,none,none]=some (.nx [some (.int (n:Int)),some (.lst (ts.map YT)),some (.lst (rL W)),x,y,some (wP W),none]):=by
  simp[k5]
 have e6:Zo 6 (Ze Wq [(Za 5)]) [some (.int (n:Int)),some (.lst (ts.map YT)),some (.lst (rL W)),x,y,some (wP W),none]=some (.nx [some (.int (n:Int)),some (.lst (ts.map YT)),some (.lst (rL W)),x,y,some (wP W),some (pP rl)]):=by
  simp[re]
 have e7:XZ (xB (Zi OA (Ze Ya [(Za 6)]) (Za 0))) YD ZD [some (.int (n:Int)),some (.lst (ts.map YT)),some (.lst (rL W)),x,y,some (wP W),some (pP rl)]=some (.nx [some (.int (n:Int)),some (.lst (ts.map YT)),some (.lst (rL W)),x,y,some (wP W),some (pP rl)]):=by
  simp[lr]
 show Xz 7 Uu [.int (n:Int),.lst (ts.map YT)]=_
 unfold Uu
 show(Zk (XZ _ _ _) _ [some (.int (n:Int)),some (.lst (ts.map YT)),none,none,none,none,none]).bind Xs=_
 rw[ZW e0,ZW e1,Z9,Yg,en];simp only[Option.bind_some];rw[q1];simp only[Option.bind_some];rw[ZW e5,ZW e6,ZW e7]
 simp
theorem Lm{n a b:Nat}{t:Int}(hab:a<b):∀(l:List ZV)(M:List (List Int)),(∀e∈l,e.1<e.2.1/\e.2.1<n/\1<=e.2.2/\e.2.2<=9)->(∀e∈l,(e.1,e.2.1)≠(a,b))->MatOk n M->Yj M a b=t->Yj (l.foldl ZH M) a b=t
 | [],M,_,_,_,h=>h
 | e::r,M,hl,hn,hM,h0=>by
  have he:=hl e (by simp)
  refine Lm hab r _ (fun e' h'=>hl e' (by simp[h'])) (fun e' h'=>hn e' (by simp[h'])) (hM.step he) ?_
  rw[Vc hM he,if_neg (by omega),if_neg (fun z=>hn e (by simp) (by rw[z.1,z.2])),h0]
theorem P0{n:Nat}{a b:Nat}{t:Int}:∀(l:List ZV)(M:List (List Int)),(∀e∈l,e.1<e.2.1/\e.2.1<n/\1<=e.2.2/\e.2.2<=9)->(l.map fun e=>(e.1,e.2.1)).Nodup->MatOk n M->(a,b,t)∈l->Yj (l.foldl ZH M) a b=t
 | [],M,_,_,_,h=>by simp at h
 | e::r,M,hl,nd,hM,h=>by
  have he:=hl e (by simp)
  rw[List.map_cons,List.nodup_cons] at nd
  rcases List.mem_cons.mp h with q | q
  ·subst q
   simp only at he
   refine Lm he.1 r _ (fun e' h'=>hl e' (by simp[h'])) (fun e' h' z=>nd.1 (List.mem_map.mpr ⟨e',h',z⟩)) (hM.step he) ?_
   rw[Vc hM he,if_neg (by simp only;omega),if_pos ⟨rfl,rfl⟩]
  ·exact P0 r _ (fun e' h'=>hl e' (by simp[h'])) nd.2 (hM.step he) q
theorem Ry{n:Nat}{ts us:List ZV}(ok:DictOk n ts)(h:us.Perm ts):DictOk n us:=⟨fun e he=>ok.ok e (h.mem_iff.mp he),(h.map _).nodup_iff.mpr ok.nd⟩
theorem Md{n:Nat}{ts us:List ZV}(hg:Hang n ts)(h:us.Perm ts):Hang n us:=fun P hP=>hg P fun a b ⟨t,ht⟩=>hP a b ⟨t,h.mem_iff.mpr ht⟩
theorem Uy{n:Nat}{ts:List ZV}(ok:DictOk n ts){a b:Nat}(hab:a<b)(hb:b<n):(∃t,(a,b,t)∈ts/\Yj (WQ n ts) a b=t)\/((∀t,(a,b,t)∉ts)/\Yj (WQ n ts) a b=0):=by
 by_cases h:∃t,(a,b,t)∈ts
 ·obtain⟨t,ht⟩:=h
  exact .inl ⟨t,ht,P0 ts _ ok.ok ok.nd (MatOk.zero n) ht⟩
 ·refine .inr ⟨fun t ht=>h ⟨t,ht⟩,Lm hab ts _ ok.ok (fun e he z=>h ⟨e.2.2,?_⟩) (MatOk.zero n) (Rx (by omega) hb)⟩
  have z1:=(Prod.mk.inj z).1
  have z2:=(Prod.mk.inj z).2
  rw[<-z1,<-z2];exact he
theorem O2{n:Nat}{V W:List (List Int)}(hv:MatOk n V)(hw:MatOk n W)(h:∀a b,a<b->b<n->Yj V a b=Yj W a b):V=W:=by
 apply List.ext_getElem?
 intro i
 by_cases hi:i<n
 ·rw[Wl (by rw[hv.len];exact hi),Wl (by rw[hw.len];exact hi)]
  congr 1
  refine KW (by rw[hv.row i hi,hw.row i hi]) fun j hj=>?_
  rw[hv.row i hi] at hj
  show Yj V i j=Yj W i j
  rcases Nat.lt_trichotomy i j with q | q | q
  ·exact h i j q hj
  ·subst q;rw[hv.dia i hi,hw.dia i hi]
  ·rw[hv.sym i j hi hj,hw.sym i j hi hj];exact h j i q hi
 ·rw[List.getElem?_eq_none (by rw[hv.len];omega),List.getElem?_eq_none (by rw[hw.len];omega)]
theorem Ln{n:Nat}{ts us:List ZV}(ok:DictOk n ts)(h:us.Perm ts):WQ n us=WQ n ts:=by
 have ok':=Ry ok h
 refine O2 (Xu ok') (Xu ok) fun a b hab hb=>?_
 rcases Uy ok hab hb with⟨t,ht,e⟩ | ⟨hn,e⟩
 ·rcases Uy ok' hab hb with⟨t',ht',e'⟩ | ⟨hn',_⟩
  ·rw[e];exact P0 us _ ok'.ok ok'.nd (MatOk.zero n) (h.mem_iff.mpr ht)
  ·exact absurd (h.mem_iff.mpr ht) (hn' t)
 ·rcases Uy ok' hab hb with⟨t',ht',e'⟩ | ⟨_,e'⟩
  ·exact absurd (h.mem_iff.mp ht') (hn t')
  ·rw[e,e']
def ZM(ns:List Int)(at0 n:Nat)(first:Int)(ts:List ZV)(room:Int)(x6 x7 x8 x9 x10 x11:Option Int):ZG:=
 [some (.cst (iL ns)),some (.int (at0:Int)),some (.int (n:Int)),some (.int room),some (.int first),some (dP ts),x6.map PV.int,x7.map PV.int,x8.map PV.int,x9.map PV.int,x10.map PV.int,x11.map PV.int]
noncomputable def Lo:XS:=(Zk (Zo 7 (Ze Zt [(Za 0),(Zi Z4 (Za 1) (Za 6))]))
  (Zk (Zo 8 (eP (Ze WM [(Zi ZI (Yz [(eC (.int 1)),(eC (.int 1)),(eC (.int 1)),(eC (.int 2)),(eC (.int 3)),(eC (.int 9))]) (Zi YH (Zi YG (Za 7) (Za 6)) (eC (.int 6)))),(Zi WN (Za 3) (Zi WN (Zi WN (Za 2) (eC (.int 1))) (Za 6)))])))
  (Zk (VL.sDPut 5 (Xc [(Zi YH (Za 7) (Za 6)),(Za 6)]) (Za 8))
  (Zo 3 (eP (Zi WN (Za 3) (Za 8)))))))
theorem K1{ns:List Int}{at0 n:Nat}{first:Int}{ts:List ZV}{room:Int}{x7 x8 x9 x10 x11:Option Int}{h:Nat}(hns:ns.length<=63)(ok:DictOk n ts)(hl:ts.length<=1000)(h1:1<=h)(hh:h<n)(hn:n<=7)(hr:(n:Int)-(h:Int)<=room) :
  ∃ts' room' y7 y8,Lo (ZM ns at0 n first ts room (some (h:Int)) x7 x8 x9 x10 x11)=some (.nx (ZM ns at0 n first ts' room' (some (h:Int)) (some y7) (some y8) x9 x10 x11))/\DictOk n ts'/\ts'.length<=ts.length+1/\(n:Int)-((h:Int)+1)<=room'/\Ext ts ts'/\∃c,c<h/\PU ts' c h:=by
 generalize hc:Yo ns (at0+h)=c
 have e1:Zo 7 (Ze Zt [(Za 0),(Zi Z4 (Za 1) (Za 6))]) (ZM ns at0 n first ts room (some (h:Int)) x7 x8 x9 x10 x11)=some (.nx (ZM ns at0 n first ts room (some (h:Int)) (some c) x8 x9 x10 x11)):=by
  have z:(at0:Int)+(h:Int)=((at0+h:Nat):Int):=by omega
  have q:=Vr hns (at0+h)
  rw[hc] at q
  have q:Zt [PV.cst (ns.map PV.int),PV.int ((at0:Int)+(h:Int))]=some (PV.int c):=by rw[z];exact q
  simp[ZM,q]
 obtain⟨v,v1,v9,ev⟩:=GU (c/(h:Int))
 have cd:VD c (h:Int):=Wi (by omega) (by omega)
 have hp:(0:Int)<(h:Int):=by omega
 generalize hd:(if room-((n:Int)-1-(h:Int))<v then room-((n:Int)-1-(h:Int)) else v)=dp
 have d1:1<=dp:=by rw[<-hd];split<;>omega
 have d9:dp<=9:=by rw[<-hd];split<;>omega
 have dr:dp<=room-((n:Int)-1-(h:Int)):=by rw[<-hd];split<;>omega
 have e2:Zo 8 (eP (Ze WM [(Zi ZI (Yz [(eC (.int 1)),(eC (.int 1)),(eC (.int 1)),(eC (.int 2)),(eC (.int 3)),(eC (.int 9))]) (Zi YH (Zi YG (Za 7) (Za 6)) (eC (.int 6)))),(Zi WN (Za 3) (Zi WN (Zi WN (Za 2) (eC (.int 1))) (Za 6)))])) (ZM ns at0 n first ts room (some (h:Int)) (some c) x8 x9 x10 x11)=some (.nx (ZM ns at0 n first ts room (some (h:Int)) (some c) (some dp) x9 x10 x11)):=by
  simp[ZM,cd,ev,hd]
 have m0:=Int.emod_nonneg c (show(h:Int)≠0 by omega)
 have m1:=Int.emod_lt_of_pos c hp
 obtain⟨ts2,pe,ok2,hle2,hh2,hx2⟩:=Tw (a:=(c%(h:Int)).toNat) (b:=h) (t:=dp) ok (by omega) hh d1 d9 (by omega)
 have hcast:(((c%(h:Int)).toNat:Nat):Int)=c%(h:Int):=by omega
 rw[hcast] at pe
 have e3:VL.sDPut 5 (Xc [(Zi YH (Za 7) (Za 6)),(Za 6)]) (Za 8) (ZM ns at0 n first ts room (some (h:Int)) (some c) (some dp) x9 x10 x11)=some (.nx (ZM ns at0 n first ts2 room (some (h:Int)) (some c) (some dp) x9 x10 x11)):=by
  rw[Uw (v:=.int dp) (k:=.tup [.int (c%(h:Int)),.int (h:Int)]) (d:=dP ts) rfl (by simp[ZM,show 0<h by omega]) rfl pe]
  rfl
 refine⟨ts2,room-dp,c,dp,?_,ok2,hle2,by omega,hx2,(c%(h:Int)).toNat,by omega,hh2⟩
 unfold Lo;rw[HY e1 e2 e3];simp[ZM]
noncomputable def Me:XS:=(Zk (Zo 8 (eP (Zi ZI (Yz [(eC (.int 0)),(eC (.int 0)),(eC (.int 0)),(eC (.int 1)),(eC (.int 1)),(eC (.int 2)),(eC (.int 4)),(eC (.int 9))]) (Zi YH (Ze Zt [(Za 0),(Za 9)]) (eC (.int 8))))))
  (Zk (Zo 9 (eP (Zi Z4 (Za 9) (eC (.int 1)))))
  (XZ (Wv (xB (Pw true (Xc [(Za 10),(Za 11)]) (Za 5))) (xB (Qi OA Qz (eC (.int 0)) (Za 8) (Za 3)))) (Zk (VL.sDPut 5 (Xc [(Za 10),(Za 11)]) (Za 8))
  (Zo 3 (eP (Zi WN (Za 3) (Za 8))))) ZD)))
theorem K2{ns:List Int}{at0 n:Nat}{first:Int}{ts:List ZV}{room:Int}{x6 x7 x8:Option Int}{k a b:Nat}(hns:ns.length<=63)(ok:DictOk n ts)(hl:ts.length<=1000)(hab:a<b)(hb:b<n) :
  ∃ts' room' y8,Me (ZM ns at0 n first ts room x6 x7 x8 (some (k:Int)) (some (a:Int)) (some (b:Int)))=some (.nx (ZM ns at0 n first ts' room' x6 x7 (some y8) (some ((k+1:Nat):Int)) (some (a:Int)) (some (b:Int))))/\DictOk n ts'/\ts'.length<=ts.length+1/\Ext ts ts':=by
 obtain⟨v,v0,v9,ev⟩:=GV (Yo ns k)
 have e1:Zo 8 (eP (Zi ZI (Yz [(eC (.int 0)),(eC (.int 0)),(eC (.int 0)),(eC (.int 1)),(eC (.int 1)),(eC (.int 2)),(eC (.int 4)),(eC (.int 9))]) (Zi YH (Ze Zt [(Za 0),(Za 9)]) (eC (.int 8))))) (ZM ns at0 n first ts room x6 x7 x8 (some (k:Int)) (some (a:Int)) (some (b:Int)))=some (.nx (ZM ns at0 n first ts room x6 x7 (some v) (some (k:Int)) (some (a:Int)) (some (b:Int)))):=by
  have q:Zt [PV.cst (ns.map PV.int),PV.int (k:Int)]=some (PV.int (Yo ns k)):=Vr hns k
  simp[ZM,q,ev]
 have e2:Zo 9 (eP (Zi Z4 (Za 9) (eC (.int 1)))) (ZM ns at0 n first ts room x6 x7 (some v) (some (k:Int)) (some (a:Int)) (some (b:Int)))=some (.nx (ZM ns at0 n first ts room x6 x7 (some v) (some ((k+1:Nat):Int)) (some (a:Int)) (some (b:Int)))):=by
  simp[ZM]
 obtain⟨cc,ec⟩:=IM ts (a:Int) (b:Int)
 unfold Me;rw[HZ e1 e2]
 have tst:∃q:Bool,Wv (xB (Pw true (Xc [(Za 10),(Za 11)]) (Za 5))) (xB (Qi OA Qz (eC (.int 0)) (Za 8) (Za 3))) (ZM ns at0 n first ts room x6 x7 (some v) (some ((k+1:Nat):Int)) (some (a:Int)) (some (b:Int)))=some q/\(q=true->0<v):=by
  have t1:xB (Pw true (Xc [(Za 10),(Za 11)]) (Za 5)) (ZM ns at0 n first ts room x6 x7 (some v) (some ((k+1:Nat):Int)) (some (a:Int)) (some (b:Int)))=some !cc:=by
   simp[ZM,Pw,ec]
  have t2:xB (Qi OA Qz (eC (.int 0)) (Za 8) (Za 3)) (ZM ns at0 n first ts room x6 x7 (some v) (some ((k+1:Nat):Int)) (some (a:Int)) (some (b:Int)))=some (decide (0<v)&&decide (v<=room)):=by
   by_cases hv:0<v
   ·simp[ZM,Qi,hv]
   ·simp[ZM,Qi,hv]
  rw[QL,t1,t2]
  cases cc with
  | true=>exact⟨false,rfl,fun z=>by cases z⟩
  | false=>exact⟨_,rfl,fun z=>by
    rw[Bool.and_eq_true] at z
    exact of_decide_eq_true z.1⟩
 obtain⟨q,eq,hq⟩:=tst
 rw[Yc,eq];simp only[Option.bind_some]
 cases q with
 | false=>exact⟨ts,room,v,rfl,ok,by omega,Ext.refl ts⟩
 | true=>
  have hv:=hq rfl
  obtain⟨ts2,pe,ok2,hle2,_,hx2⟩:=Tw (t:=v) ok hab hb (by omega) v9 (by omega)
  refine⟨ts2,room-v,v,?_,ok2,hle2,hx2⟩
  rw[if_pos rfl]
  have e3:VL.sDPut 5 (Xc [(Za 10),(Za 11)]) (Za 8) (ZM ns at0 n first ts room x6 x7 (some v) (some ((k+1:Nat):Int)) (some (a:Int)) (some (b:Int)))=some (.nx (ZM ns at0 n first ts2 room x6 x7 (some v) (some ((k+1:Nat):Int)) (some (a:Int)) (some (b:Int)))):=by
   rw[Uw (v:=.int v) (k:=.tup [.int (a:Int),.int (b:Int)]) (d:=dP ts) rfl (by simp[ZM]) rfl pe]
   rfl
  rw[ZW e3];simp[ZM]
theorem Rz{ns:List Int}{at0 n:Nat}{rm:Int}(hrm:7<=rm)(hns:ns.length<=63)(h1:1<=n)(hn:n<=7):∃ts,ZZ [.cst (iL ns),.int (at0:Int),.int (n:Int),.int rm]=some (dP ts)/\DictOk n ts/\Hang n ts:=by
 generalize hf:Yo ns at0=first
 have hcell:Zt [PV.cst (ns.map PV.int),PV.int (at0:Int)]=some (PV.int first):=by rw[<-hf];exact Vr hns at0
 obtain⟨r,er,alt⟩:=SR (n:=n) (most:=9) (Zn:=first/2) (room:=rm) (by omega) (by omega) hn h1
 have cd2:VD first 2:=Wi (by omega) (by omega)
 -- the first test
 have hstart:Zo 4 (Ze Zt [(Za 0),(Za 1)]) [some (.cst (iL ns)),some (.int (at0:Int)),some (.int (n:Int)),some (.int rm),none,none,none,none,none,none,none,none]=some (.nx [some (.cst (iL ns)),some (.int (at0:Int)),some (.int (n:Int)),some (.int rm),some (.int first),none,none,none,none,none,none,none]):=by
  simp[hcell]
 have htest:Wv (xB (Zi (WW false) (Zi YH (Za 4) (eC (.int 2))) (eC (.int 1)))) (xB (NF true (Ze Yh [(Zi YG (Za 4) (eC (.int 2))),(Za 2),(Za 3),(eC (.int 9))]))) [some (.cst (iL ns)),some (.int (at0:Int)),some (.int (n:Int)),some (.int rm),some (.int first),none,none,none,none,none,none,none]=some (decide (first%2=1)&&!TV r):=by
  have eb:Ip true r=some (.bl (!TV r)):=by cases r<;>rfl
  by_cases h:first%2=1
  ·simp[h,cd2,er,eb]
  ·simp[h]
 show ∃ts,Xz 12 WE [.cst (iL ns),.int (at0:Int),.int (n:Int),.int rm]=some (dP ts)/\DictOk n ts/\Hang n ts
 unfold WE;simp only[Xz,Y1,List.map_cons,List.map_nil,List.length_cons,List.length_nil]
 show ∃ts,(Zk (Zo 4 (Ze Zt [(Za 0),(Za 1)])) _ [some (.cst (iL ns)),some (.int (at0:Int)),some (.int (n:Int)),some (.int rm),none,none,none,none,none,none,none,none]).bind Xs=some (dP ts)/\DictOk n ts/\Hang n ts
 rw[ZW hstart,Z9,Yc,htest];simp only[Option.bind_some]
 by_cases hc:(decide (first%2=1)&&!TV r)=true
 ·rw[if_pos hc]
  rw[Bool.and_eq_true] at hc
  rcases alt with rfl | ⟨ts,rfl,ok,_,hg⟩
  ·exact absurd hc.2 (by decide)
  ·exact⟨ts,by simp[cd2,er],ok,hg⟩
 ·rw[if_neg hc]
  simp only[NO,Option.bind_some]
  -- the dict,the room
  have e45:∀g:XS,Zk (Zo 5 (eC (.dT [] []))) g [some (.cst (iL ns)),some (.int (at0:Int)),some (.int (n:Int)),some (.int rm),some (.int first),none,none,none,none,none,none,none]=g (ZM ns at0 n first [] rm none none none none none none):=fun g=>by
   rw[ZW (s1:=ZM ns at0 n first [] rm none none none none none none) rfl]
  rw[e45]
  -- the first loop
  obtain⟨s1,l1,ts1,room1,y6,y7,y8,es1,ok1,hle1,_,tree⟩:=ZP (T:=.one 6) (fb:=Lo) (ls:=XW 1 (n-1)) (s:=ZM ns at0 n first [] rm none none none none none none)
   (fun i st=>∃ts room y6 y7 y8,st=ZM ns at0 n first ts room y6 y7 y8 none none none/\DictOk n ts/\ts.length<=i/\(n:Int)-((i:Int)+1)<=room/\∀h,1<=h->h<=i->∃c,c<h/\PU ts c h) ⟨[],rm,none,none,none,rfl,DictOk.nil n,Nat.le_refl _,by omega,fun h h1 h2=>by omega⟩ (fun i l st hl' hJ=>by
    obtain⟨hi,rfl⟩:=Ul hl'
    obtain⟨ts,room,y6,y7,y8,rfl,ok,hle,hroom,tree⟩:=hJ
    have z:(1:Int)+(i:Int)=((i+1:Nat):Int):=by omega
    rw[z]
    obtain⟨ts2,room2,z7,z8,e2,ok2,hle2,hr2,hx2,hc2⟩:=K1 (at0:=at0) (first:=first) (room:=room) (x7:=y7) (x8:=y8) (x9:=none) (x10:=none) (x11:=none) (h:=i+1) hns ok (by omega) (by omega) (by omega) hn (by omega)
    exact⟨_,_,rfl,e2,ts2,room2,some ((i+1:Nat):Int),some z7,some z8,rfl,ok2,by omega,by omega,fun h h1 h2=>by
     by_cases q:h<=i
     ·obtain⟨c,a,b⟩:=tree h h1 q
      exact⟨c,a,hx2 _ _ b⟩
     ·have:h=i+1:=by omega
      subst this
      exact hc2⟩)
  rw[Um] at hle1 tree
  have r1:Yq [eC (.int 1),Za 2] (ZK [5] (ZM ns at0 n first [] rm none none none none none none))=some (XW 1 (n-1)):=by
   rw[Wo (i:=1) (j:=(n:Int)) rfl (by simp[ZK,ZM]) ⟨by omega,by omega⟩ ⟨by omega,by omega⟩]
   congr 2;omega
  have f1:YB [5] (Yq [eC (.int 1),Za 2]) (.one 6) Lo (ZM ns at0 n first [] rm none none none none none none)=some (.nx (ZM ns at0 n first ts1 room1 y6 y7 y8 none none none)):=by
   rw[Yg,r1]
   exact l1.trans (by rw[es1])
  have e9:Zo 9 (eP (Zi Z4 (Za 1) (eC (.int 7)))) (ZM ns at0 n first ts1 room1 y6 y7 y8 none none none)=some (.nx (ZM ns at0 n first ts1 room1 y6 y7 y8 (some ((at0+7:Nat):Int)) none none)):=by simp[ZM]
  -- the second loops
  have inner:∀(a:Nat)(ts:List ZV)(room:Int)(x8:Option Int)(k:Nat)(x11:Option Int),a<n->DictOk n ts->ts.length<=500->∃ts' room' y8 k' y11,XC (.one 11) Me (XW ((a:Int)+1) (n-(a+1))) (ZM ns at0 n first ts room y6 y7 x8 (some (k:Int)) (some (a:Int)) x11)=some (.nx (ZM ns at0 n first ts' room' y6 y7 y8 (some ((k':Nat):Int)) (some (a:Int)) y11))/\DictOk n ts'/\ts'.length<=ts.length+7/\Ext ts ts':=by
   intro a ts room x8 k x11 ha ok hl
   obtain⟨s',h,ts',room',z8,k',z11,e,ok',hle,hx⟩:=ZP (T:=.one 11) (fb:=Me) (ls:=XW ((a:Int)+1) (n-(a+1))) (s:=ZM ns at0 n first ts room y6 y7 x8 (some (k:Int)) (some (a:Int)) x11)
    (fun j st=>∃ts' room' z8 k' z11,st=ZM ns at0 n first ts' room' y6 y7 z8 (some ((k':Nat):Int)) (some (a:Int)) z11/\DictOk n ts'/\ts'.length<=ts.length+j/\Ext ts ts') ⟨ts,room,x8,k,x11,rfl,ok,by omega,Ext.refl ts⟩ (fun j l st hl' hJ=>by
     obtain⟨hj,rfl⟩:=Ul hl'
     obtain⟨ts',room',z8,k',z11,rfl,ok',hle,hx⟩:=hJ
     have z:(a:Int)+1+(j:Int)=((a+1+j:Nat):Int):=by omega
     rw[z]
     obtain⟨ts2,room2,w8,e2,ok2,hle2,hx2⟩:=K2 (at0:=at0) (first:=first) (room:=room') (x6:=y6) (x7:=y7) (x8:=z8) (k:=k') hns ok' (by omega) (show a<a+1+j by omega) (by omega)
     exact⟨_,_,rfl,e2,ts2,room2,some w8,k'+1,some ((a+1+j:Nat):Int),rfl,ok2,by omega,hx.trans hx2⟩)
   rw[Um] at hle
   exact⟨ts',room',z8,k',z11,by rw[h,e],ok',by omega,hx⟩
  obtain⟨s2,l2,ts2,room2,w8,w9,w10,w11,es2,ok2,hle2,hx2⟩:=ZP (T:=.one 10) (fb:=YB [5] (Yq [Zi Z4 (Za 10) (eC (.int 1)),Za 2]) (.one 11) Me) (ls:=Wh n) (s:=ZM ns at0 n first ts1 room1 y6 y7 y8 (some ((at0+7:Nat):Int)) none none)
   (fun i st=>∃ts room w8 k w10 w11,st=ZM ns at0 n first ts room y6 y7 w8 (some ((k:Nat):Int)) w10 w11/\DictOk n ts/\ts.length<=7+7*i/\Ext ts1 ts) ⟨ts1,room1,y8,at0+7,none,none,rfl,ok1,by omega,Ext.refl ts1⟩ (fun i l st hl' hJ=>by
    obtain⟨hi,rfl⟩:=W3 hl'
    obtain⟨ts,room,w8,k,w10,w11,rfl,ok,hle,hx⟩:=hJ
    obtain⟨ts',room',z8,k',z11,e2,ok',hle',hx'⟩:=inner i ts room w8 k w11 hi ok (by omega)
    refine⟨_,_,rfl,?_,ts',room',z8,k',some (i:Int),z11,rfl,ok',by omega,hx.trans hx'⟩
    have hr:Yq [Zi Z4 (Za 10) (eC (.int 1)),Za 2] (ZK [5] (ZM ns at0 n first ts room y6 y7 w8 (some (k:Int)) (some (i:Int)) w11))=some (XW ((i:Int)+1) (n-(i+1))):=by
     rw[Wo (i:=(i:Int)+1) (j:=(n:Int)) (by simp[ZK,ZM]) (by simp[ZK,ZM]) ⟨by omega,by omega⟩ ⟨by omega,by omega⟩]
     congr 2;omega
    show YB _ _ _ _ (ZM ns at0 n first ts room y6 y7 w8 (some (k:Int)) (some (i:Int)) w11)=_
    rw[Yg,hr]
    exact e2)
  rw[W4] at hle2
  have r2:Yk [Za 2] (ZK [5] (ZM ns at0 n first ts1 room1 y6 y7 y8 (some ((at0+7:Nat):Int)) none none))=some (Wh n):=Xi (by simp[ZK,ZM]) (by omega)
  have f2:YB [5] (Yk [Za 2]) (.one 10) (YB [5] (Yq [Zi Z4 (Za 10) (eC (.int 1)),Za 2]) (.one 11) Me) (ZM ns at0 n first ts1 room1 y6 y7 y8 (some ((at0+7:Nat):Int)) none none)=some (.nx (ZM ns at0 n first ts2 room2 y6 y7 w8 (some ((w9:Nat):Int)) w10 w11)):=by
   rw[Yg,r2]
   exact l2.trans (by rw[es2])
  have hg:Hang n ts2:=by
   have all:∀P,Cl ts2 P->∀i,i<n->(P i↔P 0):=by
    intro P hP i
    induction i using Nat.strongRecOn with
    | _ i ih=>
     intro hi
     by_cases h0:i=0
     ·subst h0;exact Iff.rfl
     ·obtain⟨c,hc,hb⟩:=tree i (by omega) (by omega)
      exact(hP _ _ (hx2 _ _ hb)).symm.trans (ih c hc (by omega))
   exact fun P hP i j hi hj=>(all P hP i hi).trans (all P hP j hj).symm
  obtain⟨ts',eR,okR,_,hgR⟩:=PX ok2 hn (by omega) (first/7)
  have cd7:VD first 7:=Wi (by omega) (by omega)
  refine⟨ts',?_,okR,hgR hg⟩
  refine Eq.trans (congrArg (fun o=>Option.bind o Xs) (HY (f:=YB [5] (Yq [eC (.int 1),Za 2]) (.one 6) Lo) f1 e9 f2)) ?_
  simp[ZM,hcell,cd7,eR]
theorem Sx{n:Nat}{ts:List ZV}(ok:DictOk n ts)(hn:n<=7):ZQ [dP ts,.int (n:Int)]=some (wP (WQ n ts)):=N9 ok hn
end PW
namespace VL
open PySem
def WO(x:Str):List Nat:=x.cps.toList
theorem Qf{x y:Str}(h:WO x=WO y):x=y:=by
 cases x;cases y;unfold WO at h
 simp only at h
 rw[Str.mk.injEq]
 exact Array.toList_inj.mp h
theorem YV(x y:Str):WO (x++y)=WO x++WO y:=by
 show(x.cps++y.cps).toList=_
 rw[Array.toList_append];rfl
theorem O3{c:Nat}:∀{x y u v:List Nat},c∉x->c∉y->x++c::u=y++c::v->x=y/\u=v
 | [],[],u,v,_,_,h=>⟨rfl,by simpa using h⟩
 | [],b::y,u,v,_,hy,h=>by
  simp only[List.nil_append,List.cons_append,List.cons.injEq] at h
  exact absurd (by rw[h.1];simp) hy
 | a::x,[],u,v,hx,_,h=>by
  simp only[List.nil_append,List.cons_append,List.cons.injEq] at h
  exact absurd (by rw[h.1];simp) hx
 | a::x,b::y,u,v,hx,hy,h=>by
  simp only[List.cons_append,List.cons.injEq] at h
  obtain⟨e1,e2⟩:=O3 (fun z=>hx (by simp[z])) (fun z=>hy (by simp[z])) h.2
  exact⟨by rw[h.1,e1],e2⟩
theorem Vt(c:Nat)(x y:Str)(r:List Str):WO (Str.join ⟨#[c]⟩ (x::y::r))=WO x++c::WO (Str.join ⟨#[c]⟩ (y::r)):=by
 show WO (x++⟨#[c]⟩++Str.join ⟨#[c]⟩ (y::r))=_
 rw[YV,YV,List.append_assoc];rfl
theorem Q0{c:Nat}:∀{ps qs:List Str},ps≠[]->qs≠[]->(∀p∈ps,c∉WO p)->(∀p∈qs,c∉WO p)->Str.join ⟨#[c]⟩ ps=Str.join ⟨#[c]⟩ qs->ps=qs
 | [],_,h,_,_,_,_=>absurd rfl h
 | _,[],_,h,_,_,_=>absurd rfl h
 | [x],[y],_,_,_,_,h=>by rw[show x=y from h]
 | [x],y::z::r,_,_,hx,_,h=>by
  have e:=congrArg WO h;rw[Vt] at e
  have:c∈WO x:=by rw[show WO x=_ from e];simp
  exact absurd this (hx x (by simp))
 | x::z::r,[y],_,_,_,hy,h=>by
  have e:=congrArg WO h;rw[Vt] at e
  have:c∈WO y:=by rw[show WO y=_ from e.symm];simp
  exact absurd this (hy y (by simp))
 | x::x2::r,y::y2::q,_,_,hx,hy,h=>by
  have e:=congrArg WO h;rw[Vt,Vt] at e
  obtain⟨e1,e2⟩:=O3 (hx x (by simp)) (hy y (by simp)) e
  rw[Qf e1,Q0 (by simp) (by simp) (fun p hp=>hx p (by simp[hp])) (fun p hp=>hy p (by simp[hp])) (Qf e2)]
theorem P1{c:Nat}{ws:List Str}(h0:ws≠[])(h:∀p∈ws,c∉WO p):Txt.split (Txt.join ⟨#[c]⟩ ws) ⟨#[c]⟩=ws:=by
 refine Q0 (c:=c) (fun z=>?_) h0 (fun p hp=>StrLaws.split_free _ c p hp) h ?_
 ·have:=PyProof.Rows.split_pos (Txt.join ⟨#[c]⟩ ws) ⟨#[c]⟩
  rw[z] at this
  simp at this
 ·rw[StrLaws.join_split]
  exact StrLaws.glued_eq_join _ _
theorem XI(x:Str):x.length=(WO x).length:=by
 show x.cps.size=_
 unfold WO;rw[Array.length_toList]
theorem Mf{c:Nat}{ws:List Str}{m:Nat}(hl:∀p∈ws,p.length<=m)(h:ws.length*(m+1)<=100000):JoinOk ⟨#[c]⟩ ws=true:=by
 have fold:∀(l:List Str)(a:Nat),(∀p∈l,p.length<=m)->l.foldl (fun(acc:Nat) (p:Str)=>acc+p.length+(⟨#[c]⟩:Str).length) a<=a+l.length*(m+1):=by
  intro l
  induction l with
  | nil=>intro a _;simp
  | cons x r ih=>
   intro a hp;rw[List.foldl_cons,List.length_cons,Nat.add_mul]
   have h1:=ih (a+x.length+(⟨#[c]⟩:Str).length) (fun p hp'=>hp p (by simp[hp']))
   have h2:=hp x (by simp)
   have h3:(⟨#[c]⟩:Str).length=1:=rfl
   omega
 have h1:=fold ws 0 hl;unfold JoinOk;rw[List.foldl_toArray']
 ·have h2:ws.foldl (fun(acc:Nat) (p:Str)=>acc+p.length+(⟨#[c]⟩:Str).length) 0<=100000:=by omega
  revert h2
  generalize ws.foldl (fun(acc:Nat) (p:Str)=>acc+p.length+(⟨#[c]⟩:Str).length) 0=n
  intro h2
  have h3:(100000:Nat)<=sizeLine:=by decide
  show(!Builtin.Str.tooLong n)=true
  unfold Builtin.Str.tooLong
  rw[decide_eq_false (by omega)];rfl
 ·rfl
def dg(a:Nat):Str:=(toString ((a:Nat):Int):String)
theorem O4:∀a,a<10->dg a=⟨#[48+a]⟩:=by decide +kernel
theorem WI{a:Nat}(h:a<10):WO (dg a)=[48+a]:=by rw[O4 a h];rfl
theorem Sy{i:Int}(h:i.natAbs<1000):i.natAbs.log2<1920:=by
 have:i.natAbs.log2<=i.natAbs:=Nat.log2_le_self _
 omega
theorem P2:∀n,n<10->Txt.endswith ((⟨#[48+n]⟩:Str)++(":" : String)) (":" : String)=true:=by decide +kernel
theorem Q1:∀n,n<10->Txt.slice ((⟨#[48+n]⟩:Str)++(":" : String)) none (some (-1))=⟨#[48+n]⟩:=by decide +kernel
theorem P4:∀a,a<10->(!(Builtin.Str.occurrences ("0123456789" : String) (⟨#[48+a]⟩:Str) 0 (Str.length ("0123456789" : String)) 1).isEmpty)=true:=by decide +kernel
end VL
namespace PW
open PySem L2 VL
abbrev IS:Str:=("-" : String)
abbrev Jx:Str:=("*" : String)
abbrev Ga:Str:=(":" : String)
abbrev Lp:Str:=(" " : String)
theorem IT:Ga=⟨#[58]⟩:=rfl
def ab(a b:Nat):Str:=dg a++IS++dg b
def wd(e:ZV):Str:=if e.2.2=1 then ab e.1 e.2.1 else ab e.1 e.2.1++Jx++dg e.2.2.toNat
def Ve(n:Nat):Str:=dg n++Ga
structure Vf(e:ZV):Prop where
 a:e.1<10
 b:e.2.1<10
 lo:1<=e.2.2
 hi:e.2.2<=9
theorem Sz{a b:Nat}(ha:a<10)(hb:b<10):WO (ab a b)=[48+a,45,48+b]:=by
 unfold ab
 rw[YV,YV,WI ha,WI hb];rfl
theorem Lq{e:ZV}(h:Vf e):WO (wd e)=[48+e.1,45,48+e.2.1]++if e.2.2=1 then [] else [42,48+e.2.2.toNat]:=by
 unfold wd
 have:=h.lo
 have:=h.hi
 split
 ·rw[Sz h.a h.b,List.append_nil]
 ·rw[YV,YV,Sz h.a h.b,WI (by omega)];rfl
theorem Lr{e:ZV}(h:Vf e):(wd e).length<=5:=by
 rw[XI,Lq h]
 split<;>simp
theorem P5{n:Nat}(h:n<10):(Ve n).length<=5:=by
 unfold Ve;rw[XI,YV,WI h]
 show 2<=5
 omega
theorem K3{e:ZV}(h:Vf e):32∉WO (wd e):=by
 rw[Lq h]
 have:=h.a
 have:=h.b
 split<;>simp<;>omega
theorem K4{n:Nat}(h:n<10):32∉WO (Ve n):=by
 unfold Ve;rw[YV,WI h,IT];simp[WO];omega
theorem Uz{a:Nat}(h:a<1000):X2 (.int (a:Int))=some (.str (dg a)):=by
 unfold X2
 simp only
 rw[if_pos (Sy (by omega))];rfl
theorem Vu{a:Nat}(h:a<1000):YE [.int (a:Int)]=some (.str (dg a)):=by
 unfold YE
 simp only
 rw[if_pos (Sy (by omega))];rfl
theorem U4(x:Str):Str.empty++x=x:=Qf (by rw[YV];rfl)
theorem RA:∀(ts:List Str)(acc:Str),(∀t∈ts,t.length<=10)->acc.length+10*ts.length<=1000->QO acc ts=true
 | [],acc,_,h=>by
  have:(1000:Nat)<=sizeLine:=by decide
  simp only[QO,decide_eq_true_eq]
  simp at h
  omega
 | t::r,acc,ht,h=>by
  have h1:=ht t (by simp)
  have e:(acc++t).length=acc.length+t.length:=by rw[XI,YV,List.length_append,<-XI,<-XI]
  have:(1000:Nat)<=sizeLine:=by decide
  simp only[List.length_cons] at h;simp only[QO,Bool.and_eq_true,decide_eq_true_eq]
  exact⟨by omega,RA r _ (fun u hu=>ht u (by simp[hu])) (by omega)⟩
theorem SA(ts:List Str)(ht:∀t∈ts,t.length<=10)(h:ts.length<=20):Ld (ts.map .str)=some (.str (N0 Str.empty ts)):=by
 unfold Ld;rw[WA];simp only[Option.bind_some];rw[if_pos (RA ts Str.empty ht (by show 0+_<=_;omega))]
theorem X4{a:Nat}(h:a<10):(dg a).length=1:=by rw[XI,WI h];rfl
theorem Qg{a b:Nat}{t:Int}(h:Vf (a,b,t)):Yl [.int (a:Int),.int (b:Int),.int t]=some (.str (wd (a,b,t))):=by
 obtain⟨m,rfl⟩:∃m:Nat,t=(m:Int):=⟨t.toNat,by have:=h.lo;simp only at this;omega⟩
 have ha:a<10:=h.a
 have hb:b<10:=h.b
 have hm:m<10:=by have:=h.hi;simp only at this;omega
 have f1:=Uz (a:=a) (by omega)
 have f2:=Uz (a:=b) (by omega)
 have f3:=Uz (a:=m) (by omega)
 have c1:Sq [(Ta X2 (Za 0)),(eC (.str "-")),(Ta X2 (Za 1))] [some (.int (a:Int)),some (.int (b:Int)),some (.int (m:Int))]=some (.str (ab a b)):=by
  have:Tb [(Ta X2 (Za 0)),(eC (.str "-")),(Ta X2 (Za 1))] [some (.int (a:Int)),some (.int (b:Int)),some (.int (m:Int))]=some ([dg a,IS,dg b].map .str):=by
   simp[f1,f2]
  unfold Sq;rw[this];rw[Option.bind_some]
  rw[SA _ (by intro t ht;simp at ht;rcases ht with rfl | rfl | rfl<;>first | (rw[X4 (by assumption)];omega) | decide) (by simp)]
  show some (PV.str (Str.empty++dg a++IS++dg b))=_
  rw[U4];rfl
 have c2:Sq [(Ta X2 (Za 0)),(eC (.str "-")),(Ta X2 (Za 1)),(eC (.str "*")),(Ta X2 (Za 2))] [some (.int (a:Int)),some (.int (b:Int)),some (.int (m:Int))]=some (.str (ab a b++Jx++dg m)):=by
  have:Tb [(Ta X2 (Za 0)),(eC (.str "-")),(Ta X2 (Za 1)),(eC (.str "*")),(Ta X2 (Za 2))] [some (.int (a:Int)),some (.int (b:Int)),some (.int (m:Int))]=some ([dg a,IS,dg b,Jx,dg m].map .str):=by
   simp[f1,f2,f3]
  unfold Sq;rw[this];rw[Option.bind_some]
  rw[SA _ (by intro t ht;simp at ht;rcases ht with rfl | rfl | rfl | rfl | rfl<;>first | (rw[X4 (by assumption)];omega) | decide) (by simp)]
  show some (PV.str (Str.empty++dg a++IS++dg b++Jx++dg m))=_
  rw[U4];rfl
 show Xz 3 Wd _=_
 unfold Wd
 show(Yd _ [some (.int (a:Int)),some (.int (b:Int)),some (.int (m:Int))]).bind Xs=_
 rw[YR,Xw,OU,c1,c2];unfold wd
 by_cases q:(m:Int)=1
 ·simp[q]
 ·simp[q]
def SD(n:Nat):List (Nat×Nat):=(List.range n).flatMap fun a=>(List.range (n-(a+1))).map fun j=>(a,a+1+j)
theorem Ls:∀n,n<=7->(SD n).Nodup:=by decide +kernel
theorem mem_pairs{n a b:Nat}:(a,b)∈SD n↔a<b/\b<n:=by
 unfold SD;simp only[List.mem_flatMap,List.mem_range,List.mem_map,Prod.mk.injEq];constructor
 ·rintro⟨x,hx,j,hj,rfl,rfl⟩;omega
 ·rintro⟨h1,h2⟩
  exact⟨a,by omega,b-(a+1),by omega,rfl,by omega⟩
def O5(W:List (List Int))(p:Nat×Nat):ZV:=(p.1,p.2,Yj W p.1 p.2)
def XJ(W:List (List Int)):List ZV:=((SD W.length).filter fun p=>decide (0<Yj W p.1 p.2)).map (O5 W)
theorem mem_upT{W:List (List Int)}{a b:Nat}{t:Int}:(a,b,t)∈XJ W↔a<b/\b<W.length/\t=Yj W a b/\0<Yj W a b:=by
 unfold XJ O5;simp only[List.mem_map,List.mem_filter,decide_eq_true_eq,Prod.mk.injEq];constructor
 ·rintro⟨⟨x,y⟩,⟨h1,h2⟩,rfl,rfl,rfl⟩
  obtain⟨h3,h4⟩:=mem_pairs.mp h1
  exact⟨h3,h4,rfl,h2⟩
 ·rintro⟨h1,h2,rfl,h3⟩
  exact⟨(a,b),⟨mem_pairs.mpr ⟨h1,h2⟩,h3⟩,rfl,rfl,rfl⟩
theorem P6{W:List (List Int)}(ok:WL W):DictOk W.length (XJ W):=by
 refine⟨fun e he=>?_,?_⟩
 ·obtain⟨a,b,t⟩:=e
  obtain⟨h1,h2,rfl,h3⟩:=mem_upT.mp he
  exact⟨h1,h2,by show(1:Int)<=Yj W a b;omega,ok.hi a b (by omega) h2⟩
 ·have:(XJ W).map (fun e=>(e.1,e.2.1))=(SD W.length).filter fun p=>decide (0<Yj W p.1 p.2):=by
   unfold XJ O5;rw[List.map_map]
   exact List.map_id _
  rw[this]
  exact(Ls _ ok.few).sublist List.filter_sublist
theorem K5{n:Nat}{ts:List ZV}(ok:DictOk n ts)(h1:1<=n)(hn:n<=7):WQ n (XJ (WQ n ts))=WQ n ts:=by
 have mo:=Xu ok;have wk:=mo.web h1 hn;have uo:=P6 wk;rw[mo.len] at uo
 refine O2 (Xu uo) mo fun a b hab hb=>?_
 rcases Uy uo hab hb with⟨t,ht,e⟩ | ⟨ht,e⟩
 ·obtain⟨_,_,h3,_⟩:=mem_upT.mp ht
  rw[e,h3]
 ·rw[e]
  have lo:=wk.lo a b (by rw[mo.len];omega) (by rw[mo.len];omega)
  by_cases q:0<Yj (WQ n ts) a b
  ·exact absurd (mem_upT.mpr ⟨hab,by rw[mo.len];exact hb,rfl,q⟩) (ht _)
  ·omega
theorem Lu{n:Nat}{ts:List ZV}(ok:DictOk n ts)(hg:Hang n ts):Hang n (XJ (WQ n ts)):=fun P hP=>hg P fun a b ⟨t,ht⟩=>hP a b (by
 have h:=ok.ok _ ht
 simp only at h
 rcases Uy ok h.1 h.2.1 with⟨t',ht',e⟩ | ⟨ht',_⟩
 ·have h':=ok.ok _ ht'
  simp only at h'
  exact⟨Yj (WQ n ts) a b,mem_upT.mpr ⟨h.1,by rw[(Xu ok).len];exact h.2.1,rfl,by omega⟩⟩
 ·exact absurd ht (ht' t))
theorem O6{W:List (List Int)}(ok:WL W):(XJ W).length<=21:=by
 have h:∀n,n<=7->(SD n).length<=21:=by decide +kernel
 unfold XJ;rw[List.length_map]
 exact Nat.le_trans (List.length_filter_le _ _) (h _ ok.few)
theorem U5{n:Nat}{us:List ZV}(ok:DictOk n us)(hn:n<=7):∀e∈us,Vf e:=fun e he=>by
 have:=ok.ok e he
 exact⟨by omega,by omega,this.2.2.1,this.2.2.2⟩
theorem P7(neg:Bool)(a b:Str):WW neg (.str a) (.str b)=some (.bl (if neg then !decide (a=b) else decide (a=b))):=by
 unfold WW;rw[if_pos (show Xe 8 (.str a) (.str b)=true from rfl)]
 have:decide (PV.str a=PV.str b)=decide (a=b):=decide_eq_decide.mpr (by rw[PV.str.injEq])
 rw[this]
theorem P8:∀a,a<10->(decide ((⟨#[48+a]⟩:Str)=("0" : String)) || !decide ((⟨#[48+a]⟩:Str)=("0" : String)))=true:=by decide +kernel
theorem Q2{a:Nat}(h:a<10):Xj [.str (dg a),.int 2]=some (.bl true):=by
 rw[O4 a h]
 have hz:(⟨#[48+a]⟩:Str).length=1:=rfl
 have l1:Ya [.str (⟨#[48+a]⟩:Str)]=some (.int 1):=by
  unfold Ya;simp only[hz]
  rw[if_pos (by decide)];rfl
 have e1:XZ (YY (xB (Qi Qz Qz (eC (.int 1)) (Ze Ya [(Za 0)]) (Za 1)))) (Yd (eP (eC (.bl false)))) ZD [some (.str ⟨#[48+a]⟩),some (.int 2)]=some (.nx [some (.str ⟨#[48+a]⟩),some (.int 2)]):=by
  have c:Qi Qz Qz (eC (.int 1)) (Ze Ya [(Za 0)]) (Za 1) [some (.str ⟨#[48+a]⟩),some (.int 2)]=some (.bl true):=by
   unfold Qi;simp[l1]
  rw[Yc,Y8,Yt,c];rfl
 have c1:ZJ 1 [] (NY (Za 0)) (.one 0) Yr (Zi (PH false) (Za 0) (eC (.str "0123456789"))) [some (.str ⟨#[48+a]⟩),some (.int 2)]=some (.lst ([true].map PV.bl)):=by
  have hx:NY (Za 0) [some (.str ⟨#[48+a]⟩),some (.int 2)]=some ([a].map fun b=>.str ⟨#[48+b]⟩):=rfl
  rw[Xh [a] (fun b=>.str ⟨#[48+b]⟩) (fun _=>.bl true) hx (by simp) fun b hb=>⟨[some (.str ⟨#[48+b]⟩)],rfl,rfl,?_⟩]
  ·rfl
  ·have hb':b<10:=by simp at hb;omega
   have:=P4 b hb'
   show PH false (.str ⟨#[48+b]⟩) (.str "0123456789")=_
   unfold PH
   simp only
   rw[this];rfl
 show Xz 2 WB _=_
 unfold WB
 show(Zk _ _ [some (.str ⟨#[48+a]⟩),some (.int 2)]).bind Xs=_
 rw[ZW e1,YR,Xw,M5,Yt,Zp,Zu,c1]
 have gx:ZI (.str (⟨#[48+a]⟩:Str)) (.int 0)=some (.str ⟨#[48+a]⟩):=by
  unfold ZI;simp only[hz]
  rw[if_pos (by decide)];rfl
 have ga:TZ [.lst ([true].map PV.bl)]=some (.bl true):=by rw[M7];rfl
 have p:=P8 a h
 have g1:=P7 false (⟨#[48+a]⟩:Str) ("0" : String)
 have g2:=P7 true (⟨#[48+a]⟩:Str) ("0" : String)
 simp only[Ku,Option.bind_some,Option.map_some,ga,M4,if_true,Kv,Yt,ZA,Xt,M1,List.getElem?_cons_zero,Option.join_some,gx];rw[g1,g2]
 by_cases q:(⟨#[48+a]⟩:Str)=("0" : String)
 ·simp[q]
 ·simp[q]
theorem Xm{a:Nat}(h:a<10):Zy [.str (dg a)]=some (.int (a:Int)):=by
 have p:=Q2 h
 have e1:XZ (YY (xB (Ze Xj [(Za 0),(eC (.int 2))]))) YD ZD [some (.str (dg a))]=some (.nx [some (.str (dg a))]):=by
  rw[Yc,Y8,Yt,Zp]
  show((((Xj [.str (dg a),.int 2]).bind Ks).map not).bind _)=_
  rw[p];rfl
 have g:Rv [.str (dg a)]=some (.int (a:Int)):=by
  unfold Rv
  simp only
  rw[if_pos (by rw[X4 h];omega),show PySem.intText? (dg a)=some (a:Int) from PySem.W.KIN.num_reads (by omega) (by omega)];rfl
 show Xz 1 XG _=_
 unfold XG
 show(Zk _ _ [some (.str (dg a))]).bind Xs=_
 rw[ZW e1,YR,Xw,Zp]
 show(((Rv [.str (dg a)]).bind _).map _).bind _=_
 rw[g];rfl
theorem Q3{a:Nat}(h:a<10)(h2:2<=a):YM [.str (dg a)]=some (.int (a:Int)):=by
 have p:=Xm h
 have e1:Zo 1 (Ze Zy [(Za 0)]) [some (.str (dg a)),none]=some (.nx [some (.str (dg a)),some (.int (a:Int))]):=by
  rw[ZL,Zp]
  show(Zy [.str (dg a)]).map _=_
  rw[p];rfl
 have e2:XZ (xB (Zi OA (Za 1) (eC (.int 2)))) YD ZD [some (.str (dg a)),some (.int (a:Int))]=some (.nx [some (.str (dg a)),some (.int (a:Int))]):=by
  have:¬((a:Int)<2):=by omega
  simp[this]
 show Xz 2 XH _=_
 unfold XH
 show(Zk _ _ [some (.str (dg a)),none]).bind Xs=_
 rw[ZW e1,ZW e2];rfl
theorem Vg{c:Nat}{ws:List Str}{m:Nat}(h0:ws≠[])(hf:∀p∈ws,c∉WO p)(hm:∀p∈ws,p.length<=m)(h:ws.length*(m+1)<=100000):Yu (.str (Txt.join ⟨#[c]⟩ ws)) (.str ⟨#[c]⟩)=some (.lst (ws.map .str)):=by
 have hl:(Txt.join ⟨#[c]⟩ ws).length<=ws.length*(m+1):=by
  have e:Txt.join ⟨#[c]⟩ ws=Str.join ⟨#[c]⟩ ws:=StrLaws.glued_eq_join _ _
  rw[e]
  have h1:=StrLaws.join_length_le ⟨#[c]⟩ ws
  have h2:∀l:List Str,(∀p∈l,p.length<=m)->(l.map (·.length)).sum<=l.length*m:=by
   intro l
   induction l with
   | nil=>intro _;simp
   | cons x r ih=>
    intro hp
    have:=ih (fun p hp'=>hp p (by simp[hp']))
    have:=hp x (by simp)
    simp only[List.map_cons,List.sum_cons,List.length_cons,Nat.add_mul];omega
  have h3:=h2 ws hm
  have h4:(⟨#[c]⟩:Str).length=1:=rfl
  rw[h4] at h1;rw[Nat.mul_add];omega
 have sz:(100002:Nat)<=sizeLine:=by decide
 unfold Yu
 simp only
 rw[if_pos ⟨rfl,by omega⟩,P1 h0 hf]
theorem Mg{c:Nat}{x:Str}(hf:c∉WO x)(hl:x.length<=10):Yu (.str x) (.str ⟨#[c]⟩)=some (.lst [.str x]):=by
 have:=Vg (c:=c) (ws:=[x]) (m:=10) (by simp) (by simpa using hf) (by simpa using hl) (by simp)
 exact this
theorem RD{c:Nat}{x y:Str}(hx:c∉WO x)(hy:c∉WO y)(lx:x.length<=10)(ly:y.length<=10):Yu (.str (x++⟨#[c]⟩++y)) (.str ⟨#[c]⟩)=some (.lst [.str x,.str y]):=by
 have:=Vg (c:=c) (ws:=[x,y]) (m:=10) (by simp) (by simp[hx,hy]) (by simp[lx,ly]) (by simp)
 rw[show Txt.join ⟨#[c]⟩ [x,y]=x++⟨#[c]⟩++y from StrLaws.glued_eq_join _ _] at this
 exact this
theorem P9{a b:Nat}(ha:a<10)(hb:b<10):(ab a b).length<=10:=by rw[XI,Sz ha hb];simp
theorem Q4{e:ZV}(h:Vf e):Y2 [.str (wd e)]=some (YT e):=by
 obtain⟨a,b,t⟩:=e
 have ha:a<10:=h.a
 have hb:b<10:=h.b
 have lo:1<=t:=h.lo
 have hi:t<=9:=h.hi
 obtain⟨m,rfl⟩:∃m:Nat,t=(m:Int):=⟨t.toNat,by omega⟩
 have r1:=Xm ha;have r2:=Xm hb
 have f42:42∉WO (ab a b):=by rw[Sz ha hb];simp;omega
 have d45:∀x,x<10->45∉WO (dg x):=fun x hx=>by rw[WI hx];simp;omega
 have d42:∀x,x<10->42∉WO (dg x):=fun x hx=>by rw[WI hx];simp;omega
 have s2:Yu (.str (ab a b)) (.str "-")=some (.lst [.str (dg a),.str (dg b)]):=RD (c:=45) (d45 a ha) (d45 b hb) (by rw[X4 ha];omega) (by rw[X4 hb];omega)
 obtain⟨hs,e1,et⟩:∃hs:List PV,Yu (.str (wd (a,b,(m:Int)))) (.str "*")=some (.lst (.str (ab a b)::hs))/\((hs=[]/\m=1)\/(hs=[.str (dg m)]/\2<=m)):=by
  unfold wd
  by_cases q:m=1
  ·refine⟨[],?_,.inl ⟨rfl,q⟩⟩
   rw[if_pos (by simp[q])]
   exact Mg (c:=42) f42 (P9 ha hb)
  ·refine⟨[.str (dg m)],?_,.inr ⟨rfl,by omega⟩⟩
   rw[if_neg (by simp;omega)]
   simp only[Int.toNat_natCast]
   exact RD (c:=42) f42 (d42 m (by omega)) (P9 ha hb) (by rw[X4 (by omega)];omega)
 generalize wd (a,b,(m:Int))=w at e1
 let s:Option PV->Option PV->Option PV->ZG:=fun x y z=>[some (.str w),x,y,z]
 have q1:Zo 1 (Zi Yu (Za 0) (eC (.str "*"))) (s none none none)=some (.nx (s (some (.lst (.str (ab a b)::hs))) none none)):=by
  rw[ZL,ZA]
  show((Yu (.str w) (.str "*"))).map _=_
  rw[e1];rfl
 have q2:Zo 2 (Zi Yu (Zi ZI (Za 1) (eC (.int 0))) (eC (.str "-"))) (s (some (.lst (.str (ab a b)::hs))) none none)=some (.nx (s (some (.lst (.str (ab a b)::hs))) (some (.lst [.str (dg a),.str (dg b)])) none)):=by
  have i0:Zi ZI (Za 1) (eC (.int 0)) (s (some (.lst (.str (ab a b)::hs))) none none)=some (.str (ab a b)):=by
   rw[ZA]
   show X6 (PV.str (ab a b)::hs) ((0:Nat):Int)=_
   exact Xk rfl
  rw[ZL,ZA,i0]
  show((Yu (.str (ab a b)) (.str "-"))).map _=_
  rw[s2];rfl
 have q3:XZ (Pl (xB (Zi Tg (Ze Ya [(Za 1)]) (eC (.int 2)))) (xB (Zi (WW true) (Ze Ya [(Za 2)]) (eC (.int 2))))) YD ZD (s (some (.lst (.str (ab a b)::hs))) (some (.lst [.str (dg a),.str (dg b)])) none)=some (.nx (s (some (.lst (.str (ab a b)::hs))) (some (.lst [.str (dg a),.str (dg b)])) none)):=by
  have hl:hs.length<=1:=by rcases et with⟨rfl,_⟩ | ⟨rfl,_⟩<;>simp
  have:¬(2<(hs.length:Int)+1):=by omega
  simp[s,this]
 have q4:Zo 3 (eP (IW (xB (Zi (WW false) (Ze Ya [(Za 1)]) (eC (.int 2)))) (Ze YM [(Zi ZI (Za 1) (eC (.int 1)))]) (eC (.int 1)))) (s (some (.lst (.str (ab a b)::hs))) (some (.lst [.str (dg a),.str (dg b)])) none)=some (.nx (s (some (.lst (.str (ab a b)::hs))) (some (.lst [.str (dg a),.str (dg b)])) (some (.int (m:Int))))):=by
  rcases et with⟨rfl,rfl⟩ | ⟨rfl,h2⟩
  ·simp[s]
  ·have i1:Zi ZI (Za 1) (eC (.int 1)) (s (some (.lst [.str (ab a b),.str (dg m)])) (some (.lst [.str (dg a),.str (dg b)])) none)=some (.str (dg m)):=by
    rw[ZA]
    show X6 [PV.str (ab a b),PV.str (dg m)] ((1:Nat):Int)=_
    exact Xk rfl
   have c:xB (Zi (WW false) (Ze Ya [(Za 1)]) (eC (.int 2))) (s (some (.lst [.str (ab a b),.str (dg m)])) (some (.lst [.str (dg a),.str (dg b)])) none)=some true:=by simp[s]
   rw[ZL,Xw,OU,c];simp only[Option.bind_some,if_true];rw[Zp,Zu,i1]
   show(((YM [.str (dg m)])).bind _).map _=_
   rw[Q3 (by omega) h2];rfl
 show Xz 4 WC _=_
 unfold WC
 show(Zk _ _ (s none none none)).bind Xs=_
 rw[ZW q1,ZW q2,ZW q3,ZW q4]
 have j0:Zi ZI (Za 2) (eC (.int 0)) (s (some (.lst (.str (ab a b)::hs))) (some (.lst [.str (dg a),.str (dg b)])) (some (.int (m:Int))))=some (.str (dg a)):=by
  rw[ZA]
  show X6 [PV.str (dg a),PV.str (dg b)] ((0:Nat):Int)=_
  exact Xk rfl
 have j1:Zi ZI (Za 2) (eC (.int 1)) (s (some (.lst (.str (ab a b)::hs))) (some (.lst [.str (dg a),.str (dg b)])) (some (.int (m:Int))))=some (.str (dg b)):=by
  rw[ZA]
  show X6 [PV.str (dg a),PV.str (dg b)] ((1:Nat):Int)=_
  exact Xk rfl
 rw[YR,Xw,M3,Zu,Zu,Zu,Zp,Zp,Zu,Zu,j0,j1]
 show((((((Zy [.str (dg a)])).bind fun x=>Option.map _ (((Zy [.str (dg b)])).bind _)).map _).bind _).map _).bind _=_
 rw[r1,r2];rfl
theorem Lv(x:PV)(l:List PV):VJ (x::l) (some 1) none=l:=by
 unfold VJ
 rw[show HT.sIx (x::l).length 0 (some 1)=1 from by
  rw[show(some (1:Int))=some (((1:Nat):Int)) from rfl,HT.sIx_nat]
  simp,HT.sIx_none]
 simp
theorem Q5{n:Nat}{us:List ZV}(ok:DictOk n us)(hg:Hang n us)(h1:1<=n)(hn:n<=7)(hl:us.length<=49):ZY [.str (Txt.join Lp (Ve n::us.map wd))]=some (wP (WQ n us)):=by
 have tk:=U5 ok hn
 have ew:=Mc ok hg h1 hn (by omega)
 have sp:Yu (.str (Txt.join Lp (Ve n::us.map wd))) (.str " ")=some (.lst (.str (Ve n)::us.map fun e=>.str (wd e))):=by
  have:=Vg (c:=32) (ws:=Ve n::us.map wd) (m:=5) (by simp) (by
   intro p hp
   rcases List.mem_cons.mp hp with rfl | hp
   ·exact K4 (by omega)
   ·obtain⟨e,he,rfl⟩:=List.mem_map.mp hp
    exact K3 (tk e he)) (by
   intro p hp
   rcases List.mem_cons.mp hp with rfl | hp
   ·exact P5 (by omega)
   ·obtain⟨e,he,rfl⟩:=List.mem_map.mp hp
    exact Lr (tk e he)) (by simp;omega)
  rw[List.map_cons,List.map_map] at this;exact this
 generalize Txt.join Lp (Ve n::us.map wd)=text at sp
 let ws:List PV:=.str (Ve n)::us.map fun e=>.str (wd e)
 let s:Option PV->Option PV->Option PV->ZG:=fun x y z=>[some (.str text),x,y,z]
 have w0:∀y z,Zi ZI (Za 1) (eC (.int 0)) (s (some (.lst ws)) y z)=some (.str (Ve n)):=fun y z=>by
  rw[ZA]
  show X6 ws ((0:Nat):Int)=_
  exact Xk rfl
 have q1:Zo 1 (Zi Yu (Za 0) (eC (.str " "))) (s none none none)=some (.nx (s (some (.lst ws)) none none)):=by
  rw[ZL,ZA]
  show((Yu (.str text) (.str " "))).map _=_
  rw[sp];rfl
 have q2:XZ (YY (xB (Zi Ur (Zi ZI (Za 1) (eC (.int 0))) (eC (.str ":"))))) YD ZD (s (some (.lst ws)) none none)=some (.nx (s (some (.lst ws)) none none)):=by
  have c:Zi Ur (Zi ZI (Za 1) (eC (.int 0))) (eC (.str ":")) (s (some (.lst ws)) none none)=some (.bl true):=by
   rw[ZA,w0]
   show Ur (.str (Ve n)) (.str ":")=_
   unfold Ur Ve
   simp only
   rw[O4 n (by omega),P2 n (by omega)]
  rw[Yc,Y8,Yt,c];rfl
 have q3:Zo 2 (Ze Zy [(LC PF (Zi ZI (Za 1) (eC (.int 0))) Jl (MQ (Ta MH (eC (.int 1)))))]) (s (some (.lst ws)) none none)=some (.nx (s (some (.lst ws)) (some (.int (n:Int))) none)):=by
  have c:LC PF (Zi ZI (Za 1) (eC (.int 0))) Jl (MQ (Ta MH (eC (.int 1)))) (s (some (.lst ws)) none none)=some (.str (dg n)):=by
   rw[OT,w0]
   show PF (.str (Ve n)) none (some (-1))=_
   have hl2:=P5 (n:=n) (by omega)
   have:(5:Nat)<=sizeLine:=by decide
   unfold PF
   simp only
   rw[if_pos (by omega)];unfold Ve;rw[O4 n (by omega),Q1 n (by omega)]
  rw[ZL,Zp,Zu,c]
  show((Zy [.str (dg n)])).map _=_
  rw[Xm (by omega)];rfl
 have q4:Zo 3 (ZJ 1 [] (Ue (LC NI (Za 1) (MQ (eC (.int 1))) Jl)) (.one 0) Yr (Ze Y2 [(Za 0)])) (s (some (.lst ws)) (some (.int (n:Int))) none)=some (.nx (s (some (.lst ws)) (some (.int (n:Int))) (some (.lst (us.map YT))))):=by
  have hx:Ue (LC NI (Za 1) (MQ (eC (.int 1))) Jl) (s (some (.lst ws)) (some (.int (n:Int))) none)=some (us.map fun e=>.str (wd e)):=by
   rw[M9,OT]
   show(some (PV.lst (VJ ws (some 1) none))).bind Iy=_
   rw[Lv];rfl
  have c:=Xh (n:=1) (ix:=[]) (T:=.one 0) (ft:=Yr) (fe:=Ze Y2 [(Za 0)]) us (fun e=>.str (wd e)) YT hx (by omega) fun e he=>⟨[some (.str (wd e))],rfl,rfl,by
   rw[Zp]
   show Y2 [.str (wd e)]=_
   exact Q4 (tk e he)⟩
  rw[ZL,c];rfl
 show Xz 4 WD _=_
 unfold WD
 show(Zk _ _ (s none none none)).bind Xs=_
 rw[ZW q1,ZW q2,ZW q3,ZW q4,YR,Zp]
 show(((W7 [.int (n:Int),.lst (us.map YT)])).map _).bind _=_
 rw[ew];rfl
def SG(W:List (List Int))(a m:Nat):List ZV:=(((List.range m).map fun j=>(a,a+1+j)).filter fun p=>decide (0<Yj W p.1 p.2)).map (O5 W)
theorem Q6(W:List (List Int)):XJ W=(List.range W.length).flatMap fun a=>SG W a (W.length-(a+1)):=by
 unfold XJ SD SG;rw[List.filter_flatMap,List.map_flatMap]
theorem Lw(W:List (List Int))(a m:Nat):SG W a (m+1)=SG W a m++if 0<Yj W a (a+1+m) then [(a,a+1+m,Yj W a (a+1+m))] else []:=by
 unfold SG;rw[List.range_succ,List.map_append,List.filter_append,List.map_append]
 congr 1
 simp only[List.map_cons,List.map_nil,List.filter_cons,List.filter_nil]
 split<;>rename_i h
 ·rw[if_pos (by simpa using h)];rfl
 ·rw[if_neg (by simpa using h)];rfl
theorem Tx(W:List (List Int))(a m:Nat):(SG W a m).length<=m:=by
 unfold SG;rw[List.length_map]
 refine Nat.le_trans (List.length_filter_le _ _) ?_
 simp
abbrev Y5(l:List ZV):List PV:=l.map fun e=>.str (wd e)
theorem GW{W:List (List Int)}(ok:WL W){a b:Nat}(ha:a<W.length)(hb:b<W.length){s:ZG}{i j k:Nat}(h0:s[i]?=some (some (wP W)))(h1:s[j]?=some (some (.int (a:Int))))(h2:s[k]?=some (some (.int (b:Int)))) :
  Zi ZI (Zi ZI (Za i) (Za j)) (Za k) s=some (.int (Yj W a b)):=by
 rw[ZA,ZA,Xt,Xt,Xt,h0,h1,h2]
 show(X6 (W.map pP) (a:Int)).bind (fun x=>ZI x (.int (b:Int)))=_
 rw[OV ha]
 show X6 (iL (Zv W a)) (b:Int)=_
 rw[Si (by rw[ok.sq a ha];exact hb)];rfl
theorem IU{W:List (List Int)}(ok:WL W){a b:Nat}(ha:a<W.length)(hb:b<W.length)(h:0<Yj W a b):Vf (a,b,Yj W a b):=by
 have:=ok.few
 exact⟨by show a<10;omega,by show b<10;omega,by show(1:Int)<=Yj W a b;omega,ok.hi a b ha hb⟩
theorem Vh{x y:Str}(h:x.length<=1000)(h':y.length<=1000):ZS (.str x) (.str y)=some (.str (x++y)):=by
 have:(2000:Nat)<=sizeLine:=by decide
 unfold ZS
 simp only
 rw[if_pos (by omega)]
theorem Lx{W:List (List Int)}(ok:WL W):XN [wP W]=some (.lst (Y5 (XJ W))):=by
 have fw:=ok.few
 let st:List ZV->Option PV->Option PV->Option PV->ZG:=fun l x y z=>[some (wP W),some (.lst (Y5 l)),x,y,z]
 let b2:XS:=(Zk (Zo 4 (eP (Zi ZS (Zi ZS (Ze YE [(Za 2)]) (eC (.str "-"))) (Ze YE [(Za 3)]))))
  (Zk (XZ (xB (Zi Tg (Zi ZI (Zi ZI (Za 0) (Za 2)) (Za 3)) (eC (.int 1)))) (Zo 4 (eP (Zi ZS (Zi ZS (Za 4) (eC (.str "*"))) (Ze YE [(Zi ZI (Zi ZI (Za 0) (Za 2)) (Za 3))])))) ZD)
  (XZ (xB (Zi Tg (Zi ZI (Zi ZI (Za 0) (Za 2)) (Za 3)) (eC (.int 0)))) (Xl 1 (eP (Za 4))) ZD)))
 have body:∀(l:List ZV)(a b:Nat)(z:Option PV),l.length<=1000->a<W.length->b<W.length->∃z',b2 (st l (some (.int (a:Int))) (some (.int (b:Int))) z)=some (.nx (st (l++if 0<Yj W a b then [(a,b,Yj W a b)] else []) (some (.int (a:Int))) (some (.int (b:Int))) z')):=by
  intro l a b z hl ha hb;have lo:=ok.lo a b ha hb;have hi:=ok.hi a b ha hb
  obtain⟨m,em⟩:∃m:Nat,Yj W a b=(m:Int):=⟨(Yj W a b).toNat,by omega⟩
  have q1:Zo 4 (eP (Zi ZS (Zi ZS (Ze YE [(Za 2)]) (eC (.str "-"))) (Ze YE [(Za 3)]))) (st l (some (.int (a:Int))) (some (.int (b:Int))) z)=some (.nx (st l (some (.int (a:Int))) (some (.int (b:Int))) (some (.str (ab a b))))):=by
   have c:Zi ZS (Zi ZS (Ze YE [(Za 2)]) (eC (.str "-"))) (Ze YE [(Za 3)]) (st l (some (.int (a:Int))) (some (.int (b:Int))) z)=some (.str (ab a b)):=by
    rw[ZA,ZA]
    show(((YE [.int (a:Int)]).bind fun x=>ZS x (.str "-")).bind fun x=>(YE [.int (b:Int)]).bind fun y=>ZS x y)=_
    rw[Vu (by omega),Vu (by omega)]
    show((ZS (.str (dg a)) (.str IS)).bind fun x=>ZS x (.str (dg b)))=_
    rw[Vh (by rw[X4 (by omega)];omega) (by decide)]
    show ZS (.str (dg a++IS)) (.str (dg b))=_
    rw[Vh (by rw[XI,YV,WI (by omega)];simp[WO];decide) (by rw[X4 (by omega)];omega)];rfl
   rw[ZL,Xw,c];rfl
  have g:∀z,Zi ZI (Zi ZI (Za 0) (Za 2)) (Za 3) (st l (some (.int (a:Int))) (some (.int (b:Int))) z)=some (.int (Yj W a b)):=fun z=>GW ok ha hb rfl rfl rfl
  obtain⟨w,q2,hw⟩:∃w:Str,XZ (xB (Zi Tg (Zi ZI (Zi ZI (Za 0) (Za 2)) (Za 3)) (eC (.int 1)))) (Zo 4 (eP (Zi ZS (Zi ZS (Za 4) (eC (.str "*"))) (Ze YE [(Zi ZI (Zi ZI (Za 0) (Za 2)) (Za 3))])))) ZD (st l (some (.int (a:Int))) (some (.int (b:Int))) (some (.str (ab a b))))=some (.nx (st l (some (.int (a:Int))) (some (.int (b:Int))) (some (.str w))))/\(0<Yj W a b->w=wd (a,b,Yj W a b)):=by
   by_cases q:1<Yj W a b
   ·refine⟨ab a b++Jx++dg m,?_,fun _=>?_⟩
    ·have t:xB (Zi Tg (Zi ZI (Zi ZI (Za 0) (Za 2)) (Za 3)) (eC (.int 1))) (st l (some (.int (a:Int))) (some (.int (b:Int))) (some (.str (ab a b))))=some true:=by
      rw[Yt,ZA,g];simp[q]
     have c:Zi ZS (Zi ZS (Za 4) (eC (.str "*"))) (Ze YE [(Zi ZI (Zi ZI (Za 0) (Za 2)) (Za 3))]) (st l (some (.int (a:Int))) (some (.int (b:Int))) (some (.str (ab a b))))=some (.str (ab a b++Jx++dg m)):=by
      rw[ZA,Zp,Zu,g,em]
      show((ZS (.str (ab a b)) (.str Jx)).bind fun x=>(YE [.int (m:Int)]).bind fun y=>ZS x y)=_
      rw[Vh (by have:=P9 (a:=a) (b:=b) (by omega) (by omega);omega) (by decide),Vu (by omega)]
      show ZS (.str (ab a b++Jx)) (.str (dg m))=_
      rw[Vh (by rw[XI,YV,Sz (by omega) (by omega)];simp[WO];decide) (by rw[X4 (by omega)];omega)]
     rw[Yc,t]
     show Zo 4 _ _=_
     rw[ZL,Xw,c];rfl
    ·unfold wd
     rw[if_neg (by simp only;omega)]
     simp only[em,Int.toNat_natCast]
   ·refine⟨ab a b,?_,fun h=>?_⟩
    ·have t:xB (Zi Tg (Zi ZI (Zi ZI (Za 0) (Za 2)) (Za 3)) (eC (.int 1))) (st l (some (.int (a:Int))) (some (.int (b:Int))) (some (.str (ab a b))))=some false:=by
      rw[Yt,ZA,g];simp[q]
     rw[Yc,t];rfl
    ·unfold wd
     rw[if_pos (by simp only;omega)]
  refine⟨some (.str w),?_⟩
  show Zk _ _ (st l (some (.int (a:Int))) (some (.int (b:Int))) z)=_
  rw[ZW q1,ZW q2]
  by_cases q:0<Yj W a b
  ·have t:xB (Zi Tg (Zi ZI (Zi ZI (Za 0) (Za 2)) (Za 3)) (eC (.int 0))) (st l (some (.int (a:Int))) (some (.int (b:Int))) (some (.str w)))=some true:=by
    rw[Yt,ZA,g];simp[q]
   rw[Yc,t,if_pos q,Option.bind_some,if_pos rfl]
   rw[Sk (m:=Y5 l) (l:=.str w) rfl rfl (by simp[Y5];omega),hw q]
   simp[st,Y5]
  ·have t:xB (Zi Tg (Zi ZI (Zi ZI (Za 0) (Za 2)) (Za 3)) (eC (.int 0))) (st l (some (.int (a:Int))) (some (.int (b:Int))) (some (.str w)))=some false:=by
    rw[Yt,ZA,g];simp[q]
   rw[Yc,t,if_neg q,List.append_nil];rfl
 have loop2:∀(l:List ZV)(a:Nat)(y z:Option PV),l.length<=500->a<W.length->∃y' z',XC (.one 3) b2 (XW ((a:Int)+1) (W.length-(a+1))) (st l (some (.int (a:Int))) y z)=some (.nx (st (l++SG W a (W.length-(a+1))) (some (.int (a:Int))) y' z')):=by
  intro l a y z hl ha
  obtain⟨s',f,y',z',hs⟩:=ZP (T:=.one 3) (fb:=b2) (ls:=XW ((a:Int)+1) (W.length-(a+1))) (s:=st l (some (.int (a:Int))) y z)
   (fun j s=>∃y' z',s=st (l++SG W a j) (some (.int (a:Int))) y' z') ⟨y,z,by simp[SG]⟩ (by
    rintro j p s hl' ⟨y',z',rfl⟩
    obtain⟨hj,rfl⟩:=Ul hl'
    have e1:(a:Int)+1+(j:Int)=((a+1+j:Nat):Int):=by omega
    rw[e1]
    obtain⟨z2,f2⟩:=body (l++SG W a j) a (a+1+j) z' (by
     rw[List.length_append]
     have:=Tx W a j
     omega) ha (by omega)
    refine⟨_,_,rfl,f2,some (.int ((a+1+j:Nat):Int)),z2,?_⟩
    rw[Lw,List.append_assoc])
  rw[Um] at hs
  exact⟨y',z',by rw[f,hs]⟩
 obtain⟨s',f,x,y,z,hs,hlen⟩:=ZP (T:=.one 2) (fb:=YB [1] (Yq [(Zi Z4 (Za 2) (eC (.int 1))),(Ze Ya [(Za 0)])]) (.one 3) b2) (ls:=Wh W.length) (s:=st [] none none none)
  (fun i s=>∃x y z,s=st ((List.range i).flatMap fun a=>SG W a (W.length-(a+1))) x y z/\((List.range i).flatMap fun a=>SG W a (W.length-(a+1))).length<=7*i) ⟨none,none,none,rfl,by simp⟩ (by
   rintro i p s hl' ⟨x,y,z,rfl,hlen⟩
   obtain⟨hi,rfl⟩:=W3 hl'
   obtain⟨y',z',f2⟩:=loop2 ((List.range i).flatMap fun a=>SG W a (W.length-(a+1))) i y z (by omega) hi
   refine⟨_,_,rfl,?_,some (.int (i:Int)),y',z',rfl,?_⟩
   ·show YB [1] _ _ _ (st ((List.range i).flatMap fun a=>SG W a (W.length-(a+1))) (some (.int (i:Int))) y z)=_
    rw[Yg,Wo (i:=(i:Int)+1) (j:=(W.length:Int)) (by simp[ZK,st]) (by simp[ZK,st]) ⟨by omega,by omega⟩ ⟨by omega,by omega⟩]
    have:((W.length:Int)-((i:Int)+1)).toNat=W.length-(i+1):=by omega
    rw[this];simp only[Option.bind_some];rw[f2,Vs]
   ·rw[Vs,List.length_append]
    have:=Tx W i (W.length-(i+1))
    omega)
 rw[W4] at hs
 have e1:Zo 1 (Yz []) [some (wP W),none,none,none,none]=some (.nx (st [] none none none)):=rfl
 have e2:YB [1] (Yk [(Ze Ya [(Za 0)])]) (.one 2) (YB [1] (Yq [(Zi Z4 (Za 2) (eC (.int 1))),(Ze Ya [(Za 0)])]) (.one 3) b2) (st [] none none none)=some (.nx (st (XJ W) x y z)):=by
  rw[Yg,Xi (n:=W.length) (by simp[ZK,st]) (by omega)]
  simp only[Option.bind_some];rw[f,hs,Q6]
 show Xz 5 Vp _=_
 unfold Vp
 show(Zk _ _ [some (wP W),none,none,none,none]).bind Xs=_
 rw[ZW e1,ZW e2];rfl
theorem K6(n:Nat)(l:List ZV):X1 (.str (Ve n)::Y5 l)=some (Ve n::l.map wd):=by
 have:=WA (Ve n::l.map wd)
 rw[List.map_cons,List.map_map] at this;exact this
theorem Q7{n:Nat}{l:List ZV}(hn:n<=7)(hk:∀e∈l,Vf e)(hl:l.length<=100):VC (.str " ") (.lst (.str (Ve n)::Y5 l))=some (.str (Txt.join Lp (Ve n::l.map wd))):=by
 unfold VC
 simp only
 rw[K6];simp only[Option.bind_some]
 have jo:JoinOk Lp (Ve n::l.map wd)=true:=Mf (c:=32) (m:=5) (by
  intro p hp
  rcases List.mem_cons.mp hp with rfl | hp
  ·exact P5 (by omega)
  ·obtain⟨e,he,rfl⟩:=List.mem_map.mp hp
   exact Lr (hk e he)) (by simp;omega)
 exact if_pos jo
theorem O7(l:List ZV):Zz (Y5 l)=true:=UY fun e _=>rfl
theorem K7{W:List (List Int)}{l:List ZV}(ok:WL W)(hk:∀e∈l,Vf e)(hl:l.length<=100):YS [wP W,.lst (Y5 l)]=some (.str (Txt.join Lp (Ve W.length::l.map wd))):=by
 have fw:=ok.few
 have c:Zi Sf (Yz [(Zi ZS (Ze YE [(Ze Ya [(Za 0)])]) (eC (.str ":")))]) (Za 1) [some (wP W),some (.lst (Y5 l))]=some (.lst (.str (Ve W.length)::Y5 l)):=by
  have g1:Zi ZS (Ze YE [(Ze Ya [(Za 0)])]) (eC (.str ":")) [some (wP W),some (.lst (Y5 l))]=some (.str (Ve W.length)):=by
   rw[ZA]
   show((YE [.int ((W.map pP).length:Int)]).bind fun x=>ZS x (.str ":"))=_
   rw[List.length_map,Vu (by omega)]
   show ZS (.str (dg W.length)) (.str Ga)=_
   rw[Vh (by rw[X4 (by omega)];omega) (by decide)];rfl
  rw[ZA,QK,Zu,g1]
  show Sf (.lst [.str (Ve W.length)]) (.lst (Y5 l))=_
  unfold Sf
  simp only
  rw[if_pos ⟨by simp[Y5];omega,rfl,O7 l⟩];rfl
 show Xz 2 Uv _=_
 unfold Uv
 show(Yd _ [some (wP W),some (.lst (Y5 l))]).bind Xs=_
 rw[YR,Xw,ZA,c]
 show(((VC (.str " ") (.lst (.str (Ve W.length)::Y5 l)))).bind _ |>.map _).bind _=_
 rw[Q7 (by omega) hk hl];rfl
theorem Ly{W:List (List Int)}{a m:Nat}:((List.range m).filter fun j=>decide (0<Yj W a (a+1+j))).map (fun j=>PV.str (wd (a,a+1+j,Yj W a (a+1+j))))=Y5 (SG W a m):=by
 unfold SG Y5;rw[List.filter_map,List.map_map,List.map_map];rfl
theorem Qh{W:List (List Int)}(ok:WL W):Y4 [wP W]=some (.str (Txt.join Lp (Ve W.length::(XJ W).map wd))):=by
 have fw:=ok.few
 let st:List ZV->Option PV->Option PV->ZG:=fun l x y=>[some (wP W),some (.int (W.length:Int)),some (.lst (.str (Ve W.length)::Y5 l)),x,y]
 have q1:Zo 1 (eP (Ze Ya [(Za 0)])) [some (wP W),none,none,none,none]=some (.nx [some (wP W),some (.int (W.length:Int)),none,none,none]):=by simp
 have q2:Zo 2 (Yz [(eP (Sq [(Ta X2 (Za 1)),(eC (.str ":"))]))]) [some (wP W),some (.int (W.length:Int)),none,none,none]=some (.nx (st [] none none)):=by
  have f1:=Uz (a:=W.length) (by omega)
  have c:Sq [(Ta X2 (Za 1)),(eC (.str ":"))] [some (wP W),some (.int (W.length:Int)),none,none,none]=some (.str (Ve W.length)):=by
   have:Tb [(Ta X2 (Za 1)),(eC (.str ":"))] [some (wP W),some (.int (W.length:Int)),none,none,none]=some ([dg W.length,Ga].map .str):=by
    simp[f1]
   unfold Sq;rw[this];rw[Option.bind_some]
   rw[SA _ (by intro t ht;simp at ht;rcases ht with rfl | rfl<;>first | (rw[X4 (by omega)];omega) | decide) (by simp)]
   show some (PV.str (Str.empty++dg W.length++Ga))=_
   rw[U4];rfl
  rw[ZL,QK,Zu,Xw,c];rfl
 obtain⟨s',f,x,y,hs,hlen⟩:=ZP (T:=.many [3,4]) (fb:=(XD 2 (ZJ 1 [3,4] (Yq [(Zi Z4 (Za 3) (eC (.int 1))),(Za 1)]) (.one 0) (xB (Zi Tg (Zi ZI (Za 2) (Za 0)) (eC (.int 0)))) (Ze Yl [(Za 1),(Za 0),(Zi ZI (Za 2) (Za 0))])))) (ls:=XX (W.map pP)) (s:=st [] none none)
  (fun i s=>∃x y,s=st ((List.range i).flatMap fun a=>SG W a (W.length-(a+1))) x y/\((List.range i).flatMap fun a=>SG W a (W.length-(a+1))).length<=7*i) ⟨none,none,rfl,by simp⟩ (by
   rintro i p s hl' ⟨x,y,rfl,hlen⟩
   rw[X9,List.getElem?_map,List.length_map] at hl'
   by_cases hi:i<W.length
   ·rw[List.getElem?_range hi,Option.map_some,M8 W i hi] at hl'
    cases hl'
    refine⟨st ((List.range i).flatMap fun a=>SG W a (W.length-(a+1))) (some (.int (i:Int))) (some (pP (Zv W i))),_,rfl,?_,some (.int (i:Int)),some (pP (Zv W i)),rfl,?_⟩
    ·have rg:Yq [(Zi Z4 (Za 3) (eC (.int 1))),(Za 1)] (st ((List.range i).flatMap fun a=>SG W a (W.length-(a+1))) (some (.int (i:Int))) (some (pP (Zv W i))))=some ((List.range (W.length-(i+1))).map fun(j:Nat)=>.int ((i:Int)+1+(j:Int))):=by
      rw[Wo (i:=(i:Int)+1) (j:=(W.length:Int)) (by simp[st]) (by simp[st]) ⟨by omega,by omega⟩ ⟨by omega,by omega⟩]
      have:((W.length:Int)-((i:Int)+1)).toNat=W.length-(i+1):=by omega
      rw[this];rfl
     have c:=Uk (n:=1) (ix:=[3,4]) (T:=.one 0) (ft:=xB (Zi Tg (Zi ZI (Za 2) (Za 0)) (eC (.int 0)))) (fe:=Ze Yl [(Za 1),(Za 0),(Zi ZI (Za 2) (Za 0))]) (List.range (W.length-(i+1))) (fun(j:Nat)=>.int ((i:Int)+1+(j:Int))) (fun j=>PV.str (wd (i,i+1+j,Yj W i (i+1+j)))) (fun j=>decide (0<Yj W i (i+1+j))) rg (by simp;omega) fun j hj=>by
      have hj':i+1+j<W.length:=by have:=List.mem_range.mp hj;omega
      have e1:(i:Int)+1+(j:Int)=((i+1+j:Nat):Int):=by omega
      have ga:X6 (iL (Zv W i)) ((i+1+j:Nat):Int)=some (.int (Yj W i (i+1+j))):=by
       rw[Si (by rw[ok.sq i hi];exact hj')];rfl
      refine⟨[some (.int ((i+1+j:Nat):Int)),some (.int (i:Int)),some (pP (Zv W i))],by rw[e1];rfl,?_,fun hc=>?_⟩
      ·rw[Yt,ZA,ZA]
       show(((X6 (iL (Zv W i)) ((i+1+j:Nat):Int))).bind fun x=>Tg x (.int 0)).bind Ks=_
       rw[ga];rfl
      ·have t:=IU ok hi hj' (by simpa using hc)
       rw[Zp,Zu,Zu,Zu,ZA]
       show((((X6 (iL (Zv W i)) ((i+1+j:Nat):Int))).bind fun x=>some [x]).map _ |>.map _).bind Yl=_
       rw[ga]
       exact Qg t
     rw[Ly] at c
     rw[Sj (m:=.str (Ve W.length)::Y5 ((List.range i).flatMap fun a=>SG W a (W.length-(a+1)))) c rfl (by
      have:=Tx W i (W.length-(i+1))
      simp only[List.length_cons,List.length_map,Y5]
      omega)]
     rw[Vs];simp[st,Y5]
    ·rw[Vs,List.length_append]
     have:=Tx W i (W.length-(i+1))
     omega
   ·rw[List.getElem?_eq_none (by simp;omega)] at hl'
    cases hl')
 have ll:(XX (W.map pP)).length=W.length:=by rw[UU,List.length_map]
 rw[ll,<-Q6] at hs
 have q3:YB [2] (X8 false [(Za 0)]) (.many [3,4]) (XD 2 (ZJ 1 [3,4] (Yq [(Zi Z4 (Za 3) (eC (.int 1))),(Za 1)]) (.one 0) (xB (Zi Tg (Zi ZI (Za 2) (Za 0)) (eC (.int 0)))) (Ze Yl [(Za 1),(Za 0),(Zi ZI (Za 2) (Za 0))]))) (st [] none none)=some (.nx (st (XJ W) x y)):=by
  rw[Yg,show X8 false [(Za 0)] (ZK [2] (st [] none none))=some (XX (W.map pP)) from rfl]
  simp only[Option.bind_some];rw[f,hs]
 show Xz 5 We _=_
 unfold We
 show(Zk _ _ [some (wP W),none,none,none,none]).bind Xs=_
 rw[ZW q1,ZW q2,ZW q3,YR,Xw,ZA]
 have tk:∀e∈XJ W,Vf e:=U5 (P6 ok) fw
 show(((VC (.str " ") (.lst (.str (Ve W.length)::Y5 (XJ W))))).bind _ |>.map _).bind _=_
 rw[Q7 (by omega) tk (by have:=O6 ok;omega)];rfl
theorem Lz{v:PV}(neg:Bool)(h:Xe 8 v v=true):WW neg v v=some (.bl (!neg)):=by
 unfold WW;rw[if_pos h]
 cases neg<;>simp
theorem Mh{s:ZG}{k:Nat}{l:List Int}(hl:l.length<=1000)(h:s[k]?=some (some (pP l))):Ze TZ [(ZJ 1 [] (Ug (Za k)) (.one 0) Yr (Ze YL [(Za 0)]))] s=some (.bl true):=by
 have hx:Ug (Za k) s=some (iL l):=La (by rw[Xt,h];rfl)
 have hc:ZJ 1 [] (Ug (Za k)) (.one 0) Yr (Ze YL [(Za 0)]) s=some (.lst ((l.map fun _=>true).map PV.bl)):=by
  rw[Xh l (fun(x:Int)=>.int x) (fun _=>.bl true) hx (by omega) fun x _=>⟨[some (.int x)],rfl,rfl,Lh x⟩]
  rw[List.map_map];rfl
 rw[Zp,Zu,hc]
 show TZ [.lst ((l.map fun _=>true).map PV.bl)]=_
 rw[M7];simp
theorem LA{W:List (List Int)}(ok:WL W):Ys [wP W,wP W]=some (.bl true):=by
 have hf:=ok.few
 let s:Option PV->ZG:=fun x=>[some (wP W),some (wP W),x]
 have e1:XZ (Pl (YY (xB (Ze Xp [(Za 0),(eC (.ty "tuple"))]))) (xB (Zi (WW true) (Ze Ya [(Za 0)]) (Ze Ya [(Za 1)])))) (Yd (eP (eC (.bl false)))) ZD (s none)=some (.nx (s none)):=by simp[s]
 obtain⟨s',f,x,hs⟩:=ZP (T:=.one 2) (fb:=XZ (Pl (YY (xB (Ze Xp [(Za 2),(eC (.ty "tuple"))]))) (YY (xB (Ze TZ [(ZJ 1 [] (Ug (Za 2)) (.one 0) Yr (Ze YL [(Za 0)]))])))) (Yd (eP (eC (.bl false)))) ZD) (ls:=W.map pP) (s:=s none)
  (fun _ st=>∃x,st=s x) ⟨none,rfl⟩ (by
   rintro i l st hl ⟨x,rfl⟩
   have hi:i<W.length:=by have:=(List.getElem?_eq_some_iff.mp hl).1;simpa using this
   rw[List.getElem?_map,Wl hi] at hl;cases hl;have lr:=ok.sq i hi
   refine⟨s (some (pP (Zv W i))),s (some (pP (Zv W i))),rfl,?_,_,rfl⟩
   have c1:xB (Ze Xp [(Za 2),(eC (.ty "tuple"))]) (s (some (pP (Zv W i))))=some true:=by rw[Yt];rfl
   have c3:=Mh (s:=s (some (pP (Zv W i)))) (k:=2) (l:=Zv W i) (by omega) rfl
   rw[Yc,R3,Y8,c1];simp only[Option.bind_some,Option.map_some,Bool.not_true,Bool.false_eq_true,if_false]
   rw[Y8,Yt,c3];rfl)
 subst hs
 have e2:YB [] (Ug (Za 0)) (.one 2) (XZ (Pl (YY (xB (Ze Xp [(Za 2),(eC (.ty "tuple"))]))) (YY (xB (Ze TZ [(ZJ 1 [] (Ug (Za 2)) (.one 0) Yr (Ze YL [(Za 0)]))])))) (Yd (eP (eC (.bl false)))) ZD) (s none)=some (.nx (s x)):=by
  rw[Yg,show Ug (Za 0) (ZK [] (s none))=some (W.map pP) from rfl]
  exact f
 show Xz 3 Ut _=_
 unfold Ut
 show(Zk _ _ (s none)).bind Xs=_
 rw[ZW e1,ZW e2,YR,Xw,ZA]
 show(((WW false (wP W) (wP W)).bind _).map _).bind _=_
 rw[Lz false (Kx 5 W W)];rfl
theorem O8{n:Nat}{ts:List ZV}(ok:DictOk n ts)(hg:Hang n ts)(h1:1<=n)(hn:n<=7)(c:Int):Zm [wP (WQ n ts),.int c]=some (.bl true):=by
 have mo:=Xu ok;have wk:=mo.web h1 hn;have uo:=P6 wk;have uh:=Lu ok hg;have uw:=K5 ok h1 hn;have ul:=O6 wk;have wd1:=Lx wk;have sh:=Qh wk;have tk:=U5 uo wk.few;have ro:=LA wk
 have tx:∀l:List ZV,(∀e∈l,Vf e)->l.length<=100->YS [wP (WQ n ts),.lst (Y5 l)]=some (.str (Txt.join Lp (Ve n::l.map wd))):=fun l h h'=>by
  have:=K7 wk h h'
  rwa [mo.len] at this
 have rd:∀us:List ZV,us.Perm (XJ (WQ n ts))->ZY [.str (Txt.join Lp (Ve n::us.map wd))]=some (wP (WQ n ts)):=fun us hp=>by
  have uo':DictOk n (XJ (WQ n ts)):=by have:=uo;rwa [mo.len] at this
  have:=Q5 (Ry uo' hp) (Md uh hp) h1 hn (by rw[hp.length_eq];omega)
  rwa [Ln uo' hp,uw] at this
 rw[mo.len] at sh
 generalize WQ n ts=W at mo wk wd1 sh tk ro tx rd ul
 let T:Str:=Txt.join Lp (Ve n::(XJ W).map wd)
 let st:Int->Option PV->Option PV->Option PV->Option PV->ZG:=fun c x y z w=>[some (wP W),some (.int c),x,y,z,w]
 have q1:Zo 2 (Ze XN [(Za 0)]) (st c none none none none)=some (.nx (st c (some (.lst (Y5 (XJ W)))) none none none)):=by
  rw[ZL,Zp]
  show(XN [wP W]).map _=_
  rw[wd1];rfl
 have q2:Zo 3 (Ze Y4 [(Za 0)]) (st c (some (.lst (Y5 (XJ W)))) none none none)=some (.nx (st c (some (.lst (Y5 (XJ W)))) (some (.str T)) none none)):=by
  rw[ZL,Zp]
  show(Y4 [wP W]).map _=_
  rw[sh];rfl
 have q3:XZ (Pl (YY (xB (Ze Xp [(Za 3),(eC (.ty "str"))]))) (xB (Zi (WW true) (Za 3) (Ze YS [(Za 0),(Za 2)])))) (Yd (eP (eC (.bl false)))) ZD (st c (some (.lst (Y5 (XJ W)))) (some (.str T)) none none)=some (.nx (st c (some (.lst (Y5 (XJ W)))) (some (.str T)) none none)):=by
  have a1:xB (Ze Xp [(Za 3),(eC (.ty "str"))]) (st c (some (.lst (Y5 (XJ W)))) (some (.str T)) none none)=some true:=by rw[Yt];rfl
  have a2:xB (Zi (WW true) (Za 3) (Ze YS [(Za 0),(Za 2)])) (st c (some (.lst (Y5 (XJ W)))) (some (.str T)) none none)=some false:=by
   rw[Yt,ZA,Zp]
   show((YS [wP W,.lst (Y5 (XJ W))]).bind fun y=>WW true (.str T) y).bind _=_
   rw[tx _ tk (by omega)]
   show(WW true (.str T) (.str T)).bind _=_
   rw[P7]
   simp
  rw[Yc,R3,Y8,a1];simp only[Option.bind_some,Option.map_some,Bool.not_true,Bool.false_eq_true,if_false]
  rw[a2];rfl
 have q4:XZ (YY (xB (Ze Ys [(Ze ZY [(Za 3)]),(Za 0)]))) (Yd (eP (eC (.bl false)))) ZD (st c (some (.lst (Y5 (XJ W)))) (some (.str T)) none none)=some (.nx (st c (some (.lst (Y5 (XJ W)))) (some (.str T)) none none)):=by
  have a1:xB (Ze Ys [(Ze ZY [(Za 3)]),(Za 0)]) (st c (some (.lst (Y5 (XJ W)))) (some (.str T)) none none)=some true:=by
   rw[Yt,Zp,Zu,Zp]
   show((((ZY [.str T])).bind fun x=>some [x,wP W]).bind Ys).bind _=_
   rw[rd _ (List.Perm.refl _)]
   show(Ys [wP W,wP W]).bind _=_
   rw[ro];rfl
  rw[Yc,Y8,a1];rfl
 have q5:Zo 4 (Yz []) (st c (some (.lst (Y5 (XJ W)))) (some (.str T)) none none)=some (.nx (st c (some (.lst (Y5 (XJ W)))) (some (.str T)) (some (.lst (Y5 []))) none)):=rfl
 obtain⟨s',f,c',us,w',hs,hp⟩:=ZP (T:=.one 5) (fb:=(Zk (XF 4 (Zi YH (Za 1) (Zi Z4 (Ze Ya [(Za 4)]) (eC (.int 1)))) (Za 5))
  (Zo 1 (eP (Zi YG (Za 1) (eC (.int 3))))))) (ls:=Y5 (XJ W)) (s:=st c (some (.lst (Y5 (XJ W)))) (some (.str T)) (some (.lst (Y5 []))) none)
  (fun i s=>∃c' us w',s=st c' (some (.lst (Y5 (XJ W)))) (some (.str T)) (some (.lst (Y5 us))) w'/\us.Perm ((XJ W).take i)) ⟨c,[],none,rfl,by simp⟩ (by
   rintro i p s hl' ⟨c',us,w',rfl,hp⟩
   rw[List.getElem?_map] at hl'
   cases he:(XJ W)[i]? with
   | none=>rw[he] at hl';cases hl'
   | some e=>
    rw[he] at hl'
    cases hl'
    have hi:=(List.getElem?_eq_some_iff.mp he).1
    have lu:us.length=i:=by rw[hp.length_eq,List.length_take];omega
    have em:=Int.emod_nonneg c' (show((us.length:Int)+1)≠0 by omega)
    have em2:=Int.emod_lt_of_pos c' (show 0<(us.length:Int)+1 by omega)
    refine⟨st c' (some (.lst (Y5 (XJ W)))) (some (.str T)) (some (.lst (Y5 us))) (some (.str (wd e))),_,rfl,?_,c'/3,us.take (c'%((us.length:Int)+1)).toNat++e::us.drop (c'%((us.length:Int)+1)).toNat,some (.str (wd e)),rfl,?_⟩
    ·have k:Zi YH (Za 1) (Zi Z4 (Ze Ya [(Za 4)]) (eC (.int 1))) (st c' (some (.lst (Y5 (XJ W)))) (some (.str T)) (some (.lst (Y5 us))) (some (.str (wd e))))=some (.int (c'%((us.length:Int)+1))):=by
      have:(0:Int)<(us.length:Int)+1:=by omega
      simp[st,Y5,this]
     have ins:=Sl (i:=4) (m:=Y5 us) (l:=.str (wd e)) (s:=st c' (some (.lst (Y5 (XJ W)))) (some (.str T)) (some (.lst (Y5 us))) (some (.str (wd e)))) (f:=Za 5) k rfl rfl (O7 us) rfl em (by omega) (by simp[Y5];omega)
     rw[ZW ins]
     have cd:VD c' 3:=Wi (by omega) (by omega)
     simp[st,Y5,cd,List.map_take,List.map_drop]
    ·have t1:(XJ W).take (i+1)=(XJ W).take i++[e]:=by rw[List.take_succ,he];rfl
     rw[t1]
     have p1:(us.take (c'%((us.length:Int)+1)).toNat++e::us.drop (c'%((us.length:Int)+1)).toNat).Perm (e::(us.take (c'%((us.length:Int)+1)).toNat++us.drop (c'%((us.length:Int)+1)).toNat)):=List.perm_middle
     rw[List.take_append_drop] at p1
     exact p1.trans ((List.Perm.cons e hp).trans (List.perm_append_singleton e _).symm))
 have ll:(Y5 (XJ W)).length=(XJ W).length:=List.length_map _
 rw[ll,List.take_length] at hp
 have q6:YB [4] (Ue (Za 2)) (.one 5) (Zk (XF 4 (Zi YH (Za 1) (Zi Z4 (Ze Ya [(Za 4)]) (eC (.int 1)))) (Za 5))
  (Zo 1 (eP (Zi YG (Za 1) (eC (.int 3)))))) (st c (some (.lst (Y5 (XJ W)))) (some (.str T)) (some (.lst (Y5 []))) none)=some (.nx (st c' (some (.lst (Y5 (XJ W)))) (some (.str T)) (some (.lst (Y5 us))) w')):=by
  rw[Yg,show Ue (Za 2) (ZK [4] (st c (some (.lst (Y5 (XJ W)))) (some (.str T)) (some (.lst (Y5 []))) none))=some (Y5 (XJ W)) from rfl]
  simp only[Option.bind_some];rw[f,hs]
 show Xz 6 Yn _=_
 unfold Yn
 show(Zk _ _ (st c none none none none)).bind Xs=_
 rw[ZW q1,ZW q2,ZW q3,ZW q4,ZW q5,ZW q6,YR,Zp,Zu,Zp,Zu,Zp]
 show(((((((YS [wP W,.lst (Y5 us)])).bind fun x=>some [x]).bind ZY).bind fun x=>some [x,wP W]).bind Ys).map _).bind _=_
 rw[tx us (fun e he=>tk e (hp.mem_iff.mp he)) (by rw[hp.length_eq];omega)]
 show(((((ZY [.str (Txt.join Lp (Ve n::us.map wd))])).bind fun x=>some [x,wP W]).bind Ys).map _).bind _=_
 rw[rd us hp]
 show((Ys [wP W,wP W]).map _).bind _=_
 rw[ro];rfl
theorem law_true:∀ns:List Int,ns.length<=63->D_law [.cst (iL ns)]=some (.bl true):=by
 intro ns hns
 have c0:Zt [PV.cst (ns.map PV.int),PV.int 0]=some (PV.int (Yo ns 0)):=Vr hns 0
 have c29:Zt [PV.cst (ns.map PV.int),PV.int 29]=some (PV.int (Yo ns 29)):=Vr hns 29
 have c58:Zt [PV.cst (ns.map PV.int),PV.int 58]=some (PV.int (Yo ns 58)):=Vr hns 58
 obtain⟨n,hn1,hn7,en⟩:∃n:Nat,1<=n/\n<=7/\1+Yo ns 0%7=(n:Int):=⟨(1+Yo ns 0%7).toNat,by omega,by omega,by omega⟩
 obtain⟨m,hm1,hm7,em⟩:∃m:Nat,1<=m/\m<=7/\1+Yo ns 29%7=(m:Int):=⟨(1+Yo ns 29%7).toNat,by omega,by omega,by omega⟩
 have cd7:VD (Yo ns 0) 7:=Wi (by omega) (by omega)
 generalize Yo ns 0=c at c0 en cd7
 generalize Yo ns 29=d at c29 em
 generalize Yo ns 58=k at c58
 let st:Option PV->Option PV->Option PV->Option PV->Option PV->Option PV->ZG:=fun a b d e f g=>[some (.cst (iL ns)),a,b,d,e,f,g]
 have q1:Zo 1 (eP (Zi Z4 (eC (.int 1)) (Zi YH (Ze Zt [(Za 0),(eC (.int 0))]) (eC (.int 7))))) (st none none none none none none)=some (.nx (st (some (.int (n:Int))) none none none none none)):=by
  simp[st,c0,en]
 obtain⟨rm,hrm,hrm2,q2⟩:∃rm:Int,7<=rm/\7<=219-rm/\Zo 2 (eP (Zi ZI (Yz [(eC (.int 30)),(eC (.int 189))]) (Ze T1 [(Zi (WW false) (Zi YH (Zi YG (Ze Zt [(Za 0),(eC (.int 0))]) (eC (.int 7))) (eC (.int 8))) (eC (.int 3)))]))) (st (some (.int (n:Int))) none none none none none)=some (.nx (st (some (.int (n:Int))) (some (.int rm)) none none none none)):=by
  by_cases q:c/7%8=3
  ·exact⟨189,by omega,by omega,by simp[st,c0,cd7,q];rfl⟩
  ·exact⟨30,by omega,by omega,by simp[st,c0,cd7,q];rfl⟩
 obtain⟨ts,et,ok,hg⟩:=Rz (ns:=ns) (at0:=1) (n:=n) hrm hns hn1 hn7
 have et:ZZ [PV.cst (ns.map PV.int),PV.int 1,PV.int (n:Int),PV.int rm]=some (dP ts):=et
 obtain⟨us,eu,oku,hgu⟩:=Rz (ns:=ns) (at0:=29) (n:=m) hrm2 hns hm1 hm7
 have eu:ZZ [PV.cst (ns.map PV.int),PV.int 29,PV.int (m:Int),PV.int (219-rm)]=some (dP us):=eu
 have sq:=Sx ok hn7;have squ:=Sx oku hm7;have b1:=O8 ok hg hn1 hn7;have b2:=O8 oku hgu hm1 hm7
 generalize WQ n ts=W at sq b1
 generalize WQ m us=V at squ b2
 have q3:Zo 3 (Ze ZQ [(Ze ZZ [(Za 0),(eC (.int 1)),(Za 1),(Za 2)]),(Za 1)]) (st (some (.int (n:Int))) (some (.int rm)) none none none none)=some (.nx (st (some (.int (n:Int))) (some (.int rm)) (some (wP W)) none none none)):=by
  rw[ZL,Zp,Zu,Zp]
  show((((ZZ [PV.cst (ns.map PV.int),PV.int 1,PV.int (n:Int),PV.int rm])).bind fun x=>some [x,.int (n:Int)]).bind ZQ).map _=_
  rw[et]
  show(ZQ [dP ts,.int (n:Int)]).map _=_
  rw[sq];rfl
 have q4:Zo 4 (eP (Zi Z4 (eC (.int 1)) (Zi YH (Ze Zt [(Za 0),(eC (.int 29))]) (eC (.int 7))))) (st (some (.int (n:Int))) (some (.int rm)) (some (wP W)) none none none)=some (.nx (st (some (.int (n:Int))) (some (.int rm)) (some (wP W)) (some (.int (m:Int))) none none)):=by
  simp[st,c29,em]
 have q5:Zo 5 (Ze ZQ [(Ze ZZ [(Za 0),(eC (.int 29)),(Za 4),(Zi WN (eC (.int 219)) (Za 2))]),(Za 4)]) (st (some (.int (n:Int))) (some (.int rm)) (some (wP W)) (some (.int (m:Int))) none none)=some (.nx (st (some (.int (n:Int))) (some (.int rm)) (some (wP W)) (some (.int (m:Int))) (some (wP V)) none)):=by
  rw[ZL,Zp,Zu,Zp]
  show((((ZZ [PV.cst (ns.map PV.int),PV.int 29,PV.int (m:Int),PV.int (219-rm)])).bind fun x=>some [x,.int (m:Int)]).bind ZQ).map _=_
  rw[eu]
  show(ZQ [dP us,.int (m:Int)]).map _=_
  rw[squ];rfl
 have q6:Zo 6 (Ze Zt [(Za 0),(eC (.int 58))]) (st (some (.int (n:Int))) (some (.int rm)) (some (wP W)) (some (.int (m:Int))) (some (wP V)) none)=some (.nx (st (some (.int (n:Int))) (some (.int rm)) (some (wP W)) (some (.int (m:Int))) (some (wP V)) (some (.int k)))):=by
  simp[st,c58]
 have cd5:VD k 5:=Wi (by omega) (by omega)
 have cd2:VD k 2:=Wi (by omega) (by omega)
 have q7:XZ (Pl (YY (xB (Ze Zm [(Za 3),(Za 6)]))) (YY (xB (Ze Zm [(Za 5),(Zi YG (Za 6) (eC (.int 5)))])))) (Yd (eP (eC (.bl false)))) ZD (st (some (.int (n:Int))) (some (.int rm)) (some (wP W)) (some (.int (m:Int))) (some (wP V)) (some (.int k)))=some (.nx (st (some (.int (n:Int))) (some (.int rm)) (some (wP W)) (some (.int (m:Int))) (some (wP V)) (some (.int k)))):=by
  have a1:xB (Ze Zm [(Za 3),(Za 6)]) (st (some (.int (n:Int))) (some (.int rm)) (some (wP W)) (some (.int (m:Int))) (some (wP V)) (some (.int k)))=some true:=by
   rw[Yt,Zp]
   show(Zm [wP W,.int k]).bind _=_
   rw[b1];rfl
  have a2:xB (Ze Zm [(Za 5),(Zi YG (Za 6) (eC (.int 5)))]) (st (some (.int (n:Int))) (some (.int rm)) (some (wP W)) (some (.int (m:Int))) (some (wP V)) (some (.int k)))=some true:=by
   have g:Zi YG (Za 6) (eC (.int 5)) (st (some (.int (n:Int))) (some (.int rm)) (some (wP W)) (some (.int (m:Int))) (some (wP V)) (some (.int k)))=some (.int (k/5)):=by simp[st,cd5]
   rw[Yt,Zp,Zu,Zu,g]
   show(Zm [wP V,.int (k/5)]).bind _=_
   rw[b2];rfl
  rw[Yc,R3,Y8,a1];simp only[Option.bind_some,Option.map_some,Bool.not_true,Bool.false_eq_true,if_false]
  rw[Y8,a2];rfl
 show Xz 7 O1 _=_
 unfold O1
 show(Zk _ _ (st none none none none none none)).bind Xs=_
 rw[ZW q1,ZW q2,ZW q3,ZW q4,ZW q5,ZW q6,ZW q7,YR,Zp,Zu,Zu]
 have g:Zi YG (Za 6) (eC (.int 2)) (st (some (.int (n:Int))) (some (.int rm)) (some (wP W)) (some (.int (m:Int))) (some (wP V)) (some (.int k)))=some (.int (k/2)):=by simp[st,cd2]
 rw[g]
 show((Zm [wP W,.int (k/2)]).map _).bind _=_
 rw[b1];rfl
theorem cstS_mk{K:PySem.W.Frag}{h:Heap}{mg:Str->Option Value}{x v:Str}{t:Tok}(X:K.In h)(G:h.Ns mainGlobals mg)(y:PySem.W.nsIn K mainGlobals x=some (some (.str v t))):KD mg x v:=⟨t,PySem.W.mg_of X G y⟩
theorem cst_mk{K:PySem.W.Frag}{h:Heap}{mg:Str->Option Value}{x:Str}{v:Int}{t:Tok}(X:K.In h)(G:h.Ns mainGlobals mg)(y:PySem.W.nsIn K mainGlobals x=some (some (.int v t))):Jo mg x v:=⟨t,PySem.W.mg_of X G y⟩
theorem all_mk{P:Program}{w:World}{K:PySem.W.Frag}{mg:Str->Option Value}{fa:Addr}(hfa:mg "law" = some (.ref fa))(B:SE mg)
  (Z_FIGURES:KD mg "FIGURES" "0123456789")
  (Z_MOST_FIGURES_IN_WEBS:Jo mg "MOST_FIGURES_IN_WEBS" 2)
  (Z_MOST_HOUSES:Jo mg "MOST_HOUSES" 7)
  (Z_MOST_TIMES:Jo mg "MOST_TIMES" 9)
  (d0:Def K mg "_law_square" W8)
  (d1:Def K mg "_law_cell" Sr)
  (d2:Def K mg "_law_words" U1)
  (d3:Def K mg "shown_tie" W9)
  (d4:Def K mg "shown_web" Va)
  (d5:Def K mg "_law_whole" U2)
  (d6:Def K mg "_law_rows" Ss)
  (d7:Def K mg "is_plain" VR)
  (d8:Def K mg "read_small" WG)
  (d9:Def K mg "reached" U3)
  (d10:Def K mg "fits" PQ)
  (d11:Def K mg "web_of" Su)
  (d12:Def K mg "read_times" WH)
  (d13:Def K mg "read_tie" VU)
  (d14:Def K mg "read_web" VV)
  (d15:Def K mg "_law_text" Sv)
  (d16:Def K mg "_law_there_and_back" Y3)
  (d17:Def K mg "_law_renamed" Vb)
  (d18:Def K mg "_law_read_times" X3)
  (d19:Def K mg "_law_times" VX)
  (d20:Def K mg "law" Lf)
  : ∃fd:FuncData,(∀(s:Shared)(u:Value),BindsTo s fd ⟨[u],[]⟩ [("_law_script",u)])/\∀base:Heap,K.In base->base.Ns mainGlobals mg->UJ P w K mg base Ot 7 fa fd ["_law_script"] (Xd K D_law 1):=by
 refine M0 d20 hfa (fun _ _ _ _ _ _ _=>rfl) fun base f fd _ _ F=>?_
 have C_l_squareR:=R8 (P:=P) (w:=w) (base:=base) d0 B
 have C_l_cell:=N2 (P:=P) (w:=w) (base:=base) d1 B
 have C_l_words:=PK (P:=P) (w:=w) (base:=base) d2 B
 have C_shown_tie:=Qa (P:=P) (w:=w) (base:=base) d3 B
 have C_shown_web:=Qb (P:=P) (w:=w) (base:=base) d4 B C_shown_tie
 have C_l_whole:=PM (P:=P) (w:=w) (base:=base) d5 B
 have C_l_rows:=N3 (P:=P) (w:=w) (base:=base) d6 B C_l_whole
 have C_is_plain:=QS (P:=P) (w:=w) (base:=base) d7 B Z_FIGURES
 have C_read_small:=SO (P:=P) (w:=w) (base:=base) d8 B Z_MOST_FIGURES_IN_WEBS C_is_plain
 have C_reached:=PN (P:=P) (w:=w) (base:=base) d9 B
 have C_fits:=KO (P:=P) (w:=w) (base:=base) d10 B Z_MOST_TIMES
 have C_web_of:=N4 (P:=P) (w:=w) (base:=base) d11 B Z_MOST_HOUSES C_fits C_reached
 have C_read_times:=SQ (P:=P) (w:=w) (base:=base) d12 B C_read_small
 have C_read_tie:=QT (P:=P) (w:=w) (base:=base) d13 B C_read_times C_read_small
 have C_read_web:=QU (P:=P) (w:=w) (base:=base) d14 B C_read_small C_read_tie C_web_of
 have C_l_text:=N6 (P:=P) (w:=w) (base:=base) d15 B
 have C_l_there_and_back:=Vv (P:=P) (w:=w) (base:=base) d16 B C_l_words C_shown_web C_l_text C_l_rows C_read_web
 have C_l_renamed:=Qc (P:=P) (w:=w) (base:=base) d17 B
 have C_l_read_times:=Ti (P:=P) (w:=w) (base:=base) d18 B
 have C_l_timesR:=QV (P:=P) (w:=w) (base:=base) d19 B C_l_cell C_l_read_times C_l_renamed
 exact II F B C_l_cell C_l_squareR C_l_timesR C_l_there_and_back
end PW
def PySem.W.Fast.tw106622638133393729:Unit:=()
def PySem.W.Fast.tw9611576689326894366:Unit:=()
def PySem.W.Fast.tw12805011510141042416:Unit:=()
def PySem.W.Fast.tw15751169107939124412:Unit:=()
def PySem.W.Fast.tw2859096601139038475:Unit:=()
def PySem.W.Fast.tw332656959936021339:Unit:=()
def PySem.W.Fast.tw18042351900220780234:Unit:=()
def PySem.W.Fast.tw4365056186101122180:Unit:=()
def PySem.W.Fast.tw7749510780922230916:Unit:=()
open PySem PySem.W PyProof.Rows
set_option maxRecDepth 100000 in
set_option maxHeartbeats 0 in
theorem PySem.Challenge.cw_purseweb_k03_webs_written_holds : PySem.Challenge.rw_purseweb_k03_webs_written.Holds := by
 w_on;o_law;k_head;(case hw=>w_witness2)
 k_fill
 refine VL.law_walk (l:=PySem.Challenge.rw_purseweb_k03_webs_written) (D:=PW.D_law) (x:="_law_script") 7 rfl rfl ⟨rfl,by decide,by decide,rfl⟩ PW.law_true (fun w h Y=>PySem.W.kIn_of Y) ?F
 case F=>
  intro w mg fa h KX G hmg
  refine' PW.all_mk hmg ?B ?Z0 ?Z1 ?Z2 ?Z3 ?d0 ?d1 ?d2 ?d3 ?d4 ?d5 ?d6 ?d7 ?d8 ?d9 ?d10 ?d11 ?d12 ?d13 ?d14 ?d15 ?d16 ?d17 ?d18 ?d19 ?d20
  case B=>constructor<;>(refine PySem.W.mg_none_of KX G ?_;k_is)
  case Z1 | Z2 | Z3=>(refine' PW.cst_mk KX G ?y;(case y=>k_is))
  case Z0=>(refine' PW.cstS_mk KX G ?y;(case y=>k_is))
  case d0 | d1 | d2 | d3 | d4 | d5 | d6 | d7 | d8 | d9 | d10 | d11 | d12 | d13 | d14 | d15 | d16 | d17 | d18 | d19 | d20=>(refine' L2.def_mk KX G ?a ?l ?c ?k;(case a=>k_is);(case l=>k_is);(case c=>k_is);(case k=>k_is))
