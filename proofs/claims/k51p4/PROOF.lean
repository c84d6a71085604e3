import PyProof.Rows.All
import Wide.All
import OpenK.AllK
import Wide.FinOn
import Lean
import PyProof.EqAt
import PyProof.EqKinds
import PyProof.TupleCall
import PyProof.NeKinds
import PyProof.ListMulRoad
import PyProof.WalkInts
import PyProof.ListRange
import KE.KSortTup
import KE.KDictSum
import PyProof.Rows.SortWalk
import KE.KRevIter
import PySem.Challenge.RW_purseweb_k51_trees_counted
set_option Elab.async false
set_option linter.all false
set_option maxRecDepth 100000
namespace L2
open PySem PySem.Spec PyProof.Rows
abbrev YH:=Sum Int Str
def Pf:YH->Value->Bool
 | .inl k,v=>Value.isInt k v
 | .inr x,v=>Value.isStrOf x v
def Bl(w:World):YH->Int
 | .inl k=>hashInt k
 | .inr x=>hashStr w x
theorem YI:∀{k:YH}{v:Value},Pf k v=true->(∃i t,k=Sum.inl i/\v=Value.int i t)\/(∃x t,k=Sum.inr x/\v=Value.str x t)
 | .inl i,v,h=>by
  obtain⟨t,e⟩:=Value.isInt_shape (k:=i) (v:=v) h
  exact .inl ⟨i,t,rfl,e⟩
 | .inr x,v,h=>by
  obtain⟨t,e⟩:=Value.isStrOf_shape (x:=x) (v:=v) h
  exact .inr ⟨x,t,rfl,e⟩
theorem Kx(i:Int)(t:Tok):Pf (.inl i) (.int i t)=true:=by simp[Pf,Value.isInt]
theorem Ky(x:Str)(t:Tok):Pf (.inr x) (.str x t)=true:=by simp[Pf,Value.isStrOf]
theorem Ex(a b:Int):decide ((Sum.inl a:YH)=Sum.inl b)=(a==b):=by
 by_cases e:a=b
 ·subst e;simp
 ·have h:¬(Sum.inl a:YH)=Sum.inl b:=fun q=>e (Sum.inl.inj q)
  rw[decide_eq_false h]
  exact(beq_eq_false_iff_ne.mpr e).symm
theorem Ey(a b:Str):decide ((Sum.inr a:YH)=Sum.inr b)=decide (a=b):=by
 by_cases e:a=b
 ·subst e;simp
 ·have h:¬(Sum.inr a:YH)=Sum.inr b:=fun q=>e (Sum.inr.inj q)
  rw[decide_eq_false h,decide_eq_false e]
theorem Ez(a:Int)(b:Str):decide ((Sum.inl a:YH)=Sum.inr b)=false:=decide_eq_false (fun q=>nomatch q)
theorem EA(a:Str)(b:Int):decide ((Sum.inr a:YH)=Sum.inl b)=false:=decide_eq_false (fun q=>nomatch q)
def Y0(prog:Program)(w:World):PySem.KeyKind prog w YH where
 is:=Pf
 hash:=Bl w
 inj:=fun v a b ha hb=>by
  rcases YI ha with⟨i,t,rfl,rfl⟩ | ⟨x,t,rfl,rfl⟩
  ·rcases YI hb with⟨j,u,rfl,e⟩ | ⟨y,u,rfl,e⟩
   ·injection e with e1 _;rw[e1]
   ·exact nomatch e
  ·rcases YI hb with⟨j,u,rfl,e⟩ | ⟨y,u,rfl,e⟩
   ·exact nomatch e
   ·injection e with e1 _;rw[e1]
 byValue:=fun k v h=>by
  rcases YI h with⟨i,t,rfl,rfl⟩ | ⟨x,t,rfl,rfl⟩<;>rfl
 pyHash:=fun hv h=>by
  rcases YI hv with⟨i,t,rfl,rfl⟩ | ⟨x,t,rfl,rfl⟩
  ·exact wpAny_pyHash_int h
  ·exact wpAny_pyHash_str h
 eqBool:=fun hu hv h=>by
  rcases YI hu with⟨i,t,rfl,rfl⟩ | ⟨x,t,rfl,rfl⟩
  ·rcases YI hv with⟨j,u,rfl,rfl⟩ | ⟨y,u,rfl,rfl⟩
   ·rw[Ex] at h;exact wpAny_eqBool_int h
   ·rw[Ez] at h;exact SeqAt.EqAt.int_str i t y u _ _ _ _ h
  ·rcases YI hv with⟨j,u,rfl,rfl⟩ | ⟨y,u,rfl,rfl⟩
   ·rw[EA] at h;exact SeqAt.EqAt.str_int x t j u _ _ _ _ h
   ·rw[Ey] at h;exact wpAny_eqBool_str h
 «strs»:=fun k x t v h=>by
  rcases YI h with⟨i,u,rfl,e⟩ | ⟨y,u,rfl,e⟩
  ·exact nomatch e
  ·injection e with e1 _
   subst e1
   cases v<;>rfl
theorem O9(prog:Program)(w:World)(i:Int)(t:Tok):(Y0 prog w).is (.inl i) (.int i t)=true:=Kx i t
theorem Na(prog:Program)(w:World)(x:Str)(t:Tok):(Y0 prog w).is (.inr x) (.str x t)=true:=Ky x t
inductive V where
 | non | bl (b:Bool) | int (i:Int) | str (x:Str) | byt (b:Array UInt8) | flt (b:UInt64) | ref (a:Addr) | ty (n:String)
 deriving DecidableEq
def RelV:V->Value->Prop
 | .non,u=>u=Value.none
 | .bl b,u=>u=Value.bool b
 | .int i,u=>∃t,u=Value.int i t
 | .str x,u=>∃t,u=Value.str x t
 | .byt b,u=>∃t,u=Value.bytes b t
 | .flt b,u=>∃t,u=Value.float b t
 | .ref a,u=>u=Value.ref a
 | .ty n,u=>u=Value.type n
abbrev Vals:List V->List Value->Prop:=Paired RelV
theorem Vals.length{xs:List V}{us:List Value}(r:Vals xs us):xs.length=us.length:=Paired.length r
theorem Vals.get:∀{xs:List V}{us:List Value}{i:Nat}{x:V},Vals xs us->xs[i]?=some x->∃u,us[i]?=some u/\RelV x u
 | _,_,_,_,.nil,e=>by simp at e
 | _,_,0,_,.cons r _,e=>by simp at e;subst e;exact⟨_,rfl,r⟩
 | _,_,i+1,x,.cons _ t,e=>by
  obtain⟨u,h1,h2⟩:=Vals.get (i:=i) (x:=x) t (by simpa using e)
  exact⟨u,by simpa using h1,h2⟩
theorem Vals.set{x:V}{u:Value}(r:RelV x u):∀{xs:List V}{us:List Value}(i:Nat),Vals xs us->Vals (xs.set i x) (us.set i u)
 | _,_,_,.nil=>.nil
 | _,_,0,.cons _ t=>.cons r t
 | _,_,i+1,.cons q t=>.cons q (Vals.set r i t)
theorem Vals.append:∀{xs ys:List V}{us ws:List Value},Vals xs us->Vals ys ws->Vals (xs++ys) (us++ws)
 | _,_,_,_,.nil,s=>s
 | _,_,_,_,.cons r t,s=>.cons r (Vals.append t s)
theorem Vals.take:∀{xs:List V}{us:List Value}(n:Nat),Vals xs us->Vals (xs.take n) (us.take n)
 | _,_,0,_=>.nil
 | _,_,_+1,.nil=>.nil
 | _,_,n+1,.cons r t=>.cons r (Vals.take n t)
theorem Vals.drop:∀{xs:List V}{us:List Value}(n:Nat),Vals xs us->Vals (xs.drop n) (us.drop n)
 | _,_,0,r=>r
 | _,_,_+1,.nil=>.nil
 | _,_,n+1,.cons _ t=>Vals.drop n t
def RelO:Option V->Option Value->Prop
 | some v,some u=>RelV v u
 | none,none=>True
 | _,_=>False
def KV{κ:Type}:List (κ×V)->List (κ×Value)->Prop:=Paired fun(p:κ×V) (q:κ×Value)=>p.1=q.1/\RelV p.2 q.2
def kV:YH->V
 | .inl i=>.int i
 | .inr x=>.str x
inductive HO where
 /-- a list -/
 | lst (xs:List V)
 /-- a tuple (never changes) -/
 | tup (xs:List V)
 /-- a dict whose keys are ints and texts;one whose keys are tuples of ints and texts (the empty one is both) -/
 | dK (kvs:List (YH×V)) | dT (kvs:List (List YH×V))
 /-- a set of ints: its members,its size -/
 | set (S:Int->Bool) (n:Nat)
 /-- an instance of the class at C,its dict at dx,its attributes -/
 | ins (C dx:Addr) (fs:List (Str×V))
 /-- the dict of the instance at x -/
 | own (x:Addr)
 /-- the dict of an exception -/
 | xd (fs:List (Str×V))
 /-- a bound method,f of x -/
 | met (f x:Addr)
 /-- a range object lo,lo+1,.. below hi -/
 | rng (lo hi:Int)
 /-- a thing that is known to the object (the script;a dict while a loop walks it): read,never written while it is so -/
 | frz (o:Obj) (u:HO)
 /-- a code object's table -/
 | tbl (ps:Array Value)
 /-- any other thing,by what is true of its one object (a def of one's own: SetO a S n:=HO.ext fun h=>..) -/
 | ext (φ:Heap->Prop)
abbrev Hp:=Addr->Option HO
def upd(H:Hp)(a:Addr)(o:HO):Hp:=fun b=>if b=a then some o else H b
theorem upd_same{H:Hp}{a:Addr}{o:HO}:upd H a o a=some o:=by unfold upd;rw[if_pos rfl]
theorem upd_ne{H:Hp}{a b:Addr}{o:HO}(h:b≠a):upd H a o b=H b:=by unfold upd;rw[if_neg h]
theorem D6{H:Hp}{a b:Addr}{o u:HO}(h:H a=some o)(h':H b=some u)(d:o≠u):a≠b:=by
 intro e;subst e;rw[h] at h';exact d (Option.some.inj h')
theorem ZC{H:Hp}{a b:Addr}{o:HO}(h:H a=some o)(h':H b=none):a≠b:=by
 intro e;subst e;rw[h] at h';cases h'
section
variable (P:Program) (w:World)
def ObjOk(H:Hp)(h:Heap)(a:Addr):HO->Prop
 | .lst xs=>xs.length<=sizeLine/\∃(its:List Value) (n:Nat),Vals xs its/\h.get? a=some { cls:=.type "list",data:=.seq its.toArray n }
 | .tup xs=>xs.length<=sizeLine/\∃its:List Value,Vals xs its/\IsTup h a its.toArray
 | .dK kvs=>kvs.length<=sizeLine/\(a==sysModules)=false/\∃vs,KV kvs vs/\h.DictOf (Y0 P w) a vs
 | .dT kvs=>kvs.length<=sizeLine/\(a==sysModules)=false/\∃xs:List (List YH×Addr×Value),
   Paired (fun(p:List YH×V) (q:List YH×Addr×Value)=>p.1=q.1/\H q.2.1=some (.tup (p.1.map kV))/\RelV p.2 q.2.2) kvs xs/\
   ∃o es ep,h.get? a=some o/\o.ExactDict/\o.data = .dict es ep/\es.toList=xs.map (entryOfKey (tupleKind (Y0 P w)))/\(xs.map (·.1)).Nodup
 | .set S n=>h.SetOf (intKind P w) a S n
 | .ins C dx fs=>H dx=some (.own a)/\fs.length<=1000/\dx≠a/\h.get? a=some (PySem.W.instObj C dx)/\
   ∃mA,h.Ns1 dx mA/\(∀f,RelO (fs.lookup f) (mA f))/\PySem.Within mA (fs.map (·.1))
 | .own _=>∃o,h.get? a=some o
 | .xd fs=>∃mA,h.Ns1 a mA/\∀f,RelO (fs.lookup f) (mA f)
 | .rng lo hi=>∃t u v,h.get? a=some { cls:=.type "range",data:=.fields #[.int lo t,.int hi u,.int 1 v] }
 | .frz o u=>h.get? a=some o/\ObjOk H h a u
 | .tbl ps=>h.get? a=some { cls:=.none,data:=.fields ps }
 | .met f x=>h.get? a=some (PySem.W.methodObj (.ref f) (.ref x))
 | .ext φ=>φ h/\(∃o,h.get? a=some o)/\∀h1 h2:Heap,φ h1->(∀o,h1.get? a=some o->h2.get? a=some o)->φ h2
def HOk(H:Hp)(h:Heap):Prop:=∀a o,H a=some o->ObjOk P w H h a o
end
section
variable {P:Program} {w:World} {H H':Hp} {h h':Heap} {a:Addr} {o:HO}
theorem ObjOk.lt(x:ObjOk P w H h a o):a<h.objs.size:=by
 cases o with
 | lst xs=>obtain⟨_,_,_,_,e⟩:=x;exact Heap.lt_size e
 | tup xs=>obtain⟨_,_,_,p⟩:=x;exact p.lt
 | dK kvs=>obtain⟨_,_,_,_,o,_,_,e,_⟩:=x;exact Heap.lt_size e
 | dT kvs=>obtain⟨_,_,_,_,o,_,_,e,_⟩:=x;exact Heap.lt_size e
 | set S n=>obtain⟨o,_,_,_,e,_⟩:=x;exact Heap.lt_size e
 | ins C dx fs=>obtain⟨_,_,_,e,_⟩:=x;exact Heap.lt_size e
 | own y=>obtain⟨_,e⟩:=x;exact Heap.lt_size e
 | xd fs=>obtain⟨_,⟨_,_,_,e,_⟩,_⟩:=x;exact Heap.lt_size e
 | rng lo hi=>obtain⟨_,_,_,e⟩:=x;exact Heap.lt_size e
 | frz ob u=>obtain⟨e,_⟩:=x;exact Heap.lt_size e
 | tbl ps=>exact Heap.lt_size (show h.get? a=some _ from x)
 | met f y=>exact Heap.lt_size (show h.get? a=some _ from x)
 | ext φ=>obtain⟨_,⟨_,e⟩,_⟩:=x;exact Heap.lt_size e
theorem Paired.mapP{α β:Type}{F G:α->β->Prop}:∀{l₁:List α}{l₂:List β},Paired F l₁ l₂->(∀a b,F a b->G a b)->Paired G l₁ l₂
 | _,_,.nil,_=>.nil
 | _,_,.cons r t,f=>.cons (f _ _ r) (Paired.mapP t f)
theorem ObjOk.stay(x:ObjOk P w H h a o)(k:∀b u,(b=a\/H b=some (.own a))->h.get? b=some u->h'.get? b=some u)
  (ho:∀b,H b=some (.own a)->H' b=some (.own a)) (ht:∀b xs,H b=some (.tup xs)->H' b=some (.tup xs)):ObjOk P w H' h' a o:=by
 induction o with
 | lst xs=>obtain⟨z,its,n,r,e⟩:=x;exact⟨z,its,n,r,k _ _ (.inl rfl) e⟩
 | tup xs=>obtain⟨z,its,r,ob,e,c⟩:=x;exact⟨z,its,r,ob,k _ _ (.inl rfl) e,c⟩
 | dK kvs=>obtain⟨z,y,vs,r,ob,es,ep,e,c⟩:=x;exact⟨z,y,vs,r,ob,es,ep,k _ _ (.inl rfl) e,c⟩
 | dT kvs=>
  obtain⟨z,y,xs,r,ob,es,ep,e,c⟩:=x
  exact⟨z,y,xs,Paired.mapP r fun p q z=>⟨z.1,ht _ _ z.2.1,z.2.2⟩,ob,es,ep,k _ _ (.inl rfl) e,c⟩
 | set S n=>obtain⟨ob,es,ep,t,e,c⟩:=x;exact⟨ob,es,ep,t,k _ _ (.inl rfl) e,c⟩
 | ins C dx fs=>
  obtain⟨d,z,ne,e,mA,⟨od,es,ep,e2,c⟩,r⟩:=x
  exact⟨ho _ d,z,ne,k _ _ (.inl rfl) e,mA,⟨od,es,ep,k _ _ (.inr d) e2,c⟩,r⟩
 | own y=>obtain⟨ob,e⟩:=x;exact⟨ob,k _ _ (.inl rfl) e⟩
 | xd fs=>obtain⟨mA,⟨od,es,ep,e,c⟩,r⟩:=x;exact⟨mA,⟨od,es,ep,k _ _ (.inl rfl) e,c⟩,r⟩
 | rng lo hi=>obtain⟨t,u,v,e⟩:=x;exact⟨t,u,v,k _ _ (.inl rfl) e⟩
 | frz ob u ih=>obtain⟨e,q⟩:=x;exact⟨k _ _ (.inl rfl) e,ih q⟩
 | tbl ps=>
  have e:h.get? a=some { cls:=.none,data:=.fields ps }:=x
  show h'.get? a=some { cls:=.none,data:=.fields ps }
  exact k a _ (.inl rfl) e
 | met f y=>
  have e:h.get? a=some (PySem.W.methodObj (.ref f) (.ref y)):=x
  show h'.get? a=some (PySem.W.methodObj (.ref f) (.ref y))
  exact k a _ (.inl rfl) e
 | ext φ=>obtain⟨p,⟨o,e⟩,st⟩:=x;exact⟨st _ _ p fun o q=>k _ _ (.inl rfl) q,⟨o,k _ _ (.inl rfl) e⟩,st⟩
theorem HOk.lt(x:HOk P w H h)(e:H a=some o):a<h.objs.size:=(x a o e).lt
theorem HOk.fresh(x:HOk P w H h)(e:h.objs.size<=a):H a=none:=by
 cases q:H a with
 | none=>rfl
 | some u=>exact absurd (Nat.lt_of_lt_of_le (x.lt q) e) (Nat.lt_irrefl _)
theorem HOk.kept(x:HOk P w H h)(k:∀b u,h.get? b=some u->h'.get? b=some u):HOk P w H h':=fun a o e=>
 (x a o e).stay (fun b u _ q=>k b u q) (fun _ q=>q) fun _ _ q=>q
theorem HOk.laid(x:HOk P w H h)(k:∀b u,h.get? b=some u->h'.get? b=some u)(hp:h.objs.size<=a)(new:ObjOk P w (upd H a o) h' a o):HOk P w (upd H a o) h':=fun b u e=>by
 have hn:=x.fresh hp
 by_cases hb:b=a
 ·subst hb;rw[upd_same] at e;cases e;exact new
 ·rw[upd_ne hb] at e
  exact(x b u e).stay (fun c v _ q=>k c v q) (fun c q=>by rw[upd_ne (ZC q hn)];exact q) fun c xs q=>by rw[upd_ne (ZC q hn)];exact q
end
def Rd(H:Hp)(a:Addr)(u:HO):Prop:=H a=some u\/∃o,H a=some (.frz o u)
theorem Rd.ok{P:Program}{w:World}{H:Hp}{h:Heap}{a:Addr}{u:HO}(r:Rd H a u)(x:HOk P w H h):ObjOk P w H h a u:=by
 rcases r with r | ⟨o,r⟩
 ·exact x a u r
 ·obtain⟨_,q⟩:=x a _ r
  exact q
def Vo:Option HO->Prop
 | some (.lst _)=>True
 | some (.dK _)=>True
 | some (.dT _)=>True
 | some (.set _ _)=>True
 | some (.ins _ _ _)=>True
 | some (.ext _)=>True
 | _=>False
section
variable {P:Program} {w:World} {H:Hp} {h h':Heap} {x e:Addr} {o':HO}
theorem HOk.write(ok:HOk P w H h)(mu:Vo (H x))(he:e=x\/H e=some (.own x))(k:∀b u,b≠e->h.get? b=some u->h'.get? b=some u)(heo:∃u,h'.get? e=some u)
  (new:ObjOk P w (upd H x o') h' x o'):HOk P w (upd H x o') h':=fun b u q=>by
 have nown:∀c y,H c=some (.own y)->c≠x:=fun c y r z=>by subst z;rw[r] at mu;exact mu
 have ntup:∀c xs,H c=some (.tup xs)->c≠x:=fun c xs r z=>by subst z;rw[r] at mu;exact mu
 by_cases hb:b=x
 ·subst hb;rw[upd_same] at q;cases q;exact new
 ·rw[upd_ne hb] at q
  by_cases hbe:b=e
  ·have q':H b=some (.own x):=by
    rcases he with z | z
    ·exact absurd (hbe.trans z) hb
    ·rw[hbe];exact z
   rw[q] at q';cases q'
   obtain⟨v,hv⟩:=heo
   exact⟨v,by rw[hbe];exact hv⟩
  ·refine(ok b u q).stay (fun c v hc r=>k c v ?_ r) (fun c r=>by rw[upd_ne (nown c b r)];exact r) fun c xs r=>by rw[upd_ne (ntup c xs r)];exact r
   rcases hc with rfl | hc
   ·exact hbe
   ·rintro rfl
    rcases he with z | z
    ·exact nown c b hc z
    ·rw[hc] at z;cases z;exact hb rfl
end
structure Un(fs ex:List Addr)(H H':Hp)(h h':Heap):Prop where
 keep:∀b o,h.get? b=some o->H b=none->b∉fs->b∉ex->h'.get? b=some o
 slot:∀b o,h.get? b=some o->H b=none->b∈fs->b∉ex->∃sl,h'.get? b=some { o with slots:=sl }
 free:∀b o,h.get? b=some o->H b=none->b∉ex->H' b=none
 there:∀b o,h.get? b=some o->b∉ex->∃o',h'.get? b=some o'
 tups:∀b xs,H b=some (.tup xs)->H' b=some (.tup xs)
 frzs:∀b o u,H b=some (.frz o u)->H' b=some (.frz o u)
 tbls:∀b ps,H b=some (.tbl ps)->∃more,H' b=some (.tbl (ps++more))
section
variable {fs fs' ex ex':List Addr} {H H1 H2:Hp} {h h1 h2 h':Heap} {a x e:Addr} {o:HO}
theorem Un.any(u:Un fs ex H H1 h h1){b:Addr}{ob:Obj}(q:h.get? b=some ob)(n:H b=none)(hx:b∉ex):∃sl,h1.get? b=some { ob with slots:=sl }:=by
 by_cases hb:b∈fs
 ·exact u.slot b ob q n hb hx
 ·exact⟨ob.slots,u.keep b ob q n hb hx⟩
theorem Un.kept(k:∀b u,h.get? b=some u->h'.get? b=some u):Un fs ex H H h h':=
 ⟨fun b ob q _ _ _=>k b ob q,fun b ob q _ _ _=>⟨ob.slots,k b ob q⟩,fun _ _ _ n _=>n,fun b ob q _=>⟨ob,k b ob q⟩,fun _ _ q=>q,fun _ _ _ q=>q,fun _ ps q=>⟨#[],by rw[q];simp⟩⟩
theorem Un.refl:Un fs ex H H h h:=Un.kept fun _ _ q=>q
theorem Un.laid(k:∀b u,h.get? b=some u->h'.get? b=some u)(hp:h.objs.size<=a)(hn:H a=none):Un fs ex H (upd H a o) h h' where
 keep:=fun b u q _ _ _=>k b u q
 slot:=fun b u q _ _ _=>⟨u.slots,k b u q⟩
 free:=fun b u q n _=>by rw[upd_ne (Nat.ne_of_lt (Nat.lt_of_lt_of_le (Heap.lt_size q) hp))];exact n
 there:=fun b u q _=>⟨u,k b u q⟩
 tups:=fun b xs q=>by rw[upd_ne (ZC q hn)];exact q
 frzs:=fun b u xs q=>by rw[upd_ne (ZC q hn)];exact q
 tbls:=fun b ps q=>⟨#[],by rw[upd_ne (ZC q hn),q];simp⟩
theorem Un.write(mu:Vo (H x))(he:e=x\/H e=some (.own x))(k:∀b u,b≠e->h.get? b=some u->h'.get? b=some u)(heo:∃u,h'.get? e=some u):Un fs ex H (upd H x o) h h':=by
 have hx:∀b,H b=none->b≠x:=fun b n z=>by subst z;rw[n] at mu;exact mu
 have hb:∀b,H b=none->b≠e:=fun b n z=>by
  subst z
  rcases he with r | r
  ·exact hx b n r
  ·rw[n] at r;cases r
 have hm:∀b u,H b=some u->¬Vo (some u)->b≠x:=fun b u q nm z=>by subst z;rw[q] at mu;exact nm mu
 refine⟨fun b u q n _ _=>k b u (hb b n) q,fun b u q n _ _=>⟨u.slots,k b u (hb b n) q⟩,fun b u q n _=>by rw[upd_ne (hx b n)];exact n,fun b u q _=>?_,
  fun b xs q=>by rw[upd_ne (hm b _ q fun z=>z)];exact q,fun b u xs q=>by rw[upd_ne (hm b _ q fun z=>z)];exact q,fun b ps q=>⟨#[],by rw[upd_ne (hm b _ q fun z=>z),q];simp⟩⟩
 by_cases hbe:b=e
 ·subst hbe;exact heo
 ·exact⟨u,k b u hbe q⟩
end
def C8(h:Heap)(H:Hp):List Addr:=(List.range h.objs.size).filter fun a=>(H a).isSome
def Oc(h:Heap)(H:Hp):Heap:=PySem.W.hideAll h (C8 h H)
theorem Kz(h:Heap)(H:Hp):(Oc h H).objs.size=h.objs.size:=PySem.W.hideAll_size _ _
theorem JQ{h:Heap}{H:Hp}{b:Addr}{o:Obj}(e:h.get? b=some o)(n:H b=none):(Oc h H).get? b=some o:=
 PySem.W.hideAll_get _ e fun hm=>by
  have q:(H b).isSome=true:=(List.mem_filter.mp hm).2
  rw[n] at q;simp at q
theorem Gf{h:Heap}{H:Hp}{b:Addr}{o:Obj}(e:(Oc h H).get? b=some o):h.get? b=some o/\H b=none:=by
 have e':h.get? b=some o:=PySem.W.of_hideAll (C8 h H) e
 refine⟨e',?_⟩
 cases q:H b with
 | none=>rfl
 | some x=>
  have hm:b∈C8 h H:=List.mem_filter.mpr ⟨List.mem_range.mpr (Heap.lt_size e'),by simp[q]⟩
  have z:(Oc h H).get? b=none:=PySem.W.hideAll_none (C8 h H) hm
  rw[z] at e;cases e
def Gg(g h:Heap)(L:Addr):List (Addr×Obj):=(List.range h.objs.size).filterMap fun a=>if a=L\/(g.get? a).isSome=true then none else(h.get? a).map fun o=>(a,o)
def Zx(g h:Heap)(L d:Addr):List (Addr×Obj):=(Gg g h L).filter fun p=>decide (p.1≠d)
structure Mod(K:PySem.W.Frag)(mg:Str->Option Value)(base:Heap):Prop where
 kin:K.In base
 glob:base.Ns mainGlobals mg
 blt:∃mb,base.Ns builtinsNs mb/\∀x:Str,x≠"__name__"->mb x=bootBuiltins x
 nolimit:base.NoLimit
structure Cx where
 prog:Program
 w:World
 K:PySem.W.Frag
 mg:Str->Option Value
 base:Heap
 A:Around
 N:List Str
 s₀:Shared
 H₀:Hp
 env:Env
 outer:List Env
 stack:List Env
 ex:List Addr
 fn:Str->Bool
 calm:Bool
 pn:List (Addr×Obj)
 xe:Value->Shared->Prop
def Mi(l:List Env):List Addr:=l.filterMap (·.frame)
abbrev Cx.fs(X:Cx):List Addr:=Mi X.outer
def Bm(sc:Scope)(x:Str):Prop:=sc.names.lookup x=some .local\/sc.names.lookup x=some .cell\/sc.names.lookup x=some .free
def D7(sc:Scope)(x:Str):Prop:=sc.names.lookup x=some .local\/sc.names.lookup x=some .cell
def Bn(env:Env)(h:Heap)(m:Str->Option Value)(x:Str)(u:Value):Prop:=
 (env.kindOf x=some .local/\m x=some u)\/((env.kindOf x=some .cell\/env.kindOf x=some .free)/\∃c,env.cells.lookup x=some c/\h.IsCell c (some u))
structure Cx.Ok(X:Cx):Prop where
 mod:Mod X.K X.mg X.base
 kind:X.env.scope.kind = .function
 glob:X.env.globals=mainGlobals
 blt:X.env.builtins=builtinsNs
 above:X.s₀.heap.objs.size<=X.env.locals
 inj:∀x y c,X.env.cells.lookup x=some c->X.env.cells.lookup y=some c->x=y
 has:∀x,(X.env.kindOf x=some .cell\/X.env.kindOf x=some .free)->∃c,X.env.cells.lookup x=some c
 cab:∀x c,X.fn x=true->X.env.cells.lookup x=some c->X.s₀.heap.objs.size<=c
 hd:X.calm=true->X.A.handled=none
 frames:X.A.frames=some X.stack
 stk:X.stack=X.outer\/(X.stack=X.env::X.outer/\X.env.frame=some X.env.locals)
 exf:∀b∈X.ex,b≠X.env.locals/\∀x c,X.env.cells.lookup x=some c->c≠b
 bs:∀b o,X.base.get? b=some o->X.s₀.heap.get? b=some o/\X.H₀ b=none
 bsz:X.base.objs.size<=X.s₀.heap.objs.size
 noex:∀b o,X.base.get? b=some o->b∉X.ex
 exfs:∀b∈X.ex,b∉X.fs
 funs:X.s₀.heap.FunFrames X.base X.outer
 frf:∀b∈X.fs,X.H₀ b=none
structure Inv(X:Cx)(pins:List (Addr×Obj))(σ:List (Option V))(H:Hp)(s:Shared):Prop where
 ok:X.Ok
 os:s.os=X.s₀.os
 bare:AllBare s.gens
 base:Un X.fs X.ex X.H₀ H X.s₀.heap s.heap
 loc:∃m,s.heap.Ns X.env.locals m/\∀(i:Nat)(x:Str)(v:V),X.N[i]?=some x->σ[i]?=some (some v)->Bm X.env.scope x->∃u,RelV v u/\Bn X.env s.heap m x u
 cell:∀x c,X.env.cells.lookup x=some c->∃v,s.heap.IsCell c v
 free:H X.env.locals=none
 freeC:∀x c,X.env.cells.lookup x=some c->H c=none
 pin:∀p∈X.pn++pins,s.heap.get? p.1=some p.2/\H p.1=none/\p.1≠X.env.locals/\p.1∉X.fs/\∀v,p.2.data≠.cell v
 hok:HOk X.prog X.w H s.heap
 len:σ.length=X.N.length
section
variable {X:Cx} {pins:List (Addr×Obj)} {σ:List (Option V)} {H H':Hp} {s:Shared} {h':Heap}
theorem Cx.Ok.nofr(ok:X.Ok){b:Addr}{o:Obj}(e:X.base.get? b=some o):b∉X.fs:=fun hb=>by
 have:=(ok.funs.mem hb).1
 rw[e] at this;cases this
theorem Inv.bs(I:Inv X pins σ H s):∀b o,X.base.get? b=some o->s.heap.get? b=some o/\H b=none:=fun b o e=>
 ⟨I.base.keep b o (I.ok.bs b o e).1 (I.ok.bs b o e).2 (I.ok.nofr e) (I.ok.noex b o e),I.base.free b o (I.ok.bs b o e).1 (I.ok.bs b o e).2 (I.ok.noex b o e)⟩
theorem Inv.bk(I:Inv X pins σ H s):∀b o,X.base.get? b=some o->s.heap.get? b=some o:=fun b o e=>(I.bs b o e).1
theorem Inv.mod(I:Inv X pins σ H s):Mod X.K X.mg X.base:=I.ok.mod
theorem Inv.kIn(I:Inv X pins σ H s):X.K.In s.heap:=I.ok.mod.kin.keeps I.bk
theorem Inv.fr(I:Inv X pins σ H s):∃m,Fr X.base X.env.locals s.heap m:=
 let⟨m,hn,_⟩:=I.loc
 ⟨m,hn,I.bk,Nat.le_trans I.ok.bsz I.ok.above⟩
theorem Inv.lt(I:Inv X pins σ H s):X.env.locals<s.heap.objs.size:=let⟨_,hn,_⟩:=I.loc;hn.lt
theorem Inv.sz(I:Inv X pins σ H s):X.s₀.heap.objs.size<=s.heap.objs.size:=Nat.le_trans I.ok.above (Nat.le_of_lt I.lt)
theorem Inv.nofs(I:Inv X pins σ H s){a:Addr}(h:s.heap.objs.size<=a):a∉X.fs:=fun hb=>by
 obtain⟨_,o,ho,_⟩:=I.ok.funs.mem hb
 exact absurd (Nat.lt_of_lt_of_le (Heap.lt_size ho) (Nat.le_trans I.sz h)) (Nat.lt_irrefl _)
theorem Inv.cne(I:Inv X pins σ H s):∀x c,X.env.cells.lookup x=some c->c≠X.env.locals:=fun x c e z=>by
 obtain⟨v,o,ho,hd⟩:=I.cell x c e
 obtain⟨m,⟨o',es,ep,ho',hd',_⟩,_⟩:=I.loc
 rw[z,ho'] at ho;cases ho;rw[hd'] at hd;cases hd
theorem Inv.funs(I:Inv X pins σ H s):s.heap.FunFrames X.base X.outer:=by
 have all:∀(l:List Env),(∀b∈Mi l,b∈X.fs)->X.s₀.heap.FunFrames X.base l->s.heap.FunFrames X.base l:=by
  intro l
  induction l with
  | nil=>intro _ _;trivial
  | cons env r ih=>
   intro hs hl
   obtain⟨hk,⟨L,o,hf,hn,ho,hd⟩,hr⟩:=hl
   have hL:L∈X.fs:=hs L (by unfold Mi;rw[List.filterMap_cons,hf];exact List.mem_cons_self)
   obtain⟨sl,e⟩:=I.base.slot L o ho (I.ok.frf L hL) hL fun z=>I.ok.exfs L z hL
   exact⟨hk,⟨L,_,hf,hn,e,hd⟩,ih (fun b hb=>hs b (by unfold Mi;rw[List.filterMap_cons,hf];exact List.mem_cons_of_mem _ hb)) hr⟩
 exact all X.outer (fun _ hb=>hb) I.ok.funs
theorem Inv.stack(I:Inv X pins σ H s):s.heap.FunFrames X.base X.stack:=by
 rcases I.ok.stk with e | ⟨e,hf⟩
 ·rw[e];exact I.funs
 ·rw[e]
  obtain⟨m,hn,_⟩:=I.loc
  refine .cons (by rw[I.ok.kind];decide) hf hn ?_ I.funs
  exact Heap.get?_none_of_le (Nat.le_trans I.ok.bsz I.ok.above)
theorem Inv.stkSub(I:Inv X pins σ H s):∀b∈Mi X.stack,b∈X.env.locals::X.fs:=fun b hb=>by
 rcases I.ok.stk with e | ⟨e,hf⟩
 ·rw[e] at hb;exact List.mem_cons_of_mem _ hb
 ·rw[e] at hb
  unfold Mi at hb;rw[List.filterMap_cons,hf] at hb;exact hb
theorem Inv.stkFree(I:Inv X pins σ H s):∀b∈Mi X.stack,H b=none:=fun b hb=>by
 rcases List.mem_cons.mp (I.stkSub b hb) with e | hb
 ·rw[e];exact I.free
 ·obtain⟨_,o,ho,_⟩:=I.ok.funs.mem hb
  exact I.base.free b o ho (I.ok.frf b hb) fun z=>I.ok.exfs b z hb
theorem Inv.step{g':Array GenState}{t':Nat}{d':Drawn}{ch:List Addr}(I:Inv X pins σ H s)
  (hch:∀b∈ch,(b∈X.ex\/X.s₀.heap.objs.size<=b)/\b≠X.env.locals/\(∀x c,X.env.cells.lookup x=some c->c≠b)/\∀p∈X.pn++pins,p.1≠b)
  (keep:∀b o,b≠X.env.locals->b∉X.fs->b∉ch->s.heap.get? b=some o->H b=none->h'.get? b=some o)
  (slot:∀b o,b≠X.env.locals->b∈X.fs->b∉ch->s.heap.get? b=some o->H b=none->∃sl,h'.get? b=some { o with slots:=sl }) (free:∀b o,b∉ch->s.heap.get? b=some o->H b=none->H' b=none)
  (there:∀b o,b∉ch->s.heap.get? b=some o->∃o',h'.get? b=some o')
  (tups:∀b xs,H b=some (.tup xs)->H' b=some (.tup xs)) (frzs:∀b o u,H b=some (.frz o u)->H' b=some (.frz o u)) (tbls:∀b ps,H b=some (.tbl ps)->∃more,H' b=some (.tbl (ps++more)))
  (ns:∀m,s.heap.Ns X.env.locals m->h'.Ns X.env.locals m) (hok:HOk X.prog X.w H' h') (hg:AllBare g') :
  Inv X pins σ H' { s with heap:=h',gens:=g',drawn:=d',toks:=t' }:=by
 have neL:∀b o,X.s₀.heap.get? b=some o->b≠X.env.locals:=fun b o e=>Nat.ne_of_lt (Nat.lt_of_lt_of_le (Heap.lt_size e) I.ok.above)
 have neC:∀b o,X.s₀.heap.get? b=some o->b∉X.ex->b∉ch:=fun b o e hx hb=>by
  rcases(hch b hb).1 with z | z
  ·exact hx z
  ·exact absurd (Nat.lt_of_lt_of_le (Heap.lt_size e) z) (Nat.lt_irrefl _)
 have cellK:∀x c,X.env.cells.lookup x=some c->∀v,s.heap.IsCell c v->h'.IsCell c v:=fun x c e v ⟨o,ho,hd⟩=>by
  have nch:c∉ch:=fun z=>(hch c z).2.2.1 x c e rfl
  by_cases hc:c∈X.fs
  ·obtain⟨sl,q⟩:=slot c o (I.cne x c e) hc nch ho (I.freeC x c e)
   exact⟨_,q,hd⟩
  ·exact⟨o,keep c o (I.cne x c e) hc nch ho (I.freeC x c e),hd⟩
 refine⟨I.ok,I.os,hg,⟨fun b o e n hb hx=>?_,fun b o e n hb hx=>?_,fun b o e n hx=>?_,fun b o e hx=>?_,fun b xs e=>tups b xs (I.base.tups b xs e),fun b o xs e=>frzs b o xs (I.base.frzs b o xs e),fun b ps e=>?_⟩,?_,fun x c e=>?_,?_,fun x c e=>?_,fun p hp=>?_,hok,I.len⟩
 ·exact keep b o (neL b o e) hb (neC b o e hx) (I.base.keep b o e n hb hx) (I.base.free b o e n hx)
 ·obtain⟨sl,e1⟩:=I.base.slot b o e n hb hx
  obtain⟨sl',e2⟩:=slot b _ (neL b o e) hb (neC b o e hx) e1 (I.base.free b o e n hx)
  exact⟨sl',e2⟩
 ·obtain⟨o',e1⟩:=I.base.there b o e hx
  exact free b o' (neC b o e hx) e1 (I.base.free b o e n hx)
 ·obtain⟨o',e1⟩:=I.base.there b o e hx
  exact there b o' (neC b o e hx) e1
 ·obtain⟨m1,e1⟩:=I.base.tbls b ps e
  obtain⟨m2,e2⟩:=tbls b _ e1
  exact⟨m1++m2,by rw[e2,Array.append_assoc]⟩
 ·obtain⟨m,hn,hl⟩:=I.loc
  refine⟨m,ns m hn,fun i x v e1 e2 e3=>?_⟩
  obtain⟨u,r,l⟩:=hl i x v e1 e2 e3
  refine⟨u,r,?_⟩
  rcases l with l | ⟨k,c,e,z⟩
  ·exact .inl l
  ·exact .inr ⟨k,c,e,cellK x c e _ z⟩
 ·obtain⟨v,z⟩:=I.cell x c e
  exact⟨v,cellK x c e v z⟩
 ·obtain⟨m,⟨o,_,_,ho,_⟩,_⟩:=I.loc
  exact free _ o (fun z=>(hch _ z).2.1 rfl) ho I.free
 ·obtain⟨v,o,ho,hd⟩:=I.cell x c e
  exact free c o (fun z=>(hch c z).2.2.1 x c e rfl) ho (I.freeC x c e)
 ·obtain⟨e,n,ne,nf,d⟩:=I.pin p hp
  have nch:p.1∉ch:=fun z=>(hch p.1 z).2.2.2 p hp rfl
  exact⟨keep p.1 p.2 ne nf nch e n,free p.1 p.2 nch e n,ne,nf,d⟩
theorem Inv.un{t':Nat}(I:Inv X pins σ H s)(u:Un X.fs [] H H' s.heap h')(hok:HOk X.prog X.w H' h'):Inv X pins σ H' { s with heap:=h',toks:=t' }:=by
 obtain⟨m,⟨o,es,ep,ho,r⟩,_⟩:=id I.loc
 obtain⟨sl,hL⟩:=u.any ho I.free (by simp)
 exact I.step (g':=s.gens) (d':=s.drawn) (ch:=[]) (fun _ z=>nomatch z) (fun b o _ hb _ e n=>u.keep b o e n hb (by simp)) (fun b o _ hb _ e n=>u.slot b o e n hb (by simp)) (fun b o _ e n=>u.free b o e n (by simp)) (fun b o _ e=>u.there b o e (by simp)) u.tups u.frzs u.tbls (fun m' hm=>by
  obtain⟨o',es',ep',ho',r'⟩:=hm
  rw[ho] at ho';cases ho'
  exact⟨_,es',ep',hL,r'⟩) hok I.bare
theorem Inv.call{g':Array GenState}{t':Nat}{d':Drawn}{ch:List Addr}(I:Inv X pins σ H s)(u:Un (Mi X.stack) ch H H' s.heap h')(hok:HOk X.prog X.w H' h')(hg:AllBare g')
  (hch:∀b∈ch,(b∈X.ex\/X.s₀.heap.objs.size<=b)/\b≠X.env.locals/\(∀x c,X.env.cells.lookup x=some c->c≠b)/\∀p∈X.pn++pins,p.1≠b) :
  Inv X pins σ H' { s with heap:=h',gens:=g',drawn:=d',toks:=t' }:=by
 obtain⟨m,⟨o,es,ep,ho,r⟩,_⟩:=id I.loc
 obtain⟨sl,hL⟩:=u.any ho I.free fun z=>(hch _ z).2.1 rfl
 exact I.step (ch:=ch) hch (fun b o hL hb hc e n=>u.keep b o e n (fun z=>(List.mem_cons.mp (I.stkSub b z)).elim hL hb) hc) (fun b o _ _ hc e n=>u.any e n hc) (fun b o hc e n=>u.free b o e n hc) (fun b o hc e=>u.there b o e hc) u.tups u.frzs u.tbls (fun m' hm=>by
  obtain⟨o',es',ep',ho',r'⟩:=hm
  rw[ho] at ho';cases ho'
  exact⟨_,es',ep',hL,r'⟩) hok hg
theorem Inv.turned{t':Nat}{it:Addr}(I:Inv X pins σ H s)(k:∀b o,b≠it->s.heap.get? b=some o->h'.get? b=some o)(hn:H it=none)(hL:it≠X.env.locals)
  (h1:it∈X.ex\/X.s₀.heap.objs.size<=it) (h2:∀x c,X.env.cells.lookup x=some c->c≠it) (h3:∀p∈X.pn++pins,p.1≠it):Inv X pins σ H { s with heap:=h',toks:=t' }:=by
 have nit:∀b u,H b=some u->b≠it:=fun b u e z=>by rw[z,hn] at e;cases e
 refine I.step (g':=s.gens) (d':=s.drawn) (ch:=[it]) (fun b hb=>?_) (fun b o _ _ hc e _=>k b o (fun z=>hc (by simp[z])) e) (fun b o _ _ hc e _=>⟨o.slots,k b o (fun z=>hc (by simp[z])) e⟩) (fun _ _ _ _ n=>n)
  (fun b o hc e=>⟨o,k b o (fun z=>hc (by simp[z])) e⟩) (fun _ _ e=>e) (fun _ _ _ e=>e) (fun b ps e=>⟨#[],by rw[e];simp⟩) (fun m hm=>?_) (fun b u e=>?_) I.bare
 ·have e:b=it:=by simpa using hb
  subst e
  exact⟨h1,hL,h2,h3⟩
 ·obtain⟨o,es,ep,ho,r⟩:=hm
  exact⟨o,es,ep,k _ o (Ne.symm hL) ho,r⟩
 ·refine(I.hok b u e).stay (fun c v hc q=>k c v ?_ q) (fun _ q=>q) fun _ _ q=>q
  rcases hc with z | z
  ·rw[z];exact nit b u e
  ·exact nit c _ z
theorem Inv.tok(I:Inv X pins σ H s)(t:Nat):Inv X pins σ H { s with toks:=t }:=I.un (h':=s.heap) (t':=t) Un.refl I.hok
theorem Inv.kept{t':Nat}(I:Inv X pins σ H s)(k:∀b u,s.heap.get? b=some u->h'.get? b=some u):Inv X pins σ H { s with heap:=h',toks:=t' }:=I.un (Un.kept k) (I.hok.kept k)
theorem Inv.laid{a:Addr}{o:HO}{t':Nat}(I:Inv X pins σ H s)(k:∀b u,s.heap.get? b=some u->h'.get? b=some u)(hp:s.heap.objs.size<=a)(new:ObjOk X.prog X.w (upd H a o) h' a o) :
  Inv X pins σ (upd H a o) { s with heap:=h',toks:=t' }:=I.un (Un.laid k hp (I.hok.fresh hp)) (I.hok.laid k hp new)
theorem Inv.write{x e:Addr}{o:HO}{t':Nat}(I:Inv X pins σ H s)(mu:Vo (H x))(he:e=x\/H e=some (.own x))(k:∀b u,b≠e->s.heap.get? b=some u->h'.get? b=some u)(heo:∃u,h'.get? e=some u)
  (new:ObjOk X.prog X.w (upd H x o) h' x o):Inv X pins σ (upd H x o) { s with heap:=h',toks:=t' }:=I.un (Un.write mu he k heo) (I.hok.write mu he k heo new)
theorem Inv.weak{σ':List (Option V)}(I:Inv X pins σ H s)(hl:σ'.length=σ.length)(w:∀(i:Nat) v,σ'[i]?=some (some v)->σ[i]?=some (some v)):Inv X pins σ' H s:=
 ⟨I.ok,I.os,I.bare,I.base,let⟨m,hn,hl'⟩:=I.loc;⟨m,hn,fun i x v e1 e2 e3=>hl' i x v e1 (w i v e2) e3⟩,I.cell,I.free,I.freeC,I.pin,I.hok,hl.trans I.len⟩
theorem Inv.pins_of{pins':List (Addr×Obj)}(I:Inv X pins σ H s)(h:∀p∈pins',s.heap.get? p.1=some p.2/\H p.1=none/\p.1≠X.env.locals/\p.1∉X.fs/\∀v,p.2.data≠.cell v):Inv X pins' σ H s:=
 ⟨I.ok,I.os,I.bare,I.base,I.loc,I.cell,I.free,I.freeC,fun p hp=>(List.mem_append.mp hp).elim (fun z=>I.pin p (List.mem_append_left _ z)) (h p),I.hok,I.len⟩
theorem Nc{N:List Str}(hN:N.Nodup){i j:Nat}{x:Str}(a:N[i]?=some x)(b:N[j]?=some x):i=j:=by
 obtain⟨h1,e1⟩:=List.getElem?_eq_some_iff.mp a
 obtain⟨h2,e2⟩:=List.getElem?_eq_some_iff.mp b
 exact(List.getElem_inj hN).mp (e1.trans e2.symm)
theorem KA{M:Model}{A:Around}{E:Value->Shared->Prop}{i:Nat}{x:Str}{v:V}{u:Value}{Q:Unit->Shared->Prop}(I:Inv X pins σ H s)(hN:X.N.Nodup)(hi:X.N[i]?=some x)(hx:D7 X.env.scope x)(r:RelV v u)
  (h:∀s',Inv X pins (σ.set i (some v)) H s'->(∃a,Heap.SameBut a s.heap s'.heap/\(a=X.env.locals\/X.env.cells.lookup x=some a))->Q () s') (hf:X.fn x=true\/X.env.scope.names.lookup x=some .local:=by first | exact .inl rfl | exact .inr rfl | assumption):wpAny M A (storeName X.env x u) Q E s:=by
 obtain⟨m,hn,hl⟩:=id I.loc
 have hcls:(X.env.scope.kind==.class || (X.env.scope.kind==.module&&X.env.locals != X.env.globals))=false:=by rw[I.ok.kind];rfl
 have hiσ:i<σ.length:=by rw[I.len];exact(List.getElem?_eq_some_iff.mp hi).1
 have cne:=I.cne
 have tracked:∀{a:Addr}{h':Heap},(∃o,s.heap.get? a=some o/\H a=none)->Heap.SameBut a s.heap h'->HOk X.prog X.w H h':=fun{a h'} ha hs b ob e=>by
  obtain⟨_,_,hfree⟩:=ha
  refine(I.hok b ob e).stay (fun c w' hc q=>(hs.2 c ?_).trans q) (fun _ q=>q) fun _ _ q=>q
  rintro rfl
  rcases hc with rfl | hc
  ·rw[hfree] at e;cases e
  ·rw[hfree] at hc;cases hc
 rcases hx with hk | hk
 ·refine wpAny_storeName_local hk hn (fun h' hn' hs=>?_) hcls
  obtain⟨oL,_,_,hoL,_⟩:=id hn
  refine h _ ⟨I.ok,I.os,I.bare,⟨fun b o e n hb hx=>?_,fun b o e n hb hx=>?_,I.base.free,fun b o e hx=>?_,I.base.tups,I.base.frzs,I.base.tbls⟩,⟨_,hn',fun j y v' e1 e2 e3=>?_⟩,fun y c e=>?_,I.free,I.freeC,fun p hp=>?_,tracked ⟨oL,hoL,I.free⟩ hs,by simpa using I.len⟩ ⟨_,hs,.inl rfl⟩
  ·exact(hs.2 b (Nat.ne_of_lt (Nat.lt_of_lt_of_le (Heap.lt_size e) I.ok.above))).trans (I.base.keep b o e n hb hx)
  ·obtain⟨sl,e1⟩:=I.base.slot b o e n hb hx
   exact⟨sl,(hs.2 b (Nat.ne_of_lt (Nat.lt_of_lt_of_le (Heap.lt_size e) I.ok.above))).trans e1⟩
  ·obtain⟨o',e1⟩:=I.base.there b o e hx
   exact⟨o',(hs.2 b (Nat.ne_of_lt (Nat.lt_of_lt_of_le (Heap.lt_size e) I.ok.above))).trans e1⟩
  ·by_cases hj:j=i
   ·subst hj
    rw[hi] at e1;cases e1;rw[List.getElem?_set_self hiσ] at e2;cases e2
    exact⟨u,r,.inl ⟨hk,by simp⟩⟩
   ·rw[List.getElem?_set_ne (Ne.symm hj)] at e2
    obtain⟨u',r',q⟩:=hl j y v' e1 e2 e3
    refine⟨u',r',?_⟩
    rcases q with⟨k,e⟩ | ⟨k,c,e,z⟩
    ·refine .inl ⟨k,?_⟩
     have:y≠x:=fun e=>hj (Nc hN e1 (e▸hi))
     simp[this,e]
    ·exact .inr ⟨k,c,e,z.sameBut hs (cne y c e)⟩
  ·obtain⟨w',z⟩:=I.cell y c e
   exact⟨w',z.sameBut hs (cne y c e)⟩
  ·obtain⟨e,n,ne,nf,d⟩:=I.pin p hp
   exact⟨(hs.2 p.1 ne).trans e,n,ne,nf,d⟩
 ·have hfn:X.fn x=true:=by
   rcases hf with z | z
   ·exact z
   ·rw[z] at hk;cases hk
  obtain⟨c,hc⟩:=I.ok.has x (.inl hk)
  obtain⟨w',z⟩:=I.cell x c hc
  refine wpAny_storeName_cell I.ok.kind hk hc z (fun h' hc' hs=>?_)
  obtain⟨oc,hoc,hocd⟩:=id z
  refine h { s with heap:=h' } ⟨I.ok,I.os,I.bare,⟨fun b o e n hb hx=>?_,fun b o e n hb hx=>?_,I.base.free,fun b o e hx=>?_,I.base.tups,I.base.frzs,I.base.tbls⟩,⟨m,hn.sameBut hs (Ne.symm (cne x c hc)),fun j y v' e1 e2 e3=>?_⟩,fun y c' e=>?_,I.free,I.freeC,fun p hp=>?_,tracked ⟨oc,hoc,I.freeC x c hc⟩ hs,by simpa using I.len⟩ ⟨c,hs,.inr hc⟩
  ·exact(hs.2 b (Nat.ne_of_lt (Nat.lt_of_lt_of_le (Heap.lt_size e) (I.ok.cab x c hfn hc)))).trans (I.base.keep b o e n hb hx)
  ·obtain⟨sl,e1⟩:=I.base.slot b o e n hb hx
   exact⟨sl,(hs.2 b (Nat.ne_of_lt (Nat.lt_of_lt_of_le (Heap.lt_size e) (I.ok.cab x c hfn hc)))).trans e1⟩
  ·obtain⟨o',e1⟩:=I.base.there b o e hx
   exact⟨o',(hs.2 b (Nat.ne_of_lt (Nat.lt_of_lt_of_le (Heap.lt_size e) (I.ok.cab x c hfn hc)))).trans e1⟩
  ·by_cases hj:j=i
   ·subst hj
    rw[hi] at e1;cases e1;rw[List.getElem?_set_self hiσ] at e2;cases e2
    exact⟨u,r,.inr ⟨.inl hk,c,hc,hc'⟩⟩
   ·rw[List.getElem?_set_ne (Ne.symm hj)] at e2
    obtain⟨u',r',q⟩:=hl j y v' e1 e2 e3
    refine⟨u',r',?_⟩
    rcases q with q | ⟨k,c',e,z'⟩
    ·exact .inl q
    ·refine .inr ⟨k,c',e,z'.sameBut hs ?_⟩
     rintro rfl
     exact hj (Nc hN e1 (I.ok.inj _ _ _ e hc▸hi))
  ·by_cases hcc:c'=c
   ·subst hcc;exact⟨_,hc'⟩
   ·obtain⟨w2,z2⟩:=I.cell y c' e
    exact⟨w2,z2.sameBut hs hcc⟩
  ·obtain⟨e,n,ne,nf,d⟩:=I.pin p hp
   refine⟨(hs.2 p.1 ?_).trans e,n,ne,nf,d⟩
   intro q;rw[q,hoc] at e
   have q':oc=p.2:=Option.some.inj e
   exact d w' (by rw[<-q'];exact hocd)
theorem RQ{M:Model}{A:Around}{E:Value->Shared->Prop}{i:Nat}{x:Str}{v:V}{u:Value}{Q:Unit->Shared->Prop}(I:Inv X pins σ H s)(hN:X.N.Nodup)(hi:X.N[i]?=some x)(hx:D7 X.env.scope x)(r:RelV v u)
  (h:∀s',Inv X pins (σ.set i (some v)) H s'->Q () s') (hf:X.fn x=true\/X.env.scope.names.lookup x=some .local:=by first | exact .inl rfl | exact .inr rfl | assumption):wpAny M A (storeName X.env x u) Q E s:=
 KA I hN hi hx r (fun s' I' _=>h s' I') hf
theorem Inv.call'{s':Shared}{ch:List Addr}(I:Inv X pins σ H s)(ho:s'.os=s.os)(u:Un (Mi X.stack) ch H H' s.heap s'.heap)(hok:HOk X.prog X.w H' s'.heap)(hg:AllBare s'.gens)
  (hch:∀b∈ch,(b∈X.ex\/X.s₀.heap.objs.size<=b)/\b≠X.env.locals/\(∀x c,X.env.cells.lookup x=some c->c≠b)/\∀p∈X.pn++pins,p.1≠b):Inv X pins σ H' s':=by
 obtain⟨h',g',d',t',o'⟩:=s'
 have e:o'=s.os:=ho
 subst e
 exact I.call (g':=g') (t':=t') (d':=d') u hok hg hch
end
abbrev XK:=Value->Option Addr->Hp->Prop
abbrev St:=List (Option V)
abbrev VK:=V->Hp->Prop
abbrev TE:=St->Hp->VK->Prop
abbrev TT:=St->Hp->(Bool->Hp->Prop)->Prop
abbrev TA:=St->Hp->(List V->Hp->Prop)->Prop
structure Tx where
 nx:St->Hp->Prop
 rt:VK
 bk:St->Hp->Prop:=fun _ _=>False
 ct:St->Hp->Prop:=fun _ _=>False
abbrev TS:=Tx->St->Hp->Prop
def EP(X:Cx)(pins:List (Addr×Obj))(σ:St)(Q:VK)(u:Value)(s':Shared):Prop:=∃v H',Inv X pins σ H' s'/\RelV v u/\Q v H'
def TP(X:Cx)(pins:List (Addr×Obj))(σ:St)(Q:Bool->Hp->Prop)(b:Bool)(s':Shared):Prop:=∃H',Inv X pins σ H' s'/\Q b H'
def AP(X:Cx)(pins:List (Addr×Obj))(σ:St)(Q:List V->Hp->Prop)(us:List Value)(s':Shared):Prop:=∃vs H',Inv X pins σ H' s'/\Vals vs us/\Q vs H'
def SP(X:Cx)(pins:List (Addr×Obj))(D:Tx)(f:Flow)(s':Shared):Prop:=
 match f with
 | .next=>∃σ' H',Inv X pins σ' H' s'/\D.nx σ' H'
 | .brk=>∃σ' H',Inv X pins σ' H' s'/\D.bk σ' H'
 | .cont=>∃σ' H',Inv X pins σ' H' s'/\D.ct σ' H'
 | .ret u=>∃v σ' H',Inv X pins σ' H' s'/\RelV v u/\D.rt v H'
def PE(X:Cx)(e:Expr)(t:TE):Prop:=
 ∀(pins:List (Addr×Obj))(s:Shared)(σ:St)(H:Hp)(Q:VK),Inv X pins σ H s->t σ H Q->wpAny (model X.prog X.w) X.A (eval e X.env) (EP X pins σ Q) X.xe s
def PT(X:Cx)(e:Expr)(t:TT):Prop:=
 ∀(pins:List (Addr×Obj))(s:Shared)(σ:St)(H:Hp)(Q:Bool->Hp->Prop),Inv X pins σ H s->t σ H Q->wpAny (model X.prog X.w) X.A (isTrue e X.env (eval e X.env)) (TP X pins σ Q) X.xe s
def PW(X:Cx)(e:Expr)(t:TT):Prop:=
 ∀(whole:Sem Value)(pins:List (Addr×Obj))(s:Shared)(σ:St)(H:Hp)(Q:Bool->Hp->Prop),Inv X pins σ H s->t σ H Q->wpAny (model X.prog X.w) X.A (isTrue e X.env whole) (TP X pins σ Q) X.xe s
theorem PW.pt{X:Cx}{e:Expr}{t:TT}(h:PW X e t):PT X e t:=h _
def PA(X:Cx)(es:List Expr)(t:TA):Prop:=
 ∀(pos:Pos)(pins:List (Addr×Obj))(s:Shared)(σ:St)(H:Hp)(Q:List V->Hp->Prop),Inv X pins σ H s->t σ H Q->wpAny (model X.prog X.w) X.A (spliced (backTo pos (starEach es X.env))) (AP X pins σ Q) X.xe s
def PS(X:Cx)(st:Stmt)(t:TS):Prop:=
 ∀(pins:List (Addr×Obj))(s:Shared)(σ:St)(H:Hp)(D:Tx),Inv X pins σ H s->t D σ H->wpAny (model X.prog X.w) X.A (exec st X.env) (SP X pins D) X.xe s
def PSs(X:Cx)(st:List Stmt)(t:TS):Prop:=
 ∀(pins:List (Addr×Obj))(s:Shared)(σ:St)(H:Hp)(D:Tx),Inv X pins σ H s->t D σ H->wpAny (model X.prog X.w) X.A (execs st X.env) (SP X pins D) X.xe s
theorem Y1{α:Type}{t:Sem α}{Q Q':α->Shared->Prop}{M:Model}{A:Around}{E:Value->Shared->Prop}{s:Shared}(h:wpAny M A t Q E s)(hQ:∀a s,Q a s->Q' a s):wpAny M A t Q' E s:=wpAny_mono h hQ fun _ _ x=>x
section
variable {X:Cx}
theorem bin{a b:Expr}{ta tb:TE}(ha:PE X a ta)(hb:PE X b tb){pins:List (Addr×Obj)}{s:Shared}{σ:St}{H:Hp}{R:V->V->Hp->Prop}(I:Inv X pins σ H s)(h:ta σ H fun x H1=>tb σ H1 fun y H2=>R x y H2)
  {α:Type} {Q:α->Shared->Prop} {f:Value->Value->Sem α}
  (hf:∀v u s2 x y H2,Inv X pins σ H2 s2->RelV x v->RelV y u->R x y H2->wpAny (model X.prog X.w) X.A (f v u) Q X.xe s2) :
  wpAny (model X.prog X.w) X.A (eval a X.env) (fun v s₁=>wpAny (model X.prog X.w) X.A (eval b X.env) (fun u s₂=>wpAny (model X.prog X.w) X.A (f v u) Q X.xe s₂) X.xe s₁) X.xe s:=by
 refine Y1 (ha pins s σ H _ I h) fun v s1 ⟨x,H1,I1,r1,q1⟩=>?_
 refine Y1 (hb pins s1 σ H1 _ I1 q1) fun u s2 ⟨y,H2,I2,r2,q2⟩=>?_
 exact hf v u s2 x y H2 I2 r1 r2 q2
def Tz(i:Nat):TE:=fun σ H Q=>∃v,σ[i]?=some (some v)/\Q v H
def tC(v:V):TE:=fun _ H Q=>Q v H
theorem EB{i:Nat}{x:Str}{pos:Pos}(hN:X.N[i]?=some x)(hv:Bm X.env.scope x)(hd:(x==("__debug__" : Str))=false:=by decide)(hcd:(x==("__classdict__" : Str))=false:=by decide):PE X (.Name x pos) (Tz i):=by
 intro pins s σ H Q I h
 obtain⟨v,e,h⟩:=h
 obtain⟨m,hn,hl⟩:=I.loc
 obtain⟨u,r,l⟩:=hl i x v hN e hv
 have fin:EP X pins σ Q u s:=⟨v,H,I,r,h⟩
 rcases l with⟨hk,hm⟩ | ⟨hk,c,hc,hcell⟩
 ·exact wpAny_Name (wpAny_loadName_local I.ok.kind hk hn hm fin) hd
 ·rcases hk with hk | hk
  ·exact wpAny_Name (wpAny_loadName_cell I.ok.kind hk hc hcell fin) hd
  ·exact wpAny_Name (wpAny_loadName_free I.ok.kind hk hc hcell fin hcd) hd
theorem EC{i j pos}:PE X (.Constant (.int i) j pos) (tC (.int i)):=fun _ _ _ H _ I h=>wpAny_Constant_int ⟨.int i,H,I.tok _,⟨_,rfl⟩,h⟩
theorem D8{b j pos}:PE X (.Constant (.bool b) j pos) (tC (.bl b)):=fun _ _ _ H _ I h=>Constant_bool ⟨.bl b,H,I,rfl,h⟩
theorem JR{j pos}:PE X (.Constant .none j pos) (tC .non):=fun _ _ _ H _ I h=>Constant_none ⟨.non,H,I,rfl,h⟩
def Gl(X:Cx)(x:Str):Prop:=X.env.kindOf x=some .globalImplicit
theorem Gh{E:Value->Shared->Prop}{pins:List (Addr×Obj)}{s:Shared}{σ:St}{H:Hp}{x:Str}{u:Value}{pos:Pos}{Q:Value->Shared->Prop}(I:Inv X pins σ H s)(hg:Gl X x)(hm:X.mg x=some u)(h:Q u s)
  (hd:(x==("__debug__" : Str))=false:=by decide):wpAny (model X.prog X.w) X.A (eval (.Name x pos) X.env) Q E s:=
 Calls.Name_function_global I.ok.kind hg (Calls.loadGlobal_global (by rw[I.ok.glob];exact I.mod.glob.keeps I.bk) hm h) hd
theorem VN{E:Value->Shared->Prop}{pins:List (Addr×Obj)}{s:Shared}{σ:St}{H:Hp}{x:Str}{u:Value}{pos:Pos}{Q:Value->Shared->Prop}(I:Inv X pins σ H s)(hg:Gl X x)(hm:X.mg x=none)(hv:bootBuiltins x=some u)(h:Q u s)
  (hn:x≠"__name__":=by decide) (hd:(x==("__debug__" : Str))=false:=by decide):wpAny (model X.prog X.w) X.A (eval (.Name x pos) X.env) Q E s:=by
 obtain⟨mb,h1,h2⟩:=I.mod.blt
 exact Calls.Name_function_global I.ok.kind hg (Calls.loadGlobal_builtin (by rw[I.ok.glob];exact I.mod.glob.keeps I.bk) hm (by rw[I.ok.blt];exact h1.keeps I.bk) ((h2 x hn).trans hv) h) hd
theorem Gi{x:Str}{v:V}{u:Value}{pos:Pos}(hg:Gl X x)(hm:X.mg x=none)(hv:bootBuiltins x=some u)(r:RelV v u)(hn:x≠"__name__":=by decide)(hd:(x==("__debug__" : Str))=false:=by decide):PE X (.Name x pos) (tC v):=
 fun _ _ _ H _ I h=>VN I hg hm hv ⟨v,H,I,r,h⟩ hn hd
variable {a b:Expr} {ta tb:TE} {pos:Pos}
def PC(X:Cx)(op:CmpOp)(a b:Expr)(t:TE):Prop:=
 ∀(pins:List (Addr×Obj))(s:Shared)(σ:St)(H:Hp)(Q:VK),Inv X pins σ H s->t σ H Q->
  wpAny (model X.prog X.w) X.A (eval a X.env) (fun v s₁=>wpAny (model X.prog X.w) X.A (eval b X.env) (fun u s₂=>wpAny (model X.prog X.w) X.A (compareOp op v u) (EP X pins σ Q) X.xe s₂) X.xe s₁) X.xe s
theorem JS(b:Expr){op:CmpOp}(h:op≠.In)(h2:op≠.NotIn):behindInMarks op b=false:=by
 have e1:(op==CmpOp.In)=false:=by cases op<;>first | rfl | exact absurd rfl h
 have e2:(op==CmpOp.NotIn)=false:=by cases op<;>first | rfl | exact absurd rfl h2
 cases b<;>simp[behindInMarks,e1,e2]
def D9(ta:TE):TE:=fun σ H Q=>ta σ H fun x H1=>Q (.bl (decide (x = .non))) H1
def F3(ta:TE):TE:=fun σ H Q=>ta σ H fun x H1=>Q (.bl (!decide (x = .non))) H1
theorem RelV.none_iff{x:V}{v:Value}(r:RelV x v):(v==Value.none)=decide (x = .non):=by
 cases x with
 | non=>cases r;rfl
 | bl _=>cases r;rfl
 | int _=>obtain⟨t,rfl⟩:=r;rfl
 | str _=>obtain⟨t,rfl⟩:=r;rfl
 | byt _=>obtain⟨t,rfl⟩:=r;rfl
 | flt _=>obtain⟨t,rfl⟩:=r;rfl
 | ref _=>cases r;rfl
 | ty _=>cases r;rfl
theorem ED{j pos'}(ha:PE X a ta):PC X .Is a (.Constant .none j pos') (D9 ta):=by
 intro pins s σ H Q I h
 refine Y1 (ha pins s σ H _ I h) fun v s1 ⟨x,H1,I1,r1,q1⟩=>?_
 exact Constant_none (is_none_gen ⟨.bl _,H1,I1,by rw[r1.none_iff];rfl,q1⟩)
theorem Gj{j pos'}(ha:PE X a ta):PC X .IsNot a (.Constant .none j pos') (F3 ta):=by
 intro pins s σ H Q I h
 refine Y1 (ha pins s σ H _ I h) fun v s1 ⟨x,H1,I1,r1,q1⟩=>?_
 exact Constant_none (isnot_none_gen ⟨.bl _,H1,I1,by rw[r1.none_iff];rfl,q1⟩)
def tB(t:TE):TT:=fun σ H Q=>t σ H fun x H1=>∃c,x = .bl c/\Q c H1
theorem Mm{op:CmpOp}{t:TE}(h:PC X op a b t)(h1:behindInMarks op b=false:=by first | exact JS _ (by decide) (by decide) | rfl):PT X (.Compare a [op] [b] pos) (tB t):=by
 intro pins s σ H Q I hw
 refine wpAny_isTrue_Compare1 (Y1 (h pins s σ H _ I hw) fun v s1 h1=>Y1 h1 fun u s2 h2=>Y1 h2 fun c s3 ⟨x,H1,I1,r1,q1⟩=>?_) h1
 obtain⟨d,rfl,q⟩:=q1
 cases r1
 exact wpAny_truthy_bool ⟨H1,I1,q⟩
theorem EE{e:Expr}{t:TE}(h:PE X e t)(he:∀whole,isTrue e X.env whole=(do let v <-whole;standAt e.pos;holding [v] (truthy v)):=by intro _;rfl):PT X e (tB t):=by
 intro pins s σ H Q I hw
 refine isTrue_plain (Y1 (h pins s σ H _ I hw) fun v s1 ⟨x,H1,I1,r1,q1⟩=>?_) (he _)
 obtain⟨d,rfl,q⟩:=q1
 cases r1
 exact wpAny_truthy_bool ⟨H1,I1,q⟩
variable {tA tB':TT} {Zx:List Expr}
def Ca(t u:TT):TT:=fun σ H Q=>t σ H fun c H1=>if c=true then u σ H1 Q else Q false H1
def BN(t u:TT):TT:=fun σ H Q=>t σ H fun c H1=>if c=true then Q true H1 else u σ H1 Q
def Bo(t:TT):TT:=fun σ H Q=>t σ H fun c H1=>Q (!c) H1
theorem Gk(ha:PT X a tA):PW X (.BoolOp .And [a] pos) tA:=by
 intro wh pins s σ H Q I h
 refine isTrue_and (Y1 (ha pins s σ H Q I h) fun c s1 e=>?_)
 cases c with
 | true=>exact isTrue_and_nil e
 | false=>exact e
theorem EF(ha:PT X a tA):PW X (.BoolOp .Or [a] pos) tA:=by
 intro wh pins s σ H Q I h
 refine isTrue_or (Y1 (ha pins s σ H Q I h) fun c s1 e=>?_)
 cases c with
 | false=>exact isTrue_or_nil e
 | true=>exact e
theorem EG(ha:PT X a tA)(hb:PW X (.BoolOp .And (b::Zx) pos) tB'):PW X (.BoolOp .And (a::b::Zx) pos) (Ca tA tB'):=by
 intro wh pins s σ H Q I h
 refine isTrue_and (Y1 (ha pins s σ H _ I h) fun c s1 ⟨H1,I1,q1⟩=>?_)
 cases c with
 | true=>exact hb wh pins s1 σ H1 Q I1 q1
 | false=>exact⟨H1,I1,q1⟩
theorem Cb(ha:PT X a tA)(hb:PW X (.BoolOp .Or (b::Zx) pos) tB'):PW X (.BoolOp .Or (a::b::Zx) pos) (BN tA tB'):=by
 intro wh pins s σ H Q I h
 refine isTrue_or (Y1 (ha pins s σ H _ I h) fun c s1 ⟨H1,I1,q1⟩=>?_)
 cases c with
 | true=>exact⟨H1,I1,q1⟩
 | false=>exact hb wh pins s1 σ H1 Q I1 q1
theorem EH(ha:PT X a tA):PT X (.UnaryOp .Not a pos) (Bo tA):=by
 intro pins s σ H Q I h
 exact isTrue_not (ha pins s σ H (fun c H1=>Q (!c) H1) I h)
def Cc(ta tb:TE):TE:=fun σ H Q=>ta σ H fun x H1=>∃c,x = .bl c/\if c=true then tb σ H1 Q else Q (.bl false) H1
def Cd(ta:TE):TE:=fun σ H Q=>ta σ H fun x H1=>∃c,x = .bl c/\Q (.bl (!c)) H1
theorem EI{op}{t:TE}(h:PE X a t):PE X (.BoolOp op [a] pos) t:=fun pins s σ H Q I hw=>BoolOp_one (h pins s σ H Q I hw)
theorem EJ(ha:PE X a ta)(hb:PE X (.BoolOp .And (b::Zx) pos) tb):PE X (.BoolOp .And (a::b::Zx) pos) (Cc ta tb):=by
 intro pins s σ H Q I h
 refine BoolOp_and (Y1 (ha pins s σ H _ I h) fun v s1 ⟨x,H1,I1,r1,q1⟩=>?_)
 obtain⟨c,rfl,q1⟩:=q1
 cases r1
 refine wpAny_truthy_bool ?_
 cases c with
 | true=>exact hb pins s1 σ H1 Q I1 q1
 | false=>exact⟨.bl false,H1,I1,rfl,q1⟩
theorem EK(ha:PE X a ta):PE X (.UnaryOp .Not a pos) (Cd ta):=by
 intro pins s σ H Q I h
 refine UnaryOp_ (Y1 (ha pins s σ H _ I h) fun v s1 ⟨x,H1,I1,r1,q1⟩=>?_)
 obtain⟨c,rfl,q1⟩:=q1
 cases r1
 exact not_of (wpAny_truthy_bool ⟨.bl (!c),H1,I1,rfl,q1⟩)
def BU(t:TT)(ta tb:TE):TE:=fun σ H Q=>t σ H fun c H1=>if c=true then ta σ H1 Q else tb σ H1 Q
theorem JT{c:Expr}(hc:PT X c tA)(ha:PE X a ta)(hb:PE X b tb):PE X (.IfExp c a b pos) (BU tA ta tb):=by
 intro pins s σ H Q I h
 refine wpAny_IfExp (Y1 (hc pins s σ H _ I h) fun d s1 ⟨H1,I1,q1⟩=>?_)
 cases d with
 | true=>exact ha pins s1 σ H1 Q I1 q1
 | false=>exact hb pins s1 σ H1 Q I1 q1
end
def SqL(K:PySem.W.Frag)(H:Hp)(a:Addr)(xs:List V):Prop:=
 Rd H a (.lst xs)\/
  ∃(o:Obj) (its:Array Value) (n:Nat),K.lookup a=some o/\o.cls = .type "list"/\o.dict=none/\o.data = .seq its n/\its.size<=sizeLine/\Vals xs its.toList
def SqT(K:PySem.W.Frag)(H:Hp)(a:Addr)(xs:List V):Prop:=
 Rd H a (.tup xs)\/
  ∃(o:Obj) (its:Array Value) (n:Nat),K.lookup a=some o/\o.cls = .type "tuple"/\o.data = .seq its n/\its.size<=sizeLine/\Vals xs its.toList
def Bp:Value->Option V
 | .none=>some .non
 | .bool b=>some (.bl b)
 | .int i _=>some (.int i)
 | .str x _=>some (.str x)
 | .bytes b _=>some (.byt b)
 | .float b _=>some (.flt b)
 | .ref a=>some (.ref a)
 | .type n=>some (.ty n)
 | _=>none
theorem RelV.abs{x:V}{u:Value}(r:RelV x u):Bp u=some x:=by
 cases x with
 | non=>cases r;rfl
 | bl _=>cases r;rfl
 | int _=>obtain⟨t,rfl⟩:=r;rfl
 | str _=>obtain⟨t,rfl⟩:=r;rfl
 | byt _=>obtain⟨t,rfl⟩:=r;rfl
 | flt _=>obtain⟨t,rfl⟩:=r;rfl
 | ref _=>cases r;rfl
 | ty _=>cases r;rfl
theorem RelV.inj{x y:V}{u:Value}(r:RelV x u)(q:RelV y u):x=y:=Option.some.inj (r.abs.symm.trans q.abs)
theorem Vals.inj:∀{xs ys:List V}{us:List Value},Vals xs us->Vals ys us->xs=ys
 | _,_,_,.nil,.nil=>rfl
 | _,_,_,.cons r t,.cons r' t'=>by rw[r.inj r',Vals.inj t t']
section
variable {X:Cx} {pins:List (Addr×Obj)} {σ:St} {H:Hp} {s:Shared} {a:Addr} {xs ys:List V}
theorem SqL.of{K:PySem.W.Frag}(h:H a=some (.lst xs)):SqL K H a xs:=.inl (.inl h)
theorem SqT.of{K:PySem.W.Frag}(h:H a=some (.tup xs)):SqT K H a xs:=.inl (.inl h)
theorem Inv.list(I:Inv X pins σ H s)(h:SqL X.K H a xs):∃its:List Value,Vals xs its/\PlainL s.heap a its.toArray/\xs.length<=sizeLine:=by
 rcases h with h | ⟨o,its,n,hk,hc,hd,hs,hz,r⟩
 ·obtain⟨z,its,n,r,e⟩:=h.ok I.hok
  exact⟨its,r,⟨_,n,e,rfl,rfl,rfl⟩,z⟩
 ·refine⟨its.toList,r,⟨o,n,I.kIn a o hk,hc,hd,by simpa using hs⟩,?_⟩
  have e:=r.length;simp only[Array.length_toList] at e;omega
theorem Inv.tuple(I:Inv X pins σ H s)(h:SqT X.K H a xs):∃its:List Value,Vals xs its/\IsTup s.heap a its.toArray/\xs.length<=sizeLine:=by
 rcases h with h | ⟨o,its,n,hk,hc,hs,hz,r⟩
 ·obtain⟨z,its,r,p⟩:=h.ok I.hok
  exact⟨its,r,p,z⟩
 ·refine⟨its.toList,r,⟨o,I.kIn a o hk,hc,n,by simpa using hs⟩,?_⟩
  have e:=r.length;simp only[Array.length_toList] at e;omega
theorem Inv.list_inj(I:Inv X pins σ H s)(h:SqL X.K H a xs)(h':SqL X.K H a ys):xs=ys:=by
 obtain⟨its,r,⟨o,n,e,_,_,d⟩,_⟩:=I.list h
 obtain⟨its',r',⟨o',n',e',_,_,d'⟩,_⟩:=I.list h'
 rw[e] at e';cases e'
 rw[d] at d'
 injection d' with d1 _
 have:its=its':=by simpa using congrArg Array.toList d1
 subst this
 exact r.inj r'
theorem Inv.tuple_inj(I:Inv X pins σ H s)(h:SqT X.K H a xs)(h':SqT X.K H a ys):xs=ys:=by
 obtain⟨its,r,⟨o,e,_,n,d⟩,_⟩:=I.tuple h
 obtain⟨its',r',⟨o',e',_,n',d'⟩,_⟩:=I.tuple h'
 rw[e] at e';cases e'
 rw[d] at d'
 injection d' with d1 _
 have:its=its':=by simpa using congrArg Array.toList d1
 subst this
 exact r.inj r'
end
abbrev Cx.wish(X:Cx)(E:Value->Shared->Prop):Cx:={ X with xe:=E }
abbrev Cx.nox(X:Cx):Cx:=X.wish fun _ _=>False
theorem Cx.Ok.wish{X:Cx}(ok:X.Ok)(E:Value->Shared->Prop):(X.wish E).Ok:=
 ⟨ok.mod,ok.kind,ok.glob,ok.blt,ok.above,ok.inj,ok.has,ok.cab,ok.hd,ok.frames,ok.stk,ok.exf,ok.bs,ok.bsz,ok.noex,ok.exfs,ok.funs,ok.frf⟩
theorem Cx.Ok.unwish{X:Cx}{E:Value->Shared->Prop}(ok:(X.wish E).Ok):X.Ok:=
 ⟨ok.mod,ok.kind,ok.glob,ok.blt,ok.above,ok.inj,ok.has,ok.cab,ok.hd,ok.frames,ok.stk,ok.exf,ok.bs,ok.bsz,ok.noex,ok.exfs,ok.funs,ok.frf⟩
section
variable {X:Cx} {pins:List (Addr×Obj)} {σ:St} {H:Hp} {s:Shared} {E:Value->Shared->Prop}
theorem Inv.wish(I:Inv X pins σ H s)(E:Value->Shared->Prop):Inv (X.wish E) pins σ H s:=⟨I.ok.wish E,I.os,I.bare,I.base,I.loc,I.cell,I.free,I.freeC,I.pin,I.hok,I.len⟩
theorem Inv.unwish(I:Inv (X.wish E) pins σ H s):Inv X pins σ H s:=⟨I.ok.unwish,I.os,I.bare,I.base,I.loc,I.cell,I.free,I.freeC,I.pin,I.hok,I.len⟩
theorem SP.unwish{D:Tx}{f:Flow}{s':Shared}(h:SP (X.wish E) pins D f s'):SP X pins D f s':=by
 cases f with
 | next=>obtain⟨σ',H',I,q⟩:=h;exact⟨σ',H',I.unwish,q⟩
 | brk=>obtain⟨σ',H',I,q⟩:=h;exact⟨σ',H',I.unwish,q⟩
 | cont=>obtain⟨σ',H',I,q⟩:=h;exact⟨σ',H',I.unwish,q⟩
 | ret u=>obtain⟨v,σ',H',I,r,q⟩:=h;exact⟨v,σ',H',I.unwish,r,q⟩
theorem PSs.nox{st:List Stmt}{t:TS}(h:PSs X.nox st t):PSs X st t:=fun pins s σ H D I hw=>
 wpAny_mono (h pins s σ H D (I.wish _) hw) (fun _ _ q=>q.unwish) fun _ _ z=>False.elim z
end
section
variable {X:Cx} {st:Stmt} {Zx:List Stmt} {t u:TS} {e:Expr} {te:TE} {pos:Pos}
def F4:TS:=fun D σ H=>D.nx σ H
def Bq(t u:TS):TS:=fun D σ H=>t { D with nx:=u D } σ H
theorem Gm:PSs X [] F4:=fun _ _ σ H _ I h=>wpAny_execs_nil ⟨σ,H,I,h⟩
theorem JU(h1:PS X st t)(h2:PSs X Zx u):PSs X (st::Zx) (Bq t u):=by
 intro pins s σ H D I h
 refine wpAny_execs_cons (Y1 (h1 pins s σ H { D with nx:=u D } I h) fun f s1 q=>?_)
 cases f with
 | next=>
  obtain⟨σ',H',I',q⟩:=q
  exact h2 pins s1 σ' H' D I' q
 | ret v=>exact q
 | brk=>exact q
 | cont=>exact q
theorem Gn(h1:PS X st t):PSs X [st] t:=by
 intro pins s σ H D I h
 refine wpAny_execs_cons (Y1 (h1 pins s σ H D I h) fun f s1 q=>?_)
 cases f with
 | next=>exact wpAny_execs_nil q
 | ret v=>exact q
 | brk=>exact q
 | cont=>exact q
theorem Inv.quiet{pins:List (Addr×Obj)}{σ:St}{H:Hp}{s:Shared}(I:Inv X pins σ H s):interactive X.env=false:=by simp[interactive,I.ok.kind]
def Lp(te:TE):TS:=fun D σ H=>te σ H fun _ H1=>D.nx σ H1
theorem WZ(he:PE X e te)(hs:swapsWith e none pos.line X.env=pure false:=by rfl):PS X (.Expr e pos) (Lp te):=by
 intro pins s σ H D I h
 exact wpAny_Expr_any (Y1 (he pins s σ H _ I h) fun v s1 ⟨x,H1,I1,r1,q1⟩=>⟨σ,H1,I1,q1⟩) I.quiet hs
def Br(te:TE):TS:=fun D σ H=>te σ H D.rt
theorem Od(he:PE X e te):PS X (.Return (some e) pos) (Br te):=by
 intro pins s σ H D I h
 exact wpAny_Return_some (Y1 (he pins s σ H _ I h) fun v s1 ⟨x,H1,I1,r1,q1⟩=>⟨x,σ,H1,I1,r1,q1⟩)
def Bs(c:TT)(t u:TS):TS:=fun D σ H=>c σ H fun b H1=>if b=true then t D σ H1 else u D σ H1
theorem Ce{c:Expr}{a b:List Stmt}{tc:TT}(hc:PT X c tc)(ha:PSs X a t)(hb:PSs X b u):PS X (.If c a b pos) (Bs tc t u):=by
 intro pins s σ H D I h
 refine wpAny_If (Y1 (hc pins s σ H _ I h) fun d s1 ⟨H1,I1,q1⟩=>?_)
 cases d with
 | true=>exact ha pins s1 σ H1 D I1 q1
 | false=>exact hb pins s1 σ H1 D I1 q1
end
abbrev TG:=V->St->Hp->(St->Hp->Prop)->Prop
abbrev F5:=List V->St->Hp->(St->Hp->Prop)->Prop
def PG(X:Cx)(target:Expr)(t:TG):Prop:=
 ∀(pins:List (Addr×Obj))(s:Shared)(σ:St)(H:Hp)(v:V)(u:Value)(Q:St->Hp->Prop),Inv X pins σ H s->RelV v u->t v σ H Q->
  wpAny (model X.prog X.w) X.A (assign target X.env u) (fun _ s'=>∃σ' H',Inv X pins σ' H' s'/\Q σ' H') X.xe s
def C9(X:Cx)(ts:List Expr)(t:F5):Prop:=
 ∀(pins:List (Addr×Obj))(s:Shared)(σ:St)(H:Hp)(vs:List V)(us:List Value)(Q:St->Hp->Prop),Inv X pins σ H s->Vals vs us->t vs σ H Q->
  wpAny (model X.prog X.w) X.A (assignInOrder ((assignEach ts X.env).map (·.2)) us) (fun _ s'=>∃σ' H',Inv X pins σ' H' s'/\Q σ' H') X.xe s
abbrev EL:=V->V->V->Hp->(Hp->Prop)->Prop
def Cf(X:Cx)(t:EL):Prop:=
 ∀(pins:List (Addr×Obj))(s:Shared)(σ:St)(H:Hp)(o i v:V)(ov iv u:Value)(Q:Hp->Prop),Inv X pins σ H s->RelV o ov->RelV i iv->RelV v u->t o i v H Q->
  wpAny (model X.prog X.w) X.A (setItem ov iv u) (fun _ s'=>∃H',Inv X pins σ H' s'/\Q H') X.xe s
section
variable {X:Cx} {pos:Pos}
def S2(i:Nat):TG:=fun v σ H Q=>Q (σ.set i (some v)) H
theorem Zp{i:Nat}{x:Str}(hN:X.N.Nodup)(hi:X.N[i]?=some x)(hx:D7 X.env.scope x)(hf:X.fn x=true\/X.env.scope.names.lookup x=some .local:=by first | exact .inl rfl | exact .inr rfl | assumption):PG X (.Name x pos) (S2 i):=by
 intro pins s σ H v u Q I r h
 exact wpAny_assign_Name (RQ I hN hi hx r (fun s' I'=>⟨_,H,I',h⟩) hf)
def Cg:F5:=fun vs σ H Q=>vs=[]/\Q σ H
def F6(t:TG)(u:F5):F5:=fun vs σ H Q=>∃v r,vs=v::r/\t v σ H fun σ' H'=>u r σ' H' Q
theorem W0:C9 X [] Cg:=by
 intro pins s σ H vs us Q I r h
 obtain⟨e,h⟩:=h
 subst e;cases r
 exact assignInOrder_nil ⟨σ,H,I,h⟩
theorem Yk{e:Expr}{es:List Expr}{t:TG}{u:F5}(h1:PG X e t)(h2:C9 X es u)
  (hs:(assignEach (e::es) X.env).map (·.2)=assign e X.env::(assignEach es X.env).map (·.2):=by rfl):C9 X (e::es) (F6 t u):=by
 intro pins s σ H vs us Q I r h
 obtain⟨v,vr,e1,h⟩:=h
 subst e1
 cases r with
 | cons r rr=>
  rw[hs]
  refine assignInOrder_cons (Y1 (h1 pins s σ H _ _ _ I r h) fun _ s1 ⟨σ1,H1,I1,q1⟩=>?_)
  exact h2 pins s1 σ1 H1 _ _ Q I1 rr q1
def Ci(K:PySem.W.Frag)(n:Nat)(t:F5):TG:=fun v σ H Q=>∃a xs,v = .ref a/\SqT K H a xs/\xs.length=n/\t xs σ H Q
theorem Um{es:List Expr}{k:Nat}{t:F5}{n:Nat}(hc:X.calm=true)(h:C9 X es t)
  (hn:(assignEach es X.env).length=n:=by rfl) (hst:(assignEach es X.env).findIdx? (·.1)=none:=by rfl):PG X (.Tuple es k pos) (Ci X.K n t):=by
 intro pins s σ H v u Q I r hw
 obtain⟨a,xs,e1,hq,hl,hw⟩:=hw
 subst e1;cases r
 obtain⟨its,rv,ht,hz⟩:=I.tuple hq
 refine assign_Tuple_tuple (I.ok.hd hc) ht (by simp[hn,<-hl,rv.length]) hst fun h' hx=>?_
 have I1:Inv X pins σ H { s with heap:=h' }:=I.kept (t':=s.toks) fun b o e=>hx b o (Nat.ne_of_lt (Heap.lt_size e)) e
 exact h pins _ σ H xs _ Q I1 (by simpa using rv) hw
def Cj(to ti:TE)(t:EL):TG:=fun v σ H Q=>to σ H fun o H1=>ti σ H1 fun i H2=>t o i v H2 fun H3=>Q σ H3
theorem Oe{o i:Expr}{to ti:TE}{t:EL}(ho:PE X o to)(hi:PE X i ti)(hs:Cf X t)
  (ha:∀v,assign (.Subscript o i pos) X.env v=(do
   let ov <-holding [v] (eval o X.env)
   let iv <-holding [v,ov] (eval i X.env)
   standAt pos
   holding [v,ov,iv] (setItem ov iv v)
   release [v,ov,iv] []):=by intro _;rfl):PG X (.Subscript o i pos) (Cj to ti t):=by
 intro pins s σ H v u Q I r h;rw[ha]
 refine wpAny_bind (wpAny_holding (Y1 (ho pins s σ H _ I h) fun ov s1 ⟨x,H1,I1,r1,q1⟩=>?_))
 refine wpAny_bind (wpAny_holding (Y1 (hi pins s1 σ H1 _ I1 q1) fun iv s2 ⟨y,H2,I2,r2,q2⟩=>?_))
 refine wpAny_bind (wpAny_standAt (wpAny_bind (wpAny_holding (Y1 (hs pins s2 σ H2 x y v ov iv u _ I2 r1 r2 r q2) fun _ s3 ⟨H3,I3,q3⟩=>?_))))
 exact wpAny_release ⟨σ,H3,I3,q3⟩
def Mn(te:TE)(g:TG):TS:=fun D σ H=>te σ H fun x H1=>g x σ H1 D.nx
theorem Sr{tg e:Expr}{te:TE}{g:TG}(he:PE X e te)(hg:PG X tg g)(hs:swapsWithSole [tg] e pos.line X.env=pure false:=by rfl)(hw:swappedStores [tg] e X.env=pure none:=by rfl)
  (h1:(assignEach [tg] X.env).map (·.2)=[assign tg X.env]:=by rfl):PS X (.Assign [tg] e pos) (Mn te g):=by
 intro pins s σ H D I h
 refine wpAny_Assign_stores (Y1 (he pins s σ H _ I h) fun v s1 ⟨x,H1,I1,r1,q1⟩=>?_) hs hw
 rw[h1]
 exact Y1 (hg pins s1 σ H1 x v _ I1 r1 q1) fun _ s2 q=>q
theorem EM{i:Nat}{x:Str}{e:Expr}{te:TE}{pos':Pos}(hN:X.N.Nodup)(hi:X.N[i]?=some x)(hx:D7 X.env.scope x)(he:PE X e te)(hs:swapsWith e (some (.Name x pos')) pos.line X.env=pure false:=by rfl)(hf:X.fn x=true\/X.env.scope.names.lookup x=some .local:=by first | exact .inl rfl | exact .inr rfl | assumption) :
  PS X (.Assign [.Name x pos'] e pos) (Mn te (S2 i)):=by
 intro pins s σ H D I h
 refine wpAny_Assign_Name (Y1 (he pins s σ H _ I h) fun v s1 ⟨y,H1,I1,r1,q1⟩=>?_) hs
 exact RQ I1 hN hi hx r1 (fun s2 I2=>⟨_,H1,I2,q1⟩) hf
end
structure It where
 go:Nat->Hp->Prop
 yld:Nat->Hp->V->Hp->Prop
 stop:Nat->Hp->Prop
def TC(X:Cx)(pins:List (Addr×Obj))(H:Hp)(b:Addr):Prop:=
 H b=none/\b≠X.env.locals/\b∉X.fs/\(b∈X.ex\/X.s₀.heap.objs.size<=b)/\(∀x c,X.env.cells.lookup x=some c->c≠b)/\∀p∈X.pn++pins,p.1≠b
theorem Inv.fpOk{X:Cx}{pins:List (Addr×Obj)}{σ:St}{H H':Hp}{s:Shared}{b:Addr}(I:Inv X pins σ H s)(hb:s.heap.objs.size<=b)(hn:H' b=none):TC X pins H' b:=by
 refine⟨hn,Nat.ne_of_gt (Nat.lt_of_lt_of_le I.lt hb),I.nofs hb,.inr (Nat.le_trans I.sz hb),fun x c e z=>?_,fun p hp z=>?_⟩
 ·obtain⟨v,q⟩:=I.cell x c e
  exact absurd (Nat.lt_of_lt_of_le q.lt (by rw[z];exact hb)) (Nat.lt_irrefl _)
 ·exact absurd (Nat.lt_of_lt_of_le (Heap.lt_size (I.pin p hp).1) (by rw[z];exact hb)) (Nat.lt_irrefl _)
structure Nd(P:Program)(w:World)(K:PySem.W.Frag)(tg:Expr)(J:It)(fp:List Addr)(it:Addr)(tn:Nat->Heap->Prop):Prop where
 mem:it∈fp
 obj:∀i h,tn i h->∀b∈fp,∃o,h.get? b=some o/\∀v,o.data≠.cell v
 keep:∀i h h',tn i h->(∀b∈fp,∀o,h.get? b=some o->h'.get? b=some o)->tn i h'
 item:∀(X:Cx),X.prog=P->X.w=w->X.K=K->X.calm=true->∀(i:Nat)(pins:List (Addr×Obj))(s:Shared)(σ:St)(H:Hp)(E:Value->Shared->Prop),Inv X pins σ H s->(∀b∈fp,TC X pins H b)->tn i s.heap->J.go i H->
  wpAny (model P w) X.A (pyNext (.ref it)) (fun r s1=>∃u,r=some u/\
   wpAny (model P w) X.A (letOwnedTupleGo tg (.ref it) u) (fun _ s2=>∃x H',Inv X pins σ H' s2/\RelV x u/\J.yld i H x H'/\tn (i+1) s2.heap/\∀b∈fp,H' b=none) E s1) E s
 done:∀(X:Cx),X.prog=P->X.w=w->X.K=K->X.calm=true->∀(i:Nat)(pins:List (Addr×Obj))(s:Shared)(σ:St)(H:Hp)(E:Value->Shared->Prop),Inv X pins σ H s->(∀b∈fp,TC X pins H b)->tn i s.heap->J.stop i H->
  wpAny (model P w) X.A (pyNext (.ref it)) (fun r s1=>r=none/\Inv X pins σ H s1) E s
 self:∀(A:Around)(i:Nat)(s:Shared)(Q:Value->Shared->Prop)(E:Value->Shared->Prop),tn i s.heap->Q (.ref it) s->wpAny (model P w) A (pyIter (.ref it)) Q E s
abbrev TI:=St->Hp->(It->Hp->Prop)->Prop
def Bt(X:Cx)(pins:List (Addr×Obj))(σ:St)(tg:Expr)(R:It->Hp->Prop)(itv:Value)(s2:Shared):Prop:=
 ∃(it:Addr) (fp:List Addr) (tn:Nat->Heap->Prop) (J:It) (H':Hp),itv = .ref it/\Inv X pins σ H' s2/\Nd X.prog X.w X.K tg J fp it tn/\tn 0 s2.heap/\(∀b∈fp,TC X pins H' b)/\R J H'
def PI(X:Cx)(tg iter:Expr)(wi:TI):Prop:=
 ∀(pins:List (Addr×Obj))(s:Shared)(σ:St)(H:Hp)(R:It->Hp->Prop),Inv X pins σ H s->wi σ H R->
  wpAny (model X.prog X.w) X.A (eval iter X.env) (fun v s1=>wpAny (model X.prog X.w) X.A (pyIter v) (Bt X pins σ tg R) X.xe s1) X.xe s
theorem Lq{M:Model}{A:Around}{E:Value->Shared->Prop}{s:Shared}{tg:Expr}{it:Addr}{u:Value}{o:Obj}{n:String}{vs:Array Value}{Q:Unit->Shared->Prop}(ho:s.heap.get? it=some o)(hc:o.cls = .type n)(hd:o.data = .fields vs)
    (hn:["enumerate","zip","dict_itemiterator","dict_reverseitemiterator","odict_iterator","itertools.zip_longest","itertools.pairwise"].contains n=false) (hQ:Q () s):wpAny M A (letOwnedTupleGo tg (.ref it) u) Q E s:=by
  unfold letOwnedTupleGo
  cases tg<;>first
    | exact wpAny_pure hQ
    | (cases u<;>first
        | exact wpAny_pure hQ
        | (refine wpAny_bind (wpAny_load ho ?_)
           rw[hc,hd]
           show wpAny M A (if(["enumerate","zip","dict_itemiterator","dict_reverseitemiterator","odict_iterator","itertools.zip_longest","itertools.pairwise"].contains n&&vs[0]?==some (rawInt _))=true then _ else _) Q E s
           rw[if_neg (by intro h;rw[hn,Bool.false_and] at h;cases h)]
           exact wpAny_pure hQ))
def Bu(K:PySem.W.Frag)(a:Addr):It:=
 ⟨fun i H=>∃xs x,SqL K H a xs/\xs[i]?=some x,fun i H x H'=>H'=H/\∀xs,SqL K H a xs->xs[i]?=some x,fun i H=>∃xs,SqL K H a xs/\xs.length<=i⟩
def BO(K:PySem.W.Frag)(a:Addr):It:=
 ⟨fun i H=>∃xs x,SqT K H a xs/\xs[i]?=some x,fun i H x H'=>H'=H/\∀xs,SqT K H a xs->xs[i]?=some x,fun i H=>∃xs,SqT K H a xs/\xs.length<=i⟩
def Ck(lo:Int)(n:Nat):It:=⟨fun i _=>i<n,fun i H x H'=>H'=H/\x = .int (lo+i),fun i _=>n<=i⟩
theorem KC{P:Program}{w:World}{K:PySem.W.Frag}{tg:Expr}(a it:Addr):Nd P w K tg (Bu K a) [it] it (fun i h=>h.IsListIter it a i) where
 mem:=by simp
 obj:=fun i h st b hb=>by
  have e:b=it:=by simpa using hb
  subst e
  obtain⟨o,e,c,d⟩:=st
  exact⟨o,e,fun v z=>by rw[d] at z;cases z⟩
 keep:=fun i h h' st k=>st.at fun o e=>k it (by simp) o e
 item:=by
  intro X hP hw hK hc i pins s σ H E I hf st hg
  subst hP hw hK
  obtain⟨xs,x,hq,hx⟩:=hg
  obtain⟨its,rv,p,hz⟩:=I.list hq
  obtain⟨u,hu,ru⟩:=rv.get hx
  obtain⟨f0,f1,f2,f3,f4,f5⟩:=hf it (by simp)
  refine wpAny_pyNext_list_item st p.isList (x:=u) (by simpa using hu) fun h' st' sb=>?_
  have I1:Inv X pins σ H { s with heap:=h' }:=I.turned (t':=s.toks) (fun b o hb e=>(sb.2 b hb).trans e) f0 f1 f3 f4 f5
  obtain⟨o,e,c,d⟩:=id st'
  exact⟨u,rfl,Lq (s:={ s with heap:=h' }) e c d (by decide) ⟨x,H,I1,ru,⟨rfl,fun ys hy=>by rw[I.list_inj hy hq];exact hx⟩,st',fun b hb=>(hf b hb).1⟩⟩
 done:=by
  intro X hP hw hK hc i pins s σ H E I hf st hg
  subst hP hw hK
  obtain⟨xs,hq,hx⟩:=hg
  obtain⟨its,rv,p,hz⟩:=I.list hq
  obtain⟨f0,f1,f2,f3,f4,f5⟩:=hf it (by simp)
  have hl:=rv.length
  exact wpAny_pyNext_list_end (I.ok.hd hc) st p.isList (by simp;omega) fun h' eb=>⟨rfl,I.turned (t':=s.toks) (fun b o hb e=>eb b o hb e) f0 f1 f3 f4 f5⟩
 self:=fun _ _ _ _ _ st h=>wpAny_pyIter_listiter st h
theorem Mo{P:Program}{w:World}{K:PySem.W.Frag}{tg:Expr}(a it:Addr):Nd P w K tg (BO K a) [it] it (fun i h=>h.IsTupleIter it a i) where
 mem:=by simp
 obj:=fun i h st b hb=>by
  have e:b=it:=by simpa using hb
  subst e
  obtain⟨o,e,c,d⟩:=st
  exact⟨o,e,fun v z=>by rw[d] at z;cases z⟩
 keep:=fun i h h' st k=>st.at fun o e=>k it (by simp) o e
 item:=by
  intro X hP hw hK hc i pins s σ H E I hf st hg
  subst hP hw hK
  obtain⟨xs,x,hq,hx⟩:=hg
  obtain⟨its,rv,p,hz⟩:=I.tuple hq
  obtain⟨u,hu,ru⟩:=rv.get hx
  obtain⟨f0,f1,f2,f3,f4,f5⟩:=hf it (by simp)
  refine wpAny_pyNext_tuple_item st (show s.heap.IsTuple a its.toArray from p) (x:=u) (by simpa using hu) fun h' st' sb=>?_
  have I1:Inv X pins σ H { s with heap:=h' }:=I.turned (t':=s.toks) (fun b o hb e=>(sb.2 b hb).trans e) f0 f1 f3 f4 f5
  obtain⟨o,e,c,d⟩:=id st'
  exact⟨u,rfl,Lq (s:={ s with heap:=h' }) e c d (by decide) ⟨x,H,I1,ru,⟨rfl,fun ys hy=>by rw[I.tuple_inj hy hq];exact hx⟩,st',fun b hb=>(hf b hb).1⟩⟩
 done:=by
  intro X hP hw hK hc i pins s σ H E I hf st hg
  subst hP hw hK
  obtain⟨xs,hq,hx⟩:=hg
  obtain⟨its,rv,p,hz⟩:=I.tuple hq
  obtain⟨f0,f1,f2,f3,f4,f5⟩:=hf it (by simp)
  have hl:=rv.length
  exact wpAny_pyNext_tuple_end (I.ok.hd hc) st (show s.heap.IsTuple a its.toArray from p) (by simp;omega) fun h' eb=>⟨rfl,I.turned (t':=s.toks) (fun b o hb e=>eb b o hb e) f0 f1 f3 f4 f5⟩
 self:=fun _ _ _ _ _ st h=>wpAny_pyIter_tupleiter st h
theorem Mp{P:Program}{w:World}{K:PySem.W.Frag}{tg:Expr}(it:Addr)(lo:Int)(n:Nat):Nd P w K tg (Ck lo n) [it] it (fun i h=>IsRangeIter h it (lo+(i:Nat)*1) ((n:Int)-(i:Nat)) 1) where
 mem:=by simp
 obj:=fun i h st b hb=>by
  have e:b=it:=by simpa using hb
  subst e
  exact⟨_,st,fun v z=>by
   have z':Data.fields _=Data.cell v:=z
   cases z'⟩
 keep:=fun i h h' st k=>k it (by simp) _ st
 item:=by
  intro X hP hw hK hc i pins s σ H E I hf st hg
  subst hP hw hK
  obtain⟨f0,f1,f2,f3,f4,f5⟩:=hf it (by simp)
  have W:=Walks.range (prog:=X.prog) (w:=X.w) (I.ok.hd hc) it lo 1 n
  refine W.item i s _ _ hg st fun v h' tk hv st' kk=>?_
  obtain⟨t,rfl⟩:=hv
  have I1:Inv X pins σ H { s with heap:=h',toks:=tk }:=I.turned (fun b o hb e=>kk b o (by simpa using hb) e) f0 f1 f3 f4 f5
  refine⟨_,rfl,Lq (s:={ s with heap:=h',toks:=tk }) (n:="range_iterator") st' rfl rfl (by decide) ⟨.int (lo+i),H,I1,⟨t,?_⟩,⟨rfl,rfl⟩,st',fun b hb=>(hf b hb).1⟩⟩
  rw[Int.mul_one]
 done:=by
  intro X hP hw hK hc i pins s σ H E I hf st hg
  subst hP hw hK
  obtain⟨f0,f1,f2,f3,f4,f5⟩:=hf it (by simp)
  exact wpAny_pyNext_range_end (I.ok.hd hc) st (by have:n<=i:=hg;omega) fun h' eb=>⟨rfl,I.turned (t':=s.toks) (fun b o hb e=>eb b o hb e) f0 f1 f3 f4 f5⟩
 self:=fun _ _ _ _ _ st h=>wpAny_pyIter_rangeiter st h
section
variable {X:Cx} {tg:Expr}
def Cm(K:PySem.W.Frag)(tl:TE):TI:=fun σ H R=>tl σ H fun x H1=>∃a,x = .ref a/\(∃xs,SqL K H1 a xs)/\R (Bu K a) H1
def Bv(K:PySem.W.Frag)(tl:TE):TI:=fun σ H R=>tl σ H fun x H1=>∃a,x = .ref a/\(∃xs,SqT K H1 a xs)/\R (BO K a) H1
theorem Gp{l:Expr}{tl:TE}(hl:PE X l tl):PI X tg l (Cm X.K tl):=by
 intro pins s σ H R I h
 refine Y1 (hl pins s σ H _ I h) fun v s1 ⟨x,H1,I1,r1,q1⟩=>?_
 obtain⟨a,e,⟨xs,hq⟩,q⟩:=q1
 subst e;cases r1
 obtain⟨its,rv,p,hz⟩:=I1.list hq
 refine wpAny_pyIter_list p.isList ?_
 refine⟨s1.heap.objs.size,[s1.heap.objs.size],_,_,H1,rfl,I1.kept (t':=s1.toks) fun b o e=>Heap.get?_push_of_some _ e,KC a _,⟨_,Heap.get?_push_size _ rfl,rfl,rfl⟩,fun b hb=>?_,q⟩
 have e:b=s1.heap.objs.size:=by simpa using hb
 subst e
 exact I1.fpOk (Nat.le_refl _) (I1.hok.fresh (Nat.le_refl _))
theorem EN{l:Expr}{tl:TE}(hl:PE X l tl):PI X tg l (Bv X.K tl):=by
 intro pins s σ H R I h
 refine Y1 (hl pins s σ H _ I h) fun v s1 ⟨x,H1,I1,r1,q1⟩=>?_
 obtain⟨a,e,⟨xs,hq⟩,q⟩:=q1
 subst e;cases r1
 obtain⟨its,rv,p,hz⟩:=I1.tuple hq
 refine wpAny_pyIter_tuple (show s1.heap.IsTuple a its.toArray from p) ?_
 refine⟨s1.heap.objs.size,[s1.heap.objs.size],_,_,H1,rfl,I1.kept (t':=s1.toks) fun b o e=>Heap.get?_push_of_some _ e,Mo a _,⟨_,Heap.get?_push_size _ rfl,rfl,rfl⟩,fun b hb=>?_,q⟩
 have e:b=s1.heap.objs.size:=by simpa using hb
 subst e
 exact I1.fpOk (Nat.le_refl _) (I1.hok.fresh (Nat.le_refl _))
theorem Nf{pins:List (Addr×Obj)}{σ:St}{H:Hp}{s:Shared}{R:It->Hp->Prop}{E:Value->Shared->Prop}{lo hi:Int}{t u v:Tok}{tk:Nat}(I:Inv X pins σ H s)(h1 : -(2^62)<=lo)(h2:lo<2^62)(h3 : -(2^62)<=hi)(h4:hi<2^62)
  (q:R (Ck lo (hi-lo).toNat) H):wpAny (model X.prog X.w) X.A (pyIter (.ref s.heap.objs.size)) (Bt X pins σ tg R) E { s with heap:=s.heap.push { cls:=.type "range",data:=.fields #[.int lo t,.int hi u,.int 1 v] },toks:=tk }:=by
 refine wpAny_pyIter_range (IsRange.new ..) (small_one h1 h2 h3 h4) ?_
 have I1:Inv X pins σ H { s with heap:=s.heap.push { cls:=.type "range",data:=.fields #[.int lo t,.int hi u,.int 1 v] },toks:=tk }:=I.kept fun b o e=>Heap.get?_push_of_some _ e
 refine⟨(s.heap.push { cls:=.type "range",data:=.fields #[.int lo t,.int hi u,.int 1 v] }).objs.size,[(s.heap.push { cls:=.type "range",data:=.fields #[.int lo t,.int hi u,.int 1 v] }).objs.size],_,_,H,rfl,
  I1.kept (t':=tk) fun b o e=>Heap.get?_push_of_some _ e,Mp _ lo (hi-lo).toNat,?_,fun b hb=>?_,q⟩
 ·have e1:lo+((0:Nat):Int)*1=lo:=by simp
  have e2:(((hi-lo).toNat:Nat):Int)-((0:Nat):Int)=Builtin.Range.rangeSize lo hi 1:=by rw[rangeSize_one];split<;>omega
  show IsRangeIter _ _ (lo+((0:Nat):Int)*1) ((((hi-lo).toNat:Nat):Int)-((0:Nat):Int)) 1
  rw[e1,e2]
  exact Heap.get?_push_size _ rfl
 ·have e:b=(s.heap.push { cls:=.type "range",data:=.fields #[.int lo t,.int hi u,.int 1 v] }).objs.size:=by simpa using hb
  subst e
  exact I1.fpOk (Nat.le_refl _) (I1.hok.fresh (Nat.le_refl _))
def Cn(ta:TA):TI:=fun σ H R=>ta σ H fun vs H1=>∃j:Int,vs=[.int j]/\-(2^62)<=j/\j<2^62/\R (Ck 0 j.toNat) H1
def Co(ta:TA):TI:=fun σ H R=>ta σ H fun vs H1=>∃i j:Int,vs=[.int i,.int j]/\(-(2^62)<=i/\i<2^62/\-(2^62)<=j/\j<2^62)/\R (Ck i (j-i).toNat) H1
theorem KD{a:Expr}{ta:TA}{p pos:Pos}(hg:Gl X "range")(hm:X.mg "range" = none)(ha:PA X [a] ta)(hs:starEach [a] X.env=[(false,eval a X.env)]:=by rfl):PI X tg (.Call (.Name "range" p) [a] [] pos) (Cn ta):=by
 intro pins s σ H R I h
 refine Call_ (VN I hg hm boot_range (PyProof.Rows.callWith_type1 (Y1 (ha pos pins s σ H _ I h) fun us s1 ⟨vs,H1,I1,r1,q1⟩=>?_) hs rfl))
 obtain⟨j,e,q1,q2,q⟩:=q1
 subst e
 cases r1 with
 | cons r rr=>
  cases rr
  obtain⟨t,rfl⟩:=r
  exact call_range_1 (Nf I1 (by omega) (by omega) q1 q2 (by simpa using q))
theorem KG{a b:Expr}{ta:TA}{p pos:Pos}(hg:Gl X "range")(hm:X.mg "range" = none)(ha:PA X [a,b] ta)(hs:starEach [a,b] X.env=[(false,eval a X.env),(false,eval b X.env)]:=by rfl)(hs2:starEach [b] X.env=[(false,eval b X.env)]:=by rfl) :
  PI X tg (.Call (.Name "range" p) [a,b] [] pos) (Co ta):=by
 intro pins s σ H R I h
 refine Call_ (VN I hg hm boot_range (PyProof.Rows.callWith_type1 (Y1 (ha pos pins s σ H _ I h) fun us s1 ⟨vs,H1,I1,r1,q1⟩=>?_) (by rw[hs,hs2]) (by rw[hs2];rfl)))
 obtain⟨i,j,e,⟨q1,q2,q3,q4⟩,q⟩:=q1
 subst e
 cases r1 with
 | cons r rr=>
  cases rr with
  | cons r' rr=>
   cases rr
   obtain⟨t,rfl⟩:=r
   obtain⟨t',rfl⟩:=r'
   exact call_range_2 (Nf I1 q1 q2 q3 q4 q)
def Gq(wi:TI)(g:TG)(tb:TS):TS:=fun D σ H=>wi σ H fun J H1=>∃W:Nat->Nat->St->Hp->Prop,(∃m,W 0 m σ H1)/\∀i m σ H,W i m σ H->
 (J.stop i H/\D.nx σ H)\/(J.go i H/\∃N:St->Hp->Prop,(∀σ' H',N σ' H'->∃m',m'<m/\W (i+1) m' σ' H')/\∀x H',J.yld i H x H'->g x σ H' fun σ2 H2=>tb { D with nx:=N,ct:=N,bk:=D.nx } σ2 H2)
def Ss(fp:List Addr)(h:Heap):List (Addr×Obj):=fp.filterMap fun b=>(h.get? b).map fun o=>(b,o)
theorem VP{fp:List Addr}{h:Heap}{b:Addr}{o:Obj}(hb:b∈fp)(e:h.get? b=some o):(b,o)∈Ss fp h:=List.mem_filterMap.mpr ⟨b,hb,by rw[e];rfl⟩
theorem KH{fp:List Addr}{h:Heap}{p:Addr×Obj}(hp:p∈Ss fp h):p.1∈fp/\h.get? p.1=some p.2:=by
 obtain⟨b,hb,e⟩:=List.mem_filterMap.mp hp
 cases q:h.get? b with
 | none=>rw[q] at e;cases e
 | some o=>
  rw[q] at e
  have e':(b,o)=p:=Option.some.inj e
  subst e'
  exact⟨hb,q⟩
theorem Inv.pinned{pins:List (Addr×Obj)}{σ:St}{H:Hp}{s:Shared}{fp:List Addr}(I:Inv X pins σ H s)(hf:∀b∈fp,TC X pins H b)(ho:∀b∈fp,∃o,s.heap.get? b=some o/\∀v,o.data≠.cell v):Inv X (pins++Ss fp s.heap) σ H s:=
 I.pins_of fun p hp=>(List.mem_append.mp hp).elim (fun z=>I.pin p (List.mem_append_right _ z)) fun z=>by
  obtain⟨hb,e⟩:=KH z
  obtain⟨f0,f1,f2,_⟩:=hf p.1 hb
  obtain⟨o,e',d⟩:=ho p.1 hb
  rw[e] at e';cases e'
  exact⟨e,f0,f1,f2,d⟩
theorem Inv.unpinned{pins pl:List (Addr×Obj)}{σ:St}{H:Hp}{s:Shared}(I:Inv X (pins++pl) σ H s):Inv X pins σ H s:=I.pins_of fun p hp=>I.pin p (List.mem_append_right _ (List.mem_append_left _ hp))
theorem Of{iter:Expr}{body:List Stmt}{wi:TI}{g:TG}{tb:TS}{pos:Pos}(hp:PassesOwn (model X.prog X.w) X.A X.env X.xe)(hc:X.calm=true)(hi:PI X tg iter wi)(hg:PG X tg g)(hb:PSs X body tb)
  (hs:∀x,foldedSetIterable iter X.env x=pure x:=by intro _;rfl):PS X (.For tg iter body [] pos) (Gq wi g tb):=by
 intro pins s σ H D I h
 refine wpAny_For (Y1 (hi pins s σ H _ I h) fun v s1 h1=>Y1 h1 fun itv s2 h2=>?_) hs
 obtain⟨it,fp,tn,J,H2,e,I2,T,st2,f2,W,⟨m0,w0⟩,turn⟩:=h2
 subst e
 -- what stays true of the iterator's objects through the loop
 have stat:∀{H':Hp},(∀b∈fp,H' b=none)->∀b∈fp,TC X pins H' b:=fun hn b hb=>⟨hn b hb,(f2 b hb).2⟩
 refine codeAny_forLoop_any (fun n s'=>∃i σ' H',Inv X pins σ' H' s'/\tn i s'.heap/\(∀b∈fp,H' b=none)/\W i n σ' H') ?_ m0 ⟨0,σ,H2,I2,st2,fun b hb=>(f2 b hb).1,w0⟩
 rintro n s3 ⟨i,σ3,H3,I3,st3,fr3,w3⟩
 rcases turn i n σ3 H3 w3 with⟨stop,qn⟩ | ⟨go,N,hN,step⟩
 ·refine wpAny_passesOwn hp (Y1 (T.done X rfl rfl rfl hc i pins s3 σ3 H3 X.xe I3 (stat fr3) st3 stop) fun r s4 ⟨hr,I4⟩=>?_)
  subst hr
  exact wpAny_execs_nil ⟨σ3,H3,I4,qn⟩
 ·refine wpAny_passesOwn hp (Y1 (T.item X rfl rfl rfl hc i pins s3 σ3 H3 X.xe I3 (stat fr3) st3 go) fun r s4 ⟨u,hr,h4⟩=>?_)
  subst hr
  refine wpAny_passesOwn hp (Y1 h4 fun _ s5 ⟨x,H5,I5,r5,y5,st5,fr5⟩=>?_)
  have I5':=I5.pinned (stat fr5) (T.obj _ _ st5)
  refine wpAny_passesOwn hp (Y1 (hg _ s5 σ3 H5 x u _ I5' r5 (step x H5 y5)) fun _ s6 ⟨σ6,H6,I6,q6⟩=>?_)
  refine wpAny_passesOwn hp (Y1 (hb _ s6 σ6 H6 _ I6 q6) fun f s7 q7=>?_)
  have again:∀{σ7:St}{H7:Hp},Inv X (pins++Ss fp s5.heap) σ7 H7 s7->N σ7 H7->∃m,m<n/\∃i σ' H',Inv X pins σ' H' s7/\tn i s7.heap/\(∀b∈fp,H' b=none)/\W i m σ' H':=fun{σ7 H7} I7 n7=>by
   obtain⟨m',hm,w7⟩:=hN σ7 H7 n7
   refine⟨m',hm,i+1,σ7,H7,I7.unpinned,T.keep _ _ _ st5 fun b hb o e=>(I7.pin (b,o) (List.mem_append_right _ (List.mem_append_right _ (VP hb e)))).1,fun b hb=>?_,w7⟩
   obtain⟨o,e,d⟩:=T.obj _ _ st5 b hb
   exact(I7.pin (b,o) (List.mem_append_right _ (List.mem_append_right _ (VP hb e)))).2.1
  cases f with
  | next=>obtain⟨σ7,H7,I7,n7⟩:=q7;exact again I7 n7
  | cont=>obtain⟨σ7,H7,I7,n7⟩:=q7;exact again I7 n7
  | brk=>obtain⟨σ7,H7,I7,q7⟩:=q7;exact⟨σ7,H7,I7.unpinned,q7⟩
  | ret v=>obtain⟨x7,σ7,H7,I7,r7,q7⟩:=q7;exact⟨x7,σ7,H7,I7.unpinned,r7,q7⟩
end
abbrev R2:=V->V->Hp->VK->Prop
def UJ(X:Cx)(f:Value->Value->Sem Value)(r:R2):Prop:=
 ∀(pins:List (Addr×Obj))(s:Shared)(σ:St)(H:Hp)(x y:V)(v u:Value)(Q:VK),Inv X pins σ H s->RelV x v->RelV y u->r x y H Q->
  wpAny (model X.prog X.w) X.A (f v u) (EP X pins σ Q) X.xe s
def Bw(X:Cx)(f:Value->Sem Value)(r:V->Hp->VK->Prop):Prop:=
 ∀(pins:List (Addr×Obj))(s:Shared)(σ:St)(H:Hp)(x:V)(v:Value)(Q:VK),Inv X pins σ H s->RelV x v->r x H Q->
  wpAny (model X.prog X.w) X.A (f v) (EP X pins σ Q) X.xe s
def X2(X:Cx)(f:Value)(r:List V->Hp->VK->Prop):Prop:=
 ∀(pins:List (Addr×Obj))(s:Shared)(σ:St)(H:Hp)(xs:List V)(us:List Value)(Q:VK),Inv X pins σ H s->Vals xs us->r xs H Q->
  wpAny (model X.prog X.w) X.A (call f us) (EP X pins σ Q) X.xe s
def Bx(X:Cx)(r:V->Hp->(Bool->Hp->Prop)->Prop):Prop:=
 ∀(pins:List (Addr×Obj))(s:Shared)(σ:St)(H:Hp)(x:V)(v:Value)(Q:Bool->Hp->Prop),Inv X pins σ H s->RelV x v->r x H Q->
  wpAny (model X.prog X.w) X.A (truthy v) (TP X pins σ Q) X.xe s
def EO(r:R2)(ta tb:TE):TE:=fun σ H Q=>ta σ H fun x H1=>tb σ H1 fun y H2=>r x y H2 Q
def BV(r:V->Hp->VK->Prop)(ta:TE):TE:=fun σ H Q=>ta σ H fun x H1=>r x H1 Q
def rI(C:Int->Int->Prop)(g:Int->Int->V):R2:=fun x y H Q=>∃i j,x = .int i/\y = .int j/\C i j/\Q (g i j) H
def HY(g:Int->Int->V):R2:=fun x y H Q=>∃i j,x = .int i/\y = .int j/\Q (g i j) H
def rU(g:Int->V):V->Hp->VK->Prop:=fun x H Q=>∃i,x = .int i/\Q (g i) H
section
variable {X:Cx} {a b c:Expr} {ta tb tc:TE} {pos:Pos}
theorem ER(ha:PE X a ta)(hb:PE X b tb){pins:List (Addr×Obj)}{s:Shared}{σ:St}{H:Hp}{R:V->V->Hp->Prop}(I:Inv X pins σ H s)
  (h:ta σ H fun x H1=>tb σ H1 fun y H2=>R x y H2) {Q:Value->Shared->Prop} {f:Value->Value->Sem Value}
  (hf:∀v u s2 x y H2,Inv X pins σ H2 s2->RelV x v->RelV y u->R x y H2->wpAny (model X.prog X.w) X.A (f v u) Q X.xe s2) :
  wpAny (model X.prog X.w) X.A (eval a X.env) (fun v s₁=>wpAny (model X.prog X.w) X.A (eval b X.env) (fun u s₂=>wpAny (model X.prog X.w) X.A (f v u) Q X.xe s₂) X.xe s₁) X.xe s:=by
 refine Y1 (ha pins s σ H _ I h) fun v s1 ⟨x,H1,I1,r1,q1⟩=>?_
 refine Y1 (hb pins s1 σ H1 _ I1 q1) fun u s2 ⟨y,H2,I2,r2,q2⟩=>?_
 exact hf v u s2 x y H2 I2 r1 r2 q2
theorem JV{op:Operator}{r:R2}(ho:UJ X (binaryOp op) r)(ha:PE X a ta)(hb:PE X b tb):PE X (.BinOp a op b pos) (EO r ta tb):=by
 intro pins s σ H Q I h
 exact wpAny_BinOp (ER ha hb I h fun v u s2 x y H2 I2 rx ry q=>ho pins s2 σ H2 x y v u Q I2 rx ry q)
theorem Cp{op:UnaryOp}{r:V->Hp->VK->Prop}(ho:Bw X (unaryOp op) r)(ha:PE X a ta):PE X (.UnaryOp op a pos) (BV r ta):=by
 intro pins s σ H Q I h
 exact UnaryOp_ (Y1 (ha pins s σ H _ I h) fun v s1 ⟨x,H1,I1,r1,q1⟩=>ho pins s1 σ H1 x v Q I1 r1 q1)
theorem Cq{f:Value->Value->Sem Value}{C:Int->Int->Prop}{g:Int->Int->Int}
  (rule:∀(i j:Int)(t u:Tok)(s:Shared)(Q:Value->Shared->Prop)(E:Value->Shared->Prop),C i j->Q (.int (g i j) s.toks) { s with toks:=s.toks+1 }->wpAny (model X.prog X.w) X.A (f (.int i t) (.int j u)) Q E s) :
  UJ X f (rI C fun i j=>.int (g i j)):=by
 intro pins s σ H x y v u Q I rx ry h
 obtain⟨i,j,rfl,rfl,hc,q⟩:=h
 obtain⟨t,rfl⟩:=rx
 obtain⟨t',rfl⟩:=ry
 exact rule i j t t' s _ _ hc ⟨.int (g i j),H,I.tok _,⟨_,rfl⟩,q⟩
theorem Cr{f:Value->Value->Sem Value}{g:Int->Int->Int}
  (rule:∀(i j:Int)(t u:Tok)(s:Shared)(Q:Value->Shared->Prop)(E:Value->Shared->Prop),Q (.int (g i j) s.toks) { s with toks:=s.toks+1 }->wpAny (model X.prog X.w) X.A (f (.int i t) (.int j u)) Q E s) :
  UJ X f (HY fun i j=>.int (g i j)):=by
 intro pins s σ H x y v u Q I rx ry h
 obtain⟨i,j,rfl,rfl,q⟩:=h
 obtain⟨t,rfl⟩:=rx
 obtain⟨t',rfl⟩:=ry
 exact rule i j t t' s _ _ ⟨.int (g i j),H,I.tok _,⟨_,rfl⟩,q⟩
theorem Gr{f:Value->Value->Sem Value}{g:Int->Int->Bool}
  (rule:∀(i j:Int)(t u:Tok)(s:Shared)(Q:Value->Shared->Prop)(E:Value->Shared->Prop),Q (.bool (g i j)) s->wpAny (model X.prog X.w) X.A (f (.int i t) (.int j u)) Q E s) :
  UJ X f (HY fun i j=>.bl (g i j)):=by
 intro pins s σ H x y v u Q I rx ry h
 obtain⟨i,j,rfl,rfl,q⟩:=h
 obtain⟨t,rfl⟩:=rx
 obtain⟨t',rfl⟩:=ry
 exact rule i j t t' s _ _ ⟨.bl (g i j),H,I,rfl,q⟩
def TF(i j:Int):Prop:=0<j/\j<1073741824
def F7(i j:Int):Prop:=j≠0/\j.natAbs<1073741824
def Cs(i j:Int):Prop:=0<=j/\j<=1000000/\i.natAbs<2^64
def CMul(i j:Int):Prop:=(-(2^64)<i/\i<2^64)\/(-(2^64)<j/\j<2^64)
theorem CMul.ok{i j:Int}(h:CMul i j):IntMulOk i j:=by
 rcases h with⟨h1,h2⟩ | ⟨h1,h2⟩
 ·exact .of_left (intBits_le_64 h1 h2)
 ·exact .of_right (intBits_le_64 h1 h2)
theorem ES:UJ X (binaryOp .Add) (HY fun i j=>.int (i+j)):=Cr fun _ _ _ _ _ _ _ q=>add_int q
theorem ET:UJ X (binaryOp .Sub) (HY fun i j=>.int (i-j)):=Cr fun _ _ _ _ _ _ _ q=>sub_int q
theorem EU:UJ X (binaryOp .Mult) (rI CMul fun i j=>.int (i*j)):=Cq fun _ _ _ _ _ _ _ hc q=>mul_int q hc.ok
theorem Gs:UJ X (binaryOp .FloorDiv) (rI TF fun i j=>.int (i/j)):=Cq fun i j _ _ _ _ _ hc q=>by
 have h1:(0:Int)<j:=hc.1
 have h2:j<1073741824:=hc.2
 exact floordiv_int (by omega) (by rw[Int.fdiv_eq_ediv_of_nonneg i (by omega)];exact q) (.inl (PyProof.noPylong_small (by omega)))
theorem EV:UJ X (binaryOp .Mod) (rI (fun _ j=>0<j) fun i j=>.int (i%j)):=Cq fun i j _ _ _ _ _ hc q=>by
 have h1:(0:Int)<j:=hc
 exact mod_int' (by omega) (by rw[Int.fmod_eq_emod_of_nonneg i (by omega)];exact q)
theorem BW{f:Value->Sem Value}{g:Int->Int}
  (rule:∀(i:Int)(t:Tok)(s:Shared)(Q:Value->Shared->Prop)(E:Value->Shared->Prop),Q (.int (g i) s.toks) { s with toks:=s.toks+1 }->wpAny (model X.prog X.w) X.A (f (.int i t)) Q E s) :
  Bw X f (rU fun i=>.int (g i)):=by
 intro pins s σ H x v Q I rx h
 obtain⟨i,rfl,q⟩:=h
 obtain⟨t,rfl⟩:=rx
 exact rule i t s _ _ ⟨.int (g i),H,I.tok _,⟨_,rfl⟩,q⟩
theorem EW:Bw X (unaryOp .USub) (rU fun i=>.int (-i)):=BW fun _ _ _ _ _ q=>neg_int q
end
section
variable {X:Cx} {a b c:Expr} {ta tb tc:TE} {pos:Pos}
theorem F8:UJ X (compareOp .Lt) (HY fun i j=>.bl (decide (i<j))):=Gr fun _ _ _ _ _ _ _ q=>lt_int q
theorem F9:UJ X (compareOp .LtE) (HY fun i j=>.bl (decide (i<=j))):=Gr fun _ _ _ _ _ _ _ q=>le_int q
theorem Ea:UJ X (compareOp .Gt) (HY fun i j=>.bl (decide (j<i))):=Gr fun _ _ _ _ _ _ _ q=>gt_int q
theorem Ct:UJ X (compareOp .GtE) (HY fun i j=>.bl (decide (j<=i))):=Gr fun _ _ _ _ _ _ _ q=>ge_int q
theorem Vg(b:Expr){op:CmpOp}(h:op≠.In:=by decide)(h2:op≠.NotIn:=by decide):behindInMarks op b=false:=by
 have e1:(op==CmpOp.In)=false:=by cases op<;>first | rfl | exact absurd rfl h
 have e2:(op==CmpOp.NotIn)=false:=by cases op<;>first | rfl | exact absurd rfl h2
 cases b<;>simp[behindInMarks,e1,e2]
theorem Gu{op:CmpOp}{r:R2}(ho:UJ X (compareOp op) r)(ha:PE X a ta)(hb:PE X b tb)(hm:behindInMarks op b=false):PE X (.Compare a [op] [b] pos) (EO r ta tb):=by
 intro pins s σ H Q I h
 exact wpAny_Compare1 (ER ha hb I h fun v u s2 x y H2 I2 rx ry q=>ho pins s2 σ H2 x y v u Q I2 rx ry q) hm
def Ng(t:TE):TT:=fun σ H Q=>t σ H fun x H'=>∃k,x = .bl k/\Q k H'
theorem Gw{op:CmpOp}{r:R2}(ho:UJ X (compareOp op) r)(ha:PE X a ta)(hb:PE X b tb)(hm:behindInMarks op b=false):PT X (.Compare a [op] [b] pos) (Ng (EO r ta tb)):=by
 intro pins s σ H Q I h
 refine wpAny_isTrue_Compare1 (Y1 (ha pins s σ H _ I h) fun v s1 ⟨x,H1,I1,r1,q1⟩=>Y1 (hb pins s1 σ H1 _ I1 q1) fun u s2 ⟨y,H2,I2,r2,q2⟩=>
  Y1 (ho pins s2 σ H2 x y v u _ I2 r1 r2 q2) fun c s3 ⟨z,H3,I3,r3,k,e,q3⟩=>?_) hm
 subst e;cases r3
 exact wpAny_truthy_bool ⟨H3,I3,q3⟩
def JW(r r':R2)(ta tb tc:TE):TE:=fun σ H Q=>ta σ H fun x H1=>tb σ H1 fun y H2=>r x y H2 fun z H3=>∃k,z = .bl k/\
 (if k=true then tc σ H3 fun w' H4=>r' y w' H4 Q else Q (.bl false) H3)
theorem JX{op op':CmpOp}{r r':R2}(ho:UJ X (compareOp op) r)(ho':UJ X (compareOp op') r')(ha:PE X a ta)(hb:PE X b tb)(hc:PE X c tc)
  (hm:lastMarks [op,op'] [b,c]=false:=by with_unfolding_all rfl):PT X (.Compare a [op,op'] [b,c] pos) (Ng (JW r r' ta tb tc)):=by
 intro pins s σ H Q I h
 refine isTrue_chain (Y1 (ha pins s σ H _ I h) fun v s1 ⟨x,H1,I1,r1,q1⟩=>test_link (Y1 (hb pins s1 σ H1 _ I1 q1) fun u s2 ⟨y,H2,I2,r2,q2⟩=>
  Y1 (ho pins s2 σ H2 x y v u _ I2 r1 r2 q2) fun d s3 ⟨z,H3,I3,r3,k,e,q3⟩=>?_)) hm
 subst e;cases r3
 refine wpAny_truthy_bool ?_
 cases k with
 | false=>
  obtain⟨k',e',q'⟩:=q3
  cases e'
  exact ite_ff ⟨H3,I3,q'⟩
 | true=>
  refine ite_tt (test_last (Y1 (hc pins s3 σ H3 _ I3 q3) fun w' s4 ⟨z',H4,I4,r4,q4⟩=>Y1 (ho' pins s4 σ H4 y z' u w' _ I4 r2 r4 q4) fun d' s5 ⟨z2,H5,I5,r5,k2,e2,q5⟩=>?_))
  subst e2;cases r5
  exact wpAny_truthy_bool ⟨H5,I5,q5⟩
def By(K:PySem.W.Frag)(x:V)(H:Hp)(k:Bool):Prop:=
 match x with
 | .non=>k=false
 | .bl b=>k=b
 | .int i=>k=(i != 0)
 | .str y=>y.length<=sizeLine/\k=((y.length:Int) != 0)
 | .byt y=>y.size<=sizeLine/\k=((y.size:Int) != 0)
 | .ref p=>(∃xs,SqL K H p xs/\k = !xs.isEmpty)\/(∃xs,SqT K H p xs/\k = !xs.isEmpty)\/∃kvs,H p=some (.dK kvs)/\k = !kvs.isEmpty
 | _=>False
theorem Mq{κ:Type}{kvs:List (κ×V)}{vs:List (κ×Value)}(r:KV kvs vs):(!vs.isEmpty) = !kvs.isEmpty:=by
 cases r<;>rfl
theorem RS{xs:List V}{its:List Value}(r:Vals xs its):(!its.toArray.isEmpty) = !xs.isEmpty:=by
 cases r<;>simp
theorem Su:(sizeLine:Nat)<2^63:=by rw[sizeLine_eq];decide
theorem tru_ok:Bx X (fun x H Q=>∃k,By X.K x H k/\Q k H):=by
 intro pins s σ H x v Q I rx h
 obtain⟨k,e,q⟩:=h
 have hl:=Su
 have hs:sizeLine=16777216:=sizeLine_eq
 cases x with
 | non=>
  cases rx
  have e':k=false:=e
  subst e'
  exact truthy_none ⟨H,I,q⟩
 | bl b=>
  cases rx
  have e':k=b:=e
  subst e'
  exact wpAny_truthy_bool ⟨H,I,q⟩
 | int i=>
  obtain⟨t,rfl⟩:=rx
  have e':k=(i != 0):=e
  subst e'
  exact PySem.P.truthy_int ⟨H,I,q⟩
 | str y=>
  obtain⟨t,rfl⟩:=rx
  obtain⟨hy,e'⟩:y.length<=sizeLine/\k=((y.length:Int) != 0):=e
  subst e'
  exact PySem.P.truthy_str (by omega) ⟨H,I.tok _,q⟩
 | byt y=>
  obtain⟨t,rfl⟩:=rx
  obtain⟨hy,e'⟩:y.size<=sizeLine/\k=((y.size:Int) != 0):=e
  subst e'
  exact PySem.W.truthy_bytes (by omega) ⟨H,I.tok _,q⟩
 | ref p=>
  cases rx
  have e':(∃xs,SqL X.K H p xs/\k = !xs.isEmpty)\/(∃xs,SqT X.K H p xs/\k = !xs.isEmpty)\/∃kvs,H p=some (.dK kvs)/\k = !kvs.isEmpty:=e
  rcases e' with⟨xs,hx,e'⟩ | ⟨xs,hx,e'⟩ | ⟨kvs,hx,e'⟩
  ·subst e'
   obtain⟨its,r,pl,hz⟩:=I.list hx
   have hlen:=r.length
   exact wpAny_truthy_list pl.isList (by simp only[List.size_toArray];omega) ⟨H,I.tok _,by rw[RS r];exact q⟩
  ·subst e'
   obtain⟨its,r,pl,hz⟩:=I.tuple hx
   have hlen:=r.length
   exact truthy_tuple pl (by simp only[List.size_toArray];omega) ⟨H,I.tok _,by rw[RS r];exact q⟩
  ·subst e'
   obtain⟨hz,hS,vs,r,m⟩:kvs.length<=sizeLine/\(p==sysModules)=false/\∃vs,KV kvs vs/\s.heap.DictOf (Y0 X.prog X.w) p vs:=I.hok p _ hx
   have hlen:kvs.length=vs.length:=Paired.length r
   exact wpAny_truthy_dict hS m (by omega) ⟨H,I.tok _,by rw[Mq r];exact q⟩
 | _=>exact(show False from e).elim
theorem U7{x:V}{us:List Value}(r:Vals [x] us):∃u,us=[u]/\RelV x u:=by
 cases r with
 | cons r1 r2=>cases r2;exact⟨_,rfl,r1⟩
theorem JY{x y:V}{us:List Value}(r:Vals [x,y] us):∃u w',us=[u,w']/\RelV x u/\RelV y w':=by
 cases r with
 | cons r1 r2=>
  cases r2 with
  | cons r3 r4=>cases r4;exact⟨_,_,rfl,r1,r3⟩
theorem KI(hc:X.calm=true):X2 X (.builtin "max") (fun xs H Q=>∃i j,xs=[.int i,.int j]/\Q (.int (if j>i then j else i)) H):=by
 intro pins s σ H xs us Q I r h
 obtain⟨i,j,rfl,q⟩:=h
 obtain⟨u,w',rfl,⟨t,rfl⟩,⟨t',rfl⟩⟩:=JY r
 refine max_two_ints (I.ok.hd hc) fun h' tk k=>⟨_,H,I.kept k,?_,q⟩
 by_cases hj:j>i
 ·rw[if_pos hj,if_pos hj];exact⟨_,rfl⟩
 ·rw[if_neg hj,if_neg hj];exact⟨_,rfl⟩
theorem Pg(hc:X.calm=true):X2 X (.builtin "min") (fun xs H Q=>∃i j,xs=[.int i,.int j]/\Q (.int (if j<i then j else i)) H):=by
 intro pins s σ H xs us Q I r h
 obtain⟨i,j,rfl,q⟩:=h
 obtain⟨u,w',rfl,⟨t,rfl⟩,⟨t',rfl⟩⟩:=JY r
 refine min_two_ints (I.ok.hd hc) fun h' tk k=>⟨_,H,I.kept k,?_,q⟩
 by_cases hj:j<i
 ·rw[if_pos hj,if_pos hj];exact⟨_,rfl⟩
 ·rw[if_neg hj,if_neg hj];exact⟨_,rfl⟩
theorem Ph:X2 X (.type "int") (fun xs H Q=>(∃i,xs=[.int i]/\Q (.int i) H)\/∃k,xs=[.bl k]/\Q (.int (if k then 1 else 0)) H):=by
 intro pins s σ H xs us Q I r h
 rcases h with⟨i,rfl,q⟩ | ⟨k,rfl,q⟩
 ·obtain⟨u,rfl,t,rfl⟩:=U7 r
  exact call_int_int ⟨.int i,H,I,⟨_,rfl⟩,q⟩
 ·obtain⟨u,rfl,r1⟩:=U7 r
  cases r1
  exact call_int_bool ⟨.int (if k then 1 else 0),H,I.tok _,⟨_,rfl⟩,q⟩
def Cu(K:PySem.W.Frag)(x:V)(H:Hp)(n:Nat):Prop:=
 match x with
 | .str y=>y.length<=sizeLine/\n=y.length
 | .byt y=>y.size<=sizeLine/\n=y.size
 | .ref p=>(∃xs,SqL K H p xs/\n=xs.length)\/∃xs,SqT K H p xs/\n=xs.length
 | _=>False
theorem ZT:X2 X (.builtin "len") (fun xs H Q=>∃x n,xs=[x]/\Cu X.K x H n/\Q (.int n) H):=by
 intro pins s σ H xs us Q I r h
 obtain⟨x,n,rfl,e,q⟩:=h
 obtain⟨u,rfl,rx⟩:=U7 r
 have hl:=Su
 have hs:sizeLine=16777216:=sizeLine_eq
 cases x with
 | str y=>
  obtain⟨t,rfl⟩:=rx
  obtain⟨hy,e'⟩:y.length<=sizeLine/\n=y.length:=e
  subst e'
  exact len_str (by omega) ⟨.int _,H,I.tok _,⟨_,rfl⟩,q⟩
 | byt y=>
  obtain⟨t,rfl⟩:=rx
  obtain⟨hy,e'⟩:y.size<=sizeLine/\n=y.size:=e
  subst e'
  exact PySem.W.len_bytes (by omega) ⟨.int _,H,I.tok _,⟨_,rfl⟩,q⟩
 | ref p=>
  cases rx
  have e':(∃xs,SqL X.K H p xs/\n=xs.length)\/∃xs,SqT X.K H p xs/\n=xs.length:=e
  rcases e' with⟨xs,hx,e'⟩ | ⟨xs,hx,e'⟩
  ·subst e'
   obtain⟨its,r',pl,hz⟩:=I.list hx
   have hlen:=r'.length
   exact Calls.call_len_list pl.isList (by simp only[List.size_toArray];omega) ⟨.int xs.length,H,I.tok _,⟨_,by simp only[List.size_toArray];rw[hlen]⟩,q⟩
  ·subst e'
   obtain⟨its,r',pl,hz⟩:=I.tuple hx
   have hlen:=r'.length
   exact len_tuple pl (by simp only[List.size_toArray];omega) ⟨.int xs.length,H,I.tok _,⟨_,by simp only[List.size_toArray];rw[hlen]⟩,q⟩
 | _=>exact(show False from e).elim
end
structure ObjM(h:Heap)(x dx C:Addr)(mA:Str->Option Value):Prop where
 obj:h.get? x=some (PySem.W.instObj C dx)
 ns:h.Ns1 dx mA
 ne:dx≠x
theorem KJ{h:Heap}{dx:Addr}{mA:Str->Option Value}(n:h.Ns1 dx mA):∃od,h.get? dx=some od/\∀name,PySem.W.lookIn name od=some (mA name):=by
 obtain⟨o,es,ep,ho,hd,hk,_,hm⟩:=n
 refine⟨o,ho,fun name=>?_⟩
 have e:=hm name;unfold nsFind findBy at e;rw[<-Array.find?_toList] at e;unfold PySem.W.lookIn;rw[hd]
 dsimp only
 split
 ·rename_i y q
  rw[q] at e
  exact congrArg some e
 ·rename_i q
  rw[q] at e
  have a:es.toList.any (·.refKey)=false:=by
   rw[List.any_eq_false];intro y hy
   obtain⟨z,t,hkey⟩:=hk y (Array.mem_toList_iff.mp hy)
   simp[DictEntry.refKey,hkey]
  have a':¬es.toList.any (·.refKey)=true:=by rw[a];exact Bool.false_ne_true
  rw[if_neg a']
  exact congrArg some e
theorem ObjM.look{h:Heap}{x dx C:Addr}{mA:Str->Option Value}(I:ObjM h x dx C mA):∃od,PySem.W.InstAt h x (PySem.W.instObj C dx) C (some od)/\∀name,PySem.W.lookIn name od=some (mA name):=
 let⟨od,ho,hl⟩:=KJ I.ns
 ⟨od,⟨I.obj,rfl,rfl,ho⟩,hl⟩
theorem RelO.some_of{v:V}{o:Option Value}(r:RelO (some v) o):∃u,o=some u/\RelV v u:=by
 cases o with
 | none=>exact(show False from r).elim
 | some u=>exact⟨u,rfl,r⟩
section
variable {P:Program} {w:World} {H H':Hp} {h h':Heap} {a C dx:Addr} {fs fs':List (Str×V)}
theorem Gx(hok:HOk P w H h)(e:H a=some (.ins C dx fs)):∃mA,ObjM h a dx C mA/\(∀f,RelO (fs.lookup f) (mA f))/\PySem.Within mA (fs.map (·.1))/\fs.length<=1000/\H dx=some (.own a):=by
 obtain⟨d,z,ne,ob,mA,n,r,q⟩:=(show ObjOk P w H h a (.ins C dx fs) from hok a _ e)
 exact⟨mA,⟨ob,n,ne⟩,r,q,z,d⟩
end
structure Cls(K:PySem.W.Frag)(C:Addr):Prop where
 pg:PySem.W.plainGet K C Str.empty=true
 hd:PySem.W.hasDictIn K C=true
 po:PySem.W.plainOver K C=true
 sa:PySem.W.findIn K (.ref C) "__setattr__" = some (some (.builtin "object.__setattr__"))
theorem Cls.get{K:PySem.W.Frag}{C:Addr}(c:Cls K C)(f:Str):PySem.W.plainGet K C f=true:=c.pg
section
variable {X:Cx} {pins:List (Addr×Obj)} {σ:St} {H:Hp} {s:Shared} {A:Around} {E:Value->Shared->Prop} {Q:Value->Shared->Prop} {c:Value} {b:Bool}
inductive TyOf(K:PySem.W.Frag)(H:Hp):V->Value->Prop where
 | non:TyOf K H .non (.type "NoneType")
 | bl (x:Bool):TyOf K H (.bl x) (.type "bool")
 | int (i:Int):TyOf K H (.int i) (.type "int")
 | str (x:Str):TyOf K H (.str x) (.type "str")
 | flt (x:UInt64):TyOf K H (.flt x) (.type "float")
 | lst {a:Addr} {xs:List V} (e:H a=some (.lst xs)):TyOf K H (.ref a) (.type "list")
 | frz {a:Addr} {o:Obj} {xs:List V} (e:H a=some (.frz o (.lst xs))):TyOf K H (.ref a) (.type "list")
 | tup {a:Addr} {xs:List V} (e:H a=some (.tup xs)):TyOf K H (.ref a) (.type "tuple")
 | dK {a:Addr} {kvs:List (YH×V)} (e:H a=some (.dK kvs)):TyOf K H (.ref a) (.type "dict")
 | dT {a:Addr} {kvs:List (List YH×V)} (e:H a=some (.dT kvs)):TyOf K H (.ref a) (.type "dict")
 | ins {a C dx:Addr} {fs:List (Str×V)} (e:H a=some (.ins C dx fs)) (cl:Cls K C) (ha:PySem.W.findIn K (.ref C) "__class__" = some (some (.builtin "object.__class__")))
   (hn:PySem.W.specialIn K (.builtin "object.__class__") "__get__" = some (some (.builtin "getset_descriptor.__get__"))) (htk:PySem.W.takesIn K (.builtin "object.__class__")=some true)
   (hm:PySem.W.mroIn K C (.type "object")=some true):TyOf K H (.ref a) (.ref C)
theorem KN{x:V}{u t:Value}(I:Inv X pins σ H s)(rx:RelV x u)(ty:TyOf X.K H x t)(e:PySem.W.kitOne X.K t c=some b)(h:∀tk,Q (.bool b) { s with toks:=tk }) :
  wpAny (model X.prog X.w) A (call (.builtin "isinstance") [u,c]) Q E s:=by
 cases ty with
 | non=>cases (show u=Value.none from rx);exact PySem.W.kia_one PySem.W.kitx_none I.kIn True.intro e (fun z=>nomatch z) h
 | bl y=>cases (show u=Value.bool y from rx);exact PySem.W.kia_one PySem.W.kitx_bool I.kIn True.intro e (fun z=>nomatch z) h
 | int i=>obtain⟨t,q⟩:=(show ∃t,u=Value.int i t from rx);cases q;exact PySem.W.kia_one PySem.W.kitx_int I.kIn True.intro e (fun z=>nomatch z) h
 | str y=>obtain⟨t,q⟩:=(show ∃t,u=Value.str y t from rx);cases q;exact PySem.W.kia_one PySem.W.kitx_str I.kIn True.intro e (fun z=>nomatch z) h
 | flt y=>obtain⟨t,q⟩:=(show ∃t,u=Value.float y t from rx);cases q;exact PySem.W.kia_one PySem.W.kitx_float I.kIn True.intro e (fun z=>nomatch z) h
 | @lst a xs ea=>
  cases (show u=Value.ref a from rx)
  obtain⟨_,_,n,_,h1⟩:=(show ObjOk X.prog X.w H s.heap a (.lst xs) from I.hok a _ ea)
  exact PySem.W.kia_one PySem.W.kitx_list I.kIn ⟨_,h1,rfl⟩ e (fun z=>nomatch z) h
 | @frz a ob xs ea=>
  cases (show u=Value.ref a from rx)
  obtain⟨_,_,_,n,_,h1⟩:=(show ObjOk X.prog X.w H s.heap a (.frz ob (.lst xs)) from I.hok a _ ea)
  exact PySem.W.kia_one PySem.W.kitx_list I.kIn ⟨_,h1,rfl⟩ e (fun z=>nomatch z) h
 | @tup a xs ea=>
  cases (show u=Value.ref a from rx)
  obtain⟨_,_,_,p⟩:=(show ObjOk X.prog X.w H s.heap a (.tup xs) from I.hok a _ ea)
  obtain⟨o,h1,h2,_⟩:=p
  exact PySem.W.kia_one PySem.W.kitx_tuple I.kIn ⟨o,h1,h2⟩ e (fun z=>nomatch z) h
 | @dK a kvs ea=>
  cases (show u=Value.ref a from rx)
  obtain⟨_,_,vs,_,p⟩:=(show ObjOk X.prog X.w H s.heap a (.dK kvs) from I.hok a _ ea)
  obtain⟨o,es,ep,h1,h2,_⟩:=p
  exact PySem.W.kia_one PySem.W.kitx_dict I.kIn ⟨o,h1,h2.1⟩ e (fun z=>nomatch z) h
 | @dT a kvs ea=>
  cases (show u=Value.ref a from rx)
  obtain⟨_,_,xs,_,o,es,ep,h1,h2,_⟩:=(show ObjOk X.prog X.w H s.heap a (.dT kvs) from I.hok a _ ea)
  exact PySem.W.kia_one PySem.W.kitx_dict I.kIn ⟨o,h1,h2.1⟩ e (fun z=>nomatch z) h
 | @ins a C dx fs ea cl ha hn htk hm=>
  cases (show u=Value.ref a from rx)
  obtain⟨mA,O,_⟩:=Gx I.hok ea
  obtain⟨od,J,_⟩:=O.look
  exact PySem.W.kia_one (PySem.W.kitx_own (cl.get _) cl.hd ha hn htk hm) I.kIn J e (fun z=>nomatch z) h
end
structure Room(k:Nat)(A:Around):Prop where
 hd:A.handled=none
 dp:A.depth+3*k+5<recursionLimit
 un:A.units+16*k+200<cLine
 gd:A.guards=some []
theorem Room.mono{j k:Nat}{A:Around}(r:Room k A)(h:j<=k):Room j A:=⟨r.hd,by have:=r.dp;omega,by have:=r.un;omega,r.gd⟩
theorem Room.deeper{k:Nat}{A:Around}(r:Room (k+1) A)(env:Env):Room k (A.deeper env):=
 ⟨r.hd,by have:=r.dp;show A.depth+1+3*k+5<_;omega,by have:=r.un;show A.units+3+16*k+200<_;omega,r.gd⟩
theorem Room.depth{k:Nat}{A:Around}(r:Room k A):A.depth<recursionLimit:=by have:=r.dp;omega
theorem Room.units{k:Nat}{A:Around}(r:Room k A):A.units+64<cLine:=by have:=r.un;omega
def KO:TA:=fun _ H Q=>Q [] H
def TH(ta:TE)(tr:TA):TA:=fun σ H Q=>ta σ H fun x H1=>tr σ H1 fun xs H2=>Q (x::xs) H2
section
variable {X:Cx} {e:Expr} {es:List Expr} {te:TE} {t:TA} {pos:Pos}
theorem Wo:PA X [] KO:=fun _ _ _ _ H Q I h=>Calls.spliced_nil ⟨[],H,I,.nil,h⟩
theorem Y2(ha:PE X e te)(hr:PA X es t)(hs:starEach (e::es) X.env=(false,eval e X.env)::starEach es X.env:=by rfl):PA X (e::es) (TH te t):=by
 intro pos pins s σ H Q I h;rw[hs]
 show wpAny _ _ (spliced ((false,eval e X.env)::backTo pos (starEach es X.env))) _ _ s
 refine Calls.spliced_cons (Y1 (ha pins s σ H _ I h) fun u s1 ⟨x,H1,I1,r1,q1⟩=>?_)
 exact Y1 (hr pos pins s1 σ H1 _ I1 q1) fun us s2 ⟨xs,H2,I2,r2,q2⟩=>⟨x::xs,H2,I2,.cons r1 r2,q2⟩
def Cv(t:TA):TE:=fun σ H Q=>t σ H fun xs H1=>xs.length<=sizeLine/\∀p,H1 p=none->Q (.ref p) (upd H1 p (.tup xs))
def Cw(t:TA):TE:=fun σ H Q=>t σ H fun xs H1=>xs.length<=sizeLine/\∀p,H1 p=none->Q (.ref p) (upd H1 p (.lst xs))
theorem JZ{x1}(h:PA X es t):PE X (.Tuple es x1 pos) (Cv t):=by
 intro pins s σ H Q I hq
 refine wpAny_Tuple_spliced (Y1 (h pos pins s σ H _ I hq) fun us s1 ⟨xs,H1,I1,r,z,q⟩=>⟨by rw[<-r.length];exact z,?_⟩)
 have hf:H1 s1.heap.objs.size=none:=I1.hok.fresh (Nat.le_refl _)
 refine⟨.ref s1.heap.objs.size,upd H1 s1.heap.objs.size (.tup xs),I1.laid (t':=s1.toks) (fun b u e=>Heap.get?_push_of_some _ e) (Nat.le_refl _) ?_,rfl,q _ hf⟩
 exact⟨z,us,r,⟨_,Heap.get?_push_size _ rfl,rfl,_,rfl⟩⟩
theorem Mr(h:PA X es t):PE X (.List es pos) (Cw t):=by
 intro pins s σ H Q I hq
 refine wpAny_List_spliced (Y1 (h pos pins s σ H _ I hq) fun us s1 ⟨xs,H1,I1,r,z,q⟩=>⟨by rw[<-r.length];exact z,?_⟩)
 have hf:H1 s1.heap.objs.size=none:=I1.hok.fresh (Nat.le_refl _)
 refine⟨.ref s1.heap.objs.size,upd H1 s1.heap.objs.size (.lst xs),I1.laid (t':=s1.toks) (fun b u e=>Heap.get?_push_of_some _ e) (Nat.le_refl _) ?_,rfl,q _ hf⟩
 exact⟨z,us,0,r,Heap.get?_push_size _ rfl⟩
end
abbrev Sp:=List V->Hp->VK->XK->Prop
abbrev Gy:=List Env->Hp->Shared->XK->Value->Shared->Prop
structure Gz(P:Program)(w:World)(K:PySem.W.Frag)(mg:Str->Option Value)(base:Heap)(A:Around)(outer:List Env)(s:Shared)(H:Hp):Prop where
 frames:A.frames=some outer
 mod:Mod K mg base
 bs:∀b o,base.get? b=some o->s.heap.get? b=some o/\H b=none
 bsz:base.objs.size<=s.heap.objs.size
 funs:s.heap.FunFrames base outer
 frf:∀b∈Mi outer,H b=none
 hok:HOk P w H s.heap
 bare:AllBare s.gens
def CE(outer:List Env)(P:Program)(w:World)(H:Hp)(s:Shared)(Q:VK)(u:Value)(s':Shared):Prop:=
 ∃v H',s'.os=s.os/\AllBare s'.gens/\Un (Mi outer) [] H H' s.heap s'.heap/\HOk P w H' s'.heap/\RelV v u/\Q v H'
def CR(CX:Gy)(outer:List Env)(P:Program)(w:World)(H:Hp)(s:Shared)(Q:VK)(E:XK)(r:Result)(s':Shared):Prop:=
 match r with
 | .ok (.ret u)=>CE outer P w H s Q u s'
 | .ok _=>False
 | .error e=>CX outer H s E e s'
structure Sv(P:Program)(w:World)(K:PySem.W.Frag)(mg:Str->Option Value)(base:Heap)(CX:Gy)(k:Nat)(f:Addr)(fd:FuncData)(ps:List Str)(sp:Sp):Prop where
 len:∀vs H Q E,sp vs H Q E->vs.length=ps.length
 run:∀(A:Around)(outer:List Env)(s:Shared)(H:Hp)(args:Args)(us:List Value)(vs:List V)(Q:VK)(E:XK),Room k A->Gz P w K mg base A outer s H->BindsTo s fd args (ps.zip us)->Vals vs us->sp vs H Q E->
  codeAny (model P w) A (.call (.ref f) args) (CR CX outer P w H s Q E) s
section
variable {X:Cx} {pins:List (Addr×Obj)} {σ:St} {H:Hp} {s s':Shared}
theorem Inv.env0(I:Inv X pins σ H s):Gz X.prog X.w X.K X.mg X.base X.A X.stack s H:=
 ⟨I.ok.frames,I.ok.mod,I.bs,Nat.le_trans I.ok.bsz I.sz,I.stack,I.stkFree,I.hok,I.bare⟩
theorem Inv.after{Q:VK}{u:Value}(I:Inv X pins σ H s)(h:CE X.stack X.prog X.w H s Q u s'):EP X pins σ Q u s':=by
 obtain⟨v,H',os,bare,un,hok,r,q⟩:=h
 obtain⟨hh,g,d,t,os'⟩:=s'
 obtain rfl:os'=s.os:=os
 exact⟨v,H',I.call (h':=hh) (g':=g) (d':=d) (t':=t) (ch:=[]) un hok bare (fun b z=>absurd z (by simp)),r,q⟩
end
def Eb(sp:Sp)(dvs:List V)(E:XK)(t:TA):TE:=fun σ H Q=>t σ H fun vs H1=>sp (vs++dvs) H1 Q E
def Binds(K:PySem.W.Frag)(fd:FuncData)(ps:List Str)(ds:List Value):Prop:=
 ∀(s:Shared)(us:List Value),K.In s.heap->(us++ds).length=ps.length->BindsTo s fd ⟨us,[]⟩ (ps.zip (us++ds))
theorem Binds.all{K:PySem.W.Frag}{fd:FuncData}{ps:List Str}(h:∀us:List Value,us.length=ps.length->bindArgs fd ⟨us,[]⟩=pure (ps.zip us)):Binds K fd ps []:=fun s us _ hl=>by
 rw[List.append_nil] at hl ⊢
 exact .of_eq (h us hl)
def Ms(CX:Gy)(X:Cx)(E:XK):Prop:=∀(pins:List (Addr×Obj))(σ:St)(H:Hp)(s:Shared)(e:Value)(s':Shared),Inv X pins σ H s->CX X.stack H s E e s'->X.xe e s'
section
variable {X:Cx} {CX:Gy} {k:Nat} {f C:Addr} {fd:FuncData} {ps:List Str} {sp:Sp} {dvs:List V} {ds:List Value} {E:XK} {x m:Str} {p pos apos:Pos} {e o:Expr} {es:List Expr} {ta:TE} {t:TA}
theorem EX{pins:List (Addr×Obj)}{σ:St}{H:Hp}{s:Shared}{Q:VK}{us:List Value}{vs:List V}(F:Sv X.prog X.w X.K X.mg X.base CX k f fd ps sp)(hr:Room k X.A)(hb:Binds X.K fd ps ds)(hd:Vals dvs ds)(hx:Ms CX X E)
  (I:Inv X pins σ H s) (r:Vals vs us) (h:sp (vs++dvs) H Q E):wpAny (model X.prog X.w) X.A (call (.ref f) us) (EP X pins σ Q) X.xe s:=by
 have r2:Vals (vs++dvs) (us++ds):=r.append hd
 have hl:(us++ds).length=ps.length:=by rw[<-r2.length];exact F.len _ _ _ _ h
 refine wpAny_call (codeAny_mono (F.run X.A X.stack s H ⟨us,[]⟩ (us++ds) (vs++dvs) Q E hr I.env0 (hb s us I.kIn hl) r2 h) fun r s' hq=>?_)
 cases r with
 | error e=>exact hx pins σ H s e s' I hq
 | ok fl=>
  cases fl with
  | ret u=>exact I.after hq
  | next=>exact False.elim hq
  | brk=>exact False.elim hq
  | cont=>exact False.elim hq
theorem Lr(F:Sv X.prog X.w X.K X.mg X.base CX k f fd ps sp)(hr:Room k X.A)(hg:Gl X x)(hm:X.mg x=some (.ref f))(hk:PySem.W.keepIn X.K (.ref f)=true)(hb:Binds X.K fd ps ds)(hd:Vals dvs ds)(hx:Ms CX X E)
  (ha:PA X (e::es) t) (hdb:(x==("__debug__" : Str))=false:=by decide) (he:starEach (e::es) X.env=(false,eval e X.env)::starEach es X.env:=by rfl) (hpl:(backTo pos (starEach es X.env)).any (·.1)=false:=by rfl) :
  PE X (.Call (.Name x p) (e::es) [] pos) (Eb sp dvs E t):=by
 intro pins s σ H Q I h
 refine wpAny_Call_Name_kw (Gh I hg hm ?_ hdb)
 refine PySem.W.callWith_K (h₀:=X.base) I.ok.mod.kin hk (Y1 (ha pos pins s σ H _ I h) fun us s1 ⟨vs,H1,I1,r,q⟩=>⟨I1.kIn,?_⟩) he hpl
 exact EX F hr hb hd hx I1 r q
end
structure ZI(N P:List Str)(sc:Scope):Prop where
 kind:sc.kind = .function
 co:sc.isCoroutine=false
 gen:sc.isGenerator=false
 nd:N.Nodup
 pre:N.take P.length=P
 par:∀x∈P,sc.names.lookup x=some .local\/sc.names.lookup x=some .cell
 nofree:∀y∈sc.names,y.2≠.free
theorem Pj{kindOf:Str->Option NameKind}{x:Str}:∀{binds:List (Str×Value)}{m:Str->Option Value},(∀v,(x,v)∉binds)->bindL kindOf binds m x=m x
 | [],_,_=>rfl
 | (n,v)::r,m,h=>by
  unfold bindL;rw[Pj fun w hw=>h w (List.mem_cons_of_mem _ hw)]
  split
  ·have:x≠n:=by rintro rfl;exact h v List.mem_cons_self
   simp[this]
  ·rfl
theorem Pk{kindOf:Str->Option NameKind}{x:Str}:∀{binds:List (Str×Value)}{m:Str->Option Value},(∀v,(x,v)∉binds)->bindC kindOf binds m x=m x
 | [],_,_=>rfl
 | (n,v)::r,m,h=>by
  unfold bindC;rw[Pk fun w hw=>h w (List.mem_cons_of_mem _ hw)]
  split
  ·rfl
  ·have:x≠n:=by rintro rfl;exact h v List.mem_cons_self
   simp[this]
theorem Pl{kindOf:Str->Option NameKind}{x:Str}{v:Value}:∀{P:List Str}{vs:List Value}{i:Nat}{m:Str->Option Value},P.Nodup->P[i]?=some x->vs[i]?=some v->kindOf x=some .local->
  bindL kindOf (P.zip vs) m x=some v
 | [],_,_,_,_,h,_,_=>by simp at h
 | _::_,[],_,_,_,_,h,_=>by simp at h
 | p::P,w::vs,0,m,nd,h1,h2,hk=>by
  simp at h1 h2;subst h1;subst h2
  show bindL kindOf ((p,w)::P.zip vs) m p=_
  unfold bindL;rw[Pj fun v hv=>(List.nodup_cons.mp nd).1 (List.of_mem_zip hv).1,if_pos hk]
  simp
 | p::P,w::vs,i+1,m,nd,h1,h2,hk=>by
  show bindL kindOf ((p,w)::P.zip vs) m x=_
  unfold bindL
  exact Pl (i:=i) (List.nodup_cons.mp nd).2 (by simpa using h1) (by simpa using h2) hk
theorem Pn{kindOf:Str->Option NameKind}{x:Str}{v:Value}:∀{P:List Str}{vs:List Value}{i:Nat}{m:Str->Option Value},P.Nodup->P[i]?=some x->vs[i]?=some v->kindOf x≠some .local->
  bindC kindOf (P.zip vs) m x=some v
 | [],_,_,_,_,h,_,_=>by simp at h
 | _::_,[],_,_,_,_,h,_=>by simp at h
 | p::P,w::vs,0,m,nd,h1,h2,hk=>by
  simp at h1 h2;subst h1;subst h2
  show bindC kindOf ((p,w)::P.zip vs) m p=_
  unfold bindC;rw[Pk fun v hv=>(List.nodup_cons.mp nd).1 (List.of_mem_zip hv).1,if_neg hk]
  simp
 | p::P,w::vs,i+1,m,nd,h1,h2,hk=>by
  show bindC kindOf ((p,w)::P.zip vs) m x=_
  unfold bindC
  exact Pn (i:=i) (List.nodup_cons.mp nd).2 (by simpa using h1) (by simpa using h2) hk
def start(N:List Str)(vs:List V):St:=vs.map some++List.replicate (N.length-vs.length) none
def QW(CX:Gy)(P:Program)(w:World)(K:PySem.W.Frag)(mg:Str->Option Value)(base:Heap)(N:List Str)(qual:Str)(scope:Scope)(f:Addr)(cd:Value)(A:Around)(outer:List Env)(s:Shared)(H:Hp)(E:XK):Cx where
 prog:=P
 w:=w
 K:=K
 mg:=mg
 base:=base
 A:=A.deeper (envOfC qual scope s.heap.objs.size f cd)
 N:=N
 s₀:=s
 H₀:=H
 env:=envOfC qual scope s.heap.objs.size f cd
 outer:=outer
 stack:=envOfC qual scope s.heap.objs.size f cd::outer
 ex:=[]
 calm:=true
 fn:=fun _=>true
 pn:=[]
 xe:=fun e s'=>wpAny (model P w) (A.deeper (envOfC qual scope s.heap.objs.size f cd)) (leaving (envOfC qual scope s.heap.objs.size f cd) e) (fun _ s''=>CX outer H s E e s'') (fun e' s''=>CX outer H s E e' s'') s'
theorem Nh{sc:Scope}{n:Nat}{x:Str}(h:sc.names.lookup x=some .cell):∃c,(cellsFrom n sc.names []).lookup x=some c:=by
 have q:=PySem.W.cellsFrom_some sc.names n [] (.inl h)
 exact Option.isSome_iff_exists.mp q
theorem KP{CX:Gy}{P:Program}{w:World}{K:PySem.W.Frag}{mg:Str->Option Value}{base:Heap}{N ps:List Str}{qual:Str}{scope:Scope}{f:Addr}{cd:Value}{A:Around}{outer:List Env}{s s1:Shared}{H:Hp}{E:XK}{us:List Value}{vs:List V}
  (S:ZI N ps scope) (hd:A.handled=none) (e0:Gz P w K mg base A outer s H) (hl:vs.length=ps.length) (r:Vals vs us)
  (x:InCallC s s.heap.objs.size (bindL (envOfC qual scope s.heap.objs.size f cd).kindOf (ps.zip us) fun _=>none) (cellsFrom (s.heap.objs.size+1) scope.names []) (bindC (envOfC qual scope s.heap.objs.size f cd).kindOf (ps.zip us) fun _=>none) s1) :
  Inv (QW CX P w K mg base N qual scope f cd A outer s H E) [] (start N vs) H s1:=by
 have hpl:ps.length<=N.length:=by have:=congrArg List.length S.pre;rw[List.length_take] at this;omega
 obtain⟨h1,tk,rfl,hk⟩:=x.done
 have noA:∀b:Addr,b∉(QW CX P w K mg base N qual scope f cd A outer s H E).ex:=fun b z=>absurd (show b∈([]:List Addr) from z) (by simp)
 refine⟨⟨e0.mod,S.kind,rfl,rfl,Nat.le_refl _,fun y z c h1 h2=>?_,fun y hy=>?_,fun y c _ h=>?_,fun _=>hd,Around.frames_deeper e0.frames,.inr ⟨rfl,rfl⟩,fun b z=>absurd z (noA b),e0.bs,e0.bsz,fun b _ _=>noA b,fun b z=>absurd z (noA b),e0.funs,e0.frf⟩,
  rfl,e0.bare,Un.kept hk,⟨_,x.toInCall.ns,fun i y v h1 h2 h3=>?_⟩,fun y c h=>⟨_,x.cell y c h⟩,e0.hok.fresh (Nat.le_refl _),fun y c h=>?_,fun p hp=>absurd (show p∈([]:List (Addr×Obj)) from hp) (by simp),e0.hok.kept hk,?_⟩
 ·exact name_of_addr x.apart (PySem.mem_of_lookup h1) (PySem.mem_of_lookup h2)
 ·have hy:scope.names.lookup y=some .cell\/scope.names.lookup y=some .free:=hy
  rcases hy with hy | hy
  ·exact Nh hy
  ·exact absurd rfl (S.nofree _ (PySem.mem_of_lookup hy))
 ·exact Nat.le_of_lt (x.above y c (PySem.mem_of_lookup h))
 ·have hi:i<vs.length:=by
   unfold start at h2
   by_cases hi:i<vs.length
   ·exact hi
   ·rw[List.getElem?_append_right (by simpa using hi)] at h2
    rw[List.getElem?_replicate] at h2
    split at h2<;>cases h2
  have ha:vs[i]?=some v:=by
   unfold start at h2;rw[List.getElem?_append_left (by simpa using hi),List.getElem?_map] at h2
   cases e:vs[i]? with
   | none=>rw[e] at h2;cases h2
   | some a=>rw[e] at h2;cases h2;rfl
  obtain⟨u,hu,rv⟩:=r.get ha
  have hp:ps[i]?=some y:=by
   rw[<-S.pre,List.getElem?_take_of_lt (by omega)];exact h1
  have ndP:ps.Nodup:=by rw[<-S.pre];exact S.nd.sublist (List.take_sublist _ _)
  refine⟨u,rv,?_⟩
  rcases S.par y (List.mem_of_getElem? hp) with k | k
  ·exact .inl ⟨k,Pl ndP hp hu k⟩
  ·obtain⟨c,e⟩:=Nh (n:=s.heap.objs.size+1) k
   refine .inr ⟨.inl k,c,e,?_⟩
   have q:=x.cell y c e
   rw[Pn ndP hp hu (by show scope.names.lookup y≠_;rw[k];decide)] at q
   exact q
 ·exact e0.hok.fresh (Nat.le_of_lt (x.above y c (PySem.mem_of_lookup h)))
 ·unfold start
  show _=N.length
  rw[List.length_append,List.length_map,List.length_replicate];omega
theorem Ec{CX:Gy}{P:Program}{w:World}{K:PySem.W.Frag}{mg:Str->Option Value}{base:Heap}{k:Nat}{f:Addr}{name qual:Str}{params:Arguments}{body:List Stmt}{scope:Scope}{dV kV doc pm cdv ct oc:Value}{an od:Option Addr}
  {osl:Array (Option Value)} {N ps:List Str} {sp:Sp} (lk:K.lookup f=some ⟨oc,od,.func (PySem.W.fnOf name qual params body scope dV kV doc pm an cdv ct),osl⟩) (hcd:PySem.W.codeIn K cdv qual=true) (S:ZI N ps scope)
  (len:∀vs H Q E,sp vs H Q E->vs.length=ps.length)
  (hbody:∀(A:Around)(outer:List Env)(s:Shared)(H:Hp)(vs:List V)(Q:VK)(E:XK),Room k (A.deeper (envOfC qual scope s.heap.objs.size f cdv))->sp vs H Q E->
   ∃t,PSs (QW CX P w K mg base N qual scope f cdv A outer s H E) body t/\t { nx:=fun _ H'=>Q .non H',rt:=Q } (start N vs) H) :
  Sv P w K mg base CX (k+1) f (PySem.W.fnOf name qual params body scope dV kV doc pm an cdv ct) ps sp:=by
 refine⟨len,fun A outer s H args us vs Q E hr e0 hb r hsp=>?_⟩
 have hl:=len _ _ _ _ hsp
 have KX:K.In s.heap:=e0.mod.kin.keeps fun b o e=>(e0.bs b o e).1
 have lim:s.heap.NoLimit:=e0.mod.nolimit.keeps fun b o e=>(e0.bs b o e).1
 have hkind:∀y∈ps.zip us,scope.names.lookup y.1=some .local\/(scope.names.lookup y.1=some .cell/\((cellsFrom (s.heap.objs.size+1) scope.names []).lookup y.1).isSome=true):=fun⟨n,v⟩ hy=>by
  rcases S.par n (List.of_mem_zip hy).1 with q | q
  ·exact .inl q
  ·exact .inr ⟨q,PySem.W.cellsFrom_some _ _ _ (.inl q)⟩
 refine codeAny_call_function hr.depth (KX _ _ lk) rfl S.co S.gen rfl (PySem.W.codeRec_of KX hcd) (hb _ _ _ _ ?_)
 refine wpAny_newFunctionEnv_cells S.kind hkind fun env he s1 x=>?_
 subst he
 refine⟨lim.keeps x.toInCall.keep,codeAny_func ?_⟩
 obtain⟨t,ht,hq⟩:=hbody A outer s H vs Q E (hr.deeper _) hsp
 have I:Inv (QW CX P w K mg base N qual scope f cdv A outer s H E) [] (start N vs) H s1:=KP S hr.hd e0 hl r x
 refine wpAny_mono (ht [] s1 (start N vs) H _ I hq) (fun fl s' hs=>?_) fun e s' hs=>hs
 have fin:∀{σ':St}{H':Hp}{v:V}{u:Value},Inv (QW CX P w K mg base N qual scope f cdv A outer s H E) [] σ' H' s'->RelV v u->Q v H'->CE outer P w H s Q u s':=
  fun{σ' H' v u} J rv q=>⟨v,H',J.os,J.bare,J.base,J.hok,rv,q⟩
 cases fl with
 | ret u=>
  obtain⟨v,σ',H',J,rv,q⟩:=hs
  exact fin J rv q
 | next=>
  obtain⟨σ',H',J,q⟩:=hs
  exact fin (v:=V.non) (u:=Value.none) J rfl q
 | brk=>
  obtain⟨_,_,_,q⟩:=hs
  exact False.elim q
 | cont=>
  obtain⟨_,_,_,q⟩:=hs
  exact False.elim q
section
variable {X:Cx} {x:Str} {p pos:Pos} {e:Expr} {es:List Expr} {t:TA} {id T:String} {r:List V->Hp->VK->Prop}
def Ba(r:List V->Hp->VK->Prop)(t:TA):TE:=fun σ H Q=>t σ H fun vs H1=>r vs H1 Q
theorem Ni(hc:X2 X (.builtin id) r)(hg:Gl X x)(hm:X.mg x=none)(hv:bootBuiltins x=some (.builtin id))(ha:PA X (e::es) t)(hn:x≠"__name__":=by decide)(hdb:(x==("__debug__" : Str))=false:=by decide)
  (he:starEach (e::es) X.env=(false,eval e X.env)::starEach es X.env:=by rfl) (hpl:(backTo pos (starEach es X.env)).any (·.1)=false:=by rfl):PE X (.Call (.Name x p) (e::es) [] pos) (Ba r t):=by
 intro pins s σ H Q I h
 refine wpAny_Call_Name_kw (VN I hg hm hv ?_ hn hdb)
 exact PyProof.Rows.callWith_builtin1 (Y1 (ha pos pins s σ H _ I h) fun us s1 ⟨vs,H1,I1,r1,q1⟩=>hc pins s1 σ H1 vs us Q I1 r1 q1) he hpl
theorem Po(hc:X2 X (.type T) r)(hg:Gl X x)(hm:X.mg x=none)(hv:bootBuiltins x=some (.type T))(ha:PA X (e::es) t)(hn:x≠"__name__":=by decide)(hdb:(x==("__debug__" : Str))=false:=by decide)
  (he:starEach (e::es) X.env=(false,eval e X.env)::starEach es X.env:=by rfl) (hpl:(backTo pos (starEach es X.env)).any (·.1)=false:=by rfl):PE X (.Call (.Name x p) (e::es) [] pos) (Ba r t):=by
 intro pins s σ H Q I h
 refine wpAny_Call_Name_kw (VN I hg hm hv ?_ hn hdb)
 exact PyProof.Rows.callWith_type1 (Y1 (ha pos pins s σ H _ I h) fun us s1 ⟨vs,H1,I1,r1,q1⟩=>hc pins s1 σ H1 vs us Q I1 r1 q1) he hpl
end
end L2
namespace HT
open PySem PyProof.Rows
def lexLt:List Int->List Int->Bool
 | [],[]=>false
 | [],_::_=>true
 | _::_,[]=>false
 | x::xs,y::ys=>if x=y then lexLt xs ys else decide (x<y)
theorem lexLt_cons(x y:Int)(xs ys:List Int):lexLt (x::xs) (y::ys)=if x=y then lexLt xs ys else decide (x<y):=rfl
theorem QX:lexLt [] []=false:=rfl
theorem RT(y:Int)(ys:List Int):lexLt [] (y::ys)=true:=rfl
theorem RU(x:Int)(xs:List Int):lexLt (x::xs) []=false:=rfl
theorem J0(A:Around)(s:Shared)(a:Int)(t:Tok)(c:Int)(u:Tok):∃e,SeqAt.EqAt A s (.int a t) (.int c u) e/\(e=true↔a=c):=
 ⟨(a==c),SeqAt.EqAt.int_int a t c u,by simp⟩
theorem J1(A:Around)(s:Shared)(a:Int)(t:Tok)(c:Int)(u:Tok)(prog:Program)(w:World)(E:Value->Shared->Prop)(Q:Value->Shared->Prop)(h:Q (.bool (decide (a<c))) s) :
  wpAny (model prog w) A (richCompare .Lt (.int a t) (.int c u)) Q E s:=
 (PyProof.Rows.lt_int h:wpAny (model prog w) A (compareOp .Lt (.int a t) (.int c u)) Q E s)
section
open PySem.SeqAt
open PySem.AutoSeq1 (wpAny_loadPart')
open PySem.MeetsSeq PySem.MeetsSeq2 PySem.MeetsSeq3
theorem QY(l b:Addr)(items items2:Array Value)(n n2:Nat)(dd dd2:Option Addr)(sl sl2:Array (Option Value))(ns ms:List Int)(hi:IntsAre items.toList ns)(hj:IntsAre items2.toList ms) :
  Meets (Builtin.«tuple.__lt__» ⟨[.ref l,.ref b],[]⟩)
   (fun _ R s=>s.heap.get? l=some { cls:=.type "tuple",dict:=dd,data:=.seq items n,slots:=sl }/\s.heap.get? b=some { cls:=.type "tuple",dict:=dd2,data:=.seq items2 n2,slots:=sl2 }/\
    R (.ok (.ret (.bool (lexLt ns ms)))) s):=
 .of_wp fun prog w A R s h=>by
  obtain⟨hp,g,d,tk,os⟩:=s;obtain⟨hl,hb,h⟩:=h
  have f2:=AutoSeq1.sub_tuple_tuple
  have z1:items.size=ns.length:=by rw[<-hi.length];simp
  have z2:items2.size=ms.length:=by rw[<-hj.length];simp
  wp_walk using wpAny_loadPart' hl,wpAny_loadPart' hb,wpAny_forIn_list _ (fun Zx b s'=>b.1=none/\s'=⟨hp,g,d,tk,os⟩/\∃(vs ws:List Value) (ns' ms':List Int),Zx=vs.zip ws/\
   IntsAre vs ns'/\IntsAre ws ms'/\ns'.length+items2.size=ms'.length+items.size/\R (.ok (.ret (.bool (lexLt ns' ms')))) ⟨hp,g,d,tk,os⟩) _
  case turn=>
   rintro⟨y,x⟩ Zx b s' ⟨hb',rfl,vs,ws,ns',ms',hz,hvi,hwi,hlen,hR⟩
   cases hvi with
   | nil=>rw[List.zip_nil_left] at hz;cases hz
   | cons a t hvi'=>
    cases hwi with
    | nil=>rw[List.zip_nil_right] at hz;cases hz
    | cons c u hwi'=>
     rw[List.zip_cons_cons] at hz
     injection hz with hyx hrest
     injection hyx with hy hx
     subst hy hx
     rw[lexLt_cons] at hR;simp only[List.length_cons] at hlen
     obtain⟨e,he,hiff⟩:=J0 A.in1 ⟨hp,g,d,tk,os⟩ a t c u
     refine wpAny_bind (he prog w _ _ ?_)
     cases e with
     | true=>
      rw[if_pos (hiff.mp rfl)] at hR
      wp_walk
      exact⟨rfl,rfl,_,_,_,_,hrest,hvi',hwi',by omega,hR⟩
     | false=>
      rw[if_neg (fun q=>absurd (hiff.mpr q) Bool.false_ne_true)] at hR
      have hri:=J1 A.in1 ⟨hp,g,d,tk,os⟩ a t c u prog w
      wp_walk using hri
      exact⟨_,rfl,by simpa using hR⟩
  case fin=>
   rintro⟨b1,b2⟩ s' ⟨hb',rfl,vs,ws,ns',ms',hz,hvi,hwi,hlen,hR⟩
   simp only at hb'
   subst hb'
   have hv:lexLt ns' ms'=decide (items.size<items2.size):=by
    cases hvi with
    | nil=>
     cases hwi with
     | nil=>
      simp only[List.length_nil] at hlen;rw[QX]
      exact(decide_eq_false (by omega)).symm
     | cons c u hw=>
      simp only[List.length_nil,List.length_cons] at hlen;rw[RT]
      exact(decide_eq_true (by omega)).symm
    | cons a t hv=>
     cases hwi with
     | nil=>
      simp only[List.length_nil,List.length_cons] at hlen;rw[RU]
      exact(decide_eq_false (by omega)).symm
     | cons c u hw=>
      rw[List.zip_cons_cons] at hz;cases hz
   rw[hv] at hR
   wp_walk
   exact⟨_,rfl,by simpa [Builtin.Tuple.tupleCompareSizes] using hR⟩
  case h=>
   exact⟨rfl,rfl,items.toList,items2.toList,ns,ms,rfl,hi,hj,by omega,h⟩
end
section
variable {prog:Program} {w:World} {A:Around} {E:Value->Shared->Prop} {s:Shared}
theorem lt_tupInts{l b:Addr}{items items2:Array Value}{ns ms:List Int}{Q:Value->Shared->Prop}(hl:IsTup s.heap l items)(hb:IsTup s.heap b items2)(hi:IntsAre items.toList ns)(hj:IntsAre items2.toList ms)
  (hu:A.units<cLine) (h:Q (.bool (lexLt ns ms)) s):wpAny (model prog w) A (compareOp .Lt (.ref l) (.ref b)) Q E s:=by
 obtain⟨⟨cls,dd,data,sl⟩,ho,hc,n,hd⟩:=id hl
 obtain⟨⟨cls2,dd2,data2,sl2⟩,ho2,hc2,n2,hd2⟩:=id hb
 simp only at hc hd hc2 hd2
 subst hc hd hc2 hd2
 exact richCompare_meets_room (op:=.Lt) ⟨_,ho,rfl⟩ ⟨_,ho2,rfl⟩ PySem.F.slot_tuple_lt PySem.F.entry_tuple_lt (PySem.F.args_tuple_lt_2 _ _) (QY l b items items2 n n2 dd dd2 sl sl2 ns ms hi hj)
  ⟨ho,ho2,show Value.bool (lexLt ns ms)≠Value.notImplemented/\Q (.bool (lexLt ns ms)) s from⟨(fun x=>nomatch x),h⟩⟩ hu
theorem cat_tup{t b:Addr}{vs ws:List Value}{Q:Value->Shared->Prop}(ht:IsTup s.heap t vs.toArray)(hb:IsTup s.heap b ws.toArray)(hv:vs≠[])
  (h1:ws=[]->Q (.ref t) s) (h2:ws≠[]->Q (.ref s.heap.objs.size) { s with heap:=s.heap.push { cls:=.type "tuple",data:=.seq (vs++ws).toArray } })
  (hsz:vs.length+ws.length<=sizeLine):wpAny (model prog w) A (binaryOp .Add (.ref t) (.ref b)) Q E s:=by
 obtain⟨⟨cls,dd,data,sl⟩,ho,hc,n,hd⟩:=id ht
 obtain⟨⟨cls2,dd2,data2,sl2⟩,ho2,hc2,n2,hd2⟩:=id hb
 simp only at hc hd hc2 hd2
 subst hc hd hc2 hd2
 have e:vs.toArray++ws.toArray=(vs++ws).toArray:=by simp
 by_cases hw:ws=[]
 ·exact concat_meets ⟨_,ho,rfl⟩ ⟨_,ho2,rfl⟩ noFill_tuple_add seq_tuple_add PySem.F.slot_tuple_add PySem.F.entry_tuple_add (PySem.F.args_tuple_add_2 _ _)
   (tuple_addW1 t b vs.toArray ws.toArray n n2 dd dd2 sl sl2 (by simpa using hv) (by simp[hw])) ⟨ho,ho2,h1 hw⟩
 ·refine concat_meets ⟨_,ho,rfl⟩ ⟨_,ho2,rfl⟩ noFill_tuple_add seq_tuple_add PySem.F.slot_tuple_add PySem.F.entry_tuple_add (PySem.F.args_tuple_add_2 _ _)
   (tuple_addW2 t b vs.toArray ws.toArray n n2 dd dd2 sl sl2 (by simpa using hv) (by simpa using hw) (by rw[List.size_toArray,List.size_toArray];exact hsz)) ⟨ho,ho2,?_⟩
  rw[e]
  exact h2 hw
def sIx(n d:Nat):Option Int->Nat
 | none=>d
 | some v=>if v<0 then(v+(n:Int)).toNat else min v.toNat n
theorem sIx_nat(n d k:Nat):sIx n d (some (k:Int))=min k n:=by
 show(if(k:Int)<0 then((k:Int)+(n:Int)).toNat else min (k:Int).toNat n)=min k n
 rw[if_neg (by omega),Int.toNat_natCast]
end
end HT
namespace L2
open PySem PySem.Spec PyProof.Rows
abbrev TO:=St->Hp->(Option Int->Hp->Prop)->Prop
def PO(X:Cx)(e:Option Expr)(t:TO):Prop:=
 ∀(pins:List (Addr×Obj))(s:Shared)(σ:St)(H:Hp)(Q:Option Int->Hp->Prop),Inv X pins σ H s->t σ H Q->
  wpAny (model X.prog X.w) X.A (evalPart e X.env) (fun u s'=>∃o H',Inv X pins σ H' s'/\IsPart u o/\Q o H') X.xe s
def Cy(t:TE):TO:=fun σ H Q=>t σ H fun x H1=>∃i,x = .int i/\Q (some i) H1
theorem Td{ns:List Int}:∀{us:List Value},Vals (ns.map V.int) us->IntsAre us ns:=by
 induction ns with
 | nil=>intro us r;rw[List.map_nil] at r;cases r;exact .nil
 | cons n ns ih=>
  intro us r;rw[List.map_cons] at r
  cases r with
  | cons r1 r2=>
   obtain⟨t,e⟩:=r1
   subst e
   exact .cons n t (ih r2)
section
variable {X:Cx} {e:Expr} {te:TE} {lo hi:Option Expr} {tl th:TO} {pos p2:Pos}
theorem GA(h:PE X e te):PO X (some e) (Cy te):=by
 intro pins s σ H Q I hw;rw[evalPart_some]
 refine Y1 (h pins s σ H _ I hw) fun u s1 ⟨x,H1,I1,r1,q1⟩=>?_
 obtain⟨i,rfl,q⟩:=q1
 obtain⟨t,rfl⟩:=r1
 exact⟨some i,H1,I1,.int i t,q⟩
def BP(X:Cx)(r:V->Option Int->Option Int->Hp->VK->Prop):Prop:=
 ∀(pins:List (Addr×Obj))(s:Shared)(σ:St)(H:Hp)(x:V)(v vl vu:Value)(lo hi:Option Int)(sl:Addr)(Q:VK),Inv X pins σ H s->RelV x v->s.heap.IsSliceOf sl vl vu .none->IsPart vl lo->IsPart vu hi->r x lo hi H Q->
  ∃T id,typeLookup (.type T) "__getitem__" = pure (some (.builtin id))/\s.TypeIs v T/\wpAny (model X.prog X.w) X.A (getItem v (.ref sl)) (EP X pins σ Q) X.xe s
def BX(r:V->Option Int->Option Int->Hp->VK->Prop)(te:TE)(tl th:TO):TE:=fun σ H Q=>te σ H fun x H1=>tl σ H1 fun l H2=>th σ H2 fun u H3=>r x l u H3 Q
theorem J2{r:V->Option Int->Option Int->Hp->VK->Prop}(hr:BP X r)(he:PE X e te)(hl:PO X lo tl)(hu:PO X hi th):PE X (.Subscript e (.Slice lo hi none p2) pos) (BX r te tl th):=by
 intro pins s σ H Q I h
 refine Subscript_ (Y1 (he pins s σ H _ I h) fun v s1 ⟨x,H1,I1,r1,q1⟩=>?_)
 refine wpAny_Slice (Y1 (hl pins s1 σ H1 _ I1 q1) fun vl s2 ⟨l,H2,I2,pl,q2⟩=>Y1 (hu pins s2 σ H2 _ I2 q2) fun vu s3 ⟨u,H3,I3,pu,q3⟩=>?_)
 rw[evalPart_none]
 refine wpAny_pure ?_
 have I4:Inv X pins σ H3 { s3 with heap:=s3.heap.push { cls:=.type "slice",data:=.fields #[vl,vu,.none] } }:=I3.kept (t':=s3.toks) fun b ob q=>Heap.get?_push_of_some _ q
 obtain⟨T,id,hT,ht,hg⟩:=hr pins { s3 with heap:=s3.heap.push { cls:=.type "slice",data:=.fields #[vl,vu,.none] } } σ H3 x v vl vu l u s3.heap.objs.size Q I4 r1 (Heap.IsSliceOf.new ..) pl pu q3
 show wpAny (model X.prog X.w) X.A (subscriptTail e (.Slice lo hi none p2) v (.ref s3.heap.objs.size)) (EP X pins σ Q) X.xe { s3 with heap:=s3.heap.push { cls:=.type "slice",data:=.fields #[vl,vu,.none] } }
 exact tail_any (ops:=[.ref s3.heap.objs.size,v]) ht hT hg (by with_unfolding_all rfl)
def KQ(xs:List V)(lo hi:Option Int):List V:=(xs.drop (HT.sIx xs.length 0 lo)).take (HT.sIx xs.length xs.length hi-HT.sIx xs.length 0 lo)
theorem Nj(xs:List V)(lo hi:Option Int):(KQ xs lo hi).length<=xs.length:=by
 unfold KQ;rw[List.length_take,List.length_drop];omega
def Cz(K:PySem.W.Frag):R2:=fun x y H Q=>∃a b ns ms,x = .ref a/\y = .ref b/\SqT K H a (ns.map V.int)/\SqT K H b (ms.map V.int)/\Q (.bl (HT.lexLt ns ms)) H
theorem EY(hu:X.A.units<cLine):UJ X (compareOp .Lt) (Cz X.K):=by
 intro pins s σ H x y v u Q I rx ry h
 obtain⟨a,b,ns,ms,rfl,rfl,ha,hb,q⟩:=h
 cases rx;cases ry
 obtain⟨its,r1,p1,_⟩:=I.tuple ha
 obtain⟨its2,r2,p2,_⟩:=I.tuple hb
 have i1:IntsAre its.toArray.toList ns:=Td r1
 have i2:IntsAre its2.toArray.toList ms:=Td r2
 exact HT.lt_tupInts p1 p2 i1 i2 hu ⟨.bl (HT.lexLt ns ms),H,I,rfl,q⟩
def CA(K:PySem.W.Frag):R2:=fun x y H Q=>∃a b xs ys,x = .ref a/\y = .ref b/\SqT K H a xs/\SqT K H b ys/\xs≠[]/\xs.length+ys.length<=sizeLine/\
 (ys=[]->Q (.ref a) H)/\(ys≠[]->∀p,H p=none->Q (.ref p) (upd H p (.tup (xs++ys))))
theorem Vals.nil_iff{xs:List V}{us:List Value}(r:Vals xs us):us=[]↔xs=[]:=by
 cases r with
 | nil=>simp
 | cons _ _=>simp
theorem GB:UJ X (binaryOp .Add) (CA X.K):=by
 intro pins s σ H x y v u Q I rx ry h
 obtain⟨a,b,xs,ys,rfl,rfl,ha,hb,hx,hz,q1,q2⟩:=h
 cases rx;cases ry
 obtain⟨its,r1,p1,_⟩:=I.tuple ha
 obtain⟨its2,r2,p2,_⟩:=I.tuple hb
 refine HT.cat_tup p1 p2 (fun z=>hx (r1.nil_iff.mp z)) (fun z=>⟨.ref a,H,I,rfl,q1 (r2.nil_iff.mp z)⟩) (fun z=>?_) (by rw[<-r1.length,<-r2.length];exact hz)
 refine⟨.ref s.heap.objs.size,_,I.laid (t':=s.toks) (o:=.tup (xs++ys)) (fun b ob q=>Heap.get?_push_of_some _ q) (Nat.le_refl _) ?_,rfl,q2 (fun w=>z (r2.nil_iff.mpr w)) _ (I.hok.fresh (Nat.le_refl _))⟩
 exact⟨by rw[List.length_append];exact hz,_,r1.append r2,IsTup.new _ _⟩
end
def Mj(n:Nat)(i:Int):Option Nat:=if 0<=i then(if i<n then some i.toNat else none) else if -(n:Int)<=i then some (i+n).toNat else none
def VH{α:Type}(xs:List α)(i:Int):Option α:=(Mj xs.length i).bind fun j=>xs[j]?
theorem Ls{n:Nat}{i:Int}{j:Nat}(h:Mj n i=some j):seqIndex? i n=some j/\j<n/\-(n:Int)<=i/\i<n:=by
 unfold Mj at h
 by_cases h0:0<=i
 ·rw[if_pos h0] at h
  by_cases h1:i<n
  ·rw[if_pos h1] at h
   have e:i.toNat=j:=Option.some.inj h
   exact⟨by rw[seqIndex_of h0 h1,e],by omega,by omega,h1⟩
  ·rw[if_neg h1] at h;cases h
 ·rw[if_neg h0] at h
  by_cases h1 : -(n:Int)<=i
  ·rw[if_pos h1] at h
   have e:(i+n).toNat=j:=Option.some.inj h
   exact⟨by rw[seqIndex_neg (by omega) h1,e],by omega,h1,by omega⟩
  ·rw[if_neg h1] at h;cases h
theorem Og{α:Type}{xs:List α}{i:Int}{v:α}(h:VH xs i=some v):∃j,seqIndex? i xs.length=some j/\xs[j]?=some v/\j<xs.length/\-(xs.length:Int)<=i/\i<xs.length:=by
 unfold VH at h
 cases e:Mj xs.length i with
 | none=>rw[e] at h;cases h
 | some j=>
  rw[e] at h
  obtain⟨h1,h2,h3,h4⟩:=Ls e
  exact⟨j,h1,h,h2,h3,h4⟩
theorem W4{α:Type}{xs:List α}{j:Nat}{v:α}(h:xs[j]?=some v):VH xs (j:Int)=some v:=by
 have hj:j<xs.length:=(List.getElem?_eq_some_iff.mp h).1
 have e:Mj xs.length (j:Int)=some j:=by
  unfold Mj
  rw[if_pos (by omega),if_pos (by omega)];simp
 unfold VH;rw[e];exact h
def Oh(b:Expr):Prop:=∀o i,subscripted b false o i=operate [o,i] (getItem o i)
def IxR(X:Cx)(r:R2):Prop:=
 ∀(value slice:Expr)(pins:List (Addr×Obj))(s:Shared)(σ:St)(H:Hp)(x y:V)(v u:Value)(Q:VK),Inv X pins σ H s->RelV x v->RelV y u->r x y H Q->
  subscripted slice false v u=operate [v,u] (getItem v u)->wpAny (model X.prog X.w) X.A (subscriptTail value slice v u) (EP X pins σ Q) X.xe s
def BY(X:Cx)(id:String)(r:V->List V->Hp->VK->Prop):Prop:=
 ∀(pins:List (Addr×Obj))(s:Shared)(σ:St)(H:Hp)(x:V)(xs:List V)(v:Value)(us:List Value)(Q:VK),Inv X pins σ H s->RelV x v->Vals xs us->r x xs H Q->
  wpAny (model X.prog X.w) X.A (call (.builtin id) (v::us)) (EP X pins σ Q) X.xe s
section
variable {X:Cx} {a b:Expr} {ta tb:TE} {pos:Pos}
theorem IxR.or{r r':R2}(h:IxR X r)(h':IxR X r'):IxR X (fun x y H Q=>r x y H Q\/r' x y H Q):=by
 intro value slice pins s σ H x y v u Q I rx ry q hs
 rcases q with q | q
 ·exact h value slice pins s σ H x y v u Q I rx ry q hs
 ·exact h' value slice pins s σ H x y v u Q I rx ry q hs
theorem Pp{r:R2}(hr:IxR X r)(ha:PE X a ta)(hb:PE X b tb)(hs:Oh b):PE X (.Subscript a b pos) (EO r ta tb):=by
 intro pins s σ H Q I h
 exact Subscript_ (ER ha hb I h fun v u s2 x y H2 I2 rx ry q=>hr a b pins s2 σ H2 x y v u Q I2 rx ry q (hs _ _))
def GC(K:PySem.W.Frag):R2:=fun x y H Q=>∃p xs i v,x = .ref p/\y = .int i/\SqL K H p xs/\VH xs i=some v/\Q v H
def CB(K:PySem.W.Frag):R2:=fun x y H Q=>∃p xs i v,x = .ref p/\y = .int i/\SqT K H p xs/\VH xs i=some v/\Q v H
def CC:R2:=fun x y H Q=>∃z i c,x = .str z/\y = .int i/\z.length<=sizeLine/\VH z.cps.toList i=some c/\Q (.str ⟨#[c]⟩) H
theorem ix_list:IxR X (GC X.K):=by
 intro value slice pins s σ H x y v u Q I rx ry h hs
 obtain⟨p,xs,i,z,rfl,rfl,hq,he,q⟩:=h
 cases rx
 obtain⟨t,rfl⟩:=ry
 obtain⟨its,r,pl,hz⟩:=I.list hq
 obtain⟨j,h1,h2,h3,h4,h5⟩:=Og he
 obtain⟨w,ew,Yd⟩:=r.get h2
 have hl:=r.length;have hn:=Su
 have fin:EP X pins σ Q w s:=⟨z,H,I,Yd,q⟩
 by_cases h0:0<=i
 ·have hj:i.toNat=j:=by
   rw[seqIndex_of h0 h5] at h1
   exact Option.some.inj h1
  exact item_listR pl.isList h0 (by omega) (by rw[hj];simpa using ew) fin hs
 ·have hj:(i+(its.toArray.size:Int)).toNat=j:=by
   rw[seqIndex_neg (by omega) h4] at h1;rw[List.size_toArray,<-hl]
   exact Option.some.inj h1
  exact subscriptTail_builtinR (x:=w) pl.isList.typeIs slot_list_getitem.lookup
   (wpAny_getItem_list_neg (Q:=fun r s'=>r=w/\EP X pins σ Q r s') pl.isList (by omega) (by rw[List.size_toArray]<;>omega) (by omega) (by rw[hj];simpa using ew) ⟨rfl,fin⟩) hs
theorem ix_tup:IxR X (CB X.K):=by
 intro value slice pins s σ H x y v u Q I rx ry h hs
 obtain⟨p,xs,i,z,rfl,rfl,hq,he,q⟩:=h
 cases rx
 obtain⟨t,rfl⟩:=ry
 obtain⟨its,r,pl,hz⟩:=I.tuple hq
 obtain⟨j,h1,h2,h3,h4,h5⟩:=Og he
 obtain⟨w,ew,Yd⟩:=r.get h2
 have hl:=r.length;have hn:=Su
 have fin:EP X pins σ Q w s:=⟨z,H,I,Yd,q⟩
 exact subscriptTail_builtinR (x:=w) pl.typeIs slot_tuple_getitem.lookup
  (getItem_tuple (j:=j) (Q:=fun r s'=>r=w/\EP X pins σ Q r s') pl (by omega) (by omega) (by rw[List.size_toArray,<-hl];exact h1) (by simpa using ew) ⟨rfl,fin⟩) hs
theorem EZ:IxR X CC:=by
 intro value slice pins s σ H x y v u Q I rx ry h hs
 obtain⟨z,i,c,rfl,rfl,hz,he,q⟩:=h
 obtain⟨t,rfl⟩:=rx
 obtain⟨t',rfl⟩:=ry
 obtain⟨j,h1,h2,h3,h4,h5⟩:=Og he
 have hl:z.cps.toList.length=z.length:=by simp[Str.length]
 rw[hl] at h1 h4 h5
 have hn:=Su
 exact tail_any (typeIs_str s z t) slot_str_getitem.lookup (getItem_str (c:=c) (by
  have e1:decide (i < -(2^63:Int))=false:=decide_eq_false (by omega)
  have e2:decide (i ≥ 2^63)=false:=decide_eq_false (by omega)
  rw[e1,e2,Bool.or_false]) (by rw[h1];simpa using h2) ⟨.str ⟨#[c]⟩,H,I.tok _,⟨_,rfl⟩,q⟩) hs
def BQ(K:PySem.W.Frag):R2:=fun x y H Q=>GC K x y H Q\/CB K x y H Q\/CC x y H Q
theorem E1:IxR X (BQ X.K):=ix_list.or (ix_tup.or EZ)
theorem Mu(its:List Value)(n j:Nat)(u:Value):Obj.mapSeq (·.setIfInBounds j u) { cls:=.type "list",data:=.seq its.toArray n }={ cls:=.type "list",data:=.seq (its.set j u).toArray n }:=by
 simp[Obj.mapSeq]
theorem Inv.lst{pins:List (Addr×Obj)}{σ:St}{H:Hp}{s:Shared}{p:Addr}{xs:List V}(I:Inv X pins σ H s)(h:H p=some (.lst xs)) :
  ∃(its:List Value) (n:Nat),Vals xs its/\s.heap.get? p=some { cls:=.type "list",data:=.seq its.toArray n }/\xs.length<=sizeLine:=by
 obtain⟨z,its,n,r,e⟩:=I.hok p _ h
 exact⟨its,n,r,e,z⟩
theorem Inv.lstUpd{pins:List (Addr×Obj)}{σ:St}{H:Hp}{s:Shared}{p:Addr}{xs ys:List V}{its its':List Value}{n n':Nat}{f:Obj->Obj}(I:Inv X pins σ H s)(h:H p=some (.lst xs))
  (ho:s.heap.get? p=some { cls:=.type "list",data:=.seq its.toArray n }) (hf:f { cls:=.type "list",data:=.seq its.toArray n }={ cls:=.type "list",data:=.seq its'.toArray n' }) (r:Vals ys its') (hz:ys.length<=sizeLine) (t:Nat) :
  Inv X pins σ (upd H p (.lst ys)) { s with heap:=s.heap.update p f,toks:=t }:=by
 have e:(s.heap.update p f).get? p=some { cls:=.type "list",data:=.seq its'.toArray n' }:=by
  rw[Heap.get?_update_self f ho (by rw[hf]<;>rfl),hf]
 refine I.write (x:=p) (e:=p) (by rw[h];trivial) (.inl rfl) (fun b u hb q=>(Heap.get?_update_other _ _ (Ne.symm hb)).trans q) ⟨_,e⟩ ?_
 exact⟨hz,its',n',r,e⟩
def Ed:V->V->V->Hp->(Hp->Prop)->Prop:=fun o i v H Q=>∃p xs k j,o = .ref p/\i = .int k/\H p=some (.lst xs)/\Mj xs.length k=some j/\Q (upd H p (.lst (xs.set j v)))
theorem TJ:Cf X Ed:=by
 intro pins s σ H o i v ov iv u Q I ro ri rv h
 obtain⟨p,xs,k,j,rfl,rfl,hp,hj,q⟩:=h
 cases ro
 obtain⟨t,rfl⟩:=ri
 obtain⟨its,n,r,ho,hz⟩:=I.lst hp
 obtain⟨h1,h2,h3,h4⟩:=Ls hj
 have hl:=r.length;have hn:=Su
 have I':Inv X pins σ (upd H p (.lst (xs.set j v))) { s with heap:=s.heap.update p (Obj.mapSeq (·.setIfInBounds j u)) }:=
  I.lstUpd hp ho (Mu its n j u) (r.set rv j) (by rw[List.length_set];exact hz) s.toks
 by_cases h0:0<=k
 ·have hk:k.toNat=j:=by
   rw[seqIndex_of h0 h4] at h1
   exact Option.some.inj h1
  exact PySem.W.ki_setAt ho h0 (by omega) (by rw[List.size_toArray,<-hl];exact h4) (by rw[hk];exact⟨_,I',q⟩)
 ·have hk:(k+(its.toArray.size:Int)).toNat=j:=by
   rw[seqIndex_neg (by omega) h3] at h1;rw[List.size_toArray,<-hl]
   exact Option.some.inj h1
  exact PySem.W.ki_setBack ho (by omega) (by rw[List.size_toArray,<-hl];exact h3) (by omega) (by rw[hk];exact⟨_,I',q⟩)
theorem Oi(lo hi:Option Int)(n:Nat):(sliceBounds lo hi none n).1=((HT.sIx n 0 lo:Nat):Int)/\(sliceBounds lo hi none n).2.1=((HT.sIx n n hi:Nat):Int)/\(sliceBounds lo hi none n).2.2=1:=by
 refine⟨?_,?_,rfl⟩
 ·cases lo with
  | none=>simp[sliceBounds,HT.sIx]
  | some i=>
   simp only[sliceBounds,HT.sIx,Option.getD_none,show(1:Int)>0 by decide,if_true]
   by_cases h:i<0
   ·simp only[h,if_true]<;>omega
   ·simp only[h,if_false]<;>omega
 ·cases hi with
  | none=>simp[sliceBounds,HT.sIx]
  | some i=>
   simp only[sliceBounds,HT.sIx,Option.getD_none,show(1:Int)>0 by decide,if_true]
   by_cases h:i<0
   ·simp only[h,if_true]<;>omega
   ·simp only[h,if_false]<;>omega
theorem QZ(its:List Value)(lo hi:Option Int):slicePick its.toArray lo hi none=((its.drop (HT.sIx its.length 0 lo)).take (HT.sIx its.length its.length hi-HT.sIx its.length 0 lo)).toArray:=by
 obtain⟨h1,h2,h3⟩:=Oi lo hi its.toArray.size
 unfold slicePick;rw[h1,h2,h3]
 simp only[sliceRange_one,pick_run,List.size_toArray]<;>rfl
def Bz(K:PySem.W.Frag):V->Option Int->Option Int->Hp->VK->Prop:=fun x lo hi H Q=>∃a xs,x = .ref a/\SqL K H a xs/\∀p,H p=none->Q (.ref p) (upd H p (.lst (KQ xs lo hi)))
theorem GD:BP X (Bz X.K):=by
 intro pins s σ H x v vl vu lo hi sl Q I rx hs pl pu h
 obtain⟨a,xs,rfl,hx,q⟩:=h
 cases rx
 obtain⟨its,r,ht,hz⟩:=I.list hx
 have hlen:=r.length
 refine⟨"list",_,slot_list_getitem.lookup,ht.isList.typeIs,?_⟩
 refine wpAny_getItem_list_slice ht.isList hs pl pu .none (by simp) ?_ (by rw[List.size_toArray]<;>omega)
 rw[QZ,<-hlen]
 refine⟨.ref s.heap.objs.size,_,I.laid (t':=s.toks) (o:=.lst (KQ xs lo hi)) (fun b ob q=>Heap.get?_push_of_some _ q) (Nat.le_refl _) ?_,rfl,q _ (I.hok.fresh (Nat.le_refl _))⟩
 exact⟨Nat.le_trans (Nj xs lo hi) hz,_,0,(r.drop (HT.sIx xs.length 0 lo)).take (HT.sIx xs.length xs.length hi-HT.sIx xs.length 0 lo),Heap.get?_push_size _ rfl⟩
theorem VQ:X2 X (.type "list") (fun xs H Q=>∃p ys,xs=[.ref p]/\(SqL X.K H p ys\/SqT X.K H p ys)/\∀l,H l=none->Q (.ref l) (upd H l (.lst ys))):=by
 intro pins s σ H xs us Q I r h
 obtain⟨p,ys,rfl,hq,q⟩:=h
 obtain⟨u,rfl,rx⟩:=U7 r
 cases rx
 have fin:∀(its:List Value),Vals ys its->ys.length<=sizeLine->∀(h':Heap)(c':Nat),(∀b o',s.heap.get? b=some o'->h'.get? b=some o')->
   h'.get? s.heap.objs.size=some { cls:=.type "list",dict:=none,data:=.seq its.toArray c',slots:=#[] }->EP X pins σ Q (.ref s.heap.objs.size) { s with heap:=h' }:=fun its r' hz h' c' kp e=>
  ⟨.ref s.heap.objs.size,_,I.laid (t':=s.toks) kp (Nat.le_refl _) (show ObjOk X.prog X.w _ h' _ (.lst ys) from⟨hz,its,c',r',e⟩),rfl,q _ (I.hok.fresh (Nat.le_refl _))⟩
 rcases hq with hq | hq
 ·obtain⟨its,r',pl,hz⟩:=I.list hq
  have hlen:=r'.length
  obtain⟨o,ho,hc,n,hd⟩:=pl.isList
  exact call_list_seq p (.inl rfl) ho hc hd (fun h' c' kp e=>fin its r' hz h' c' kp e) (by simp only[List.size_toArray]<;>omega)
 ·obtain⟨its,r',pl,hz⟩:=I.tuple hq
  have hlen:=r'.length
  obtain⟨o,ho,hc,n,hd⟩:=pl
  exact call_list_seq p (.inr rfl) ho hc hd (fun h' c' kp e=>fin its r' hz h' c' kp e) (by simp only[List.size_toArray]<;>omega)
theorem Yf:X2 X (.type "tuple") (fun xs H Q=>∃p ys,xs=[.ref p]/\((SqL X.K H p ys/\∀l,H l=none->Q (.ref l) (upd H l (.tup ys)))\/(SqT X.K H p ys/\Q (.ref p) H))):=by
 intro pins s σ H xs us Q I r h
 obtain⟨p,ys,rfl,h⟩:=h
 obtain⟨u,rfl,rx⟩:=U7 r
 cases rx
 rcases h with⟨hq,q⟩ | ⟨hq,q⟩
 ·obtain⟨its,r',pl,hz⟩:=I.list hq
  have hlen:=r'.length
  refine call_tuple_list pl.isList (fun h' kp=>?_) (by simp only[List.size_toArray]<;>omega)
  have I1:Inv X pins σ H { s with heap:=h' }:=I.kept (t':=s.toks) kp
  have I2:Inv X pins σ (upd H h'.objs.size (.tup ys)) { s with heap:=h'.push { cls:=.type "tuple",data:=.seq its.toArray } }:=
   I1.laid (t':=s.toks) (fun b o e=>Heap.get?_push_of_some _ e) (Nat.le_refl _) (show ObjOk X.prog X.w _ _ _ (.tup ys) from⟨hz,its,r',IsTup.new _ _⟩)
  exact⟨.ref h'.objs.size,_,I2,rfl,q _ (I1.hok.fresh (Nat.le_refl _))⟩
 ·obtain⟨its,r',pl,hz⟩:=I.tuple hq
  exact call_tuple_same pl ⟨.ref p,H,I,rfl,q⟩
def BA(K:PySem.W.Frag)(T:String)(x:V)(H:Hp):Prop:=match x with
 | .str _=>T = "str"
 | .int _=>T = "int"
 | .ref p=>(T = "list"/\∃xs,SqL K H p xs)\/(T = "tuple"/\∃o,K.lookup p=some o/\o.cls = .type "tuple"/\o.dict=none)\/
   (T = "dict"/\((∃kvs,H p=some (.dK kvs))\/∃kvs,H p=some (.dT kvs)))\/(T = "set"/\∃S n,H p=some (.set S n))
 | _=>False
theorem E2{pins:List (Addr×Obj)}{σ:St}{H:Hp}{s:Shared}{T:String}{x:V}{v:Value}(I:Inv X pins σ H s)(r:RelV x v)(ty:BA X.K T x H) :
  s.TypeIs v T/\∀a,v = .ref a->∃ob,s.heap.get? a=some ob/\ob.dict=none:=by
 cases x with
 | str z=>
  obtain⟨t,rfl⟩:=r
  cases (show T = "str" from ty)
  exact⟨typeIs_str s z t,fun _ e=>nomatch e⟩
 | int i=>
  obtain⟨t,rfl⟩:=r
  cases (show T = "int" from ty)
  exact⟨typeIs_int s i t,fun _ e=>nomatch e⟩
 | ref p=>
  cases r
  rcases ty with⟨rfl,xs,hq⟩ | ⟨rfl,o,hk,hc,hd⟩ | ⟨rfl,hk⟩ | ⟨rfl,S,n,hk⟩
  ·obtain⟨its,_,pl,_⟩:=I.list hq
   refine⟨pl.isList.typeIs,fun a e=>?_⟩
   cases e
   obtain⟨o,n,e,c,hd,_⟩:=pl
   exact⟨o,e,hd⟩
  ·refine⟨⟨o,I.kIn p o hk,hc⟩,fun a e=>?_⟩
   cases e
   exact⟨o,I.kIn _ o hk,hd⟩
  ·have z:∃o,s.heap.get? p=some o/\o.ExactDict:=by
    rcases hk with⟨kvs,hk⟩ | ⟨kvs,hk⟩
    ·obtain⟨_,_,_,_,o,_,_,e,ex,_⟩:=I.hok p _ hk
     exact⟨o,e,ex⟩
    ·obtain⟨_,_,_,_,o,_,_,e,ex,_⟩:=I.hok p _ hk
     exact⟨o,e,ex⟩
   obtain⟨o,e,ex⟩:=z
   refine⟨⟨o,e,ex.1⟩,fun a e2=>?_⟩
   cases e2
   exact⟨o,e,ex.2.1⟩
  ·obtain⟨o,_,_,_,e,ex,_⟩:=I.hok p _ hk
   refine⟨⟨o,e,ex.1⟩,fun a e2=>?_⟩
   cases e2
   exact⟨o,e,ex.2.1⟩
 | _=>exact False.elim ty
def Bb(K:PySem.W.Frag)(T:String)(r:V->List V->Hp->VK->Prop)(to:TE)(t:TA):TE:=fun σ H Q=>to σ H fun x H1=>BA K T x H1/\t σ H1 fun xs H2=>r x xs H2 Q
variable {o e:Expr} {es:List Expr} {to:TE} {t:TA} {name:Str} {apos cpos:Pos} {T id:String} {r:V->List V->Hp->VK->Prop}
theorem S3(pa:PlainAttrs T)(slot:Slot T name id)(hty:typeOf (.builtin id)=pure (.type "method_descriptor"))(hm:BY X id r)(ho:PE X o to)(ha:PA X (e::es) t)
  (hbase:attributeBase o name X.env (eval o X.env)=eval o X.env:=by rfl)
  (hfew:((backTo cpos (starEach (e::es) X.env)).all (fun x=>!x.1)&&(backToKw cpos (keywordEach [] X.env)).all (fun x=>x.1.isSome)
   &&decide ((e::es).length+([]:List Keyword).length+(if([]:List Keyword).isEmpty then 0 else 1)<30))=true:=by rfl)
  (hline:(apos.endLine==cpos.line)=true:=by rfl) (hs:starEach (e::es) X.env=(false,eval e X.env)::starEach es X.env:=by rfl) (hplain:(backTo cpos (starEach es X.env)).any (·.1)=false:=by rfl) :
  PE X (.Call (.Attribute o name apos) (e::es) [] cpos) (Bb X.K T r to t):=by
 intro pins s σ H Q I h
 refine wpAny_Call_method_late hbase hfew hline rfl (Y1 (ho pins s σ H _ I h) fun v s1 ⟨x,H1,I1,r1,ty,q1⟩=>?_)
 obtain⟨h1,h2⟩:=E2 I1 r1 ty
 refine⟨T,id,pa,slot,hty,h1,h2,?_⟩
 have hA:=ha cpos pins s1 σ H1 _ I1 q1
 rw[hs] at hA ⊢
 refine Calls.callWith_builtin (by show(false || (backTo cpos (starEach es X.env)).any (·.1))=false;rw[hplain]<;>rfl) (Calls.evalArgs_plain ?_)
 exact Y1 hA fun us s2 ⟨vs,H2,I2,r2,q2⟩=>hm pins s2 σ H2 x vs v us Q I2 r1 r2 q2
end
def BB(X:Cx)(id:String)(r:V->List V->Hp->VK->Prop):Prop:=
 ∀(pins:List (Addr×Obj))(s:Shared)(σ:St)(H:Hp)(x:V)(xs:List V)(v:Value)(us:List Value)(Q:VK),Inv X pins σ H s->RelV x v->Vals xs us->r x xs H Q->
  wpAny (model X.prog X.w) X.A (call (.builtin id) (v::us)) (EP X pins σ Q) X.xe s
theorem Vals.one:∀{x:V}{us:List Value},Vals [x] us->∃u,us=[u]/\RelV x u
 | _,_,.cons r .nil=>⟨_,rfl,r⟩
theorem Vals.two:∀{x y:V}{us:List Value},Vals [x,y] us->∃u v,us=[u,v]/\RelV x u/\RelV y v
 | _,_,_,.cons r (.cons q .nil)=>⟨_,_,rfl,r,q⟩
theorem Vals.dropLast{xs:List V}{us:List Value}(h:Vals xs us):Vals xs.dropLast us.dropLast:=by
 induction h with
 | nil=>exact .nil
 | cons r t ih=>
  cases t with
  | nil=>exact .nil
  | cons q t'=>exact .cons r ih
theorem Vals.rep{xs:List V}{us:List Value}(h:Vals xs us):∀k:Nat,Vals (List.replicate k xs).flatten (List.replicate k us).flatten
 | 0=>.nil
 | k+1=>by
  rw[List.replicate_succ,List.replicate_succ,List.flatten_cons,List.flatten_cons]
  exact Vals.append h (Vals.rep h k)
theorem Pq(its:List Value):∀(k:Nat)(acc:List Value),
  List.foldl (fun x1 x2=>x1++x2) acc.toArray (List.replicate k its.toArray)=(acc++(List.replicate k its).flatten).toArray
 | 0,acc=>by simp
 | k+1,acc=>by
  have e:acc.toArray++its.toArray=(acc++its).toArray:=by simp
  have e2:(acc++its)++(List.replicate k its).flatten=acc++(List.replicate (k+1) its).flatten:=by
   rw[List.replicate_succ,List.flatten_cons,List.append_assoc]
  rw[<-e2,<-Pq its k (acc++its),<-e,List.replicate_succ,List.foldl_cons]
section
variable {X:Cx} {pins:List (Addr×Obj)} {σ:St} {H:Hp} {s:Shared} {l b:Addr} {xs ys zs:List V}
theorem Inv.lset{its its':List Value}{n:Nat}{f:Array Value->Array Value}{t':Nat}(I:Inv X pins σ H s)(hH:H l=some (.lst xs))
  (e:s.heap.get? l=some { cls:=.type "list",data:=.seq its.toArray n }) (hf:f its.toArray=its'.toArray) (hv:Vals ys its') (hz:ys.length<=sizeLine) :
  Inv X pins σ (upd H l (.lst ys)) { s with heap:=s.heap.update l (Obj.mapSeq f),toks:=t' }:=by
 have q:=PySem.IsL.update e f;rw[hf] at q
 refine I.write (x:=l) (e:=l) (by rw[hH];exact trivial) (.inl rfl) (fun b' u hb hu=>(Heap.get?_update_other s.heap (Obj.mapSeq f) (Ne.symm hb)).trans hu) ⟨_,q⟩ ?_
 exact⟨hz,its',_,hv,q⟩
theorem Inv.lnew{its:List Value}{t':Nat}(I:Inv X pins σ H s)(hv:Vals ys its)(hz:ys.length<=sizeLine) :
  Inv X pins σ (upd H s.heap.objs.size (.lst ys)) { s with heap:=s.heap.push { cls:=.type "list",data:=.seq its.toArray },toks:=t' }:=
 I.laid (fun _ _ q=>Heap.get?_push_of_some _ q) (Nat.le_refl _) ⟨hz,its,0,hv,Heap.get?_push_size _ rfl⟩
theorem Inv.fresh(I:Inv X pins σ H s):H s.heap.objs.size=none:=I.hok.fresh (Nat.le_refl _)
theorem Inv.lstM(I:Inv X pins σ H s)(hH:H l=some (.lst xs)):xs.length<=sizeLine/\∃(its:List Value) (n:Nat),Vals xs its/\xs.length=its.length/\s.heap.get? l=some { cls:=.type "list",data:=.seq its.toArray n }:=by
 obtain⟨z,its,n,r,e⟩:=I.hok l _ hH
 exact⟨z,its,n,r,r.length,e⟩
theorem Nk{n:Nat}(h:n<=sizeLine):Builtin.List.listTooLong n=false:=by
 unfold Builtin.List.listTooLong
 exact decide_eq_false (by omega)
end
section
variable {X:Cx}
def Lu:V->List V->Hp->VK->Prop:=fun x vs H Q=>∃l xs y,x = .ref l/\vs=[y]/\H l=some (.lst xs)/\xs.length<sizeLine/\Q .non (upd H l (.lst (xs++[y])))
theorem Vp:BB X "list.append" Lu:=by
 intro pins s σ H x vs v us Q I rx rv h
 obtain⟨l,xs,y,rfl,rfl,hH,hz,q⟩:=h
 cases rx
 obtain⟨u,rfl,ru⟩:=rv.one
 obtain⟨z,its,n,r,hl,e⟩:=I.lstM hH
 refine call_meets F.slot_list_append ⟨_,e,rfl⟩ F.entry_list_append (F.args_list_append_2 _ _) (PySem.list_append l its.toArray n u (by rw[List.size_toArray];omega)) ⟨e,?_⟩
 refine⟨.non,_,I.lset (its':=its++[u]) hH e (by simp) (r.append (.cons ru .nil)) ?_,rfl,q⟩
 rw[List.length_append,List.length_singleton];omega
def Lv:V->List V->Hp->VK->Prop:=fun x vs H Q=>∃l b xs zs,x = .ref l/\vs=[.ref b]/\H l=some (.lst xs)/\H b=some (.lst zs)/\xs.length+zs.length<=sizeLine/\Q .non (upd H l (.lst (xs++zs)))
theorem Pr:BB X "list.extend" Lv:=by
 intro pins s σ H x vs v us Q I rx rv h
 obtain⟨l,b,xs,zs,rfl,rfl,hH,hB,hz,q⟩:=h
 cases rx
 obtain⟨u,rfl,ru⟩:=rv.one
 cases ru
 obtain⟨z,its,n,r,hl,e⟩:=I.lstM hH
 obtain⟨z2,its2,n2,r2,hl2,e2⟩:=I.lstM hB
 have hsz:its.toArray.size+its2.toArray.size<=sizeLine:=by rw[List.size_toArray,List.size_toArray];omega
 have hlong:¬(!its.toArray.isEmpty&&Builtin.List.listTooLong (its.toArray.size+its2.toArray.size))=true:=by
  rw[Nk hsz,Bool.and_false];exact Bool.false_ne_true
 refine call_meets F.slot_list_extend ⟨_,e,rfl⟩ F.entry_list_extend (F.args_list_extend_2 _ _)
  (AutoSeq1.list_extend_list_list_0 l its.toArray n b its2.toArray n2 hlong (by rw[List.size_toArray];omega) (by omega)) ⟨e,e2,?_⟩
 refine⟨.non,_,I.lset (its':=its++its2) hH e (by simp) (r.append r2) ?_,rfl,q⟩
 rw[List.length_append];omega
def BC:R2:=fun x y H Q=>∃l b xs zs,x = .ref l/\y = .ref b/\H l=some (.lst xs)/\H b=some (.lst zs)/\xs.length+zs.length<=sizeLine/\∀p,H p=none->Q (.ref p) (upd H p (.lst (xs++zs)))
theorem E3:UJ X (binaryOp .Add) BC:=by
 intro pins s σ H x y v u Q I rx ry h
 obtain⟨l,b,xs,zs,rfl,rfl,hH,hB,hz,q⟩:=h
 cases rx;cases ry
 obtain⟨z,its,n,r,hl,e⟩:=I.lstM hH
 obtain⟨z2,its2,n2,r2,hl2,e2⟩:=I.lstM hB
 refine PySem.P.add_list e e2 ?_ (by rw[List.size_toArray,List.size_toArray];omega)
 have ea:its.toArray++its2.toArray=(its++its2).toArray:=by simp
 rw[ea]
 exact⟨.ref _,_,I.lnew (t':=s.toks) (r.append r2) (by rw[List.length_append];omega),rfl,q _ I.fresh⟩
def BD:R2:=fun x y H Q=>∃l k xs,x = .ref l/\y = .int k/\H l=some (.lst xs)/\-(2^63)<=k/\k<2^63/\xs.length*k.toNat<=sizeLine/\
 ∀p,H p=none->Q (.ref p) (upd H p (.lst (List.replicate k.toNat xs).flatten))
theorem GF{α:Type}(xs:List α)(k:Nat):(List.replicate k xs).flatten.length=k*xs.length:=by
 induction k with
 | zero=>simp
 | succ k ih=>rw[List.replicate_succ,List.flatten_cons,List.length_append,ih,Nat.succ_mul,Nat.add_comm]
theorem E4:UJ X (binaryOp .Mult) BD:=by
 intro pins s σ H x y v u Q I rx ry h
 obtain⟨l,k,xs,rfl,rfl,hH,h1,h2,hz,q⟩:=h
 cases rx
 obtain⟨t,rfl⟩:=ry
 obtain⟨z,its,n,r,hl,e⟩:=I.lstM hH
 have hlen:its.toArray.size*k.toNat<=sizeLine:=by rw[List.size_toArray,<-hl];exact hz
 have hcap:¬its.toArray.size*k.toNat>(2^63-1)/8:=by
  have:(sizeLine:Nat)<=(2^63-1)/8:=by decide
  omega
 have hfit:¬(!Builtin.List.listFitsIndex k)=true:=by
  rw[fitsIndex_both h1 h2];exact Bool.false_ne_true
 have hlong:¬Builtin.List.listTooLong (its.toArray.size*k.toNat)=true:=by
  rw[Nk hlen];exact Bool.false_ne_true
 have hnew:List.foldl (fun x1 x2=>x1++x2) #[] (List.replicate (if its.toArray.isEmpty=true then 0 else k.toNat) its.toArray)=(List.replicate k.toNat its).flatten.toArray:=by
  have f0:∀m:Nat,List.foldl (fun x1 x2=>x1++x2) #[] (List.replicate m its.toArray)=(List.replicate m its).flatten.toArray:=fun m=>by
   have:=Pq its m []
   rw[List.nil_append] at this;exact this
  rw[f0]
  cases its with
  | nil=>simp
  | cons a r'=>rw[if_neg (by simp)]
 refine wpAny_binaryOp_repeat_ref (T:="list") (U:="int") (by decide) ⟨_,e,rfl⟩ (fun s'=>typeIs_int s' k t) noFill_list_mul F.fills_int_mul F.slot_int_rmul repeat_list F.slot_int_index.lookup
  (call_meets F.slot_int_rmul (typeIs_int s k t) F.entry_int_rmul (F.args_int_rmul_2 _ _) (int___rmul___int_list k t l its.toArray n)
   ⟨e,rfl,⟨_,e,rfl⟩,call_meets F.slot_list_mul ⟨_,e,rfl⟩ F.entry_list_mul (F.args_list_mul_2 _ _) (AutoListH.list___mul___list_int_3 l its.toArray n k t hfit hcap hlong) ⟨e,?_⟩⟩)
 rw[hnew]
 exact⟨.ref _,_,I.lnew (t':=s.toks) (r.rep k.toNat) (by rw[GF,Nat.mul_comm];exact hz),rfl,q _ I.fresh⟩
end
end L2
namespace Att
open PySem PySem.W PySem.Calls PyProof.Rows
theorem Rh{P:Params}{h:Heap}:∀(ns:List Int)(vs:List Value),WellAll P h vs (ns.map WData.int)->IntsAre vs ns:=by
 intro ns
 induction ns with
 | nil=>
  intro vs w;rw[List.map_nil] at w;cases w;exact .nil
 | cons n ns ih=>
  intro vs w;rw[List.map_cons] at w
  cases w with
  | cons a b=>
   cases a
   exact .cons _ _ (ih _ b)
theorem script_of{l:OpenLaw}{n:Nat}(hn:l.most=some n){P:Params}{h:Heap}{args:List WData}{vals:List Value}
  (hpre:l.row.toRowW.claim.pre args=true) (hwl:WellAll P h vals args) :
  ∃a vs ns,vals=[Value.ref a]/\args=[WData.list (ns.map WData.int)]/\h.get? a=some { cls:=.type "list",data:=.seq vs.toArray }/\IntsAre vs ns/\ns.length<=n:=by
 have hsh:WShape.hasAll [] args [.list .int]=true:=(pre_splitW hpre).1
 have hc:l.pre.holds [] { args:=args }=true:=(pre_splitW hpre).2
 obtain⟨d,r,rfl,h1,h2⟩:=hasAllW_cons hsh
 obtain rfl:=hasAllW_nil h2
 obtain⟨xs,rfl,h3⟩:=hasW_list h1
 obtain⟨ns,rfl⟩:=items_int h3
 have hlen:ns.length<=n:=by
  unfold OpenLaw.pre at hc
  have h4:(WTm.not (.lt (.lit (.int (n:Int))) (.len (.arg 0)))).holds [] { args:=[.list (ns.map .int)] }=true:=by
   have h4:=(holds_andW hc).1
   rw[hn] at h4;exact h4
  have h5:=condW_of h4 (w_not (w_lt w_lit (w_len_list (w_arg rfl))))
  rw[List.length_map] at h5
  refine Nat.le_of_not_lt fun q=>?_
  have q':(n:Int)<((ns.length:Nat):Int):=by omega
  first
   | (rw[decide_eq_true q'] at h5;exact absurd h5 (by decide))
   | (simp at h5;omega)
 cases hwl with
 | cons w1 w2=>
  cases w2
  cases w1 with
  | list ho hall=>exact⟨_,_,ns,rfl,rfl,ho,Rh ns _ hall,hlen⟩
theorem post_true(l:OpenLaw)(args:List WData):l.row.toRowW.claim.post args (.bool true) args=true:=
 postW_of (r:=l.row.toRowW) (X:=(true==true))
  (show WShape.has [] (.bool true) .bool=true by first | rfl | decide | simp[WShape.has,WShape.arms,WShape.armsAll])
  (show(WTm.eq .res (.lit (.bool true))).value [] { args:=args,res:=some (.bool true),after:=args }=some (.bool (true==true)) from w_eq_bool (w_res rfl) w_lit) rfl
end Att
namespace L2
open PySem PySem.Spec PyProof.Rows
section
variable {κ:Type} [DecidableEq κ]
def Uo(kvs:List (κ×V))(k:κ):Option V:=(kvs.find? fun kv=>decide (kv.1=k)).map (·.2)
def Vq(kvs:List (κ×V))(k:κ)(v:V):List (κ×V):=
 if(kvs.any fun kv=>decide (kv.1=k))=true then kvs.map (fun kv=>if kv.1=k then(kv.1,v) else kv) else kvs++[(k,v)]
theorem TM{p:κ×V}{r:List (κ×V)}{k:κ}(e:p.1=k):Uo (p::r) k=some p.2:=by simp[Uo,List.find?_cons,e]
theorem TN{p:κ×V}{r:List (κ×V)}{k:κ}(e:¬p.1=k):Uo (p::r) k=Uo r k:=by simp[Uo,List.find?_cons,e]
theorem RV(k:κ):∀kvs:List (κ×V),(kvs.any fun kv=>decide (kv.1=k))=(Uo kvs k).isSome
 | []=>rfl
 | p::r=>by
  rw[List.any_cons]
  by_cases e:p.1=k
  ·simp only[TM e,decide_eq_true e,Bool.true_or,Option.isSome_some]
  ·rw[TN e,decide_eq_false e,Bool.false_or];exact RV k r
theorem S4(kvs:List (κ×V))(k:κ)(v:V):(Vq kvs k v).length<=kvs.length+1:=by
 unfold Vq
 split
 ·rw[List.length_map];omega
 ·rw[List.length_append,List.length_cons,List.length_nil];omega
theorem J3{kvs:List (κ×V)}{k:κ}(v:V)(h:Uo kvs k=none):Vq kvs k v=kvs++[(k,v)]:=by
 unfold Vq;rw[RV,h]
 exact if_neg (by decide)
theorem RelO.isSome_eq{o:Option V}{u:Option Value}(r:RelO o u):o.isSome=u.isSome:=by
 cases o with
 | none=>cases u with
  | none=>rfl
  | some _=>exact(show False from r).elim
 | some _=>cases u with
  | none=>exact(show False from r).elim
  | some _=>rfl
theorem KV.val{kvs:List (κ×V)}{vs:List (κ×Value)}(r:KV kvs vs)(k:κ):RelO (Uo kvs k) (valueAt vs k):=by
 unfold KV at r
 induction r with
 | nil=>exact True.intro
 | @cons p q ps qs h t ih=>
  obtain⟨h1,h2⟩:=h
  by_cases e:p.1=k
  ·have e':q.1=k:=h1.symm.trans e
   have b:valueAt (q::qs) k=some q.2:=by simp[valueAt,List.find?_cons,e']
   rw[TM e,b];exact h2
  ·have e':¬q.1=k:=fun z=>e (h1.trans z)
   have b:valueAt (q::qs) k=valueAt qs k:=by simp[valueAt,List.find?_cons,e']
   rw[TN e,b];exact ih
theorem KV.any{kvs:List (κ×V)}{vs:List (κ×Value)}(r:KV kvs vs)(k:κ):(kvs.any fun kv=>decide (kv.1=k))=vs.any fun kv=>decide (kv.1=k):=by
 unfold KV at r
 induction r with
 | nil=>rfl
 | cons h t ih=>rw[List.any_cons,List.any_cons,ih,h.1]
theorem KV.repl{kvs:List (κ×V)}{vs:List (κ×Value)}(r:KV kvs vs)(k:κ){y:V}{u:Value}(ry:RelV y u) :
  KV (kvs.map fun kv=>if kv.1=k then(kv.1,y) else kv) (vs.map fun kv=>if kv.1=k then(kv.1,u) else kv):=by
 unfold KV at r ⊢
 induction r with
 | nil=>exact .nil
 | @cons p q ps qs h t ih=>
  rw[List.map_cons,List.map_cons]
  refine .cons ?_ ih
  obtain⟨h1,h2⟩:=h
  by_cases e:p.1=k
  ·rw[if_pos e,if_pos (h1.symm.trans e)];exact⟨h1,ry⟩
  ·rw[if_neg e,if_neg (fun z=>e (h1.trans z))];exact⟨h1,h2⟩
theorem KV.put{kvs:List (κ×V)}{vs:List (κ×Value)}(r:KV kvs vs)(k:κ){y:V}{u:Value}(ry:RelV y u):KV (Vq kvs k y) (stored vs k u):=by
 unfold Vq stored;rw[r.any k]
 by_cases e:(vs.any fun kv=>decide (kv.1=k))=true
 ·rw[if_pos e,if_pos e];exact r.repl k ry
 ·rw[if_neg e,if_neg e];exact Paired.snoc r ⟨rfl,ry⟩
theorem KV.length{kvs:List (κ×V)}{vs:List (κ×Value)}(r:KV kvs vs):kvs.length=vs.length:=Paired.length r
end
theorem Lw{P:Program}{w:World}{k:YH}{u:Value}(r:RelV (kV k) u):(Y0 P w).is k u=true:=by
 cases k with
 | inl i=>obtain⟨t,e⟩:=(show ∃t,u=Value.int i t from r);subst e;exact O9 P w i t
 | inr x=>obtain⟨t,e⟩:=(show ∃t,u=Value.str x t from r);subst e;exact Na P w x t
theorem Pt{P:Program}{w:World}:∀{ks:List YH}{us:List Value},Vals (ks.map kV) us->ItemsAre (Y0 P w) ks us
 | [],_,r=>by rw[List.map_nil] at r;cases r;exact .nil
 | k::ks,_,r=>by
  rw[List.map_cons] at r
  cases r with
  | cons h t=>exact .cons (Lw h) (Pt t)
abbrev KT(H:Hp):List (List YH×V)->List (List YH×Addr×Value)->Prop:=Paired fun p q=>p.1=q.1/\H q.2.1=some (.tup (p.1.map kV))/\RelV p.2 q.2.2
theorem KT.val{H:Hp}{kvs:List (List YH×V)}{xs:List (List YH×Addr×Value)}(r:KT H kvs xs)(k:List YH):RelO (Uo kvs k) ((atKey xs k).map (·.2)):=by
 induction r with
 | nil=>exact True.intro
 | @cons p q ps qs h t ih=>
  obtain⟨h1,_,h2⟩:=h
  by_cases e:p.1=k
  ·have e':q.1=k:=h1.symm.trans e
   have b:atKey (q::qs) k=some q.2:=by simp[atKey,List.find?_cons,e']
   rw[TM e,b];exact h2
  ·have e':¬q.1=k:=fun z=>e (h1.trans z)
   have b:atKey (q::qs) k=atKey qs k:=by simp[atKey,List.find?_cons,e']
   rw[TN e,b];exact ih
theorem KT.repl{H:Hp}{kvs:List (List YH×V)}{xs:List (List YH×Addr×Value)}(r:KT H kvs xs)(k:List YH){y:V}{u:Value}(ry:RelV y u) :
  KT H (kvs.map fun kv=>if kv.1=k then(kv.1,y) else kv) (xs.map (putAt k u)):=by
 induction r with
 | nil=>exact .nil
 | @cons p q ps qs h t ih=>
  rw[List.map_cons,List.map_cons]
  refine .cons ?_ ih
  obtain⟨h1,h2,h3⟩:=h
  unfold putAt
  by_cases e:p.1=k
  ·rw[if_pos e,if_pos (h1.symm.trans e)];exact⟨h1,h2,ry⟩
  ·rw[if_neg e,if_neg (fun z=>e (h1.trans z))];exact⟨h1,h2,h3⟩
theorem KT.put{H:Hp}{kvs:List (List YH×V)}{xs:List (List YH×Addr×Value)}(r:KT H kvs xs)(k:List YH){b:Addr}{y:V}{u:Value}(hb:H b=some (.tup (k.map kV)))(ry:RelV y u) :
  KT H (Vq kvs k y) (storedH xs k b u):=by
 have e:(kvs.any fun kv=>decide (kv.1=k))=(atKey xs k).isSome:=by
  rw[RV,(r.val k).isSome_eq,Option.isSome_map]
 unfold Vq storedH;rw[e]
 by_cases q:(atKey xs k).isSome=true
 ·rw[if_pos q,if_pos q];exact r.repl k ry
 ·rw[if_neg q,if_neg q];exact Paired.snoc r ⟨rfl,hb,ry⟩
theorem KT.keeps{H H':Hp}{kvs:List (List YH×V)}{xs:List (List YH×Addr×Value)}(r:KT H kvs xs)(ht:∀b ys,H b=some (.tup ys)->H' b=some (.tup ys)):KT H' kvs xs:=
 Paired.mapP r fun _ _ z=>⟨z.1,ht _ _ z.2.1,z.2.2⟩
section
variable {P:Program} {w:World} {H:Hp} {h:Heap} {a:Addr}
theorem Ee{u:HO}(ok:HOk P w H h)(e:Rd H a u):ObjOk P w H h a u:=e.ok ok
theorem Lx{kvs:List (YH×V)}(ok:HOk P w H h)(e:Rd H a (.dK kvs)):kvs.length<=sizeLine/\(a==sysModules)=false/\∃vs,KV kvs vs/\h.DictOf (Y0 P w) a vs:=
 show ObjOk P w H h a (.dK kvs) from Ee ok e
theorem CD{kvs:List (YH×V)}(ok:HOk P w H h)(e:H a=some (.dK kvs)):kvs.length<=sizeLine/\(a==sysModules)=false/\∃vs,KV kvs vs/\h.DictOf (Y0 P w) a vs:=Lx ok (.inl e)
theorem Oj{ks:List YH}(ok:HOk P w H h)(e:H a=some (.tup (ks.map kV))):(tupleKind (Y0 P w)).is h ks a:=by
 obtain⟨_,its,r,o,h1,h2,n,h3⟩:=(show ObjOk P w H h a (.tup (ks.map kV)) from ok a _ e)
 exact⟨o,its.toArray,n,h1,h2,h3,by simpa using Pt r⟩
theorem Nl{kvs:List (List YH×V)}(ok:HOk P w H h)(e:Rd H a (.dT kvs)):kvs.length<=sizeLine/\(a==sysModules)=false/\
  ∃xs,KT H kvs xs/\h.DictOfH (tupleKind (Y0 P w)) a xs:=by
 obtain⟨z,y,xs,r,o,es,ep,h1,h2,h3,h4,h5⟩:=(show ObjOk P w H h a (.dT kvs) from Ee ok e)
 refine⟨z,y,xs,r,o,es,ep,h1,h2,h3,h4,fun x hx=>?_,h5⟩
 have all:∀{l:List (List YH×V)}{m:List (List YH×Addr×Value)},KT H l m->∀x∈m,(tupleKind (Y0 P w)).is h x.1 x.2.1:=by
  intro l m q
  induction q with
  | nil=>intro x hx;exact nomatch hx
  | @cons p q ps qs hq t ih=>
   intro x hx
   rcases List.mem_cons.mp hx with e | hx
   ·subst e
    exact Oj ok (by rw[<-hq.1];exact hq.2.1)
   ·exact ih x hx
 exact all r x hx
theorem CF{kvs:List (List YH×V)}(ok:HOk P w H h)(e:H a=some (.dT kvs)):kvs.length<=sizeLine/\(a==sysModules)=false/\
  ∃xs,KT H kvs xs/\h.DictOfH (tupleKind (Y0 P w)) a xs:=Nl ok (.inl e)
end
def KR(H:Hp)(a:Addr)(y:V)(r:Option V):Prop:=
 (∃kvs k,Rd H a (.dK kvs)/\y=kV k/\r=Uo kvs k)\/∃kvs k b,Rd H a (.dT kvs)/\y = .ref b/\H b=some (.tup (k.map kV))/\r=Uo kvs k
def CG(H:Hp)(a:Addr)(y v:V)(H':Hp):Prop:=
 (∃kvs k,H a=some (.dK kvs)/\y=kV k/\kvs.length<sizeLine/\H'=upd H a (.dK (Vq kvs k v)))\/
 ∃kvs k b,H a=some (.dT kvs)/\y = .ref b/\H b=some (.tup (k.map kV))/\kvs.length<sizeLine/\H'=upd H a (.dT (Vq kvs k v))
section
variable {X:Cx} {pins:List (Addr×Obj)} {σ:St} {H:Hp} {s:Shared} {a:Addr} {y v:V} {u r:Value} {o:Option V} {A:Around} {E:Value->Shared->Prop}
theorem Inv.big(I:Inv X pins σ H s):sysModules<s.heap.objs.size:=by
 have h:mainGlobals<s.heap.objs.size:=(I.mod.glob.keeps I.bk).lt
 exact Nat.lt_trans (by decide) h
theorem KS{Q:Value->Shared->Prop}(hu:A.units+1<cLine)(I:Inv X pins σ H s)(g:KR H a y (some v))(ry:RelV y u)(h:∀w' s',Inv X pins σ H s'->RelV v w'->Q w' s') :
  wpAny (model X.prog X.w) A (getItem (.ref a) u) Q E s:=by
 rcases g with⟨kvs,k,e,ey,l⟩ | ⟨kvs,k,b,e,ey,eb,l⟩
 ·subst ey
  obtain⟨z,hd,vs,rel,dd⟩:=Lx I.hok e
  obtain⟨w',hw,Yd⟩:=RelO.some_of (v:=v) (o:=valueAt vs k) (by rw[l];exact rel.val k)
  exact wpAny_getItem_of (Lw ry) dd.mapOf hw (h w' _ (I.tok _) Yd)
 ·subst ey
  cases (show u=Value.ref b from ry)
  obtain⟨z,hd,xs,rel,dd⟩:=Nl I.hok e
  obtain⟨w',hw,Yd⟩:=RelO.some_of (v:=v) (o:=(atKey xs k).map (·.2)) (by rw[l];exact rel.val k)
  obtain⟨p,hp,hp2⟩:=Option.map_eq_some_iff.mp hw
  refine wpAny_getItem_heap (tupleKind_room_in1 hu) (Oj I.hok eb) dd hp ?_
  rw[hp2]
  exact h w' _ (I.tok _) Yd
theorem GG{Q:Value->Shared->Prop}(hu:A.units+1<cLine)(I:Inv X pins σ H s)(g:KR H a y o)(ry:RelV y u)(h:∀s',Inv X pins σ H s'->Q (.bool (!o.isSome)) s') :
  wpAny (model X.prog X.w) A (compareOp .NotIn u (.ref a)) Q E s:=by
 rcases g with⟨kvs,k,e,ey,l⟩ | ⟨kvs,k,b,e,ey,eb,l⟩
 ·subst ey
  obtain⟨z,hd,vs,rel,dd⟩:=Lx I.hok e
  refine wpAny_notIn_of (Lw ry) hd dd.mapOf ?_
  rw[<-(rel.val k).isSome_eq,<-l]
  exact h _ (I.tok _)
 ·subst ey
  cases (show u=Value.ref b from ry)
  obtain⟨z,hd,xs,rel,dd⟩:=Nl I.hok e
  refine wpAny_notIn_heap (tupleKind_room_in1 hu) (Oj I.hok eb) hd dd ?_
  have q:=(rel.val k).isSome_eq
  rw[Option.isSome_map] at q;rw[<-q,<-l]
  exact h _ (I.tok _)
theorem Ly{h':Heap}{t':Nat}{ob:HO}(I:Inv X pins σ H s)(mu:Vo (H a))(hs:Heap.SameBut a s.heap h')(he:∃q,h'.get? a=some q)(new:ObjOk X.prog X.w (upd H a ob) h' a ob) :
  Inv X pins σ (upd H a ob) { s with heap:=h',toks:=t' }:=
 I.write (x:=a) (e:=a) mu (.inl rfl) (fun b q hb z=>(hs.2 b hb).trans z) he new
theorem E5{P:Program}{w:World}{H':Hp}{h':Heap}{kvs:List (YH×V)}{vs:List (YH×Value)}(z:kvs.length<=sizeLine)(hd:(a==sysModules)=false)(rel:KV kvs vs)(dd:h'.DictOf (Y0 P w) a vs) :
  ObjOk P w H' h' a (.dK kvs):=⟨z,hd,vs,rel,dd⟩
theorem KU{H':Hp}{Q:Unit->Shared->Prop}(hu:A.units+1<cLine)(I:Inv X pins σ H s)(g:CG H a y v H')(ry:RelV y u)(rv:RelV v r)(h:∀s',Inv X pins σ H' s'->Q () s') :
  wpAny (model X.prog X.w) A (setItem (.ref a) u r) Q E s:=by
 rcases g with⟨kvs,k,e,ey,l,eH⟩ | ⟨kvs,k,b,e,ey,eb,l,eH⟩
 ·subst ey eH
  obtain⟨z,hd,vs,rel,dd⟩:=CD I.hok e
  have hz:vs.length<=sizeLine:=by rw[<-rel.length];exact z
  have hl:(Vq kvs k v).length<=sizeLine:=by have:=S4 kvs k v;omega
  refine wpAny_setItem_pairs (hsz:=hz) (Lw ry) dd fun h' dd' hs=>h _ ?_
  have he:∃q,h'.get? a=some q:=let⟨q,_,_,hq,_⟩:=dd';⟨q,hq⟩
  exact Ly I (by rw[e];exact True.intro) hs he (E5 hl hd (rel.put k rv) dd')
 ·subst ey eH
  cases (show u=Value.ref b from ry)
  obtain⟨z,hd,xs,rel,dd⟩:=CF I.hok e
  have hz:xs.length<=sizeLine:=by rw[<-Paired.length rel];exact z
  have hl:(Vq kvs k v).length<=sizeLine:=by have:=S4 kvs k v;omega
  refine wpAny_setItem_heap (hsz:=hz) (tupleKind_room_in1 hu) (Oj I.hok eb) dd fun h' dd' hs=>h _ ?_
  obtain⟨q,es,ep,hq,h2,h3,h4,_,h5⟩:=dd'
  refine Ly I (by rw[e];exact True.intro) hs ⟨q,hq⟩ ⟨hl,hd,_,(rel.put k eb rv).keeps fun c ys ec=>?_,q,es,ep,hq,h2,h3,h4,h5⟩
  rw[upd_ne (D6 ec e (fun z=>nomatch z))];exact ec
end
def E6(i:Expr):Prop:=∀ov iv,subscripted i false ov iv=operate [ov,iv] (getItem ov iv)
theorem GH{prog:Program}{w:World}{A:Around}{E:Value->Shared->Prop}{s:Shared}{env:Env}{value slice:Expr}{pos:Pos}{T id:String}{Q:Value->Shared->Prop}
  (hl:typeLookup (.type T) "__getitem__" = pure (some (.builtin id))) (hs:E6 slice)
  (h:wpAny (model prog w) A (eval value env) (fun o s₁=>wpAny (model prog w) A (eval slice env) (fun i s₂=>s₂.TypeIs o T/\wpAny (model prog w) A (getItem o i) Q E s₂) E s₁) E s) :
  wpAny (model prog w) A (eval (.Subscript value slice pos) env) Q E s:=by
 refine Subscript_ (wpAny_mono h (fun o s₁ h₁=>wpAny_mono h₁ (fun i s₂ h₂=>?_) fun _ _ x=>x) fun _ _ x=>x)
 obtain⟨hT,h₂⟩:=h₂
 unfold subscriptTail
 refine wpAny_bind ?_
 rw[getitemInPython_of_ne hT.not_modules]
 refine wpAny_bind (wpAny_specialOf hT hl ?_)
 have fin:wpAny (model prog w) A (subscripted slice false o i) (fun r s₃=>wpAny (model prog w) A (letTemporaryGo value o r >>= fun _=>pure r) Q E s₃) E s₂:=by
  rw[hs o i]
  exact wpAny_operating (wpAny_mono h₂ (fun r s₃ h₃=>wpAny_bind (wpAny_letTemporaryGo (wpAny_pure h₃))) fun _ _ x=>x)
 first
  | exact wpAny_pure (wpAny_bind fin)
  | exact wpAny_bind (wpAny_pure (wpAny_bind fin))
  | exact wpAny_bind fin
theorem Nm{X:Cx}{pins:List (Addr×Obj)}{σ:St}{H:Hp}{s:Shared}{a:Addr}{y:V}{o:Option V}(I:Inv X pins σ H s)(g:KR H a y o):s.TypeIs (.ref a) "dict":=by
 rcases g with⟨kvs,k,e,_,_⟩ | ⟨kvs,k,b,e,_,_,_⟩
 ·obtain⟨_,_,vs,_,dd⟩:=Lx I.hok e
  exact dd.typeIs
 ·obtain⟨_,_,xs,_,dd⟩:=Nl I.hok e
  exact dd.typeIs
def Ef(td ty:TE):TE:=fun σ H Q=>td σ H fun x H1=>ty σ H1 fun y H2=>∃a v,x = .ref a/\KR H2 a y (some v)/\Q v H2
def Lz(ty td:TE):TE:=fun σ H Q=>ty σ H fun y H1=>td σ H1 fun x H2=>∃a o,x = .ref a/\KR H2 a y o/\Q (.bl (!o.isSome)) H2
def sDPut(td ty tv:TE):TS:=fun D σ H=>tv σ H fun v H1=>td σ H1 fun x H2=>ty σ H2 fun y H3=>∃a H4,x = .ref a/\CG H3 a y v H4/\D.nx σ H4
section
variable {X:Cx} {o i e value:Expr} {pos pos' tpos:Pos} {td ty tv:TE}
theorem GI(hu:X.A.units+1<cLine)(ho:PE X o td)(hi:PE X i ty)(hs:E6 i):PE X (.Subscript o i pos) (Ef td ty):=by
 intro pins s σ H Q I h
 refine GH PySem.F.slot_dict_getitem.lookup hs (Y1 (ho pins s σ H _ I h) fun u s1 ⟨x,H1,I1,rx,q1⟩=>Y1 (hi pins s1 σ H1 _ I1 q1) fun iv s2 ⟨y,H2,I2,ry,a,v,ex,g,q2⟩=>?_)
 subst ex
 obtain rfl:u=Value.ref a:=rx
 exact⟨Nm I2 g,KS hu I2 g ry fun w' s3 I3 Yd=>⟨v,H2,I3,Yd,q2⟩⟩
theorem KW(hu:X.A.units+1<cLine)(hi:PE X i ty)(ho:PE X o td):PC X .NotIn i o (Lz ty td):=by
 intro pins s σ H Q I h
 refine Y1 (hi pins s σ H _ I h) fun iv s1 ⟨y,H1,I1,ry,q1⟩=>Y1 (ho pins s1 σ H1 _ I1 q1) fun u s2 ⟨x,H2,I2,rx,a,ov,ex,g,q2⟩=>?_
 subst ex
 obtain rfl:u=Value.ref a:=rx
 exact GG hu I2 g ry fun s3 I3=>⟨.bl (!ov.isSome),H2,I3,rfl,q2⟩
theorem Rz(hu:X.A.units+1<cLine)(ho:PE X o td)(hi:PE X i ty)(hv:PE X value tv)(hs:swapsWith value (some (.Subscript o i pos')) pos.line X.env=pure false) :
  PS X (.Assign [.Subscript o i pos'] value pos) (sDPut td ty tv):=by
 intro pins s σ H D I h
 refine wpAny_Assign_Subscript (Y1 (hv pins s σ H _ I h) fun r s1 ⟨v,H1,I1,rv,q1⟩=>Y1 (ho pins s1 σ H1 _ I1 q1) fun u s2 ⟨x,H2,I2,rx,q2⟩=>Y1 (hi pins s2 σ H2 _ I2 q2) fun iv s3 ⟨y,H3,I3,ry,a,H4,ex,g,q3⟩=>?_) hs
 subst ex
 obtain rfl:u=Value.ref a:=rx
 exact KU hu I3 g ry rv fun s4 I4=>⟨σ,H4,I4,q3⟩
end
theorem J4{P:Program}{w:World}{H:Hp}(h:Heap)(hb:sysModules<h.objs.size):ObjOk P w H (h.push { cls:=.type "dict",data:=.dict #[] }) h.objs.size (.dT []):=
 ⟨Nat.zero_le _,beq_eq_false_iff_ne.mpr (Ne.symm (Nat.ne_of_lt hb)),[],.nil,_,#[],0,Heap.get?_push_size _ rfl,⟨rfl,rfl,rfl⟩,rfl,rfl,List.nodup_nil⟩
def E7:TE:=fun _ H Q=>∀p,H p=none->Q (.ref p) (upd H p (.dT []))
section
variable {X:Cx} {pos:Pos}
theorem J5:PE X (.Dict [] [] pos) E7:=fun pins s σ H Q I h=>
 wpAny_Dict_empty ⟨.ref s.heap.objs.size,_,I.laid (a:=s.heap.objs.size) (o:=.dT []) (t':=s.toks) (fun _ _ q=>Heap.get?_push_of_some _ q) (Nat.le_refl _) (J4 s.heap I.big),rfl,h _ (I.hok.fresh (Nat.le_refl _))⟩
end
theorem Pu:∀{vs:List Value}{ns:List Int},IntsAre vs ns->Vals (ns.map V.int) vs
 | _,_,.nil=>.nil
 | _,_,.cons n t h=>.cons ⟨t,rfl⟩ (Pu h)
def E8(H:Hp):Prop:=∀b,H b=none\/∃o xs,H b=some (.frz o (.lst xs))
theorem law_call{P:Program}{w:World}{K:PySem.W.Frag}{mg mb:Str->Option Value}{CX:Gy}{k:Nat}{fa a:Addr}{fd:FuncData}{x:Str}{sp:Sp}{s₁:Shared}{vs:List Value}{ns:List Int}
  (KX:K.In s₁.heap) (hns:s₁.heap.Ns mainGlobals mg) (hb:s₁.heap.Ns builtinsNs mb) (hbb:∀x:Str,x≠"__name__"->mb x=bootBuiltins x) (hlim:s₁.heap.NoLimit) (hg:s₁.gens = #[])
  (ha:s₁.heap.get? a=some { cls:=.type "list",data:=.seq vs.toArray }) (hi:IntsAre vs ns) (hl:ns.length<=sizeLine) (hr:Room k callerA)
  (F:∀base:Heap,K.In base->base.Ns mainGlobals mg->Sv P w K mg base CX k fa fd [x] sp) (hbind:∀(s:Shared)(u:Value),BindsTo s fd ⟨[u],[]⟩ [(x,u)])
  (hsp:∀H:Hp,E8 H->SqL K H a (ns.map V.int)->sp [.ref a] H (fun v _=>v = .bl true) fun _ _ _=>False)
  (hCX:∀H e s',CX [] H s₁ (fun _ _ _=>False) e s'->False) :
  codeAny (model P w) callerA (.call (.ref fa) ⟨[.ref a],[]⟩) (fun r s'=>r = .ok (.ret (.bool true))/\OldK s₁.heap s'.heap/\s'.os=s₁.os/\AllBare s'.gens) s₁:=by
 have rv:=Pu hi;have lenV:=hi.length
 -- from an abstract heap in which nothing but the script may be tracked
 have core:∀H:Hp,E8 H->SqL K H a (ns.map V.int)->HOk P w H s₁.heap->(∀b,H b≠none->b=a)->(H a≠none->K.lookup a=none)->
   codeAny (model P w) callerA (.call (.ref fa) ⟨[.ref a],[]⟩) (fun r s'=>r = .ok (.ret (.bool true))/\OldK s₁.heap s'.heap/\s'.os=s₁.os/\AllBare s'.gens) s₁:=by
  intro H hO hS hok hA hK
  have base_of:∀{b:Addr}{o:Obj},s₁.heap.get? b=some o->H b=none->(Oc s₁.heap H).get? b=some o:=fun e n=>JQ e n
  have noA:∀{b:Addr}{o:Obj}{es:Array DictEntry}{ep:Nat},s₁.heap.get? b=some o->o.data = .dict es ep->H b=none:=fun{b o es ep} e d=>by
   cases q:H b with
   | none=>rfl
   | some u=>
    have e':b=a:=hA b (by rw[q];simp)
    subst e'
    rw[ha] at e;cases e
    have d':Data.seq vs.toArray _=Data.dict es ep:=d
    cases d'
  have nsK:∀{b:Addr}{m:Str->Option Value},s₁.heap.Ns b m->(Oc s₁.heap H).Ns b m:=fun{b m} ⟨o,es,ep,e,d,r⟩=>⟨o,es,ep,base_of e (noA e d),d,r⟩
  have hKb:K.In (Oc s₁.heap H):=fun b o e=>base_of (KX b o e) (by
   cases q:H b with
   | none=>rfl
   | some u=>
    have e':b=a:=hA b (by rw[q];simp)
    subst e'
    rw[hK (by rw[q];simp)] at e;cases e)
  have hM:Mod K mg (Oc s₁.heap H):=⟨hKb,nsK hns,⟨mb,nsK hb,hbb⟩,let⟨mc,h1,h2⟩:=hlim;⟨mc,nsK h1,h2⟩⟩
  have e0:Gz P w K mg (Oc s₁.heap H) callerA [] s₁ H:=⟨rfl,hM,fun b o e=>Gf e,Nat.le_of_eq (Kz _ _),trivial,fun b hb=>absurd (show b∈([]:List Addr) from hb) (by simp),hok,.of_eq hg⟩
  refine codeAny_mono ((F _ hKb (nsK hns)).run callerA [] s₁ H ⟨[.ref a],[]⟩ [.ref a] [.ref a] _ _ hr e0 (hbind s₁ (.ref a)) (.cons rfl .nil) (hsp H hO hS)) fun r s' h=>?_
  cases r with
  | error e=>exact(hCX H e s' h).elim
  | ok fl=>
   cases fl with
   | next=>exact False.elim h
   | brk=>exact False.elim h
   | cont=>exact False.elim h
   | ret u=>
    obtain⟨v,H',os,bare,un,hok',r',q⟩:=h
    have q':v = .bl true:=q
    subst q'
    obtain rfl:u=Value.bool true:=r'
    refine⟨rfl,OldK.of_keep fun b o e=>?_,os,bare⟩
    cases q:H b with
    | none=>exact un.keep b o e q (by intro z;exact absurd (show b∈([]:List Addr) from z) (by simp)) (by simp)
    | some u=>
     rcases hO b with z | ⟨ob,xs,z⟩
     ·rw[q] at z;cases z
     ·have z2:=un.frzs b ob _ z
      obtain⟨e1,_⟩:=hok b _ z
      obtain⟨e2,_⟩:=hok' b _ z2
      rw[e] at e1;cases e1;exact e2
 cases hk:K.lookup a with
 | some o=>
  -- the script is one of the module's own objects
  have e:=KX a o hk;rw[ha] at e;cases e
  refine core (fun _=>none) (fun _=>.inl rfl) (.inr ⟨_,vs.toArray,_,hk,rfl,rfl,rfl,by rw[List.size_toArray,lenV];exact hl,by simpa using rv⟩) (fun b u z=>by have z':(none:Option HO)=some u:=z;cases z') (fun b z=>absurd rfl z) fun z=>absurd rfl z
 | none=>
  refine core (fun b=>if b=a then some (.frz { cls:=.type "list",data:=.seq vs.toArray } (.lst (ns.map V.int))) else none) (fun b=>?_) (.inl (.inr ⟨{ cls:=.type "list",data:=.seq vs.toArray },if_pos rfl⟩)) (fun b u z=>?_) (fun b z=>?_) fun _=>hk
  ·by_cases hb:b=a
   ·exact .inr ⟨_,_,if_pos hb⟩
   ·exact .inl (if_neg hb)
  ·by_cases hb:b=a
   ·have z':=(if_pos hb).symm.trans z
    cases z'
    subst hb
    exact⟨ha,by rw[List.length_map];exact hl,vs,_,rv,ha⟩
   ·have z':=(if_neg hb).symm.trans z
    cases z'
  ·by_cases hb:b=a
   ·exact hb
   ·exact absurd (if_neg hb) z
def XN(s:Stmt):Arguments:=match s with
 | .FunctionDef _ a _ _ _ _ _ _ _ _=>a
 | _=>{ posonlyargs:=[],args:=[],vararg:=none,kwonlyargs:=[],kw_defaults:=[],kwarg:=none,defaults:=[] }
def YT(s:Stmt):List Stmt:=match s with
 | .FunctionDef _ _ b _ _ _ _ _ _ _=>b
 | _=>[]
def Zn(s:Stmt):Scope:=match s with
 | .FunctionDef _ _ _ _ _ _ sc _ _ _=>sc
 | _=>{ kind:=.function,names:=[],isGenerator:=false,isCoroutine:=false }
abbrev Mv:Gy:=fun _ _ _ _ _ _=>False
abbrev E0:XK:=fun _ _ _=>False
theorem Eg{X:Cx}:Ms Mv X E0:=fun _ _ _ _ _ _ _ h=>h.elim
structure Fun(K:PySem.W.Frag)(x qual:Str)(st:Stmt)(f:Addr)(fd:FuncData):Prop where
 ex:∃(oc:Value) (od:Option Addr) (kV doc pm:Value) (an:Option Addr) (cdv ct:Value) (osl:Array (Option Value)),
  fd=PySem.W.fnOf x qual (XN st) (YT st) (Zn st) .none kV doc pm an cdv ct/\K.lookup f=some ⟨oc,od,.func fd,osl⟩/\PySem.W.codeIn K cdv qual=true
 kp:PySem.W.keepIn K (.ref f)=true
section
variable {P:Program} {w:World} {K:PySem.W.Frag} {mg:Str->Option Value} {base:Heap}
theorem Fun.ok{x qual:Str}{st:Stmt}{f:Addr}{fd:FuncData}{N ps:List Str}{k:Nat}{sp:Sp}(F:Fun K x qual st f fd)(S:ZI N ps (Zn st))(len:∀vs H Q E,sp vs H Q E->vs.length=ps.length)
  (hbody:∀(cdv:Value)(A:Around)(outer:List Env)(s:Shared)(H:Hp)(vs:List V)(Q:VK)(E:XK),Room k (A.deeper (envOfC qual (Zn st) s.heap.objs.size f cdv))->sp vs H Q E->
   ∃t,PSs (QW Mv P w K mg base N qual (Zn st) f cdv A outer s H E).nox (YT st) t/\t { nx:=fun _ H'=>Q .non H',rt:=Q } (start N vs) H):Sv P w K mg base Mv (k+1) f fd ps sp:=by
 obtain⟨oc,od,kV,doc,pm,an,cdv,ct,osl,rfl,lk,hcd⟩:=F.ex
 refine Ec lk hcd S len fun A outer s H vs Q E hr hsp=>?_
 obtain⟨t,h,q⟩:=hbody cdv A outer s H vs Q E hr hsp
 exact⟨t,h.nox,q⟩
theorem Fun.binds{x qual:Str}{st:Stmt}{f:Addr}{fd:FuncData}{ps:List Str}(F:Fun K x qual st f fd)
  (h:∀(kV doc pm:Value)(an:Option Addr)(cdv ct:Value)(us:List Value),us.length=ps.length->bindArgs (PySem.W.fnOf x qual (XN st) (YT st) (Zn st) .none kV doc pm an cdv ct) ⟨us,[]⟩=pure (ps.zip us)):Binds K fd ps []:=by
 obtain⟨oc,od,kV,doc,pm,an,cdv,ct,osl,rfl,lk,hcd⟩:=F.ex
 exact .all (h kV doc pm an cdv ct)
theorem E9{x qual:Str}{st:Stmt}{f:Addr}{oc:Value}{od an:Option Addr}{osl:Array (Option Value)}{kV doc pm cdv ct:Value}(l:K.lookup f=some ⟨oc,od,.func (PySem.W.fnOf x qual (XN st) (YT st) (Zn st) .none kV doc pm an cdv ct),osl⟩)
  (c:PySem.W.codeIn K cdv qual=true) (k:PySem.W.keepIn K (.ref f)=true):Fun K x qual st f (PySem.W.fnOf x qual (XN st) (YT st) (Zn st) .none kV doc pm an cdv ct):=⟨⟨oc,od,kV,doc,pm,an,cdv,ct,osl,rfl,l,c⟩,k⟩
end
theorem TQ{A:Around}{k:Nat}(hr:Room k A):A.units+1<cLine:=Nat.lt_of_le_of_lt (Nat.add_le_add_left (by decide:1<=64) _) hr.units
section
variable {X:Cx}
theorem pv(i:Nat){x:Str}{pos:Pos}(hN:X.N[i]?=some x:=by rfl)(hv:Bm X.env.scope x:=by first | exact Or.inl rfl | exact Or.inr (Or.inl rfl) | exact Or.inr (Or.inr rfl))(hd:(x==("__debug__" : Str))=false:=by decide)
  (hcd:(x==("__classdict__" : Str))=false:=by decide):PE X (.Name x pos) (Tz i):=EB hN hv hd hcd
end
theorem CH{A B:Prop}(h:B):if false=true then A else B:=by
 rw[if_neg Bool.false_ne_true];exact h
theorem CI{A B:Prop}(h:A):if true=true then A else B:=by
 rw[if_pos rfl];exact h
def Same(H H':Hp):Prop:=∀b o,H b=some o->H' b=some o
theorem Same.refl(H:Hp):Same H H:=fun _ _ h=>h
theorem Same.trans{H H1 H2:Hp}(a:Same H H1)(b:Same H1 H2):Same H H2:=fun c o h=>b c o (a c o h)
theorem Same.free{H H':Hp}(e:Same H H'){l:Addr}(h:H' l=Option.none):H l=Option.none:=by
 cases q:H l with
 | none=>rfl
 | some o=>
  rw[e l o q] at h;cases h
section
variable {κ:Type} [DecidableEq κ]
theorem Ol:∀{l:List κ}{k:κ},l.Nodup->¬k∈l->(l++[k]).Nodup
 | [],k,_,_=>by simp
 | a::r,k,h,hk=>by
  obtain⟨h1,h2⟩:=List.nodup_cons.mp h
  show(a::(r++[k])).Nodup
  refine List.nodup_cons.mpr ⟨fun m=>?_,Ol h2 fun m=>hk (List.mem_cons.mpr (Or.inr m))⟩
  rcases List.mem_append.mp m with q | q
  ·exact h1 q
  ·exact hk (List.mem_cons.mpr (Or.inl (List.mem_singleton.mp q).symm))
end
end L2
set_option maxHeartbeats 4000000
namespace L2
open PySem PySem.Spec PyProof.Rows
def Xs(cells:List (Str×Addr)):List (Str×NameKind)->List (Str×Addr)->List (Str×Addr)
 | [],acc=>acc
 | (n,k)::r,acc=>Xs cells r (if(k==NameKind.free)=true then(n,(cells.lookup n).getD 0)::acc else acc)
theorem U8{env:Env}:∀(names:List (Str×NameKind))(acc:List (Str×Addr)),(∀y∈names,y.2 = .free->(env.cells.lookup y.1).isSome=true)->
  (forIn (m:=Sem) names acc fun(x:Str×NameKind) (cs:List (Str×Addr))=>
   match x with
   | (name,kind)=>if(kind==NameKind.free)=true then do
     let c <-cellOf env name
     pure (ForInStep.yield ((name,c)::cs))
    else pure (ForInStep.yield cs))=pure (Xs env.cells names acc)
 | [],acc,_=>rfl
 | (n,k)::r,acc,h=>by
  rw[List.forIn_cons]
  have ih:=fun acc'=>U8 r acc' fun y hy=>h y (List.mem_cons_of_mem _ hy)
  cases hk:(k==NameKind.free) with
  | true=>
   have hs:=h (n,k) List.mem_cons_self (by simpa using hk)
   obtain⟨c,hc⟩:=Option.isSome_iff_exists.mp hs
   have hc:env.cells.lookup n=some c:=hc
   have e1:cellOf env n=pure c:=by unfold cellOf;rw[hc]
   dsimp only
   rw[hk,if_pos rfl,e1]
   refine Eq.trans (ih ((n,c)::acc)) ?_
   show _=pure (Xs env.cells r (if(k==NameKind.free)=true then(n,(env.cells.lookup n).getD 0)::acc else acc))
   rw[if_pos hk,hc];rfl
  | false=>
   dsimp only
   rw[hk,if_neg Bool.false_ne_true]
   refine Eq.trans (ih acc) ?_
   show _=pure (Xs env.cells r (if(k==NameKind.free)=true then(n,(env.cells.lookup n).getD 0)::acc else acc))
   rw[if_neg (by rw[hk];exact Bool.false_ne_true)]
theorem U9{scope:Scope}{env:Env}(h:∀y∈scope.names,y.2 = .free->(env.cells.lookup y.1).isSome=true):closureFor scope env=pure (Xs env.cells scope.names []):=by
 have e:=U8 (env:=env) scope.names [] h
 unfold closureFor
 dsimp only
 rw[e];rfl
theorem Sw{cells:List (Str×Addr)}{x:Str}{c:Addr}:∀(names:List (Str×NameKind))(acc:List (Str×Addr)),(∀y∈names,y.2 = .free->(cells.lookup y.1).isSome=true)->(acc.lookup x=some c->cells.lookup x=some c)->
  (Xs cells names acc).lookup x=some c->cells.lookup x=some c
 | [],_,_,h,e=>h e
 | (n,k)::r,acc,hf,h,e=>by
  refine Sw r _ (fun y hy=>hf y (List.mem_cons_of_mem _ hy)) ?_ e
  intro q
  by_cases hk:(k==NameKind.free)=true
  ·rw[if_pos hk,List.lookup_cons] at q
   cases hx:x==n with
   | true=>
    rw[hx] at q
    have exn:x=n:=by simpa using hx
    obtain⟨d,hd⟩:=Option.isSome_iff_exists.mp (hf (n,k) List.mem_cons_self (by simpa using hk))
    have hd:cells.lookup n=some d:=hd
    rw[hd] at q
    rw[exn,hd];exact q
   | false=>rw[hx] at q;exact h q
  ·rw[if_neg hk] at q;exact h q
theorem RW{cells:List (Str×Addr)}{x:Str}:∀(names:List (Str×NameKind))(acc:List (Str×Addr)),(acc.lookup x).isSome=true->((Xs cells names acc).lookup x).isSome=true
 | [],_,h=>h
 | (n,k)::r,acc,h=>by
  refine RW r _ ?_
  split
  ·rw[List.lookup_cons];split<;>simp_all
  ·exact h
theorem Sx{cells:List (Str×Addr)}{x:Str}:∀(names:List (Str×NameKind))(acc:List (Str×Addr)),(x,NameKind.free)∈names->((Xs cells names acc).lookup x).isSome=true
 | (n,k)::r,acc,h=>by
  rcases List.mem_cons.mp h with e | h
  ·cases e
   refine RW r _ ?_
   rw[if_pos (by decide),List.lookup_cons]
   simp
  ·exact Sx r _ h
structure CompScope(N:List Str)(around scope:Scope)(own fr:List Str)(ix:List Nat):Prop where
 kind:scope.kind = .function
 nocell:∀y∈scope.names,y.2≠.cell
 names:∀y∈scope.names,y.2 = .local->scope.names.lookup y.1=some .local
 frees:∀y∈scope.names,y.2 = .free->(around.names.lookup y.1=some .cell\/around.names.lookup y.1=some .free)
 slots:fr.map some=ix.map (fun i=>N[i]?)
 outs:∀x∈fr,(x,NameKind.free)∈scope.names
 apart:∀x∈fr,scope.names.lookup x≠some .local
def ZW(X:Cx)(N':List Str)(scope:Scope)(cl:List (Str×Addr))(C:Addr)(s:Shared)(H:Hp)(ex:List Addr):Cx:=
 { X with N:=N',s₀:=s,H₀:=H,env:=compEnvC scope cl C X.env,outer:=X.stack,ex:=ex,fn:=fun _=>false,pn:=[],xe:=fun _ _=>False }
def YE(n:Nat)(ix:List Nat)(σ:St):St:=List.replicate n none++ix.map (fun i=>(σ[i]?).join)
theorem Ws{env:Env}{x:Str}:∀{names:List (Str×NameKind)}{k:NameKind},names.lookup x=some k->
  (names.map fun(n,k)=>if(k==NameKind.free&&env.scope.kind==.function&&env.kindOf n==some .cell) then(n,NameKind.cell) else(n,k)).lookup x =
   some (if(k==NameKind.free&&env.scope.kind==.function&&env.kindOf x==some .cell)=true then NameKind.cell else k)
 | [],_,h=>by simp at h
 | (n,k')::r,k,h=>by
  show List.lookup x ((if(k'==NameKind.free&&env.scope.kind==.function&&env.kindOf n==some .cell)=true then(n,NameKind.cell) else(n,k'))::_)=_
  cases hx:x==n with
  | true=>
   simp only[List.lookup_cons,hx] at h;cases h
   have e:x=n:=by simpa using hx
   subst e
   split
   ·simp[List.lookup_cons]
   ·simp[List.lookup_cons]
  | false=>
   simp only[List.lookup_cons,hx] at h
   split
   ·simp only[List.lookup_cons,hx];exact Ws h
   ·simp only[List.lookup_cons,hx];exact Ws h
theorem VR{env:Env}{x:Str}:∀{names:List (Str×NameKind)}{k':NameKind},
  (names.map fun(n,k)=>if(k==NameKind.free&&env.scope.kind==.function&&env.kindOf n==some .cell) then(n,NameKind.cell) else(n,k)).lookup x=some k'->∃k,names.lookup x=some k
 | [],_,h=>by simp at h
 | (n,k0)::r,k',h=>by
  have h:List.lookup x ((if(k0==NameKind.free&&env.scope.kind==.function&&env.kindOf n==some .cell)=true then(n,NameKind.cell) else(n,k0))::_)=some k':=h
  cases hx:x==n with
  | true=>exact⟨k0,by simp[List.lookup_cons,hx]⟩
  | false=>
   have:∃k,r.lookup x=some k:=by
    apply VR (env:=env) (k':=k')
    split at h<;>simpa [List.lookup_cons,hx] using h
   obtain⟨k,e⟩:=this
   exact⟨k,by simp[List.lookup_cons,hx,e]⟩
section
variable {X:Cx} {pins:List (Addr×Obj)} {σ:St} {H:Hp} {s:Shared} {own fr:List Str} {ix:List Nat} {scope:Scope}
theorem CompScope.clos(S:CompScope X.N X.env.scope scope own fr ix)(I:Inv X pins σ H s):∀y∈scope.names,y.2 = .free->(X.env.cells.lookup y.1).isSome=true:=fun y hy hf=>by
 obtain⟨c,e⟩:=I.ok.has y.1 (S.frees y hy hf)
 rw[e];rfl
end
theorem Om{prog:Program}{w:World}{A:Around}{R:Result->Shared->Prop}{s:Shared}{elt target iter:Expr}{ifs:List Expr}{scope:Scope}{pos:Pos}{it acc:Value}{env:Env}(I:Nat->Shared->Prop)
  (turn:∀n s,I n s->wpAny (model prog w) A (pyNext it) (fun r s₁=>match r with
   | none=>R (.ok .next) s₁
   | some v=>wpAny (model prog w) A (letOwnedTupleGo target it v) (fun _ s₁'=>wpAny (model prog w) A (assign target env v) (fun _ s₂=>
     wpAny (model prog w) A (forIn ifs true fun c r=>if r=true then do let ok <-isTrue c env (eval c env);pure (ForInStep.yield ok) else pure (ForInStep.yield r)) (fun ok s₃=>
      if ok=true then wpAny (model prog w) A (eval elt env) (fun x s₄=>
       wpAny (model prog w) A (call (.builtin "list.append") [acc,x]) (fun _ s₅=>∃m,m<n/\I m s₅) (notedBy (model prog w) A env fun e s'=>R (.error e) s') s₄) (notedBy (model prog w) A env fun e s'=>R (.error e) s') s₃
      else ∃m,m<n/\I m s₃) (notedBy (model prog w) A env fun e s'=>R (.error e) s') s₂) (notedBy (model prog w) A env fun e s'=>R (.error e) s') s₁') (notedBy (model prog w) A env fun e s'=>R (.error e) s') s₁) (notedBy (model prog w) A env fun e s'=>R (.error e) s') s)
  (n:Nat) (h:I n s) :
  codeAny (model prog w) A (.compLoop (.ListComp elt [⟨target,iter,ifs,0⟩] scope pos) 0 it acc env) R s:=by
 refine codeAny_loop rfl I (fun n s hI=>?_) n h
 show wpAny _ A ((compTurn (.ListComp elt [⟨target,iter,ifs,0⟩] scope pos) 0 it acc env).onRaise (fun x=>do noteFrame x env;theTreesLotGoes x)) _ _ s
 refine wpAny_noted ?_
 rw[compTurn_list]
 refine wpAny_bind (wpAny_standAt (wpAny_bind (wpAny_mono (turn n s hI) (fun r s₁ h₁=>?_) fun _ _ h'=>h')))
 cases r with
 | none=>exact wpAny_pure h₁
 | some v=>
  refine wpAny_bind (wpAny_mono h₁ (fun _ s₁' h₁'=>?_) fun _ _ h'=>h')
  refine wpAny_bind (wpAny_mono h₁' (fun _ s₂ h₂=>wpAny_bind (wpAny_mono h₂ (fun ok s₃ h₃=>?_) fun _ _ h'=>h')) fun _ _ h'=>h')
  cases ok with
  | false=>exact wpAny_pure ⟨rfl,h₃⟩
  | true=>
   exact wpAny_bind (wpAny_bind (wpAny_mono h₃ (fun x s₄ h₄=>wpAny_bind (wpAny_mono h₄ (fun _ s₅ h₅=>wpAny_pure (wpAny_pure ⟨rfl,h₅⟩)) fun _ _ h'=>h')) fun _ _ h'=>h'))
def J6(X:Cx)(ifs:List Expr)(t:TT):Prop:=
 ∀(pins:List (Addr×Obj))(s:Shared)(σ:St)(H:Hp)(Q:Bool->Hp->Prop),Inv X pins σ H s->t σ H Q->
  wpAny (model X.prog X.w) X.A (forIn ifs true fun c r=>if r=true then do let ok <-isTrue c X.env (eval c X.env);pure (ForInStep.yield ok) else pure (ForInStep.yield r)) (TP X pins σ Q) X.xe s
def CJ:TT:=fun _ H Q=>Q true H
theorem GJ{X:Cx}:J6 X [] CJ:=fun _ _ _ H _ I h=>wpAny_tests_nil ⟨H,I,h⟩
theorem GK{X:Cx}{c:Expr}{t:TT}(h:PT X c t):J6 X [c] t:=fun pins s σ H Q I hq=>wpAny_tests_one (h pins s σ H Q I hq)
def CK(n:Nat)(ix:List Nat)(g:TG)(tt:TT)(te:TE)(σ:St)(Q:VK)(J:It)(H1:Hp):Prop:=
 ∃W:Nat->Nat->List V->Hp->Prop,(∃m,W 0 m [] H1)/\∀i m ys H,W i m ys H->ys.length<=sizeLine/\
  ((J.stop i H/\∀p,H p=none->Q (.ref p) (upd H p (.lst ys)))\/
   (J.go i H/\∃N:List V->Hp->Prop,(∀ys' H',N ys' H'->∃m',m'<m/\W (i+1) m' ys' H')/\
    ∀x H',J.yld i H x H'->g x (YE n ix σ) H' fun σ2 H2=>σ2.drop n=(YE n ix σ).drop n/\tt σ2 H2 fun b H3=>if b=true then te σ2 H3 fun y H4=>N (ys++[y]) H4 else N ys H3))
def Pw(n:Nat)(ix:List Nat)(wi:TI)(g:TG)(tt:TT)(te:TE):TE:=fun σ H Q=>wi σ H fun J H1=>CK n ix g tt te σ Q J H1
theorem KY{n:Nat}{ix:List Nat}{σ σ2:St}(hd:σ2.drop n=(YE n ix σ).drop n):∀(i:Nat) v,(YE n ix σ)[i]?=some (some v)->σ2[i]?=some (some v):=fun i v e=>by
 by_cases hi:i<n
 ·unfold YE at e
  rw[List.getElem?_append_left (by simpa using hi),List.getElem?_replicate] at e
  rw[if_pos hi] at e;cases e
 ·have q:=congrArg (fun l=>l[i-n]?) hd
  simp only[List.getElem?_drop] at q;rw[show n+(i-n)=i by omega] at q
  rw[q];exact e
section
variable {X:Cx} {tg elt iter:Expr} {ifs:List Expr} {scope:Scope} {pos:Pos} {own fr:List Str} {ix:List Nat} {wi:TI} {g:TG} {tt:TT} {te:TE}
theorem J7{pins:List (Addr×Obj)}{σ:St}{H2:Hp}{s2:Shared}{fp:List Addr}{h₁:Heap}{tk:Nat}{C:Addr}(S:CompScope X.N X.env.scope scope own fr ix)(I2:Inv X pins σ H2 s2)(f2:∀b∈fp,TC X pins H2 b)(hfp:∀b∈fp,b<s2.heap.objs.size)
  (hC:s2.heap.objs.size<=C) (hns:h₁.Ns C fun _=>none) (old:∀b o,s2.heap.get? b=some o->h₁.get? b=some o) :
  Inv (ZW X (own++fr) scope (Xs X.env.cells scope.names []) C s2 H2 fp) [] (YE own.length ix σ) H2 { s2 with heap:=h₁,toks:=tk }:=by
 have cs:=S.clos I2
 have sub:∀x c,(Xs X.env.cells scope.names []).lookup x=some c->X.env.cells.lookup x=some c:=fun x c e=>Sw scope.names [] cs (fun h=>by simp at h) e
 have stk:=I2.stkSub
 have okk:(ZW X (own++fr) scope (Xs X.env.cells scope.names []) C s2 H2 fp).Ok:=by
  refine⟨I2.ok.mod,S.kind,I2.ok.glob,I2.ok.blt,hC,fun x y c h1 h2=>I2.ok.inj x y c (sub x c h1) (sub y c h2),fun x hx=>?_,fun x c h _=>?_,I2.ok.hd,I2.ok.frames,.inl rfl,fun b hb=>⟨?_,fun x c e=>?_⟩,I2.bs,?_,fun b o e hb=>?_,fun b hb z=>?_,I2.stack,I2.stkFree⟩
  ·-- the cells of the block's free names
   have hx:(relabel scope X.env).names.lookup x=some .cell\/(relabel scope X.env).names.lookup x=some .free:=hx
   have key:(x,NameKind.free)∈scope.names:=by
    have:∃k',(relabel scope X.env).names.lookup x=some k'/\(k' = .cell\/k' = .free):=by
     rcases hx with h | h
     ·exact⟨_,h,.inl rfl⟩
     ·exact⟨_,h,.inr rfl⟩
    obtain⟨k',e,hk'⟩:=this
    obtain⟨k,e0⟩:=VR e
    have e1:=Ws (env:=X.env) e0
    have e:(scope.names.map fun(n,k)=>if(k==NameKind.free&&X.env.scope.kind==.function&&X.env.kindOf n==some .cell) then(n,NameKind.cell) else(n,k)).lookup x=some k':=e
    rw[e1] at e;have m:=PySem.mem_of_lookup e0
    cases k with
    | free=>exact m
    | cell=>exact absurd rfl (S.nocell _ m)
    | _=>simp at e;subst e;rcases hk' with z | z<;>cases z
   exact Option.isSome_iff_exists.mp (Sx _ _ key)
  ·cases h
  ·-- fp differs from the frame
   exact Nat.ne_of_lt (Nat.lt_of_lt_of_le (hfp b hb) hC)
  ·exact(f2 b hb).2.2.2.2.1 x c (sub x c e)
  ·exact Nat.le_trans I2.ok.bsz I2.sz
  ·rcases(f2 b hb).2.2.2.1 with z | z
   ·exact I2.ok.noex b o e z
   ·exact absurd (Nat.lt_of_lt_of_le (Heap.lt_size (I2.ok.bs b o e).1) z) (Nat.lt_irrefl _)
  ·rcases List.mem_cons.mp (stk b z) with e | e
   ·exact(f2 b hb).2.1 e
   ·exact(f2 b hb).2.2.1 e
 have sl:fr.length=ix.length:=by simpa using congrArg List.length S.slots
 refine⟨okk,rfl,I2.bare,Un.kept old,⟨_,hns,fun i x v h1 h2 h3=>?_⟩,fun x c e=>?_,I2.hok.fresh hC,fun x c e=>I2.freeC x c (sub x c e),fun p hp=>absurd (show p∈([]:List (Addr×Obj)) from hp) (by simp),I2.hok.kept old,?_⟩
 ·-- a name of the def around
  have h1:(own++fr)[i]?=some x:=h1
  have hi:¬i<own.length:=fun hi=>by
   unfold YE at h2;rw[List.getElem?_append_left (by simpa using hi),List.getElem?_replicate,if_pos hi] at h2;cases h2
  rw[List.getElem?_append_right (by omega)] at h1;unfold YE at h2;rw[List.getElem?_append_right (by simpa using hi),List.length_replicate,List.getElem?_map] at h2
  cases ej:ix[i-own.length]? with
  | none=>rw[ej] at h2;cases h2
  | some j=>
   rw[ej] at h2
   have h2:(σ[j]?).join=some v:=by simpa using h2
   have h2:σ[j]?=some (some v):=by
    cases q:σ[j]? with
    | none=>rw[q] at h2;cases h2
    | some z=>rw[q] at h2;exact congrArg some h2
   have hN:X.N[j]?=some x:=by
    have q:=congrArg (fun l=>l[i-own.length]?) S.slots
    simp only[List.getElem?_map,h1,ej,Option.map_some] at q
    exact(Option.some.inj q).symm
   have hm:=S.outs x (List.mem_of_getElem? h1)
   have hk:=S.frees _ hm rfl
   have hk:X.env.scope.names.lookup x=some .cell\/X.env.scope.names.lookup x=some .free:=hk
   obtain⟨m,hn,hl⟩:=I2.loc
   obtain⟨u,r,l⟩:=hl j x v hN h2 (by rcases hk with k | k;exact .inr (.inl k);exact .inr (.inr k))
   refine⟨u,r,?_⟩
   rcases l with⟨k,_⟩ | ⟨_,c,hc,hcell⟩
   ·have k:X.env.scope.names.lookup x=some .local:=k
    rcases hk with q | q<;>rw[k] at q<;>cases q
   ·obtain⟨c',hc'⟩:=Option.isSome_iff_exists.mp (Sx (cells:=X.env.cells) _ [] hm)
    have ec:=sub x c' hc'
    rw[hc] at ec;cases ec
    refine .inr ⟨?_,c,hc',?_⟩
    ·have h3:(relabel scope X.env).names.lookup x=some .local\/(relabel scope X.env).names.lookup x=some .cell\/(relabel scope X.env).names.lookup x=some .free:=h3
     rcases h3 with h3 | h3
     ·obtain⟨k0,e0⟩:=VR h3
      have e1:=Ws (env:=X.env) e0
      have h3:(scope.names.map fun(n,k)=>if(k==NameKind.free&&X.env.scope.kind==.function&&X.env.kindOf n==some .cell) then(n,NameKind.cell) else(n,k)).lookup x=some .local:=h3
      rw[e1] at h3
      have k0l:k0 = .local:=by
       cases k0<;>simp at h3 ⊢
       split at h3<;>cases h3
      subst k0l
      exact absurd e0 (S.apart x (List.mem_of_getElem? h1))
     ·exact h3
    ·obtain⟨o,ho,hd⟩:=hcell
     exact⟨o,old _ _ ho,hd⟩
 ·obtain⟨v,o,ho,hd⟩:=I2.cell x c (sub x c e)
  exact⟨v,o,old _ _ ho,hd⟩
 ·show(YE own.length ix σ).length=(own++fr).length
  unfold YE;rw[List.length_append,List.length_replicate,List.length_map,List.length_append,sl]
theorem RX{pins:List (Addr×Obj)}{σ:St}{H2:Hp}{s2:Shared}{fp:List Addr}{it:Addr}{tn:Nat->Heap->Prop}{J:It}{Fin:List V->Hp->Prop}{RR:Value->Addr->Result->Shared->Prop}{E:Value->Shared->Prop}
  (hcalm:X.calm=true) (S:CompScope X.N X.env.scope scope own fr ix)
  (hg:∀cl C s H ex,PG (ZW X (own++fr) scope cl C s H ex) tg g) (ht:∀cl C s H ex,J6 (ZW X (own++fr) scope cl C s H ex) ifs tt) (he:∀cl C s H ex,PE (ZW X (own++fr) scope cl C s H ex) elt te)
  (I2:Inv X pins σ H2 s2) (T:Nd X.prog X.w X.K tg J fp it tn) (st2:tn 0 s2.heap) (f2:∀b∈fp,TC X pins H2 b)
  {W:Nat->Nat->List V->Hp->Prop} {m0:Nat} (w0:W 0 m0 [] H2)
  (turn:∀i m ys H,W i m ys H->ys.length<=sizeLine/\
   ((J.stop i H/\Fin ys H)\/
    (J.go i H/\∃N:List V->Hp->Prop,(∀ys' H',N ys' H'->∃m',m'<m/\W (i+1) m' ys' H')/\
     ∀x H',J.yld i H x H'->g x (YE own.length ix σ) H' fun σ2 H2=>σ2.drop own.length=(YE own.length ix σ).drop own.length/\tt σ2 H2 fun b H3=>if b=true then te σ2 H3 fun y H4=>N (ys++[y]) H4 else N ys H3)))
  (hRR:∀(D C:Addr)(oC:Obj)(m:Str->Option Value)(s':Shared)(H':Hp)(ys:List V),Inv X (pins++[(C,oC)]) σ (upd H' D (.lst ys)) s'->s'.heap.get? C=some oC->s'.heap.Ns C m->TC X pins (upd H' D (.lst ys)) C->H' D=none->Fin ys H'->RR (.ref D) C (.ok .next) s') :
  wpAny (model X.prog X.w) X.A (newList []) (fun acc s₃=>wpAny (model X.prog X.w) X.A (newFunctionEnv scope X.env.globals (Xs X.env.cells scope.names []) [] X.env.qual none .none (some X.env)) (fun cenv s₄=>
   codeAny (model X.prog X.w) X.A (.compStart (.ListComp elt [⟨tg,iter,ifs,0⟩] scope pos) 0 (.ref it) acc { cenv with scope:=relabel scope X.env }) (RR acc cenv.locals) s₄) E s₃) E s2:=by
 have hfp:∀b∈fp,b<s2.heap.objs.size:=fun b hb=>by
  obtain⟨o,e,_⟩:=T.obj 0 s2.heap st2 b hb
  exact Heap.lt_size e
 refine wpAny_newObj_type (wpAny_newFunctionEnv S.nocell (by intro y hy;simp at hy) (fun h₁ hns₁ hsb₁=>?_) S.kind)
 dsimp only at hns₁ hsb₁ ⊢
 generalize hH2:s2.heap.push { cls:=.type "list",dict:=none,data:=.seq ([]:List Value).toArray }=G2 at hns₁ hsb₁ ⊢
 have hC:G2.objs.size=s2.heap.objs.size+1:=by rw[<-hH2,Heap.size_push]
 generalize hCC:G2.objs.size=C at hns₁ hsb₁ hC ⊢
 generalize hDD:s2.heap.objs.size=D at hC ⊢
 have hDC:D≠C:=by omega
 have below:∀b,b<s2.heap.objs.size->b≠C/\b≠D:=fun b hb=>by
  rw[hDD] at hb
  exact⟨Nat.ne_of_lt (by omega),Nat.ne_of_lt hb⟩
 have old:∀b o,s2.heap.get? b=some o->h₁.get? b=some o:=fun b o e=>hsb₁.extBut b o (below b (Heap.lt_size e)).1 (Heap.get?_push_of_some _ (hH2▸Heap.get?_push_of_some _ e))
 have hacc:h₁.get? D=some { cls:=.type "list",data:=.seq ([]:List Value).toArray 0 }:=by
  have e0:G2.get? D=some { cls:=.type "list",data:=.seq ([]:List Value).toArray 0 }:=by
   rw[<-hH2,<-hDD]
   exact Heap.get?_push_size _ rfl
  exact hsb₁.extBut _ _ hDC (Heap.get?_push_of_some _ e0)
 have hns₁':h₁.Ns C fun _=>none:=by simpa using hns₁
 have I0:=fun tk=>J7 (tk:=tk) S I2 f2 hfp (C:=C) (by omega) hns₁' old
 -- what stays true of the iterator's objects in the block
 have loop:∀s₃:Shared,s₃={ s2 with heap:=h₁,toks:=s2.toks+([]:List (Str×Value)).length }->
   codeAny (model X.prog X.w) X.A (.compLoop (.ListComp elt [⟨tg,iter,ifs,0⟩] scope pos) 0 (.ref it) (.ref D) (compEnvC scope (Xs X.env.cells scope.names []) C X.env)) (RR (.ref D) C) s₃:=by
  rintro s₃ rfl
  generalize hY:ZW X (own++fr) scope (Xs X.env.cells scope.names []) C s2 H2 fp=Y at I0
  have stat:∀{H':Hp}{pn:List (Addr×Obj)},(∀b∈fp,H' b=none)->(∀p∈pn,∀b∈fp,p.1≠b)->∀b∈fp,TC Y pn H' b:=fun{H' pn} hn hp b hb=>by
   subst hY
   refine⟨hn b hb,(below b (hfp b hb)).1,fun z=>?_,.inl hb,fun x c e=>?_,fun p hp'=>hp p hp' b hb⟩
   ·exact(I0 0).ok.exfs b hb z
   ·exact((I0 0).ok.exf b hb).2 x c e
  have dfp:∀b∈fp,D≠b:=fun b hb=>Ne.symm (below b (hfp b hb)).2
  have hcellD:∀x c,Y.env.cells.lookup x=some c->c≠D:=fun x c e z=>by
   subst hY
   have e:(Xs X.env.cells scope.names []).lookup x=some c:=e
   have e':=Sw scope.names [] (S.clos I2) (fun h=>by simp at h) e
   obtain⟨v,q⟩:=I2.cell x c e'
   exact(below c q.lt).2 z
  have hfsD:D∉Y.fs:=fun z=>by
   subst hY
   obtain⟨_,o,ho,_⟩:=(I0 0).ok.funs.mem z
   have:=Heap.lt_size ho
   have:D<s2.heap.objs.size:=this
   omega
  have eL:Y.env.locals=C:=by subst hY;rfl
  have eS:Y.s₀=s2:=by subst hY;rfl
  have eP:Y.pn=[]:=by subst hY;rfl
  refine Om (fun n s'=>∃i ys its nn H',Inv Y [] (YE own.length ix σ) H' s'/\tn i s'.heap/\(∀b∈fp,H' b=none)/\s'.heap.get? D=some { cls:=.type "list",data:=.seq its nn }/\Vals ys its.toList/\H' D=none/\W i n ys H') ?_ m0
   ⟨0,[],#[],0,H2,I0 _,T.keep _ _ _ st2 fun b _ o e=>old b o e,fun b hb=>(f2 b hb).1,hacc,.nil,I2.hok.fresh (by omega),w0⟩
  rintro n s3 ⟨i,ys,its,nn,H3,I3,st3,fr3,oD,vD,nD,w3⟩
  obtain⟨hlen,cases3⟩:=turn i n ys H3 w3
  have hsize:its.size<=sizeLine:=by
   have:=vD.length
   simp only[Array.length_toList] at this;omega
  have pD:Inv Y [(D,{ cls:=.type "list",data:=.seq its nn })] (YE own.length ix σ) H3 s3:=I3.pins_of fun p hp=>by
   rw[List.mem_singleton.mp hp]
   exact⟨oD,nD,by rw[eL];exact hDC,hfsD,fun v z=>by cases z⟩
  have YP:Y.prog=X.prog:=by subst hY;rfl
  have Yw:Y.w=X.w:=by subst hY;rfl
  have YK:Y.K=X.K:=by subst hY;rfl
  have YA:Y.A=X.A:=by subst hY;rfl
  have Yx:Y.xe=fun _ _=>False:=by subst hY;rfl
  have Ye:Y.env=compEnvC scope (Xs X.env.cells scope.names []) C X.env:=by subst hY;rfl
  have ne1:∀p∈[((D,{ cls:=.type "list",data:=.seq its nn }):Addr×Obj)],∀b∈fp,p.1≠b:=fun p hp b hb=>by rw[List.mem_singleton.mp hp];exact dfp b hb
  rcases cases3 with⟨stop,qn⟩ | ⟨go,N,hN,step⟩
  ·have d:=T.done Y YP Yw YK (by subst hY;exact hcalm) i _ s3 _ H3 (notedBy (model X.prog X.w) X.A (compEnvC scope (Xs X.env.cells scope.names []) C X.env) fun e s'=>RR (.ref D) C (.error e) s') pD (stat fr3 ne1) st3 stop
   rw[YA] at d
   refine Y1 d fun r s4 ⟨hr,I4⟩=>?_
   subst hr
   show RR (.ref D) C (.ok .next) s4
   obtain⟨oD4,nD4,_⟩:=I4.pin (D,_) (by rw[eP];exact List.mem_cons_self)
   obtain⟨m,hn,_⟩:=I4.loc
   rw[eL] at hn
   obtain⟨oC,es,ep,hoC,hdC,hrest⟩:=id hn
   have hfreeC:H3 C=none:=by have:=I4.free;rw[eL] at this;exact this
   have un:Un (Mi X.stack) fp H2 H3 s2.heap s4.heap:=by
    have:=I4.base
    subst hY;exact this
   have lt2:∀b o,s2.heap.get? b=some o->b≠D:=fun b o e=>(below b (Heap.lt_size e)).2
   have un':Un (Mi X.stack) fp H2 (upd H3 D (.lst ys)) s2.heap s4.heap:=by
    refine⟨un.keep,un.slot,fun b o e n hx=>?_,un.there,fun b xs e=>?_,fun b o u e=>?_,fun b ps e=>?_⟩
    ·rw[upd_ne (lt2 b o e)];exact un.free b o e n hx
    ·have q:=un.tups b xs e
     rw[upd_ne (ZC q nD4)];exact q
    ·have q:=un.frzs b o u e
     rw[upd_ne (ZC q nD4)];exact q
    ·obtain⟨more,q⟩:=un.tbls b ps e
     exact⟨more,by rw[upd_ne (ZC q nD4)];exact q⟩
   have hok4:HOk X.prog X.w H3 s4.heap:=by
    have:=I4.hok
    rw[YP,Yw] at this;exact this
   have hok':HOk X.prog X.w (upd H3 D (.lst ys)) s4.heap:=fun b u q=>by
    by_cases hb:b=D
    ·subst hb
     rw[upd_same] at q;cases q
     exact⟨hlen,its.toList,nn,vD,by simpa using oD4⟩
    ·rw[upd_ne hb] at q
     exact(hok4 b u q).stay (fun c v _ z=>z) (fun c z=>by rw[upd_ne (ZC z nD4)];exact z) fun c xs z=>by rw[upd_ne (ZC z nD4)];exact z
   have os4:s4.os=s2.os:=by rw[I4.os,eS]
   have I5:Inv X pins σ (upd H3 D (.lst ys)) s4:=I2.call' os4 un' hok' I4.bare fun b hb=>⟨(f2 b hb).2.2.2.1,(f2 b hb).2.1,(f2 b hb).2.2.2.2.1,(f2 b hb).2.2.2.2.2⟩
   have CL:C≠X.env.locals:=fun z=>by
    exact(below _ I2.lt).1 z.symm
   have fpC:TC X pins (upd H3 D (.lst ys)) C:=I2.fpOk (by omega) (by rw[upd_ne (Ne.symm hDC)];exact hfreeC)
   refine hRR D C oC m s4 H3 ys (I5.pins_of fun p hp=>?_) hoC hn fpC nD4 qn
   rcases List.mem_append.mp hp with z | z
   ·exact I5.pin p (List.mem_append_right _ z)
   ·rw[List.mem_singleton.mp z]
    exact⟨hoC,fpC.1,fpC.2.1,fpC.2.2.1,fun v z=>by rw[hdC] at z;cases z⟩
  ·have d:=T.item Y YP Yw YK (by subst hY;exact hcalm) i _ s3 _ H3 (fun _ _=>False) pD (stat fr3 ne1) st3 go
   rw[YA] at d
   refine wpAny_mono d (fun r s4 ⟨u,hr,h4⟩=>?_) fun _ _ z=>z.elim
   subst hr
   refine wpAny_mono h4 (fun _ s5 ⟨x,H5,I5,r5,y5,st5,fr5⟩=>?_) fun _ _ z=>z.elim
   have I5':=I5.pinned (stat fr5 ne1) (T.obj _ _ st5)
   have hg':=hg (Xs X.env.cells scope.names []) C s2 H2 fp
   have ht':=ht (Xs X.env.cells scope.names []) C s2 H2 fp
   have he':=he (Xs X.env.cells scope.names []) C s2 H2 fp
   rw[hY] at hg' ht' he'
   have a6:=hg' _ s5 _ H5 x u _ I5' r5 (step x H5 y5)
   rw[YP,Yw,YA,Ye,Yx] at a6
   refine wpAny_mono a6 (fun _ s6 ⟨σ6,H6,I6,dr,q6⟩=>?_) fun _ _ z=>z.elim
   have a7:=ht' _ s6 σ6 H6 _ I6 q6;rw[YP,Yw,YA,Ye,Yx] at a7
   refine wpAny_mono a7 (fun ok s7 ⟨H7,I7,q7⟩=>?_) fun _ _ z=>z.elim
   have back:∀{H8:Hp}{s8:Shared},Inv Y ([((D,{ cls:=.type "list",data:=.seq its nn }):Addr×Obj)]++Ss fp s5.heap) σ6 H8 s8->
     s8.heap.get? D=some { cls:=.type "list",data:=.seq its nn }/\H8 D=none/\tn (i+1) s8.heap/\(∀b∈fp,H8 b=none):=fun{H8 s8} I8=>by
    obtain⟨e1,e2,_⟩:=I8.pin (D,{ cls:=.type "list",data:=.seq its nn }) (by rw[eP];exact List.mem_cons_self)
    refine⟨e1,e2,T.keep _ _ _ st5 fun b hb o e=>(I8.pin (b,o) (by rw[eP];exact List.mem_cons_of_mem _ (VP hb e))).1,fun b hb=>?_⟩
    obtain⟨o,e,_⟩:=T.obj _ _ st5 b hb
    exact(I8.pin (b,o) (by rw[eP];exact List.mem_cons_of_mem _ (VP hb e))).2.1
   have unp:∀{H8:Hp}{s8:Shared},Inv Y ([((D,{ cls:=.type "list",data:=.seq its nn }):Addr×Obj)]++Ss fp s5.heap) σ6 H8 s8->Inv Y [] (YE own.length ix σ) H8 s8:=fun{H8 s8} I8=>
    (I8.pins_of (pins':=[]) fun p hp=>absurd hp (by simp)).weak (by
     have e1:=(I0 0).len
     have e2:=I8.len
     rw[e1,e2]) (KY dr)
   cases ok with
   | false=>
    rw[if_neg Bool.false_ne_true] at q7
    show ∃m,m<n/\_
    obtain⟨e1,e2,e3,e4⟩:=back I7
    obtain⟨m',hm,w7⟩:=hN _ _ q7
    exact⟨m',hm,i+1,ys,its,nn,H7,unp I7,e3,e4,e1,vD,e2,w7⟩
   | true=>
    rw[if_pos rfl] at q7
    show wpAny _ _ _ _ _ _
    have a8:=he' _ s7 σ6 H7 _ I7 q7;rw[YP,Yw,YA,Ye,Yx] at a8
    refine wpAny_mono a8 (fun yv s8 ⟨y,H8,I8,ry,q8⟩=>?_) fun _ _ z=>z.elim
    obtain⟨e1,e2,e3,e4⟩:=back I8
    obtain⟨m',hm,w8⟩:=hN _ _ q8
    refine append_at e1 (fun h9 hs9 hD9=>?_) hsize
    have I9:Inv Y [] (YE own.length ix σ) H8 { s8 with heap:=h9 }:=(unp I8).turned (t':=s8.toks) (it:=D) (fun b o hb e=>hs9.extBut b o hb e) e2 (by rw[eL];exact hDC) (.inr (by rw[eS];omega)) hcellD (fun p hp=>absurd (show p∈([]:List (Addr×Obj)) by rw[eP] at hp;exact hp) (by simp))
    refine⟨m',hm,i+1,ys++[y],its.push yv,nn+1,H8,I9,T.keep _ _ _ e3 fun b hb o e=>hs9.extBut b o (Ne.symm (dfp b hb)) e,e4,hD9,?_,e2,w8⟩
    rw[Array.toList_push]
    exact vD.append (.cons ry .nil)
 exact codeAny_compStart_list (loop _ rfl) (T.self X.A 0 _ _ _ (T.keep _ _ _ st2 fun b _ o e=>old b o e) (loop _ rfl))
theorem GL(hcalm:X.calm=true)(hi:PI X tg iter wi)(S:CompScope X.N X.env.scope scope own fr ix)
  (hg:∀cl C s H ex,PG (ZW X (own++fr) scope cl C s H ex) tg g) (ht:∀cl C s H ex,J6 (ZW X (own++fr) scope cl C s H ex) ifs tt) (he:∀cl C s H ex,PE (ZW X (own++fr) scope cl C s H ex) elt te)
  (hs:∀x,foldedSetIterable iter X.env x=pure x:=by intro _;rfl):PE X (.ListComp elt [⟨tg,iter,ifs,0⟩] scope pos) (Pw own.length ix wi g tt te):=by
 intro pins s σ H Q I h;rw[eval_ListComp]
 refine wpAny_comprehension_free (use:=none) (cl:=Xs X.env.cells scope.names []) rfl hs (U9 (S.clos I)) S.kind S.names (Y1 (hi pins s σ H _ I h) fun v s1 h1=>Y1 h1 fun itv s2 h2=>?_)
 obtain⟨it,fp,tn,J,H2,e,I2,T,st2,f2,W,⟨m0,w0⟩,turn⟩:=h2
 subst e
 refine RX (Fin:=fun ys H=>∀p,H p=none->Q (.ref p) (upd H p (.lst ys))) (RR:=fun acc C=>compPost (model X.prog X.w) X.A X.xe none (EP X pins σ Q) acc C) hcalm S hg ht he I2 T st2 f2 w0 turn ?_
 intro D C oC m s' H' ys I5 hoC hn fpC nD fin
 refine⟨m,hn,fun h' hs'=>⟨.ref D,upd H' D (.lst ys),?_,rfl,fin D nD⟩⟩
 exact(I5.unpinned (pl:=[(C,oC)])).turned (t':=s'.toks) (it:=C) (fun b o hb e=>hs'.extBut b o hb e) fpC.1 fpC.2.1 fpC.2.2.2.1 fpC.2.2.2.2.1 fpC.2.2.2.2.2
theorem GN{i:Nat}{y:Str}{py spos:Pos}(hN:X.N.Nodup)(hy:X.N[i]?=some y)(hloc:X.env.scope.names.lookup y=some .local)(hcalm:X.calm=true)(hi:PI X tg iter wi)(S:CompScope X.N X.env.scope scope own fr ix)
  (hg:∀cl C s H ex,PG (ZW X (own++fr) scope cl C s H ex) tg g) (ht:∀cl C s H ex,J6 (ZW X (own++fr) scope cl C s H ex) ifs tt) (he:∀cl C s H ex,PE (ZW X (own++fr) scope cl C s H ex) elt te)
  (hsw:swapsWith (.ListComp elt [⟨tg,iter,ifs,0⟩] scope pos) (some (.Name y py)) spos.line X.env=pure true:=by rfl)
  (hs:∀x,foldedSetIterable iter X.env x=pure x:=by intro _;rfl):PS X (.Assign [.Name y py] (.ListComp elt [⟨tg,iter,ifs,0⟩] scope pos) spos) (Mn (Pw own.length ix wi g tt te) (S2 i)):=by
 intro pins s σ H D0 I h;rw[exec_Assign_Name_used _ _ _ _ hsw]
 refine wpAny_bind (wpAny_standAt (wpAny_bind ?_))
 show wpAny _ X.A (do let _ <-comprehension (.ListComp elt [⟨tg,iter,ifs,0⟩] scope pos) scope X.env _ (newList []) false (eval iter X.env) (some (assign (.Name y py) X.env))) _ _ s
 refine wpAny_bind (wpAny_mono (wpAny_comprehension_free (cl:=Xs X.env.cells scope.names []) (use:=some (assign (.Name y py) X.env)) (Q:=fun _ s'=>SP X pins D0 .next s') (E:=X.xe) rfl hs (U9 (S.clos I)) S.kind S.names
  (Y1 (hi pins s σ H _ I h) fun v s1 h1=>Y1 h1 fun itv s2 h2=>?_)) (fun _ s' hq=>wpAny_pure (wpAny_pure hq)) fun _ _ e=>e)
 obtain⟨it,fp,tn,J,H2,e,I2,T,st2,f2,W,⟨m0,w0⟩,turn⟩:=h2
 subst e
 refine RX (Fin:=fun ys H=>∀p,H p=none->S2 i (.ref p) σ (upd H p (.lst ys)) D0.nx) (RR:=fun acc C=>compPost (model X.prog X.w) X.A X.xe (some (assign (.Name y py) X.env)) (fun _ s'=>SP X pins D0 .next s') acc C) hcalm S hg ht he I2 T st2 f2 w0 turn ?_
 intro D C oC m s' H' ys I5 hoC hn fpC nD fin
 show wpAny _ X.A (assign (.Name y py) X.env (.ref D)) _ _ _
 refine wpAny_assign_Name (RQ I5 hN hy (.inl hloc) (v:=.ref D) rfl (fun s6 I6=>?_) (.inr hloc))
 obtain⟨e6,_⟩:=I6.pin (C,oC) (List.mem_append_right _ (List.mem_append_right _ List.mem_cons_self))
 obtain⟨o',es,ep,ho',r'⟩:=hn
 rw[hoC] at ho';cases ho'
 refine⟨m,⟨oC,es,ep,e6,r'⟩,fun h' hs'=>⟨_,upd H' D (.lst ys),?_,fin D nD⟩⟩
 exact(I6.unpinned (pl:=[(C,oC)])).turned (t':=s6.toks) (it:=C) (fun b o hb e=>hs'.extBut b o hb e) fpC.1 fpC.2.1 fpC.2.2.2.1 fpC.2.2.2.2.1 fpC.2.2.2.2.2
end
open AutoSeq1 (wpAny_loadPart')
section
variable {prog:Program} {w:World} {A:Around} {E:Value->Shared->Prop} {s:Shared}
theorem TR{it l:Addr}{i:Nat}{items}{x:Value}{Q:Value->Shared->Prop}(hit:s.heap.IsTupleIter it l i)
  (hl:s.heap.IsTuple l items) (hx:items[i]?=some x)
  (hQ:∀h',h'.IsTupleIter it l (i+1)->Heap.SameBut it s.heap h'->Q x { s with heap:=h' }) :
  wpAny (model prog w) A (Builtin.SmallTypes.nextOf (.ref it)) Q E s:=by
 obtain⟨o,ho,hc,hd⟩:=id hit
 obtain⟨ol,hol,_,nl,hdl⟩:=hl
 unfold Builtin.SmallTypes.nextOf
 refine wpAny_bind (wpAny_callSpecial?_slot (name:=Str.ofString "__next__") hit.typeIs F.slot_tuple_iterator_next
  (wpAny_call_entry F.slot_tuple_iterator_next hit.typeIs F.entry_tuple_iterator_next ?_ (F.args_tuple_iterator_next_1 _)))
 show wpAny _ _ (field (.ref it) 0 >>= _) _ _ s
 refine wpAny_bind (wpAny_field ho hd (x:=.ref l) rfl ?_)
 show wpAny _ _ (if(Value.ref l==Value.none)=true then _ else _) _ _ s
 rw[if_neg (show ¬((Value.ref l==Value.none)=true) from Bool.false_ne_true)]
 show wpAny _ _ (field (.ref it) 1 >>= _) _ _ s
 refine wpAny_bind (wpAny_field ho hd (x:=.int i 0) rfl ?_)
 show wpAny _ _ (seqItems? (.ref l) >>= _) _ _ s
 refine wpAny_bind (wpAny_seqItems hol hdl ?_)
 simp only[Int.toNat_natCast,hx]
 refine wpAny_bind (wpAny_setField ho hd (by simp) (wpAny_pure ⟨x,rfl,wpAny_pure (hQ _ ?_ (Heap.SameBut.update ..))⟩))
 exact⟨_,Heap.get?_update_self _ ho (Obj.isFreed_of_fields (Obj.data_mapFields hd _)),(Obj.cls_mapFields ..).trans hc,by
  rw[Obj.data_mapFields hd];simp[rawInt]⟩
theorem Sy{it l:Addr}{i:Nat}{items}{Q:Value->Shared->Prop}(hh:A.handled=none)
  (hit:s.heap.IsTupleIter it l i) (hl:s.heap.IsTuple l items) (hx:items[i]?=none)
  (hE:∀h' e,Heap.ExtBut it s.heap h'->(∃o,h'.get? e=some o/\o.cls = .type "StopIteration")->E (.ref e) { s with heap:=h' }) :
  wpAny (model prog w) A (Builtin.SmallTypes.nextOf (.ref it)) Q E s:=by
 obtain⟨o,ho,hc,hd⟩:=id hit
 obtain⟨ol,hol,_,nl,hdl⟩:=hl
 unfold Builtin.SmallTypes.nextOf
 refine wpAny_bind (wpAny_callSpecial?_slot (name:=Str.ofString "__next__") hit.typeIs F.slot_tuple_iterator_next
  (wpAny_call_entry F.slot_tuple_iterator_next hit.typeIs F.entry_tuple_iterator_next ?_ (F.args_tuple_iterator_next_1 _)))
 show wpAny _ _ (field (.ref it) 0 >>= _) _ _ s
 refine wpAny_bind (wpAny_field ho hd (x:=.ref l) rfl ?_)
 show wpAny _ _ (if(Value.ref l==Value.none)=true then _ else _) _ _ s
 rw[if_neg (show ¬((Value.ref l==Value.none)=true) from Bool.false_ne_true)]
 show wpAny _ _ (field (.ref it) 1 >>= _) _ _ s
 refine wpAny_bind (wpAny_field ho hd (x:=.int i 0) rfl ?_)
 show wpAny _ _ (seqItems? (.ref l) >>= _) _ _ s
 refine wpAny_bind (wpAny_seqItems hol hdl ?_)
 simp only[Int.toNat_natCast,hx]
 refine wpAny_bind (wpAny_rule (wpAny_bind (wpAny_setField ho hd (by simp) ?_)))
 show wpAny _ _ (newExc (.type "StopIteration") [] >>= _) _ _ _
 refine wpAny_bind ?_
 simp only[newExc,newTuple]
 refine wpAny_bind (wpAny_newObj_type ?_ (by size_fits))
 refine wpAny_bind (m:=firstArgMember _ _) (wpAny_of_eq (a:=Value.none) (by first | rfl | (simp only[firstArgMember];rfl)) ?_)
 refine wpAny_newObj_type ?_ (by size_fits)
 simp only[raiseNew]
 refine wpAny_bind (wpAny_handled ?_)
 first | rw[show A.in1.handled=none from hh] | rw[hh]
 refine wpAny_bind (wpAny_pure (wpAny_throw ?_))
 exact hE _ _ (((Heap.SameBut.update ..).extBut.push _).push _) ⟨_,Heap.get?_push_size _ rfl,rfl⟩
end
def SeqB(b:Bool)(h:Heap)(a:Addr)(its:Array Value):Prop:=if b=true then h.IsList a its else h.IsTuple a its
def IterB(b:Bool)(h:Heap)(it a:Addr)(i:Nat):Prop:=if b=true then h.IsListIter it a i else h.IsTupleIter it a i
def RY(b:Bool)(K:PySem.W.Frag)(H:Hp)(a:Addr)(xs:List V):Prop:=if b=true then SqL K H a xs else SqT K H a xs
def Uj(b:Bool)(a:Addr):Obj:={ cls:=.type (if b=true then "list_iterator" else "tuple_iterator"),data:=.fields #[.ref a,.int 0 0] }
theorem SeqB.at{b:Bool}{h h':Heap}{a:Addr}{its:Array Value}(x:SeqB b h a its)(k:∀o,h.get? a=some o->h'.get? a=some o):SeqB b h' a its:=by
 cases b with
 | true=>obtain⟨o,e,r⟩:=(show h.IsList a its from x);exact⟨o,k o e,r⟩
 | false=>obtain⟨o,e,r⟩:=(show h.IsTuple a its from x);exact⟨o,k o e,r⟩
theorem SeqB.has{b:Bool}{h:Heap}{a:Addr}{its:Array Value}(x:SeqB b h a its):∃o,h.get? a=some o:=by
 cases b with
 | true=>obtain⟨o,e,r⟩:=(show h.IsList a its from x);exact⟨o,e⟩
 | false=>obtain⟨o,e,r⟩:=(show h.IsTuple a its from x);exact⟨o,e⟩
theorem IterB.at{b:Bool}{h h':Heap}{it a:Addr}{i:Nat}(x:IterB b h it a i)(k:∀o,h.get? it=some o->h'.get? it=some o):IterB b h' it a i:=by
 cases b with
 | true=>obtain⟨o,e,r⟩:=(show h.IsListIter it a i from x);exact⟨o,k o e,r⟩
 | false=>obtain⟨o,e,r⟩:=(show h.IsTupleIter it a i from x);exact⟨o,k o e,r⟩
theorem IterB.has{b:Bool}{h:Heap}{it a:Addr}{i:Nat}(x:IterB b h it a i):∃o,h.get? it=some o/\∀v,o.data≠.cell v:=by
 cases b with
 | true=>obtain⟨o,e,_,d⟩:=(show h.IsListIter it a i from x);exact⟨o,e,fun v z=>by rw[d] at z;cases z⟩
 | false=>obtain⟨o,e,_,d⟩:=(show h.IsTupleIter it a i from x);exact⟨o,e,fun v z=>by rw[d] at z;cases z⟩
theorem IterB.new{b:Bool}{h:Heap}{it a:Addr}(e:h.get? it=some (Uj b a)):IterB b h it a 0:=by
 cases b with
 | true=>exact⟨_,e,rfl,rfl⟩
 | false=>exact⟨_,e,rfl,rfl⟩
section
variable {X:Cx} {pins:List (Addr×Obj)} {σ:St} {H:Hp} {s:Shared} {a:Addr} {xs ys:List V} {b:Bool}
theorem Inv.seqB(I:Inv X pins σ H s)(h:RY b X.K H a xs):∃its:List Value,Vals xs its/\SeqB b s.heap a its.toArray/\xs.length<=sizeLine:=by
 cases b with
 | true=>
  obtain⟨its,r,p,z⟩:=I.list (show SqL X.K H a xs from h)
  exact⟨its,r,p.isList,z⟩
 | false=>
  obtain⟨its,r,p,z⟩:=I.tuple (show SqT X.K H a xs from h)
  exact⟨its,r,p,z⟩
theorem Inv.seqB_inj(I:Inv X pins σ H s)(h:RY b X.K H a xs)(h':RY b X.K H a ys):xs=ys:=by
 cases b with
 | true=>exact I.list_inj (show SqL X.K H a xs from h) (show SqL X.K H a ys from h')
 | false=>exact I.tuple_inj (show SqT X.K H a xs from h) (show SqT X.K H a ys from h')
end
theorem Draws.seq{prog:Program}{w:World}{A:Around}(b:Bool)(hh:A.handled=none)(it l:Addr)(hne:l≠it)(items:Array Value) :
  Draws prog w A it [it,l] items.size (fun i v=>items[i]?=some v) (fun i h=>IterB b h it l i/\SeqB b h l items) where
 live:=fun _ _ st=>let⟨o,ho,_⟩:=st.1.has;⟨o,ho⟩
 frame:=fun _ _ _ st hk=>⟨st.1.at fun o e=>hk it (by simp) o e,st.2.at fun o e=>hk l (by simp) o e⟩
 item:=fun i s Q E hi st hQ=>by
  cases b with
  | true=>
   refine wpAny_nextOf_list_item (show s.heap.IsListIter it l i from st.1) (show s.heap.IsList l items from st.2) (x:=items[i]) (by simp[hi]) fun h' hit' hs'=>?_
   exact hQ _ h' s.toks (by simp[hi]) ⟨hit',st.2.at fun o e=>hs'.extBut l o hne e⟩ hs'
  | false=>
   refine TR (show s.heap.IsTupleIter it l i from st.1) (show s.heap.IsTuple l items from st.2) (x:=items[i]) (by simp[hi]) fun h' hit' hs'=>?_
   exact hQ _ h' s.toks (by simp[hi]) ⟨hit',st.2.at fun o e=>hs'.extBut l o hne e⟩ hs'
 done:=fun s Q E st hE=>by
  cases b with
  | true=>exact wpAny_nextOf_list_end hh (show s.heap.IsListIter it l _ from st.1) (show s.heap.IsList l items from st.2) (by simp) hE
  | false=>exact Sy hh (show s.heap.IsTupleIter it l _ from st.1) (show s.heap.IsTuple l items from st.2) (by simp) hE
theorem YY{prog:Program}{w:World}{A:Around}{E:Value->Shared->Prop}{s:Shared}{b:Bool}{a:Addr}{its:Array Value}{Q:Value->Shared->Prop}(h:SeqB b s.heap a its)
  (hQ:Q (.ref s.heap.objs.size) { s with heap:=s.heap.push (Uj b a) }):wpAny (model prog w) A (pyIter (.ref a)) Q E s:=by
 cases b with
 | true=>exact wpAny_pyIter_list (show s.heap.IsList a its from h) hQ
 | false=>exact wpAny_pyIter_tuple (show s.heap.IsTuple a its from h) hQ
set_option maxHeartbeats 4000000 in
theorem RZ(b:Bool)(l:Addr)(items:Array Value) :
  Meets (Builtin.«enumerate.__new__» ⟨[.type "enumerate",.ref l],[]⟩) (fun _ R s=>SeqB b s.heap l items/\
   R (.ok (.ret (.ref (s.heap.push (Uj b l)).objs.size)))
    { s with heap:=(s.heap.push (Uj b l)).push { cls:=.type "enumerate",data:=.fields #[.none,.bool false,.ref s.heap.objs.size,rawInt 0,.none,.none] } }):=
 .of_wp fun prog w A R s h=>by
  obtain⟨hp,g,d,tk,os⟩:=s;obtain⟨hl,h⟩:=h
  have hsub:=sub_enumerate
  obtain⟨o,ho⟩:=hl.has
  have hL:SeqB b (Shared.heap ⟨hp,g,d,tk,os⟩) l items:=hl
  wp_walk using wpAny_loadPart' ho
  refine wpAny_stack_any fun st=>wpAny_pure ?_
  split
  ·rename_i c _ _ _ _ _
   cases (c==Value.type "enumerate")
   ·wp_walk using wpAny_loadPart' ho,YY hL
    exact⟨_,rfl,h⟩
   ·wp_walk using wpAny_loadPart' ho,YY hL
    exact⟨_,rfl,h⟩
  ·wp_walk using wpAny_loadPart' ho,YY hL
   exact⟨_,rfl,h⟩
section
variable {prog:Program} {w:World} {A:Around} {E:Value->Shared->Prop} {s:Shared}
theorem Q0{b:Bool}{l:Addr}{items:Array Value}{Q:Value->Shared->Prop}(hL:SeqB b s.heap l items)
  (h:∀h',IsEnum h' (s.heap.objs.size+1) s.heap.objs.size 0 .none->IterB b h' s.heap.objs.size l 0->h'.objs.size=s.heap.objs.size+2->
   (∀b o,s.heap.get? b=some o->h'.get? b=some o)->Q (.ref (s.heap.objs.size+1)) { s with heap:=h' }) :
  wpAny (model prog w) A (call (.type "enumerate") [.ref l]) Q E s:=by
 refine callType_new F.called_enumerate (by decide) (F.typeCall_enumerate_1 _) (F.newCall_enumerate_1 _) (fun obj=>F.args_object_init_2 obj _) F.entry_enumerate_new
  (RZ b l items) ⟨hL,?_⟩
 have hz:(s.heap.push (Uj b l)).objs.size=s.heap.objs.size+1:=Heap.size_push ..
 show _/\_
 rw[hz]
 have he:IsEnum ((s.heap.push (Uj b l)).push
   { cls:=.type "enumerate",data:=.fields #[.none,.bool false,.ref s.heap.objs.size,rawInt 0,.none,.none] }) (s.heap.objs.size+1) s.heap.objs.size 0 .none:=by
  have:=Heap.get?_push_size (s.heap.push (Uj b l))
   (o:={ cls:=.type "enumerate",data:=.fields #[.none,.bool false,.ref s.heap.objs.size,rawInt 0,.none,.none] }) rfl
  rw[hz] at this;exact this
 refine⟨⟨_,he,rfl⟩,h _ he (IterB.new (Heap.get?_push_of_some _ (Heap.get?_push_size _ rfl))) (by rw[Heap.size_push,hz]) fun b o x=>Heap.get?_push_of_some _ (Heap.get?_push_of_some _ x)⟩
end
def BR(b:Bool)(K:PySem.W.Frag)(a:Addr):It:=
  ⟨fun i H=>∃xs x,RY b K H a xs/\xs[i]?=some x,
   fun i H v H'=>∃p x,H p=none/\v = .ref p/\H'=upd H p (.tup [.int i,x])/\∀xs,RY b K H a xs->xs[i]?=some x,
   fun i H=>∃xs,RY b K H a xs/\xs.length=i⟩
theorem KZ{P:Program}{w:World}{K:PySem.W.Frag}{elts:List Expr}{k:Nat}{pos:Pos}(b:Bool)(a e it:Addr)(hei:e≠it) :
  Nd P w K (.Tuple elts k pos) (BR b K a) [e,it] e (fun i h=>(∃old,IsEnum h e it i old)/\IterB b h it a i) where
 mem:=by simp
 obj:=fun i h st c hc=>by
  rcases List.mem_cons.mp hc with rfl | hc
  ·obtain⟨⟨old,q⟩,_⟩:=st
   exact⟨_,q,fun v z=>by cases z⟩
  ·rw[List.mem_singleton.mp hc]
   exact st.2.has
 keep:=fun i h h' st kk=>⟨let⟨old,q⟩:=st.1;⟨old,kk e (by simp) _ q⟩,st.2.at fun o q=>kk it (by simp) o q⟩
 item:=by
  intro X hP hw hK hc i pins s σ H E I hf st hg
  subst hP hw hK
  obtain⟨xs,x,hq,hx⟩:=hg
  obtain⟨its,rv,p,hz⟩:=I.seqB hq
  obtain⟨u,hu,ru⟩:=rv.get hx
  obtain⟨⟨old,he⟩,hit⟩:=st
  have fe:=hf e (by simp)
  have fi:=hf it (by simp)
  obtain⟨oa,hoa⟩:=p.has
  have tra:H a=none->a<X.s₀.heap.objs.size\/True:=fun _=>.inr trivial
  -- the sequence is neither record
  have ne_of_fp:∀c,TC X pins H c->(∃oc,s.heap.get? c=some oc/\∃n vs,oc.cls = .type n/\oc.data = .fields vs)->a≠c:=fun c _ ⟨oc,hoc,n,vs,hn,hv⟩ z=>by
   subst z
   rw[hoa] at hoc;cases hoc
   cases b with
   | true=>obtain⟨o,e1,_,m,d⟩:=(show s.heap.IsList a its.toArray from p);rw[hoa] at e1;cases e1;rw[hv] at d;cases d
   | false=>obtain⟨o,e1,_,m,d⟩:=(show s.heap.IsTuple a its.toArray from p);rw[hoa] at e1;cases e1;rw[hv] at d;cases d
  have ae:a≠e:=ne_of_fp e fe ⟨_,he,_,_,rfl,rfl⟩
  have ai:a≠it:=ne_of_fp it fi (by
   cases b with
   | true=>obtain⟨o,e1,c1,d1⟩:=(show s.heap.IsListIter it a i from hit);exact⟨o,e1,_,_,c1,d1⟩
   | false=>obtain⟨o,e1,c1,d1⟩:=(show s.heap.IsTupleIter it a i from hit);exact⟨o,e1,_,_,c1,d1⟩)
  have D:=Draws.seq (prog:=X.prog) (w:=X.w) (A:=X.A.in1) b (I.ok.hd hc) it a ai its.toArray
  have hlt:i<its.toArray.size:=by
   have:=(List.getElem?_eq_some_iff.mp hu).1
   simpa using this
  refine wpAny_pyNext_enum_itemD D he ⟨hit,p⟩ hlt hei (by simp[hei,Ne.symm ae]) fun y h' tk hPy ho hs' hT hsz hk=>?_
  have ey:y=u:=by
   have q1:its.toArray[i]?=some y:=hPy
   have q2:its.toArray[i]?=some u:=by simpa using hu
   rw[q1] at q2;exact Option.some.inj q2
  subst ey
  refine⟨_,rfl,wpAny_letOwnedTupleGo_enum ho fun h2 he2 hs2=>?_⟩
  have hs2:Heap.SameBut e h' h2:=hs2
  have Tne:s.heap.objs.size≠e:=Nat.ne_of_gt (Heap.lt_size he)
  have hTn:H s.heap.objs.size=none:=I.hok.fresh (Nat.le_refl _)
  have kk:∀c o,c∉[e,it]->s.heap.get? c=some o->h2.get? c=some o:=fun c o hc' q=>hs2.extBut c o (fun z=>hc' (by simp[z])) (hk c o (fun z=>hc' (by simp[z])) (fun z=>hc' (by simp[z])) q)
  have hT2:h2.get? s.heap.objs.size=some { cls:=.type "tuple",data:=.seq #[.int i tk,y] }:=hs2.extBut _ _ Tne hT
  have hcs:∀c∈[e,it],(c∈X.ex\/X.s₀.heap.objs.size<=c)/\c≠X.env.locals/\(∀x d,X.env.cells.lookup x=some d->d≠c)/\∀p∈X.pn++pins,p.1≠c:=fun c hc'=>by
   have f:=hf c hc'
   exact⟨f.2.2.2.1,f.2.1,f.2.2.2.2.1,f.2.2.2.2.2⟩
  have nfp:∀c u',H c=some u'->c∉[e,it]:=fun c u' q hc'=>by rw[(hf c hc').1] at q;cases q
  have hok0:HOk X.prog X.w H h2:=fun c u' q=>(I.hok c u' q).stay (fun d v hd q'=>kk d v (by
    rcases hd with z | z
    ·rw[z];exact nfp c u' q
    ·exact nfp d _ z) q') (fun _ z=>z) fun _ _ z=>z
  have new:ObjOk X.prog X.w (upd H s.heap.objs.size (.tup [.int i,x])) h2 s.heap.objs.size (.tup [.int i,x]):=
   ⟨by show 2<=sizeLine;decide,[.int i tk,y],.cons ⟨tk,rfl⟩ (.cons ru .nil),⟨_,hT2,rfl,_,rfl⟩⟩
  have hok1:HOk X.prog X.w (upd H s.heap.objs.size (.tup [.int i,x])) h2:=fun c u' q=>by
   by_cases hb:c=s.heap.objs.size
   ·subst hb;rw[upd_same] at q;cases q;exact new
   ·rw[upd_ne hb] at q
    exact(hok0 c u' q).stay (fun d v _ q'=>q') (fun d z=>by rw[upd_ne (ZC z hTn)];exact z) fun d zs z=>by rw[upd_ne (ZC z hTn)];exact z
  have un:Un (Mi X.stack) [e,it] H (upd H s.heap.objs.size (.tup [.int i,x])) s.heap h2:=by
   refine⟨fun c o q _ _ hx'=>kk c o hx' q,fun c o q _ _ hx'=>⟨o.slots,kk c o hx' q⟩,fun c o q n _=>?_,fun c o q hx'=>⟨o,kk c o hx' q⟩,fun c zs q=>?_,fun c o zs q=>?_,fun c ps q=>⟨#[],?_⟩⟩
   ·rw[upd_ne (Nat.ne_of_lt (Heap.lt_size q))];exact n
   ·rw[upd_ne (ZC q hTn)];exact q
   ·rw[upd_ne (ZC q hTn)];exact q
   ·rw[upd_ne (ZC q hTn),q];simp
  have I2:Inv X pins σ (upd H s.heap.objs.size (.tup [.int i,x])) { s with heap:=h2,toks:=tk+1 }:=I.call (g':=s.gens) (d':=s.drawn) un hok1 I.bare hcs
  refine⟨.ref s.heap.objs.size,upd H s.heap.objs.size (.tup [.int i,x]),I2,rfl,⟨_,x,hTn,rfl,rfl,fun zs hzs=>by rw[I.seqB_inj hzs hq];exact hx⟩,⟨⟨y,by simpa using he2⟩,?_⟩,fun c hc'=>?_⟩
  ·exact hs'.1.at fun o q=>hs2.extBut it o (Ne.symm hei) q
  ·rw[upd_ne (Nat.ne_of_lt (by
    rcases List.mem_cons.mp hc' with rfl | hc'
    ·exact Heap.lt_size he
    ·rw[List.mem_singleton.mp hc'];obtain⟨o,q,_⟩:=hit.has;exact Heap.lt_size q))]
   exact(hf c hc').1
 done:=by
  intro X hP hw hK hc i pins s σ H E I hf st hg
  subst hP hw hK
  obtain⟨xs,hq,hx⟩:=hg
  obtain⟨its,rv,p,hz⟩:=I.seqB hq
  obtain⟨⟨old,he⟩,hit⟩:=st
  have fi:=hf it (by simp)
  obtain⟨oa,hoa⟩:=p.has
  have ai:a≠it:=fun z=>by
   subst z
   cases b with
   | true=>
    obtain⟨o,e1,_,m,d⟩:=(show s.heap.IsList a its.toArray from p)
    obtain⟨o',e2,_,d2⟩:=(show s.heap.IsListIter a a i from hit)
    rw[e1] at e2;cases e2;rw[d] at d2;cases d2
   | false=>
    obtain⟨o,e1,_,m,d⟩:=(show s.heap.IsTuple a its.toArray from p)
    obtain⟨o',e2,_,d2⟩:=(show s.heap.IsTupleIter a a i from hit)
    rw[e1] at e2;cases e2;rw[d] at d2;cases d2
  have D:=Draws.seq (prog:=X.prog) (w:=X.w) (A:=X.A.in1) b (I.ok.hd hc) it a ai its.toArray
  have hl:=rv.length
  have hi:i=its.toArray.size:=by simp;omega
  refine wpAny_pyNext_enum_endD D he (by rw[<-hi];exact⟨hit,p⟩) fun h' hx'=>⟨rfl,?_⟩
  obtain⟨f0,f1,f2,f3,f4,f5⟩:=fi
  exact I.turned (t':=s.toks) (fun c o hb q=>hx' c o hb q) f0 f1 f3 f4 f5
 self:=fun A i s Q E st hQ=>by
  obtain⟨⟨old,he⟩,_⟩:=st
  exact wpAny_pyIter_enum he hQ
end L2
namespace L2
open PySem PySem.Spec PyProof.Rows
section
variable {X:Cx}
def CM(b:Bool)(K:PySem.W.Frag)(ta:TA):TI:=fun σ H R=>ta σ H fun vs H1=>∃a,vs=[.ref a]/\(∃xs,RY b K H1 a xs)/\R (BR b K a) H1
theorem GO{elts:List Expr}{k:Nat}{tpos:Pos}(b:Bool){a:Expr}{ta:TA}{p pos:Pos}(hg:Gl X "enumerate")(hm:X.mg "enumerate" = none)(ha:PA X [a] ta)(hs:starEach [a] X.env=[(false,eval a X.env)]:=by rfl) :
  PI X (.Tuple elts k tpos) (.Call (.Name "enumerate" p) [a] [] pos) (CM b X.K ta):=by
 intro pins s σ H R I h
 refine Call_ (VN I hg hm (by decide +kernel:bootBuiltins "enumerate" = some (.type "enumerate")) (PyProof.Rows.callWith_type1 (Y1 (ha pos pins s σ H _ I h) fun us s1 ⟨vs,H1,I1,r1,q1⟩=>?_) hs rfl))
 obtain⟨a,e,⟨xs,hq⟩,q⟩:=q1
 subst e
 cases r1 with
 | cons r rr=>
  cases rr;cases r
  obtain⟨its,rv,hseq,hz⟩:=I1.seqB hq
  refine Q0 hseq fun h' he hit hsz hk=>?_
  refine wpAny_pyIter_enum he ?_
  have I2:Inv X pins σ H1 { s1 with heap:=h' }:=I1.kept (t':=s1.toks) hk
  have ne:s1.heap.objs.size+1≠s1.heap.objs.size:=Nat.ne_of_gt (Nat.lt_succ_self _)
  refine⟨s1.heap.objs.size+1,[s1.heap.objs.size+1,s1.heap.objs.size],_,_,H1,rfl,I2,KZ b a (s1.heap.objs.size+1) s1.heap.objs.size ne,⟨⟨.none,he⟩,hit⟩,fun c hc=>?_,q⟩
  rcases List.mem_cons.mp hc with rfl | hc
  ·exact I1.fpOk (Nat.le_succ _) (I1.hok.fresh (Nat.le_succ _))
  ·rw[List.mem_singleton.mp hc]
   exact I1.fpOk (Nat.le_refl _) (I1.hok.fresh (Nat.le_refl _))
end
section
variable {prog:Program} {w:World} {A:Around} {E:Value->Shared->Prop} {s:Shared}
structure Px(z TI TO i1 i2:Addr)(fp1 fp2:List Addr):Prop where
 TIz:TI≠z
 TOz:TO≠z
 i1z:i1≠z
 i2z:i2≠z
 TITO:TI≠TO
 TIi1:TI≠i1
 TIi2:TI≠i2
 TOi1:TO≠i1
 TOi2:TO≠i2
 i12:i1≠i2
 z1:z∉fp1
 TO1:TO∉fp1
 i21:i2∉fp1
 z2:z∉fp2
 TO2:TO∉fp2
 i12':i1∉fp2
theorem J8{z TI TO i1 i2:Addr}{fp1 fp2:List Addr}{n1 n2 k:Nat}{P1 P2:Nat->Value->Prop}{St1 St2:Nat->Heap->Prop}{a b:Value}{Q:Value->Shared->Prop}(D:Px z TI TO i1 i2 fp1 fp2)
  (D1:Draws prog w A i1 fp1 n1 P1 St1) (D2:Draws prog w A i2 fp2 n2 P2 St2)
  (hz:IsZip s.heap z TI TO .none) (hTI:IsPair s.heap TI (.ref i1) (.ref i2)) (hTO:IsPair s.heap TO a b)
  (h1:St1 k s.heap) (h2:St2 k s.heap) (hx:k<n1) (hy:k<n2)
  (hQ:∀x y h' tk,P1 k x->P2 k y->IsZip h' z TI TO (rawInt s.heap.objs.size)->IsPair h' TO x y->St1 (k+1) h'->St2 (k+1) h'->IsPair h' s.heap.objs.size x y->h'.objs.size=s.heap.objs.size+1->
   (∀c o,c≠z->c≠TO->c≠i1->c≠i2->s.heap.get? c=some o->h'.get? c=some o)->Q (.ref s.heap.objs.size) { s with heap:=h',toks:=tk }) :
  wpAny (model prog w) A (Builtin.«zip.__next__» ⟨[.ref z],[]⟩) (fun fin s'=>∃v,fin = .done (.ret v)/\Q v s') E s:=by
 show wpAny _ _ (field (.ref z) 2 >>= _) _ _ _
 refine wpAny_bind (wpAny_field hz rfl (x:=.bool false) rfl ?_)
 show wpAny _ _ (field (.ref z) 3 >>= _) _ _ _
 refine wpAny_bind (wpAny_field hz rfl (x:=.ref TI) rfl ?_)
 refine wpAny_bind (wpAny_seqItems hTI rfl ?_)
 show wpAny _ _ (Builtin.SmallTypes.ownedTupleIsFree (.ref z) >>= _) _ _ _
 refine wpAny_bind ?_
 unfold Builtin.SmallTypes.ownedTupleIsFree
 refine wpAny_bind (wpAny_field hz rfl (x:=.none) rfl (wpAny_pure ?_))
 simp only[if_true]
 refine wpAny_bind (wpAny_rule ?_)
 refine wpAny_bind (wpAny_field hz rfl (x:=.ref TO) rfl ?_)
 refine wpAny_bind (wpAny_setField_rec hz (by simp) fun h₁ hz₁ hs₁=>?_)
 replace hz₁:IsZip h₁ z TI TO .ellipsis:=hz₁
 refine wpAny_bind ?_
 simp only[List.zipIdx_cons,List.zipIdx_nil,List.forIn_cons,List.forIn_nil]
 refine wpAny_bind (wpAny_bind (wpAny_onRaise ?_))
 show wpAny _ _ (Builtin.SmallTypes.nextOf (.ref i1) >>= _) _ _ _
 have st1:St1 k h₁:=D1.frame _ _ _ h1 fun c hc o e=>hs₁.extBut c o (fun q=>D.z1 (q▸hc)) e
 refine wpAny_bind (D1.item k _ _ _ hx st1 fun x h₂ tk₂ hPx h1₂ hs₂=>wpAny_pure ?_)
 replace hs₂:Heap.SameBut i1 h₁ h₂:=hs₂
 have hTO₂:IsPair h₂ TO a b:=hs₂.extBut _ _ D.TOi1 (hs₁.extBut _ _ D.TOz hTO)
 refine wpAny_bind (wpAny_seqItems hTO₂ rfl ?_)
 refine wpAny_bind (wpAny_updateSeq_pair hTO₂ fun h₃ hTO₃ hs₃=>?_)
 replace hTO₃:IsPair h₃ TO x b:=hTO₃
 replace hs₃:Heap.SameBut TO h₂ h₃:=hs₃
 refine wpAny_bind (wpAny_letGo (wpAny_pure ?_))
 refine wpAny_bind (wpAny_bind (wpAny_onRaise ?_))
 show wpAny _ _ (Builtin.SmallTypes.nextOf (.ref i2) >>= _) _ _ _
 have st2:St2 k h₃:=D2.frame _ _ _ h2 fun c hc o e=>hs₃.extBut c o (fun q=>D.TO2 (q▸hc)) (hs₂.extBut c o (fun q=>D.i12' (q▸hc)) (hs₁.extBut c o (fun q=>D.z2 (q▸hc)) e))
 refine wpAny_bind (D2.item k _ _ _ hy st2 fun y h₄ tk₄ hPy h2₄ hs₄=>wpAny_pure ?_)
 replace hs₄:Heap.SameBut i2 h₃ h₄:=hs₄
 have hTO₄:IsPair h₄ TO x b:=hs₄.extBut _ _ D.TOi2 hTO₃
 refine wpAny_bind (wpAny_seqItems hTO₄ rfl ?_)
 refine wpAny_bind (wpAny_updateSeq_pair hTO₄ fun h₅ hTO₅ hs₅=>?_)
 replace hTO₅:IsPair h₅ TO x y:=hTO₅
 replace hs₅:Heap.SameBut TO h₄ h₅:=hs₅
 refine wpAny_bind (wpAny_letGo (wpAny_pure (wpAny_pure ?_)))
 refine wpAny_bind (wpAny_seqItems hTO₅ rfl ?_)
 refine wpAny_bind (wpAny_newTuple ?_)
 have hsz:h₅.objs.size=s.heap.objs.size:=by rw[hs₅.1,hs₄.1,hs₃.1,hs₂.1,hs₁.1]
 have hz₅:IsZip h₅ z TI TO .ellipsis:=hs₅.extBut _ _ D.TOz.symm (hs₄.extBut _ _ D.i2z.symm (hs₃.extBut _ _ D.TOz.symm (hs₂.extBut _ _ D.i1z.symm hz₁)))
 have hk₅:∀c o,c≠z->c≠TO->c≠i1->c≠i2->s.heap.get? c=some o->h₅.get? c=some o:=fun c o c1 c2 c3 c4 e=>
  hs₅.extBut _ _ c2 (hs₄.extBut _ _ c4 (hs₃.extBut _ _ c2 (hs₂.extBut _ _ c3 (hs₁.extBut _ _ c1 e))))
 have h1₅:St1 (k+1) h₅:=D1.frame _ _ _ h1₂ fun c hc o e=>hs₅.extBut c o (fun q=>D.TO1 (q▸hc)) (hs₄.extBut c o (fun q=>D.i21 (q▸hc)) (hs₃.extBut c o (fun q=>D.TO1 (q▸hc)) e))
 have h2₅:St2 (k+1) h₅:=D2.frame _ _ _ h2₄ fun c hc o e=>hs₅.extBut c o (fun q=>D.TO2 (q▸hc)) e
 have hzlt:z<h₅.objs.size:=Heap.lt_size hz₅
 have hTOlt:TO<h₅.objs.size:=Heap.lt_size hTO₅
 show wpAny _ _ (Builtin.SmallTypes.ownedTupleHandOut (.ref z) (.ref h₅.objs.size) >>= _) _ _ _
 refine wpAny_bind ?_
 unfold Builtin.SmallTypes.ownedTupleHandOut
 have hz₆:IsZip (h₅.push { cls:=.type "tuple",data:=.seq #[x,y] }) z TI TO .ellipsis:=Heap.get?_push_of_some _ hz₅
 refine wpAny_bind (wpAny_setField_rec hz₆ (by simp) fun h₇ hz₇ hs₇=>?_)
 replace hz₇:IsZip h₇ z TI TO (rawInt h₅.objs.size):=hz₇
 refine wpAny_setField_rec hz₇ (by simp) fun h₈ hz₈ hs₈=>?_
 replace hz₈:IsZip h₈ z TI TO (rawInt h₅.objs.size):=hz₈
 have up:∀c o,c≠z->h₅.get? c=some o->h₈.get? c=some o:=fun c o c1 e=>hs₈.extBut _ _ c1 (hs₇.extBut _ _ c1 (Heap.get?_push_of_some _ e))
 have hT₈:IsPair h₈ h₅.objs.size x y:=hs₈.extBut _ _ (Nat.ne_of_gt hzlt) (hs₇.extBut _ _ (Nat.ne_of_gt hzlt) (Heap.get?_push_size _ rfl))
 have hz8:h₈.objs.size=h₅.objs.size+1:=by rw[hs₈.1,hs₇.1,Heap.size_push]
 rw[hsz] at hz₈ hT₈ hz8
 refine wpAny_pure ⟨_,rfl,?_⟩
 show Q (.ref h₅.objs.size) _
 rw[hsz]
 exact hQ x y h₈ tk₄ hPx hPy hz₈ (up _ _ D.TOz hTO₅) (D1.frame _ _ _ h1₅ fun c hc o e=>up c o (fun q=>D.z1 (q▸hc)) e) (D2.frame _ _ _ h2₅ fun c hc o e=>up c o (fun q=>D.z2 (q▸hc)) e) hT₈ hz8 fun c o c1 c2 c3 c4 e=>up c o c1 (hk₅ c o c1 c2 c3 c4 e)
theorem GP{z TI TO i1 i2:Addr}{fp1 fp2:List Addr}{n1 n2 k:Nat}{P1 P2:Nat->Value->Prop}{St1 St2:Nat->Heap->Prop}{a b:Value}{Q:PySem.Fin->Shared->Prop}(D:Px z TI TO i1 i2 fp1 fp2)
  (D1:Draws prog w A i1 fp1 n1 P1 St1) (D2:Draws prog w A i2 fp2 n2 P2 St2)
  (hz:IsZip s.heap z TI TO .none) (hTI:IsPair s.heap TI (.ref i1) (.ref i2)) (hTO:IsPair s.heap TO a b)
  (h1:St1 k s.heap) (h2:St2 k s.heap) (hend:k=n1\/(k<n1/\k=n2))
  (hE:∀h' tk e,(∀c o,c≠z->c≠TO->c≠i1->c≠i2->s.heap.get? c=some o->h'.get? c=some o)->(∃o,h'.get? e=some o/\o.cls = .type "StopIteration")->E (.ref e) { s with heap:=h',toks:=tk }) :
  wpAny (model prog w) A (Builtin.«zip.__next__» ⟨[.ref z],[]⟩) Q E s:=by
 show wpAny _ _ (field (.ref z) 2 >>= _) _ _ _
 refine wpAny_bind (wpAny_field hz rfl (x:=.bool false) rfl ?_)
 show wpAny _ _ (field (.ref z) 3 >>= _) _ _ _
 refine wpAny_bind (wpAny_field hz rfl (x:=.ref TI) rfl ?_)
 refine wpAny_bind (wpAny_seqItems hTI rfl ?_)
 show wpAny _ _ (Builtin.SmallTypes.ownedTupleIsFree (.ref z) >>= _) _ _ _
 refine wpAny_bind ?_
 unfold Builtin.SmallTypes.ownedTupleIsFree
 refine wpAny_bind (wpAny_field hz rfl (x:=.none) rfl (wpAny_pure ?_))
 simp only[if_true]
 refine wpAny_bind (wpAny_rule ?_)
 refine wpAny_bind (wpAny_field hz rfl (x:=.ref TO) rfl ?_)
 refine wpAny_bind (wpAny_setField_rec hz (by simp) fun h₁ hz₁ hs₁=>?_)
 replace hz₁:IsZip h₁ z TI TO .ellipsis:=hz₁
 replace hs₁:Heap.SameBut z s.heap h₁:=hs₁
 refine wpAny_bind ?_
 simp only[List.zipIdx_cons,List.zipIdx_nil,List.forIn_cons,List.forIn_nil]
 refine wpAny_bind (wpAny_bind (wpAny_onRaise ?_))
 show wpAny _ _ (Builtin.SmallTypes.nextOf (.ref i1) >>= _) _ _ _
 have st1:St1 k h₁:=D1.frame _ _ _ h1 fun c hc o e=>hs₁.extBut c o (fun q=>D.z1 (q▸hc)) e
 rcases hend with hk | ⟨hx,hk⟩
 ·rw[hk] at st1
  refine wpAny_bind (D1.done _ _ _ st1 fun h₂ e hs₂ he=>?_)
  replace hs₂:Heap.ExtBut i1 h₁ h₂:=hs₂
  obtain⟨oe,hoe,hce⟩:=he
  have hz₂:IsZip h₂ z TI TO .ellipsis:=hs₂ _ _ D.i1z.symm hz₁
  have hez:e≠z:=fun x=>by subst x;rw[hz₂] at hoe;cases hoe;simp at hce
  refine wpAny_setField_rec hz₂ (by simp) fun h₃ _ hs₃=>?_
  replace hs₃:Heap.SameBut z h₂ h₃:=hs₃
  exact hE h₃ _ e (fun c o c1 _ c3 _ x=>hs₃.extBut _ _ c1 (hs₂ _ _ c3 (hs₁.extBut _ _ c1 x))) ⟨oe,hs₃.extBut _ _ hez hoe,hce⟩
 ·refine wpAny_bind (D1.item k _ _ _ hx st1 fun x h₂ tk₂ hPx h1₂ hs₂=>wpAny_pure ?_)
  replace hs₂:Heap.SameBut i1 h₁ h₂:=hs₂
  have hTO₂:IsPair h₂ TO a b:=hs₂.extBut _ _ D.TOi1 (hs₁.extBut _ _ D.TOz hTO)
  refine wpAny_bind (wpAny_seqItems hTO₂ rfl ?_)
  refine wpAny_bind (wpAny_updateSeq_pair hTO₂ fun h₃ hTO₃ hs₃=>?_)
  replace hs₃:Heap.SameBut TO h₂ h₃:=hs₃
  refine wpAny_bind (wpAny_letGo (wpAny_pure ?_))
  refine wpAny_bind (wpAny_bind (wpAny_onRaise ?_))
  show wpAny _ _ (Builtin.SmallTypes.nextOf (.ref i2) >>= _) _ _ _
  have st2:St2 k h₃:=D2.frame _ _ _ h2 fun c hc o e=>hs₃.extBut c o (fun q=>D.TO2 (q▸hc)) (hs₂.extBut c o (fun q=>D.i12' (q▸hc)) (hs₁.extBut c o (fun q=>D.z2 (q▸hc)) e))
  rw[hk] at st2
  refine wpAny_bind (D2.done _ _ _ st2 fun h₄ e hs₄ he=>?_)
  replace hs₄:Heap.ExtBut i2 h₃ h₄:=hs₄
  obtain⟨oe,hoe,hce⟩:=he
  have hz₄:IsZip h₄ z TI TO .ellipsis:=hs₄ _ _ D.i2z.symm (hs₃.extBut _ _ D.TOz.symm (hs₂.extBut _ _ D.i1z.symm hz₁))
  have hez:e≠z:=fun x=>by subst x;rw[hz₄] at hoe;cases hoe;simp at hce
  refine wpAny_setField_rec hz₄ (by simp) fun h₅ _ hs₅=>?_
  replace hs₅:Heap.SameBut z h₄ h₅:=hs₅
  exact hE h₅ _ e (fun c o c1 c2 c3 c4 x=>hs₅.extBut _ _ c1 (hs₄ _ _ c4 (hs₃.extBut _ _ c2 (hs₂.extBut _ _ c3 (hs₁.extBut _ _ c1 x))))) ⟨oe,hs₅.extBut _ _ hez hoe,hce⟩
theorem Rj{z TI TO i1 i2:Addr}{fp1 fp2:List Addr}{n1 n2 k:Nat}{P1 P2:Nat->Value->Prop}{St1 St2:Nat->Heap->Prop}{a b:Value}{Q:Option Value->Shared->Prop}(D:Px z TI TO i1 i2 fp1 fp2)
  (D1:Draws prog w A.in1 i1 fp1 n1 P1 St1) (D2:Draws prog w A.in1 i2 fp2 n2 P2 St2)
  (hz:IsZip s.heap z TI TO .none) (hTI:IsPair s.heap TI (.ref i1) (.ref i2)) (hTO:IsPair s.heap TO a b)
  (h1:St1 k s.heap) (h2:St2 k s.heap) (hx:k<n1) (hy:k<n2)
  (hQ:∀x y h' tk,P1 k x->P2 k y->IsZip h' z TI TO (rawInt s.heap.objs.size)->IsPair h' TO x y->St1 (k+1) h'->St2 (k+1) h'->IsPair h' s.heap.objs.size x y->h'.objs.size=s.heap.objs.size+1->
   (∀c o,c≠z->c≠TO->c≠i1->c≠i2->s.heap.get? c=some o->h'.get? c=some o)->Q (some (.ref s.heap.objs.size)) { s with heap:=h',toks:=tk }) :
  wpAny (model prog w) A (pyNext (.ref z)) Q E s:=by
 have hT:s.TypeIs (.ref z) "zip":=⟨_,hz,rfl⟩
 unfold pyNext
 exact wpAny_bind (wpAny_attempt (wpAny_callSpecial?_slot (name:=Str.ofString "__next__") hT F.slot_zip_next
  (wpAny_call_entry F.slot_zip_next hT F.entry_zip_next
   (J8 D D1 D2 hz hTI hTO h1 h2 hx hy fun x y h' tk p1 p2 a1 a2 a3 a4 a5 a6 a7=>wpAny_pure (hQ x y h' tk p1 p2 a1 a2 a3 a4 a5 a6 a7)) (F.args_zip_next_1 _))))
theorem R0{z TI TO i1 i2:Addr}{fp1 fp2:List Addr}{n1 n2 k:Nat}{P1 P2:Nat->Value->Prop}{St1 St2:Nat->Heap->Prop}{a b:Value}{Q:Option Value->Shared->Prop}(D:Px z TI TO i1 i2 fp1 fp2)
  (D1:Draws prog w A.in1 i1 fp1 n1 P1 St1) (D2:Draws prog w A.in1 i2 fp2 n2 P2 St2)
  (hz:IsZip s.heap z TI TO .none) (hTI:IsPair s.heap TI (.ref i1) (.ref i2)) (hTO:IsPair s.heap TO a b)
  (h1:St1 k s.heap) (h2:St2 k s.heap) (hend:k=n1\/(k<n1/\k=n2))
  (hQ:∀h' tk,(∀c o,c≠z->c≠TO->c≠i1->c≠i2->s.heap.get? c=some o->h'.get? c=some o)->Q none { s with heap:=h',toks:=tk }):wpAny (model prog w) A (pyNext (.ref z)) Q E s:=by
 have hT:s.TypeIs (.ref z) "zip":=⟨_,hz,rfl⟩
 unfold pyNext
 refine wpAny_bind (wpAny_attempt (wpAny_callSpecial?_slot (name:=Str.ofString "__next__") hT F.slot_zip_next
  (wpAny_call_entry F.slot_zip_next hT F.entry_zip_next (GP D D1 D2 hz hTI hTO h1 h2 hend fun h' tk e hk he=>?_) (F.args_zip_next_1 _))))
 obtain⟨o,ho,hc⟩:=he
 refine wpAny_bind (wpAny_isInstance (T:="StopIteration") (b:=true) ⟨o,ho,hc⟩ isSubtype_stop ?_)
 exact wpAny_pure (hQ _ tk hk)
end
abbrev Bc(h:Heap)(b1:Bool)(l1:Addr):Heap:=h.push (Uj b1 l1)
abbrev Bd(h:Heap)(b1 b2:Bool)(l1 l2:Addr):Heap:=(Bc h b1 l1).push (Uj b2 l2)
abbrev Be(h:Heap)(b1 b2:Bool)(l1 l2:Addr):Heap:=(Bd h b1 b2 l1 l2).push { cls:=.type "tuple",data:=.seq #[.ref h.objs.size,.ref (Bc h b1 l1).objs.size] }
abbrev Bf(h:Heap)(b1 b2:Bool)(l1 l2:Addr):Heap:=(Be h b1 b2 l1 l2).push { cls:=.type "tuple",data:=.seq #[.none,.none] }
abbrev Dc(h:Heap)(b1 b2:Bool)(l1 l2:Addr):Heap:=(Bf h b1 b2 l1 l2).push { cls:=.type "zip",data:=.fields #[.none,.bool false,.bool false,.ref (Bd h b1 b2 l1 l2).objs.size,.ref (Be h b1 b2 l1 l2).objs.size] }
theorem Q1(b1 b2:Bool)(l1 l2:Addr)(xs ys:Array Value) :
  Meets (Builtin.«zip.__new__» ⟨[.type "zip",.ref l1,.ref l2],[]⟩) (fun _ R s=>SeqB b1 s.heap l1 xs/\SeqB b2 s.heap l2 ys/\
   R (.ok (.ret (.ref (Bf s.heap b1 b2 l1 l2).objs.size))) { s with heap:=Dc s.heap b1 b2 l1 l2 }):=
 .of_wp fun prog w A R s h=>by
  obtain⟨hp,g,d,tk,os⟩:=s;obtain⟨hl1,hl2,h⟩:=h
  have hsub:=sub_zip
  have hL1:SeqB b1 (Shared.heap ⟨hp,g,d,tk,os⟩) l1 xs:=hl1
  have hL2:SeqB b2 (Shared.heap ⟨hp.push (Uj b1 l1),g,d,tk,os⟩) l2 ys:=hl2.at fun o e=>Heap.get?_push_of_some _ e
  wp_walk using YY hL1,YY hL2
  exact⟨_,rfl,h⟩
section
variable {prog:Program} {w:World} {A:Around} {E:Value->Shared->Prop} {s:Shared}
theorem Oo{b1 b2:Bool}{l1 l2:Addr}{xs ys:Array Value}{Q:Value->Shared->Prop}(hl1:SeqB b1 s.heap l1 xs)(hl2:SeqB b2 s.heap l2 ys)
  (h:∀h',IsZip h' (s.heap.objs.size+4) (s.heap.objs.size+2) (s.heap.objs.size+3) .none->IsPair h' (s.heap.objs.size+2) (.ref s.heap.objs.size) (.ref (s.heap.objs.size+1))->
   IsPair h' (s.heap.objs.size+3) .none .none->IterB b1 h' s.heap.objs.size l1 0->IterB b2 h' (s.heap.objs.size+1) l2 0->h'.objs.size=s.heap.objs.size+5->
   (∀c o,s.heap.get? c=some o->h'.get? c=some o)->Q (.ref (s.heap.objs.size+4)) { s with heap:=h' }) :
  wpAny (model prog w) A (call (.type "zip") [.ref l1,.ref l2]) Q E s:=by
 refine callType_new F.called_zip (by decide) (F.typeCall_zip_2 _ _) (F.newCall_zip_2 _ _) (fun obj=>F.args_object_init_3 obj _ _) F.entry_zip_new
  (Q1 b1 b2 l1 l2 xs ys) ⟨hl1,hl2,?_⟩
 have z1:(Bc s.heap b1 l1).objs.size=s.heap.objs.size+1:=Heap.size_push ..
 have z2:(Bd s.heap b1 b2 l1 l2).objs.size=s.heap.objs.size+2:=by rw[Heap.size_push,z1]
 have z3:(Be s.heap b1 b2 l1 l2).objs.size=s.heap.objs.size+3:=by rw[Heap.size_push,z2]
 have z4:(Bf s.heap b1 b2 l1 l2).objs.size=s.heap.objs.size+4:=by rw[Heap.size_push,z3]
 have z5:(Dc s.heap b1 b2 l1 l2).objs.size=s.heap.objs.size+5:=by rw[Heap.size_push,z4]
 have g5:(Dc s.heap b1 b2 l1 l2).get? (Bf s.heap b1 b2 l1 l2).objs.size=some _:=Heap.get?_push_size _ rfl
 have g4:(Dc s.heap b1 b2 l1 l2).get? (Be s.heap b1 b2 l1 l2).objs.size=some _:=Heap.get?_push_of_some _ (Heap.get?_push_size _ rfl)
 have g3:(Dc s.heap b1 b2 l1 l2).get? (Bd s.heap b1 b2 l1 l2).objs.size=some _:=Heap.get?_push_of_some _ (Heap.get?_push_of_some _ (Heap.get?_push_size _ rfl))
 have g2:(Dc s.heap b1 b2 l1 l2).get? (Bc s.heap b1 l1).objs.size=some (Uj b2 l2):=Heap.get?_push_of_some _ (Heap.get?_push_of_some _ (Heap.get?_push_of_some _ (Heap.get?_push_size _ rfl)))
 have g1:(Dc s.heap b1 b2 l1 l2).get? s.heap.objs.size=some (Uj b1 l1):=Heap.get?_push_of_some _ (Heap.get?_push_of_some _ (Heap.get?_push_of_some _ (Heap.get?_push_of_some _ (Heap.get?_push_size _ rfl))))
 show _/\_
 rw[z2,z3,z4] at g5;rw[z1,z2] at g3;rw[z3] at g4;rw[z1] at g2;rw[z4]
 exact⟨⟨_,g5,rfl⟩,h _ g5 g3 g4 (IterB.new g1) (IterB.new g2) z5 fun c o x=>
  Heap.get?_push_of_some _ (Heap.get?_push_of_some _ (Heap.get?_push_of_some _ (Heap.get?_push_of_some _ (Heap.get?_push_of_some _ x))))⟩
end
theorem Inv.newTup{X:Cx}{pins:List (Addr×Obj)}{σ:St}{H:Hp}{s:Shared}{fp:List Addr}{h2:Heap}{tk n:Nat}{us:List Value}{xs:List V}(I:Inv X pins σ H s)(hf:∀b∈fp,TC X pins H b)
  (kk:∀c o,c∉fp->s.heap.get? c=some o->h2.get? c=some o) (hT:h2.get? s.heap.objs.size=some { cls:=.type "tuple",data:=.seq us.toArray n }) (rv:Vals xs us) (hz:xs.length<=sizeLine) :
  Inv X pins σ (upd H s.heap.objs.size (.tup xs)) { s with heap:=h2,toks:=tk }:=by
 have hTn:H s.heap.objs.size=none:=I.hok.fresh (Nat.le_refl _)
 have hcs:∀c∈fp,(c∈X.ex\/X.s₀.heap.objs.size<=c)/\c≠X.env.locals/\(∀x d,X.env.cells.lookup x=some d->d≠c)/\∀p∈X.pn++pins,p.1≠c:=fun c hc'=>by
  have f:=hf c hc'
  exact⟨f.2.2.2.1,f.2.1,f.2.2.2.2.1,f.2.2.2.2.2⟩
 have nfp:∀c u',H c=some u'->c∉fp:=fun c u' q hc'=>by rw[(hf c hc').1] at q;cases q
 have hok0:HOk X.prog X.w H h2:=fun c u' q=>(I.hok c u' q).stay (fun d v hd q'=>kk d v (by
   rcases hd with z | z
   ·rw[z];exact nfp c u' q
   ·exact nfp d _ z) q') (fun _ z=>z) fun _ _ z=>z
 have new:ObjOk X.prog X.w (upd H s.heap.objs.size (.tup xs)) h2 s.heap.objs.size (.tup xs):=
  ⟨hz,us,rv,⟨_,hT,rfl,_,rfl⟩⟩
 have hok1:HOk X.prog X.w (upd H s.heap.objs.size (.tup xs)) h2:=fun c u' q=>by
  by_cases hb:c=s.heap.objs.size
  ·subst hb;rw[upd_same] at q;cases q;exact new
  ·rw[upd_ne hb] at q
   exact(hok0 c u' q).stay (fun d v _ q'=>q') (fun d z=>by rw[upd_ne (ZC z hTn)];exact z) fun d zs z=>by rw[upd_ne (ZC z hTn)];exact z
 have un:Un (Mi X.stack) fp H (upd H s.heap.objs.size (.tup xs)) s.heap h2:=by
  refine⟨fun c o q _ _ hx'=>kk c o hx' q,fun c o q _ _ hx'=>⟨o.slots,kk c o hx' q⟩,fun c o q n _=>?_,fun c o q hx'=>⟨o,kk c o hx' q⟩,fun c zs q=>?_,fun c o zs q=>?_,fun c ps q=>⟨#[],?_⟩⟩
  ·rw[upd_ne (Nat.ne_of_lt (Heap.lt_size q))];exact n
  ·rw[upd_ne (ZC q hTn)];exact q
  ·rw[upd_ne (ZC q hTn)];exact q
  ·rw[upd_ne (ZC q hTn),q];simp
 exact I.call (g':=s.gens) (d':=s.drawn) un hok1 I.bare hcs
theorem Inv.turnedL{X:Cx}{pins:List (Addr×Obj)}{σ:St}{H:Hp}{s:Shared}{fp:List Addr}{h2:Heap}{tk:Nat}(I:Inv X pins σ H s)(hf:∀b∈fp,TC X pins H b)
  (kk:∀c o,c∉fp->s.heap.get? c=some o->h2.get? c=some o):Inv X pins σ H { s with heap:=h2,toks:=tk }:=by
 have hcs:∀c∈fp,(c∈X.ex\/X.s₀.heap.objs.size<=c)/\c≠X.env.locals/\(∀x d,X.env.cells.lookup x=some d->d≠c)/\∀p∈X.pn++pins,p.1≠c:=fun c hc'=>by
  have f:=hf c hc'
  exact⟨f.2.2.2.1,f.2.1,f.2.2.2.2.1,f.2.2.2.2.2⟩
 have nfp:∀c u',H c=some u'->c∉fp:=fun c u' q hc'=>by rw[(hf c hc').1] at q;cases q
 have hok0:HOk X.prog X.w H h2:=fun c u' q=>(I.hok c u' q).stay (fun d v hd q'=>kk d v (by
   rcases hd with z | z
   ·rw[z];exact nfp c u' q
   ·exact nfp d _ z) q') (fun _ z=>z) fun _ _ z=>z
 have un:Un (Mi X.stack) fp H H s.heap h2:=
  ⟨fun c o q _ _ hx'=>kk c o hx' q,fun c o q _ _ hx'=>⟨o.slots,kk c o hx' q⟩,fun c o q n _=>n,fun c o q hx'=>⟨o,kk c o hx' q⟩,fun c zs q=>q,fun c o zs q=>q,fun c ps q=>⟨#[],by rw[q];simp⟩⟩
 exact I.call (g':=s.gens) (d':=s.drawn) un hok0 I.bare hcs
theorem SeqB.ne_rec{b:Bool}{h:Heap}{a c:Addr}{its:Array Value}{o:Obj}{vs:Array Value}(p:SeqB b h a its)(e:h.get? c=some o)(d:o.data = .fields vs):a≠c:=fun z=>by
 subst z
 cases b with
 | true=>obtain⟨o',e1,_,m,d'⟩:=(show h.IsList a its from p);rw[e] at e1;cases e1;rw[d] at d';cases d'
 | false=>obtain⟨o',e1,_,m,d'⟩:=(show h.IsTuple a its from p);rw[e] at e1;cases e1;rw[d] at d';cases d'
theorem IterB.rec{b:Bool}{h:Heap}{it a:Addr}{i:Nat}(x:IterB b h it a i):∃o,h.get? it=some o/\∃vs,o.data = .fields vs:=by
 cases b with
 | true=>obtain⟨o,e,_,d⟩:=(show h.IsListIter it a i from x);exact⟨o,e,_,d⟩
 | false=>obtain⟨o,e,_,d⟩:=(show h.IsTupleIter it a i from x);exact⟨o,e,_,d⟩
structure Dd(a1 a2 TO TI:Addr):Prop where
 a:a1≠TO
 b:a2≠TO
 c:a1≠TI
 d:a2≠TI
def BS(b1 b2:Bool)(K:PySem.W.Frag)(a1 a2:Addr):It:=
  ⟨fun i H=>∃xs ys x y,RY b1 K H a1 xs/\RY b2 K H a2 ys/\xs[i]?=some x/\ys[i]?=some y,
   fun i H v H'=>∃p x y,H p=none/\v = .ref p/\H'=upd H p (.tup [x,y])/\(∀xs,RY b1 K H a1 xs->xs[i]?=some x)/\∀ys,RY b2 K H a2 ys->ys[i]?=some y,
   fun i H=>∃xs ys,RY b1 K H a1 xs/\RY b2 K H a2 ys/\(i=xs.length\/(i<xs.length/\i=ys.length))⟩
theorem J9{P:Program}{w:World}{K:PySem.W.Frag}{elts:List Expr}{k:Nat}{pos:Pos}(b1 b2:Bool)(a1 a2 z TI TO i1 i2:Addr)(d:[z,TI,TO,i1,i2].Nodup) :
  Nd P w K (.Tuple elts k pos) (BS b1 b2 K a1 a2) [z,TI,TO,i1,i2] z
   (fun i h=>IsZip h z TI TO .none/\IsPair h TI (.ref i1) (.ref i2)/\(∃u v,IsPair h TO u v/\Dd a1 a2 TO TI)/\IterB b1 h i1 a1 i/\IterB b2 h i2 a2 i) where
 mem:=by simp
 obj:=fun i h st c hc=>by
  obtain⟨hz,hTI,⟨u,v,hTO,_⟩,h1,h2⟩:=st
  simp only[List.mem_cons,List.not_mem_nil,or_false] at hc
  rcases hc with rfl | rfl | rfl | rfl | rfl
  ·exact⟨_,hz,fun v q=>by cases q⟩
  ·exact⟨_,hTI,fun v q=>by cases q⟩
  ·exact⟨_,hTO,fun v q=>by cases q⟩
  ·exact h1.has
  ·exact h2.has
 keep:=fun i h h' st kk=>by
  obtain⟨hz,hTI,⟨u,v,hTO,f⟩,h1,h2⟩:=st
  exact⟨kk z (by simp) _ hz,kk TI (by simp) _ hTI,⟨u,v,kk TO (by simp) _ hTO,f⟩,h1.at fun o q=>kk i1 (by simp) o q,h2.at fun o q=>kk i2 (by simp) o q⟩
 item:=by
  intro X hP hw hK hc i pins s σ H E I hf st hg
  subst hP hw hK
  obtain⟨xs,ys,x,y,hq1,hq2,hx,hy⟩:=hg
  obtain⟨its1,rv1,p1,hz1⟩:=I.seqB hq1
  obtain⟨its2,rv2,p2,hz2⟩:=I.seqB hq2
  obtain⟨u,hu,ru⟩:=rv1.get hx
  obtain⟨v,hv,rv⟩:=rv2.get hy
  obtain⟨hz,hTI,⟨q1,q2,hTO,f⟩,h1,h2⟩:=st
  obtain⟨o1,e1,vs1,d1⟩:=h1.rec
  obtain⟨o2,e2,vs2,d2⟩:=h2.rec
  have A1z:a1≠z:=p1.ne_rec hz rfl
  have A2z:a2≠z:=p2.ne_rec hz rfl
  have A11:a1≠i1:=p1.ne_rec e1 d1
  have A12:a1≠i2:=p1.ne_rec e2 d2
  have A21:a2≠i1:=p2.ne_rec e1 d1
  have A22:a2≠i2:=p2.ne_rec e2 d2
  simp only[List.nodup_cons,List.mem_cons,List.not_mem_nil,or_false,not_or,List.nodup_nil,and_true,not_false_eq_true] at d
  obtain⟨⟨dzTI,dzTO,dz1,dz2⟩,⟨dIO,dI1,dI2⟩,⟨dO1,dO2⟩,d12⟩:=d
  obtain⟨f1,f2,f3,f4⟩:=f
  have D:Px z TI TO i1 i2 [i1,a1] [i2,a2]:=⟨Ne.symm dzTI,Ne.symm dzTO,Ne.symm dz1,Ne.symm dz2,dIO,dI1,dI2,dO1,dO2,d12,by simp[dz1,Ne.symm A1z],by simp[dO1,Ne.symm f1],by simp[Ne.symm d12,Ne.symm A12],by simp[dz2,Ne.symm A2z],by simp[dO2,Ne.symm f2],by simp[d12,Ne.symm A21]⟩
  have D1:=Draws.seq (prog:=X.prog) (w:=X.w) (A:=X.A.in1) b1 (I.ok.hd hc) i1 a1 A11 its1.toArray
  have D2:=Draws.seq (prog:=X.prog) (w:=X.w) (A:=X.A.in1) b2 (I.ok.hd hc) i2 a2 A22 its2.toArray
  have l1:i<its1.toArray.size:=by simpa using(List.getElem?_eq_some_iff.mp hu).1
  have l2:i<its2.toArray.size:=by simpa using(List.getElem?_eq_some_iff.mp hv).1
  refine Rj D D1 D2 hz hTI hTO ⟨h1,p1⟩ ⟨h2,p2⟩ l1 l2 fun x' y' h' tk hPx hPy c1 c2 c3 c4 c5 c6 hk=>?_
  have ex':x'=u:=by
   have w1:its1.toArray[i]?=some x':=hPx
   have w2:its1.toArray[i]?=some u:=by simpa using hu
   rw[w1] at w2;exact Option.some.inj w2
  have ey':y'=v:=by
   have w1:its2.toArray[i]?=some y':=hPy
   have w2:its2.toArray[i]?=some v:=by simpa using hv
   rw[w1] at w2;exact Option.some.inj w2
  subst ex' ey'
  refine⟨_,rfl,wpAny_letOwnedTupleGo_zip c1 fun h3 hz3 hs3=>?_⟩
  replace hs3:Heap.SameBut z h' h3:=hs3
  have kk:∀c o,c∉[z,TI,TO,i1,i2]->s.heap.get? c=some o->h3.get? c=some o:=fun c o hc' q=>
   hs3.extBut c o (fun e=>hc' (by simp[e])) (hk c o (fun e=>hc' (by simp[e])) (fun e=>hc' (by simp[e])) (fun e=>hc' (by simp[e])) (fun e=>hc' (by simp[e])) q)
  have hTn:H s.heap.objs.size=none:=I.hok.fresh (Nat.le_refl _)
  have hT3:h3.get? s.heap.objs.size=some { cls:=.type "tuple",data:=.seq [x',y'].toArray }:=hs3.extBut _ _ (Nat.ne_of_gt (Heap.lt_size hz)) c5
  have I2:=I.newTup (tk:=tk) hf kk hT3 (.cons ru (.cons rv .nil)) (by show 2<=sizeLine;decide)
  refine⟨.ref s.heap.objs.size,_,I2,rfl,⟨_,x,y,hTn,rfl,rfl,fun zs hzs=>by rw[I.seqB_inj hzs hq1];exact hx,fun zs hzs=>by rw[I.seqB_inj hzs hq2];exact hy⟩,⟨hz3,hs3.extBut _ _ (Ne.symm dzTI) (hk _ _ (Ne.symm dzTI) dIO dI1 dI2 hTI),⟨_,_,hs3.extBut _ _ (Ne.symm dzTO) c2,f1,f2,f3,f4⟩,c3.1.at fun o q=>hs3.extBut _ o (Ne.symm dz1) q,c4.1.at fun o q=>hs3.extBut _ o (Ne.symm dz2) q⟩,fun c hc'=>?_⟩
  rw[upd_ne (Nat.ne_of_lt ?_)]
  ·exact(hf c hc').1
  ·simp only[List.mem_cons,List.not_mem_nil,or_false] at hc'
   rcases hc' with rfl | rfl | rfl | rfl | rfl
   ·exact Heap.lt_size hz
   ·exact Heap.lt_size hTI
   ·exact Heap.lt_size hTO
   ·exact Heap.lt_size e1
   ·exact Heap.lt_size e2
 done:=by
  intro X hP hw hK hc i pins s σ H E I hf st hg
  subst hP hw hK
  obtain⟨xs,ys,hq1,hq2,hx⟩:=hg
  obtain⟨its1,rv1,p1,hz1⟩:=I.seqB hq1
  obtain⟨its2,rv2,p2,hz2⟩:=I.seqB hq2
  obtain⟨hz,hTI,⟨q1,q2,hTO,f⟩,h1,h2⟩:=st
  obtain⟨o1,e1,vs1,d1⟩:=h1.rec
  obtain⟨o2,e2,vs2,d2⟩:=h2.rec
  have A1z:a1≠z:=p1.ne_rec hz rfl
  have A2z:a2≠z:=p2.ne_rec hz rfl
  have A11:a1≠i1:=p1.ne_rec e1 d1
  have A12:a1≠i2:=p1.ne_rec e2 d2
  have A21:a2≠i1:=p2.ne_rec e1 d1
  have A22:a2≠i2:=p2.ne_rec e2 d2
  simp only[List.nodup_cons,List.mem_cons,List.not_mem_nil,or_false,not_or,List.nodup_nil,and_true,not_false_eq_true] at d
  obtain⟨⟨dzTI,dzTO,dz1,dz2⟩,⟨dIO,dI1,dI2⟩,⟨dO1,dO2⟩,d12⟩:=d
  obtain⟨f1,f2,f3,f4⟩:=f
  have D:Px z TI TO i1 i2 [i1,a1] [i2,a2]:=⟨Ne.symm dzTI,Ne.symm dzTO,Ne.symm dz1,Ne.symm dz2,dIO,dI1,dI2,dO1,dO2,d12,by simp[dz1,Ne.symm A1z],by simp[dO1,Ne.symm f1],by simp[Ne.symm d12,Ne.symm A12],by simp[dz2,Ne.symm A2z],by simp[dO2,Ne.symm f2],by simp[d12,Ne.symm A21]⟩
  have D1:=Draws.seq (prog:=X.prog) (w:=X.w) (A:=X.A.in1) b1 (I.ok.hd hc) i1 a1 A11 its1.toArray
  have D2:=Draws.seq (prog:=X.prog) (w:=X.w) (A:=X.A.in1) b2 (I.ok.hd hc) i2 a2 A22 its2.toArray
  have n1:=rv1.length;have n2:=rv2.length
  refine R0 D D1 D2 hz hTI hTO ⟨h1,p1⟩ ⟨h2,p2⟩ (by simp only[List.size_toArray];omega) fun h' tk hk=>⟨rfl,?_⟩
  exact I.turnedL hf fun c o hc' q=>hk c o (fun e=>hc' (by simp[e])) (fun e=>hc' (by simp[e])) (fun e=>hc' (by simp[e])) (fun e=>hc' (by simp[e])) q
 self:=fun A i s Q E st hQ=>wpAny_pyIter_zip st.1 hQ
section
variable {X:Cx}
def BE(b1 b2:Bool)(K:PySem.W.Frag)(ta:TA):TI:=fun σ H R=>ta σ H fun vs H1=>∃a1 a2,vs=[.ref a1,.ref a2]/\(∃xs,RY b1 K H1 a1 xs)/\(∃ys,RY b2 K H1 a2 ys)/\R (BS b1 b2 K a1 a2) H1
theorem De{elts:List Expr}{k:Nat}{tpos:Pos}(b1 b2:Bool){a b:Expr}{ta:TA}{p pos:Pos}(hg:Gl X "zip")(hm:X.mg "zip" = none)(ha:PA X [a,b] ta)
  (hs:starEach [a,b] X.env=[(false,eval a X.env),(false,eval b X.env)]:=by rfl) (hs2:starEach [b] X.env=[(false,eval b X.env)]:=by rfl) :
  PI X (.Tuple elts k tpos) (.Call (.Name "zip" p) [a,b] [] pos) (BE b1 b2 X.K ta):=by
 intro pins s σ H R I h
 refine Call_ (VN I hg hm boot_zip (PyProof.Rows.callWith_type1 (Y1 (ha pos pins s σ H _ I h) fun us s1 ⟨vs,H1,I1,r1,q1⟩=>?_) (by rw[hs,hs2]) (by rw[hs2];rfl)))
 obtain⟨a1,a2,e,⟨xs,hq1⟩,⟨ys,hq2⟩,q⟩:=q1
 subst e
 cases r1 with
 | cons r rr=>
  cases rr with
  | cons r' rr=>
   cases rr;cases r
   cases r'
   obtain⟨its1,rv1,p1,_⟩:=I1.seqB hq1
   obtain⟨its2,rv2,p2,_⟩:=I1.seqB hq2
   refine Oo p1 p2 fun h' c1 c2 c3 c4 c5 c6 hk=>?_
   refine wpAny_pyIter_zip c1 ?_
   have I2:Inv X pins σ H1 { s1 with heap:=h' }:=I1.kept (t':=s1.toks) hk
   have L1:a1<s1.heap.objs.size:=let⟨_,e⟩:=p1.has;Heap.lt_size e
   have L2:a2<s1.heap.objs.size:=let⟨_,e⟩:=p2.has;Heap.lt_size e
   generalize hn:s1.heap.objs.size=n at *
   have ne:∀(a:Addr)(j:Nat),a<n->a≠n+j:=fun a j h=>Nat.ne_of_lt (Nat.lt_of_lt_of_le h (Nat.le_add_right _ _))
   have nd:([n+4,n+2,n+3,n,n+1]:List Addr).Nodup:=by
    have hh:∀(i j:Nat),i≠j->(n+i:Nat)≠n+j:=fun i j h e=>h (Nat.add_left_cancel e)
    have h0:∀(i:Nat),i≠0->(n+i:Nat)≠n:=fun i h e=>h (Nat.add_left_cancel (e.trans (Nat.add_zero n).symm))
    simp only[List.nodup_cons,List.mem_cons,List.not_mem_nil,or_false,not_or,List.nodup_nil,and_true,not_false_eq_true]
    exact⟨⟨hh 4 2 (by decide),hh 4 3 (by decide),h0 4 (by decide),hh 4 1 (by decide)⟩,⟨hh 2 3 (by decide),h0 2 (by decide),hh 2 1 (by decide)⟩,⟨h0 3 (by decide),hh 3 1 (by decide)⟩,(h0 1 (by decide)).symm⟩
   refine⟨n+4,[n+4,n+2,n+3,n,n+1],_,_,H1,rfl,I2,J9 b1 b2 a1 a2 (n+4) (n+2) (n+3) n (n+1) nd,⟨c1,c2,⟨_,_,c3,ne a1 3 L1,ne a2 3 L2,ne a1 2 L1,ne a2 2 L2⟩,c4,c5⟩,fun c hc=>?_,q⟩
   have hle:s1.heap.objs.size<=c:=by
    rw[hn];simp only[List.mem_cons,List.not_mem_nil,or_false] at hc
    rcases hc with rfl | rfl | rfl | rfl | rfl
    ·exact Nat.le_add_right _ _
    ·exact Nat.le_add_right _ _
    ·exact Nat.le_add_right _ _
    ·exact Nat.le_refl _
    ·exact Nat.le_add_right _ _
   exact I1.fpOk hle (I1.hok.fresh hle)
end
section
variable {prog:Program} {w:World} {A:Around} {E:Value->Shared->Prop} {s:Shared}
theorem TU{d:Addr}{o:Obj}{es:Array DictEntry}{ep:Nat}{Q:Value->Shared->Prop}(hd:(d==sysModules)=false)(ho:s.heap.get? d=some o)(hc:o.ExactDict)(hdat:o.data = .dict es ep)
  (hQ:Q (.ref s.heap.objs.size) { s with heap:=s.heap.push { cls:=.type "dict_keyiterator",data:=.fields #[.ref d,.int 0 0,.int es.size 0,.int ep 0] } }) :
  wpAny (model prog w) A (pyIter (.ref d)) Q E s:=by
 have hT:s.TypeIs (.ref d) "dict":=⟨o,ho,hc.1⟩
 refine wpAny_pyIter_slot hT F.slot_dict_iter (wpAny_call_entry F.slot_dict_iter hT F.entry_dict_iter ?_ (F.args_dict_iter_1 _))
 unfold Builtin.«dict.__iter__»
 refine wpAny_bind ?_
 unfold Builtin.Dict.dictSlotNone
 refine wpAny_bind (wpAny_notOrdered_dict hT ?_)
 show wpAny _ _ (pure (Value.ref d)) _ _ s
 refine wpAny_pure ?_
 show wpAny _ _ (Builtin.Dict.showsAll d >>= _) _ _ s
 unfold Builtin.Dict.showsAll
 rw[if_neg (by rw[hd];exact Bool.false_ne_true)]
 refine wpAny_bind (wpAny_pure ?_)
 refine wpAny_bind (wpAny_dictEntries ho hdat ?_)
 refine wpAny_bind (wpAny_dictEpoch ho hdat ?_)
 refine wpAny_bind (wpAny_newObj_type (wpAny_pure ⟨_,rfl,"dict_keyiterator",_,⟨_,Heap.get?_push_size _ rfl,rfl⟩,F.slot_dict_keyiterator_next.lookup,?_⟩))
 simpa [rawInt] using hQ
theorem W5{it d:Addr}{i ep:Nat}{od:Obj}{es:Array DictEntry}{e:DictEntry}{Q:Option Value->Shared->Prop}(hit:s.heap.IsKeyIter it d i es.size ep)
  (hod:s.heap.get? d=some od) (hdd:od.data = .dict es ep) (hx:es[i]?=some e)
  (hQ:∀h',h'.IsKeyIter it d (i+1) es.size ep->Heap.SameBut it s.heap h'->Q (some e.key) { s with heap:=h' }) :
  wpAny (model prog w) A (pyNext (.ref it)) Q E s:=by
 obtain⟨o,ho,hc,hd⟩:=id hit
 unfold pyNext
 refine wpAny_bind (wpAny_attempt (wpAny_callSpecial?_slot (name:=Str.ofString "__next__") hit.typeIs F.slot_dict_keyiterator_next
  (wpAny_call_entry F.slot_dict_keyiterator_next hit.typeIs F.entry_dict_keyiterator_next ?_ (F.args_dict_keyiterator_next_1 _))))
 refine wpAny_bind (wpAny_pure ?_)
 refine wpAny_bind ?_
 refine wpAny_bind ?_
 first | refine wpAny_bind (wpAny_typeNameOfWhole_keyiter hit.typeIs (wpAny_pure ?_)) | refine wpAny_bind (wpAny_typeNameOf_keyiter hit.typeIs (wpAny_pure ?_))
 refine wpAny_bind (wpAny_fieldsOf ho hd ?_)
 have hown:Builtin.Dict_items.ownsTuple "dict_keyiterator" = false:=by decide
 simp only[hown,Bool.false_eq_true,if_false]
 show wpAny _ _ (if(Value.ref d==Value.none)=true then _ else _) _ _ s
 rw[if_neg (show ¬((Value.ref d==Value.none)=true) from Bool.false_ne_true)]
 refine wpAny_bind (wpAny_pure ?_)
 refine wpAny_bind (wpAny_dictEntries hod hdd ?_)
 rw[if_neg (by simp)]
 refine wpAny_bind (wpAny_pure ?_)
 refine wpAny_bind (wpAny_dictEpoch hod hdd ?_)
 rw[if_neg (by simp)]
 refine wpAny_pure ?_
 obtain⟨hlt',he⟩:=Array.getElem?_eq_some_iff.mp hx
 subst he;simp only[show ¬((i:Int)<0) from by omega,if_false,Int.toNat_natCast,Array.getElem?_eq_getElem hlt']
 refine wpAny_bind ?_
 first | refine wpAny_bind (wpAny_typeNameOfWhole_keyiter hit.typeIs (wpAny_pure ?_)) | refine wpAny_bind (wpAny_typeNameOf_keyiter hit.typeIs (wpAny_pure ?_))
 refine wpAny_bind (wpAny_isOneOf_keyiter hit.typeIs ?_)
 show wpAny _ _ (setField (.ref it) 1 (rawInt ((i:Int)+1)) >>= _) _ _ s
 refine wpAny_bind (wpAny_setField ho hd (by simp) ?_)
 have hit':(s.heap.update it (Obj.mapFields (·.setIfInBounds 1 (rawInt ((i:Int)+1))))).IsKeyIter it d (i+1) es.size ep:=
  ⟨_,Heap.get?_update_self _ ho (Obj.isFreed_of_fields (Obj.data_mapFields hd _)),(Obj.cls_mapFields ..).trans hc,by rw[Obj.data_mapFields hd];simp[rawInt]⟩
 refine wpAny_bind (wpAny_holding ?_)
 refine wpAny_bind (wpAny_isOneOf_keyiter (s:={ s with heap:=s.heap.update it (Obj.mapFields (·.setIfInBounds 1 (rawInt ((i:Int)+1)))) }) hit'.typeIs ?_)
 show wpAny _ _ (pure es[i].key) _ _ _
 exact wpAny_pure (wpAny_pure ⟨_,rfl,wpAny_pure (hQ _ hit' (Heap.SameBut.update ..))⟩)
theorem Vr{it d:Addr}{ep:Nat}{od:Obj}{es:Array DictEntry}{Q:Option Value->Shared->Prop}(hh:A.handled=none)(hit:s.heap.IsKeyIter it d es.size es.size ep)
  (hod:s.heap.get? d=some od) (hdd:od.data = .dict es ep)
  (hQ:∀h',Heap.ExtBut it s.heap h'->Q none { s with heap:=h' }):wpAny (model prog w) A (pyNext (.ref it)) Q E s:=by
 obtain⟨o,ho,hc,hd⟩:=id hit
 unfold pyNext
 refine wpAny_bind (wpAny_attempt (wpAny_callSpecial?_slot (name:=Str.ofString "__next__") hit.typeIs F.slot_dict_keyiterator_next
  (wpAny_call_entry F.slot_dict_keyiterator_next hit.typeIs F.entry_dict_keyiterator_next ?_ (F.args_dict_keyiterator_next_1 _))))
 refine wpAny_bind (wpAny_pure ?_)
 refine wpAny_bind ?_
 refine wpAny_bind ?_
 first | refine wpAny_bind (wpAny_typeNameOfWhole_keyiter hit.typeIs (wpAny_pure ?_)) | refine wpAny_bind (wpAny_typeNameOf_keyiter hit.typeIs (wpAny_pure ?_))
 refine wpAny_bind (wpAny_fieldsOf ho hd ?_)
 have hown:Builtin.Dict_items.ownsTuple "dict_keyiterator" = false:=by decide
 simp only[hown,Bool.false_eq_true,if_false]
 show wpAny _ _ (if(Value.ref d==Value.none)=true then _ else _) _ _ s
 rw[if_neg (show ¬((Value.ref d==Value.none)=true) from Bool.false_ne_true)]
 refine wpAny_bind (wpAny_pure ?_)
 refine wpAny_bind (wpAny_dictEntries hod hdd ?_)
 rw[if_neg (by simp)]
 refine wpAny_bind (wpAny_pure ?_)
 refine wpAny_bind (wpAny_dictEpoch hod hdd ?_)
 rw[if_neg (by simp)]
 refine wpAny_pure ?_
 simp only[show ¬((es.size:Int)<0) from by omega,if_false,Int.toNat_natCast,Array.getElem?_eq_none (Nat.le_refl es.size)]
 refine wpAny_bind ?_
 first | refine wpAny_bind (wpAny_typeNameOfWhole_keyiter hit.typeIs (wpAny_pure ?_)) | refine wpAny_bind (wpAny_typeNameOf_keyiter hit.typeIs (wpAny_pure ?_))
 show wpAny _ _ (setField (.ref it) 0 .none >>= _) _ _ s
 refine wpAny_bind (wpAny_setField ho hd (by simp) ?_)
 show wpAny _ _ (newExc (.type "StopIteration") [] >>= _) _ _ _
 refine wpAny_bind ?_
 simp only[newExc,newTuple]
 refine wpAny_bind (wpAny_newObj_type ?_ (by size_fits))
 refine wpAny_bind (m:=firstArgMember _ _) (wpAny_of_eq (a:=Value.none) (by first | rfl | (simp only[firstArgMember];rfl)) ?_)
 refine wpAny_newObj_type ?_ (by size_fits)
 simp only[raiseNew]
 refine wpAny_bind (wpAny_handled ?_)
 rw[show A.in1.handled=none from hh]
 refine wpAny_bind (wpAny_pure (wpAny_throw ?_))
 refine wpAny_bind (wpAny_isInstance (T:="StopIteration") (b:=true) ⟨_,Heap.get?_push_size _ rfl,rfl⟩ isSubtype_stop ?_)
 exact wpAny_pure (hQ _ (((Heap.SameBut.update ..).extBut.push _).push _))
end
def Dg(d:Addr)(o:Obj)(kvs:List (List YH×V)):It:=
  ⟨fun i H=>H d=some (.frz o (.dT kvs))/\i<kvs.length,
   fun i H v H'=>H'=H/\∃b k y,kvs[i]?=some (k,y)/\v = .ref b/\H b=some (.tup (k.map kV)),
   fun i H=>H d=some (.frz o (.dT kvs))/\i=kvs.length⟩
theorem KT.get{H:Hp}:∀{kvs:List (List YH×V)}{xs:List (List YH×Addr×Value)}{i:Nat}{p:List YH×V},KT H kvs xs->kvs[i]?=some p->∃q,xs[i]?=some q/\p.1=q.1/\H q.2.1=some (.tup (p.1.map kV))/\RelV p.2 q.2.2
 | _,_,_,_,.nil,e=>by simp at e
 | _,_,0,_,.cons r _,e=>by simp at e;subst e;exact⟨_,rfl,r⟩
 | _,_,i+1,p,.cons _ t,e=>by
  obtain⟨q,h1,h2⟩:=KT.get (i:=i) (p:=p) t (by simpa using e)
  exact⟨q,by simpa using h1,h2⟩
theorem K0{P:Program}{w:World}{K:PySem.W.Frag}{tg:Expr}(d it:Addr)(o:Obj)(es:Array DictEntry)(ep:Nat)(kvs:List (List YH×V))(ho:o.data = .dict es ep)(hlen:es.size=kvs.length) :
  Nd P w K tg (Dg d o kvs) [it] it (fun i h=>h.IsKeyIter it d i es.size ep) where
 mem:=by simp
 obj:=fun i h st b hb=>by
  rw[List.mem_singleton.mp hb]
  obtain⟨o,e,c,q⟩:=st
  exact⟨o,e,fun v z=>by rw[q] at z;cases z⟩
 keep:=fun i h h' st k=>by
  obtain⟨o,e,r⟩:=st
  exact⟨o,k it (by simp) o e,r⟩
 item:=by
  intro X hP hw hK hc i pins s σ H E I hf st hg
  subst hP hw hK
  obtain⟨hd,hi⟩:=hg
  obtain⟨e1,z,y,xs,r,o',es',ep',h1,h2,h3,h4,h5⟩:=(show ObjOk X.prog X.w H s.heap d (.frz o (.dT kvs)) from I.hok d _ hd)
  rw[e1] at h1;cases h1
  rw[ho] at h3;cases h3
  have hk:kvs[i]?=some kvs[i]:=List.getElem?_eq_getElem hi
  obtain⟨q,hq,eq,hb,rv⟩:=KT.get r hk
  have he:es[i]?=some (entryOfKey (tupleKind (Y0 X.prog X.w)) q):=by
   have:=congrArg (fun l=>l[i]?) h4
   simp only[List.getElem?_map,hq,Option.map_some] at this
   simpa using this
  obtain⟨f0,f1,f2,f3,f4,f5⟩:=hf it (by simp)
  refine W5 st e1 ho he fun h' st' sb=>?_
  have I1:Inv X pins σ H { s with heap:=h' }:=I.turned (t':=s.toks) (fun b o hb e=>(sb.2 b hb).trans e) f0 f1 f3 f4 f5
  obtain⟨o2,e2,c2,d2⟩:=id st'
  exact⟨_,rfl,Lq (s:={ s with heap:=h' }) e2 c2 d2 (by decide) ⟨.ref q.2.1,H,I1,rfl,⟨rfl,q.2.1,_,_,hk,rfl,hb⟩,st',fun b hb=>(hf b hb).1⟩⟩
 done:=by
  intro X hP hw hK hc i pins s σ H E I hf st hg
  subst hP hw hK
  obtain⟨hd,hi⟩:=hg
  obtain⟨e1,_⟩:=(show ObjOk X.prog X.w H s.heap d (.frz o (.dT kvs)) from I.hok d _ hd)
  obtain⟨f0,f1,f2,f3,f4,f5⟩:=hf it (by simp)
  rw[hi,<-hlen] at st
  exact Vr (I.ok.hd hc) st e1 ho fun h' eb=>⟨rfl,I.turned (t':=s.toks) (fun b o hb e=>eb b o hb e) f0 f1 f3 f4 f5⟩
 self:=fun A i s Q E st hQ=>by
  refine wpAny_pyIter_slot st.typeIs F.slot_dict_keyiterator_iter (wpAny_call_entry F.slot_dict_keyiterator_iter st.typeIs F.entry_dict_keyiterator_iter ?_ (F.args_dict_keyiterator_iter_1 _))
  show wpAny _ _ (ret (.ref it)) _ _ s
  exact wpAny_pure ⟨_,rfl,"dict_keyiterator",_,st.typeIs,F.slot_dict_keyiterator_next.lookup,hQ⟩
section
variable {X:Cx} {tg:Expr}
theorem Inv.freeze{pins:List (Addr×Obj)}{σ:St}{H:Hp}{s:Shared}{d:Addr}{kvs:List (List YH×V)}{o:Obj}(I:Inv X pins σ H s)(hd:H d=some (.dT kvs))(ho:s.heap.get? d=some o) :
  Inv X pins σ (upd H d (.frz o (.dT kvs))) s:=by
 have ne:∀b u,H b=some u->(∀k,u≠.dT k)->b≠d:=fun b u q n z=>by rw[z,hd] at q;exact n _ (Option.some.inj q).symm
 have nn:∀b,H b=none->b≠d:=fun b q z=>by rw[z,hd] at q;cases q
 have un:Un X.fs [] H (upd H d (.frz o (.dT kvs))) s.heap s.heap:=
  ⟨fun b o q _ _ _=>q,fun b o q _ _ _=>⟨o.slots,q⟩,fun b o q n _=>by rw[upd_ne (nn b n)];exact n,fun b o q _=>⟨o,q⟩,
   fun b xs q=>by rw[upd_ne (ne b _ q fun _ z=>nomatch z)];exact q,fun b o u q=>by rw[upd_ne (ne b _ q fun _ z=>nomatch z)];exact q,fun b ps q=>⟨#[],by rw[upd_ne (ne b _ q fun _ z=>nomatch z),q];simp⟩⟩
 have hok:HOk X.prog X.w (upd H d (.frz o (.dT kvs))) s.heap:=fun b u q=>by
  have hown:∀c y,H c=some (.own y)->upd H d (.frz o (.dT kvs)) c=some (.own y):=fun c y z=>by rw[upd_ne (ne c _ z fun _ z=>nomatch z)];exact z
  have htup:∀c xs,H c=some (.tup xs)->upd H d (.frz o (.dT kvs)) c=some (.tup xs):=fun c y z=>by rw[upd_ne (ne c _ z fun _ z=>nomatch z)];exact z
  by_cases hb:b=d
  ·subst hb
   rw[upd_same] at q;cases q
   exact⟨ho,(I.hok b _ hd).stay (fun _ _ _ z=>z) (fun c z=>hown c _ z) htup⟩
  ·rw[upd_ne hb] at q
   exact(I.hok b u q).stay (fun _ _ _ z=>z) (fun c z=>hown c _ z) htup
 have:=I.un (t':=s.toks) un hok
 exact this
def LA(tl:TE):TI:=fun σ H R=>tl σ H fun x H1=>∃d kvs,x = .ref d/\((H1 d=some (.dT kvs)/\∀o,R (Dg d o kvs) (upd H1 d (.frz o (.dT kvs))))\/∃o,H1 d=some (.frz o (.dT kvs))/\R (Dg d o kvs) H1)
theorem Oq{l:Expr}{tl:TE}(hl:PE X l tl):PI X tg l (LA tl):=by
 intro pins s σ H R I h
 refine Y1 (hl pins s σ H _ I h) fun v s1 ⟨x,H1,I1,r1,q1⟩=>?_
 obtain⟨d,kvs,e,q⟩:=q1
 subst e;cases r1
 have core:∀(o:Obj)(H2:Hp),Inv X pins σ H2 s1->H2 d=some (.frz o (.dT kvs))->R (Dg d o kvs) H2->wpAny (model X.prog X.w) X.A (pyIter (.ref d)) (Bt X pins σ tg R) X.xe s1:=fun o H2 I2 e2 q2=>by
  obtain⟨e1,z,y,xs,r,o',es,ep,h1,h2,h3,h4,h5⟩:=(show ObjOk X.prog X.w H2 s1.heap d (.frz o (.dT kvs)) from I2.hok d _ e2)
  rw[e1] at h1;cases h1
  have hsz:es.size=kvs.length:=by
   have a1:=congrArg List.length h4;have a2:=Paired.length r;simp only[Array.length_toList,List.length_map] at a1;omega
  refine TU y e1 h2 h3 ?_
  refine⟨s1.heap.objs.size,[s1.heap.objs.size],_,_,H2,rfl,I2.kept (t':=s1.toks) fun b o e=>Heap.get?_push_of_some _ e,K0 d _ o es ep kvs h3 hsz,⟨_,Heap.get?_push_size _ rfl,rfl,rfl⟩,fun b hb=>?_,q2⟩
  rw[List.mem_singleton.mp hb]
  exact I2.fpOk (Nat.le_refl _) (I2.hok.fresh (Nat.le_refl _))
 rcases q with⟨hd,q⟩ | ⟨o,hd,q⟩
 ·obtain⟨z,y,xs,r,o,es,ep,h1,h2,h3,h4,h5⟩:=(show ObjOk X.prog X.w H1 s1.heap d (.dT kvs) from I1.hok d _ hd)
  exact core o _ (I1.freeze hd h1) upd_same (q o)
 ·exact core o H1 I1 hd q
end
theorem Walks.seqB{prog:Program}{w:World}{A:Around}(b:Bool)(hh:A.handled=none)(I ax:Addr)(hne:ax≠I)(items:Array Value) :
  Walks prog w A I [I,ax] [I] items.size (fun i v=>items[i]?=some v) (fun i h=>IterB b h I ax i/\SeqB b h ax items):=by
 cases b with
 | true=>exact Walks.list hh I ax hne items
 | false=>exact Walks.tuple hh I ax hne items
section
variable {X:Cx}
theorem K1(hc:X.calm=true):X2 X (.builtin "sum") (fun xs H Q=>∃(b:Bool) (p:Addr) (ns:List Int),xs=[.ref p]/\RY b X.K H p (ns.map V.int)/\Q (.int ns.sum) H):=by
 intro pins s σ H xs us Q I r h
 obtain⟨b,p,ns,rfl,hq,q⟩:=h
 obtain⟨u,rfl,rx⟩:=U7 r
 cases rx
 obtain⟨its,rv,hseq,hz⟩:=I.seqB hq
 have hp:p<s.heap.objs.size:=let⟨_,e⟩:=hseq.has;Heap.lt_size e
 refine call_sum_walkG (YY hseq ?_)
 refine⟨_,_,_,_,_,_,fun i=>ns.getD i 0,rfl,Walks.seqB (A:=X.A.in1) b (I.ok.hd hc) s.heap.objs.size p (Nat.ne_of_lt hp) its.toArray,⟨IterB.new (Heap.get?_push_size _ rfl),hseq.at fun o e=>Heap.get?_push_of_some _ e⟩,fun c hcm=>?_,fun i v hv=>?_,fun h' tk t' hk=>?_⟩
 ·show c<(s.heap.push _).objs.size
  rw[Heap.size_push]
  rcases List.mem_cons.mp hcm with rfl | hcm
  ·exact Nat.lt_succ_self _
  ·rw[List.mem_singleton.mp hcm];exact Nat.lt_succ_of_lt hp
 ·have hv:its.toArray[i]?=some v:=hv
  have hv:its[i]?=some v:=by simpa using hv
  have hl:=rv.length;rw[List.length_map] at hl
  have hi:i<ns.length:=by rw[hl];exact(List.getElem?_eq_some_iff.mp hv).1
  obtain⟨u,hu,ru⟩:=rv.get (i:=i) (x:=.int ns[i]) (by rw[List.getElem?_map,List.getElem?_eq_getElem hi];rfl)
  rw[hv] at hu;cases hu
  obtain⟨t,rfl⟩:=ru
  refine⟨t,?_⟩
  show Value.int ns[i] t=Value.int (ns.getD i 0) t
  rw[List.getD_eq_getElem?_getD,List.getElem?_eq_getElem hi];rfl
 ·have e:preSum (fun i=>ns.getD i 0) its.toArray.size=ns.sum:=by
   have hl:=rv.length;rw[List.length_map] at hl;rw[List.size_toArray,<-hl]
   have gen:∀k,k<=ns.length->preSum (fun i=>ns.getD i 0) k=(ns.take k).sum:=by
    intro k
    induction k with
    | zero=>intro _;simp[preSum]
    | succ k ih=>
     intro hk;rw[preSum,ih (by omega),List.take_add_one,List.getD_eq_getElem?_getD,List.getElem?_eq_getElem (by omega),List.sum_append]
     simp
   rw[gen _ (Nat.le_refl _),List.take_length]
  rw[e]
  refine⟨.int ns.sum,H,I.kept (fun c o hco=>hk c o ?_ (Heap.get?_push_of_some _ hco)),⟨_,rfl⟩,q⟩
  intro hm;rw[List.mem_singleton.mp hm] at hco
  exact absurd (Heap.lt_size hco) (Nat.lt_irrefl _)
theorem Sz(hc:X.calm=true):X2 X (.builtin "all") (fun xs H Q=>∃(b:Bool) (p:Addr) (bs:List Bool),xs=[.ref p]/\RY b X.K H p (bs.map V.bl)/\Q (.bl (bs.all id)) H):=by
 intro pins s σ H xs us Q I r h
 obtain⟨b,p,bs,rfl,hq,q⟩:=h
 obtain⟨u,rfl,rx⟩:=U7 r
 cases rx
 obtain⟨its,rv,hseq,hz⟩:=I.seqB hq
 have hp:p<s.heap.objs.size:=let⟨_,e⟩:=hseq.has;Heap.lt_size e
 have hl:=rv.length;rw[List.length_map] at hl
 refine call_all_walk (YY hseq ?_)
 refine⟨_,_,_,_,_,_,fun i=>bs.getD i true,rfl,Walks.seqB (A:=X.A.in1) b (I.ok.hd hc) s.heap.objs.size p (Nat.ne_of_lt hp) its.toArray,⟨IterB.new (Heap.get?_push_size _ rfl),hseq.at fun o e=>Heap.get?_push_of_some _ e⟩,fun i v s' Q' E' hv hQ=>?_,fun h' tk hk=>?_⟩
 ·have hv:its.toArray[i]?=some v:=hv
  have hv:its[i]?=some v:=by simpa using hv
  have hi:i<bs.length:=by rw[hl];exact(List.getElem?_eq_some_iff.mp hv).1
  obtain⟨u,hu,ru⟩:=rv.get (i:=i) (x:=.bl bs[i]) (by rw[List.getElem?_map,List.getElem?_eq_getElem hi];rfl)
  rw[hv] at hu;cases hu;cases ru
  refine wpAny_truthy_bool ?_
  have e:bs.getD i true=bs[i]:=by rw[List.getD_eq_getElem?_getD,List.getElem?_eq_getElem hi];rfl
  rw[<-e];exact hQ
 ·have e:(List.range its.toArray.size).all (fun i=>bs.getD i true)=bs.all id:=by
   rw[List.size_toArray,<-hl,Bool.eq_iff_iff,List.all_eq_true,List.all_eq_true];constructor
   ·intro h x hx
    obtain⟨i,hi,rfl⟩:=List.mem_iff_getElem.mp hx
    have:=h i (List.mem_range.mpr hi)
    rw[List.getD_eq_getElem?_getD,List.getElem?_eq_getElem hi] at this;exact this
   ·intro h i hi
    have hi:=List.mem_range.mp hi;rw[List.getD_eq_getElem?_getD,List.getElem?_eq_getElem hi]
    exact h _ (List.getElem_mem hi)
  rw[e]
  refine⟨.bl (bs.all id),H,I.kept (fun c o hco=>hk c o ?_ (Heap.get?_push_of_some _ hco)),rfl,q⟩
  intro hm;rw[List.mem_singleton.mp hm] at hco
  exact absurd (Heap.lt_size hco) (Nat.lt_irrefl _)
theorem K2(hc:X.calm=true):X2 X (.builtin "any") (fun xs H Q=>∃(b:Bool) (p:Addr) (bs:List Bool),xs=[.ref p]/\RY b X.K H p (bs.map V.bl)/\Q (.bl (bs.any id)) H):=by
 intro pins s σ H xs us Q I r h
 obtain⟨b,p,bs,rfl,hq,q⟩:=h
 obtain⟨u,rfl,rx⟩:=U7 r
 cases rx
 obtain⟨its,rv,hseq,hz⟩:=I.seqB hq
 have hp:p<s.heap.objs.size:=let⟨_,e⟩:=hseq.has;Heap.lt_size e
 have hl:=rv.length;rw[List.length_map] at hl
 refine call_any_walk (YY hseq ?_)
 refine⟨_,_,_,_,_,_,fun i=>bs.getD i true,rfl,Walks.seqB (A:=X.A.in1) b (I.ok.hd hc) s.heap.objs.size p (Nat.ne_of_lt hp) its.toArray,⟨IterB.new (Heap.get?_push_size _ rfl),hseq.at fun o e=>Heap.get?_push_of_some _ e⟩,fun i v s' Q' E' hv hQ=>?_,fun h' tk hk=>?_⟩
 ·have hv:its.toArray[i]?=some v:=hv
  have hv:its[i]?=some v:=by simpa using hv
  have hi:i<bs.length:=by rw[hl];exact(List.getElem?_eq_some_iff.mp hv).1
  obtain⟨u,hu,ru⟩:=rv.get (i:=i) (x:=.bl bs[i]) (by rw[List.getElem?_map,List.getElem?_eq_getElem hi];rfl)
  rw[hv] at hu;cases hu;cases ru
  refine wpAny_truthy_bool ?_
  have e:bs.getD i true=bs[i]:=by rw[List.getD_eq_getElem?_getD,List.getElem?_eq_getElem hi];rfl
  rw[<-e];exact hQ
 ·have e:(List.range its.toArray.size).any (fun i=>bs.getD i true)=bs.any id:=by
   rw[List.size_toArray,<-hl,Bool.eq_iff_iff,List.any_eq_true,List.any_eq_true];constructor
   ·rintro⟨i,hi,h⟩
    have hi:=List.mem_range.mp hi;rw[List.getD_eq_getElem?_getD,List.getElem?_eq_getElem hi] at h
    exact⟨_,List.getElem_mem hi,h⟩
   ·rintro⟨x,hx,h⟩
    obtain⟨i,hi,rfl⟩:=List.mem_iff_getElem.mp hx
    refine⟨i,List.mem_range.mpr hi,?_⟩
    rw[List.getD_eq_getElem?_getD,List.getElem?_eq_getElem hi];exact h
  rw[e]
  refine⟨.bl (bs.any id),H,I.kept (fun c o hco=>hk c o ?_ (Heap.get?_push_of_some _ hco)),rfl,q⟩
  intro hm;rw[List.mem_singleton.mp hm] at hco
  exact absurd (Heap.lt_size hco) (Nat.lt_irrefl _)
theorem W6:X2 X (.builtin "isinstance") (fun xs H Q=>∃x T t b,xs=[x,.ty T]/\TyOf X.K H x t/\PySem.W.kitOne X.K t (.type T)=some b/\Q (.bl b) H):=by
 intro pins s σ H xs us Q I r h
 obtain⟨x,T,t,b,rfl,ht,hk,q⟩:=h
 obtain⟨u,v,rfl,ru,rv⟩:=JY r
 cases rv
 exact KN I ru ht hk fun tk=>⟨.bl b,H,I.tok tk,rfl,q⟩
theorem Nn{K:PySem.W.Frag}:PySem.W.kitOne K (.type "int") (.type "int")=some true:=rfl
theorem Ot{K:PySem.W.Frag}:PySem.W.kitOne K (.type "int") (.type "bool")=some false:=by first | rfl | decide | (unfold PySem.W.kitOne;rw[if_neg (by decide)];first | rfl | decide | kernel_rfl)
theorem Np{K:PySem.W.Frag}:PySem.W.kitOne K (.type "tuple") (.type "tuple")=some true:=rfl
theorem Q2{K:PySem.W.Frag}:PySem.W.kitOne K (.type "list") (.type "list")=some true:=rfl
theorem Nq{K:PySem.W.Frag}:PySem.W.kitOne K (.type "str") (.type "str")=some true:=rfl
def LB:V->List V->Hp->VK->Prop:=fun x vs H Q=>∃l xs k y,x = .ref l/\vs=[.int k,y]/\H l=some (.lst xs)/\0<=k/\k<2^63/\xs.length<sizeLine/\Q .non (upd H l (.lst (xs.take k.toNat++y::xs.drop k.toNat)))
theorem K3:BB X "list.insert" LB:=by
 intro pins s σ H x vs v us Q I rx rv h
 obtain⟨l,xs,k,y,rfl,rfl,hH,h0,h1,hz,q⟩:=h
 cases rx
 obtain⟨u1,u2,rfl,r1,r2⟩:=rv.two
 obtain⟨t,rfl⟩:=r1
 obtain⟨z,its,n,r,hl,e⟩:=I.lstM hH
 have hfit:¬(!Builtin.List.listFitsIndex k)=true:=by
  rw[fitsIndex_both (by omega) h1];exact Bool.false_ne_true
 refine call_meets F.slot_list_insert ⟨_,e,rfl⟩ F.entry_list_insert (F.args_list_insert_3 _ _ _) (AutoListH.list_insert_list_int_val_1 l its.toArray n k t u2 hfit (by rw[List.size_toArray];omega)) ⟨e,?_⟩
 refine⟨.non,_,I.lset (its':=its.take k.toNat++u2::its.drop k.toNat) hH e ?_ ((r.take k.toNat).append (.cons r2 (r.drop k.toNat))) ?_,rfl,q⟩
 ·show(have j:=if k<0 then(k+((its.toArray.size:Nat):Int)).toNat else min k.toNat its.toArray.size;(its.toArray.extract 0 j).push u2++its.toArray.extract j)=_
  rw[if_neg (by omega)]
  dsimp only
  by_cases hle:k.toNat<=its.length
  ·rw[Nat.min_eq_left (by rw[List.size_toArray];exact hle)]
   simp
   rw[List.take_of_length_le (by rw[List.length_drop];exact Nat.le_refl _)]
  ·rw[Nat.min_eq_right (by rw[List.size_toArray];omega)]
   rw[List.take_of_length_le (by omega),List.drop_eq_nil_of_le (by omega)]
   simp
 ·rw[List.length_append,List.length_cons,List.length_take,List.length_drop]
  omega
end
def TK(H H':Hp):Prop:=∀b xs,H b=some (.tup xs)->H' b=some (.tup xs)
theorem Same.tk{H H':Hp}(s:Same H H'):TK H H':=fun b xs h=>s b _ h
theorem Same.new{H:Hp}{p:Addr}(h:H p=none)(o:HO):Same H (upd H p o):=fun b u q=>by rw[upd_ne (ZC q h)];exact q
class Rep(α:Type) where
 is:Hp->V->α->Prop
 keep:∀{H H':Hp}{v:V}{a:α},TK H H'->is H v a->is H' v a
 inj:∀{H:Hp}{v:V}{a a':α},is H v a->is H v a'->a=a'
 dep:Nat
 eqA:∀{X:Cx}{pins:List (Addr×Obj)}{σ:St}{H:Hp}{s:Shared}{v v':V}{a a':α}{u u':Value}{A:Around},Inv X pins σ H s->A.units+dep<cLine->is H v a->is H v' a'->RelV v u->RelV v' u'->
  ∃b,SeqAt.EqAt A s u u' b/\(b=true↔a=a')
instance:Rep Int where
 is:=fun _ v i=>v = .int i
 keep:=fun _ h=>h
 inj:=fun{H v a a'} h h'=>by subst h;exact V.int.inj h'
 dep:=0
 eqA:=fun{X pins σ H s v v' a a' u u' A} _ _ h h' r r'=>by
  subst h;subst h'
  obtain⟨t,rfl⟩:=r
  obtain⟨t',rfl⟩:=r'
  exact⟨_,SeqAt.EqAt.int_int a t a' t',by simp⟩
instance:Rep Bool where
 is:=fun _ v i=>v = .bl i
 keep:=fun _ h=>h
 inj:=fun{H v a a'} h h'=>by subst h;exact V.bl.inj h'
 dep:=0
 eqA:=fun{X pins σ H s v v' a a' u u' A} _ _ h h' r r'=>by
  subst h;subst h'
  cases r
  cases r'
  exact⟨_,SeqAt.EqAt.bool_bool a a',by simp⟩
instance:Rep Str where
 is:=fun _ v i=>v = .str i
 keep:=fun _ h=>h
 inj:=fun{H v a a'} h h'=>by subst h;exact V.str.inj h'
 dep:=0
 eqA:=fun{X pins σ H s v v' a a' u u' A} _ _ h h' r r'=>by
  subst h;subst h'
  obtain⟨t,rfl⟩:=r
  obtain⟨t',rfl⟩:=r'
  exact⟨_,SeqAt.EqAt.str_str a t a' t',by simp⟩
abbrev Items{α:Type}[Rep α](H:Hp):List V->List α->Prop:=Paired (Rep.is H)
section
variable {α:Type} [Rep α]
theorem Items.keep{H H':Hp}(k:TK H H'){xs:List V}{l:List α}(h:Items H xs l):Items H' xs l:=Paired.mapP h fun _ _ z=>Rep.keep k z
theorem Items.len{H:Hp}{xs:List V}{l:List α}(h:Items H xs l):xs.length=l.length:=Paired.length h
end
theorem Items.inj{α:Type}[Rep α]{H:Hp}:∀{xs:List V}{l m:List α},Items H xs l->Items H xs m->l=m
 | _,_,_,.nil,.nil=>rfl
 | _,_,_,.cons r t,.cons r' t'=>by rw[Rep.inj r r',Items.inj t t']
theorem Items.eqs{α:Type}[Rep α]{X:Cx}{pins:List (Addr×Obj)}{σ:St}{H:Hp}{s:Shared}{A:Around}(I:Inv X pins σ H s)(hu:A.units+Rep.dep α<cLine) :
  ∀{xs ys:List V}{l m:List α}{us ws:List Value},Items H xs l->Items H ys m->Vals xs us->Vals ys ws->
  ∃e:Nat->Bool,(∀j (h1:j<us.length) (h2:j<ws.length),SeqAt.EqAt A s us[j] ws[j] (e j))/\((List.range (min us.length ws.length)).all e=true↔l.take (min us.length ws.length)=m.take (min us.length ws.length))
 | _,_,_,_,_,_,.nil,_,.nil,_=>⟨fun _=>true,fun j h1=>by simp at h1,by simp⟩
 | _,_,_,_,_,_,.cons _ _,.nil,.cons _ _,.nil=>⟨fun _=>true,fun j h1 h2=>by simp at h2,by simp⟩
 | _,_,_,_,_,_,.cons r t,.cons r' t',.cons q v,.cons q' v'=>by
  obtain⟨b,hb,hb'⟩:=Rep.eqA I hu r r' q q'
  obtain⟨e,he,he'⟩:=Items.eqs I hu t t' v v'
  refine⟨fun j=>match j with | 0=>b | k+1=>e k,fun j h1 h2=>?_,?_⟩
  ·cases j with
   | zero=>exact hb
   | succ k=>exact he k (by simpa using h1) (by simpa using h2)
  ·simp only[List.length_cons,Nat.succ_min_succ,List.range_succ_eq_map,List.all_cons,List.all_map,Bool.and_eq_true,List.take_succ_cons,List.cons.injEq]
   exact and_congr hb' he'
theorem Items.same{α:Type}[Rep α]{H:Hp}{xs ys:List V}{l m:List α}{us ws:List Value}(h:Items H xs l)(h':Items H ys m)(r:Vals xs us)(r':Vals ys ws) :
  (l.take (min us.length ws.length)=m.take (min us.length ws.length)/\us.length=ws.length)↔l=m:=by
 have e1:=h.len;have e2:=h'.len;have e3:=r.length;have e4:=r'.length;constructor
 ·rintro⟨a,b⟩
  rw[List.take_of_length_le (by omega),List.take_of_length_le (by omega)] at a;exact a
 ·intro a
  subst a
  exact⟨rfl,by omega⟩
abbrev BZ(α:Type):Type:=List α
def CN{α:Type}[Rep α](H:Hp)(v:V)(l:List α):Prop:=∃p xs,v = .ref p/\H p=some (.tup xs)/\Items H xs l
instance {α:Type} [Rep α]:Rep (BZ α) where
 is:=fun H v l=>CN (α:=α) H v l
 keep:=fun{H H' v a} k h=>by
  obtain⟨p,xs,e,hp,it⟩:=h
  exact⟨p,xs,e,k p xs hp,it.keep k⟩
 inj:=fun{H v a a'} h h'=>by
  obtain⟨p,xs,e,hp,it⟩:=h
  obtain⟨p',xs',e',hp',it'⟩:=h'
  rw[e] at e';cases e'
  rw[hp] at hp';cases hp'
  exact Items.inj it it'
 dep:=Rep.dep α+2
 eqA:=fun{X pins σ H s v v' a a' u u' A} I hu h h' r r'=>by
  obtain⟨p,xs,rfl,hp,it⟩:=h
  obtain⟨p',xs',rfl,hp',it'⟩:=h'
  cases r
  cases r'
  obtain⟨us,rv,q,_⟩:=I.tuple (SqT.of hp)
  obtain⟨us',rv',q',_⟩:=I.tuple (SqT.of hp')
  by_cases e:p=p'
  ·subst e
   refine⟨true,SeqAt.EqAt.same _,?_⟩
   rw[hp] at hp';cases hp'
   have:a=a':=Items.inj it it'
   simp[this]
  ·obtain⟨f,hf,hf'⟩:=Items.eqs (A:=A.in1) I (by show A.units+1+Rep.dep α<cLine;omega) it it' rv rv'
   refine⟨_,SeqAt.EqAt.of_refs e (SeqAt.RcAt.tuples (e:=f) (show s.heap.IsTuple p us.toArray from q) (show s.heap.IsTuple p' us'.toArray from q') (by omega) (fun j h1 h2=>hf j (by simpa using h1) (by simpa using h2))),?_⟩
   simp only[List.size_toArray,Bool.and_eq_true,beq_iff_eq];rw[hf']
   exact Items.same it it' rv rv'
structure Def(K:PySem.W.Frag)(mg:Str->Option Value)(x:Str)(st:Stmt):Prop where
 ex:∃f fd,mg x=some (.ref f)/\Fun K x x st f fd
theorem def_mk{K:PySem.W.Frag}{h:Heap}{mg:Str->Option Value}{x:Str}{st:Stmt}{f:Addr}{oc:Value}{od an:Option Addr}{osl:Array (Option Value)}{kV doc pm cdv ct:Value}(X:K.In h)(G:h.Ns mainGlobals mg)
  (a:PySem.W.nsIn K mainGlobals x=some (some (.ref f))) (l:K.lookup f=some ⟨oc,od,.func (PySem.W.fnOf x x (XN st) (YT st) (Zn st) .none kV doc pm an cdv ct),osl⟩)
  (c:PySem.W.codeIn K cdv x=true) (k:PySem.W.keepIn K (.ref f)=true):Def K mg x st:=⟨f,_,PySem.W.mg_of X G a,E9 (st:=st) l c k⟩
structure X3(P:Program)(w:World)(K:PySem.W.Frag)(mg:Str->Option Value)(base:Heap)(x:Str)(ps:List Str)(sp:Sp)(k:Nat):Prop where
 ex:∃f fd,mg x=some (.ref f)/\PySem.W.keepIn K (.ref f)=true/\Binds K fd ps []/\Sv P w K mg base Mv k f fd ps sp
section
variable {P:Program} {w:World} {K:PySem.W.Frag} {mg:Str->Option Value} {base:Heap}
theorem Def.cal{x:Str}{st:Stmt}{N ps:List Str}{k:Nat}{sp:Sp}(D:Def K mg x st)(S:ZI N ps (Zn st))
  (hb:∀(kV doc pm:Value)(an:Option Addr)(cdv ct:Value)(us:List Value),us.length=ps.length->bindArgs (PySem.W.fnOf x x (XN st) (YT st) (Zn st) .none kV doc pm an cdv ct) ⟨us,[]⟩=pure (ps.zip us))
  (len:∀vs H Q E,sp vs H Q E->vs.length=ps.length)
  (hbody:∀(f:Addr)(cdv:Value)(A:Around)(outer:List Env)(s:Shared)(H:Hp)(vs:List V)(Q:VK)(E:XK),Room k (A.deeper (envOfC x (Zn st) s.heap.objs.size f cdv))->sp vs H Q E->
   ∃t,PSs (QW Mv P w K mg base N x (Zn st) f cdv A outer s H E).nox (YT st) t/\t { nx:=fun _ H'=>Q .non H',rt:=Q } (start N vs) H):X3 P w K mg base x ps sp (k+1):=by
 obtain⟨f,fd,hm,F⟩:=D.ex
 exact⟨f,fd,hm,F.kp,F.binds hb,F.ok S len fun cdv A outer s H vs Q E hr h=>hbody f cdv A outer s H vs Q E hr h⟩
end
section
variable {X:Cx} {x:Str} {ps:List Str} {sp:Sp} {k:Nat} {e:Expr} {es:List Expr} {t:TA} {p pos:Pos}
theorem Dh(C:X3 X.prog X.w X.K X.mg X.base x ps sp k)(hr:Room k X.A)(hg:Gl X x)(ha:PA X (e::es) t)
  (hdb:(x==("__debug__" : Str))=false:=by decide) (he:starEach (e::es) X.env=(false,eval e X.env)::starEach es X.env:=by rfl) (hpl:(backTo pos (starEach es X.env)).any (·.1)=false:=by rfl) :
  PE X (.Call (.Name x p) (e::es) [] pos) (Eb sp [] E0 t):=by
 obtain⟨f,fd,a,b,c,d⟩:=C.ex
 exact Lr d hr hg a b c .nil Eg ha hdb he hpl
end
def Te(N:List Str)(around scope:Scope)(own fr:List Str)(ix:List Nat):Bool:=
 (match scope.kind with | .function=>true | _=>false)&&scope.names.all (fun y=>y.2 != .cell)&&scope.names.all (fun y=>y.2 != .local || scope.names.lookup y.1==some .local)&&
 scope.names.all (fun y=>y.2 != .free || (around.names.lookup y.1==some .cell || around.names.lookup y.1==some .free))&&(fr.map some==ix.map (fun i=>N[i]?))&&
 fr.all (fun x=>scope.names.contains (x,NameKind.free))&&fr.all (fun x=>scope.names.lookup x != some .local)
theorem Py{N:List Str}{around scope:Scope}{own fr:List Str}{ix:List Nat}(h:Te N around scope own fr ix=true):CompScope N around scope own fr ix:=by
 unfold Te at h;simp only[Bool.and_eq_true] at h
 obtain⟨⟨⟨⟨⟨⟨h1,h2⟩,h3⟩,h4⟩,h5⟩,h6⟩,h7⟩:=h
 refine⟨?_,fun y hy=>?_,fun y hy e=>?_,fun y hy e=>?_,by simpa using h5,fun x hx=>?_,fun x hx=>?_⟩
 ·split at h1
  ·assumption
  ·cases h1
 ·simpa using List.all_eq_true.mp h2 y hy
 ·have:=List.all_eq_true.mp h3 y hy
  rw[e] at this
  simpa using this
 ·have:=List.all_eq_true.mp h4 y hy
  rw[e] at this
  simpa using this
 ·simpa using List.all_eq_true.mp h6 x hx
 ·simpa using List.all_eq_true.mp h7 x hx
section
variable {X:Cx} {tg elt iter:Expr} {ifs:List Expr} {scope:Scope} {pos:Pos} {wi:TI} {g:TG} {tt:TT} {te:TE}
theorem Nr(own fr:List Str)(ix:List Nat)(hcalm:X.calm=true)(hi:PI X tg iter wi)(S:Te X.N X.env.scope scope own fr ix=true)
  (hg:∀cl C s H ex,PG (ZW X (own++fr) scope cl C s H ex) tg g) (ht:∀cl C s H ex,J6 (ZW X (own++fr) scope cl C s H ex) ifs tt) (he:∀cl C s H ex,PE (ZW X (own++fr) scope cl C s H ex) elt te)
  (hs:∀x,foldedSetIterable iter X.env x=pure x:=by intro _;rfl):PE X (.ListComp elt [⟨tg,iter,ifs,0⟩] scope pos) (Pw own.length ix wi g tt te):=
 GL hcalm hi (Py S) hg ht he hs
theorem Ia(own fr:List Str)(ix:List Nat){i:Nat}{y:Str}{py spos:Pos}(hN:X.N.Nodup)(hy:X.N[i]?=some y)(hloc:X.env.scope.names.lookup y=some .local)(hcalm:X.calm=true)(hi:PI X tg iter wi)(S:Te X.N X.env.scope scope own fr ix=true)
  (hg:∀cl C s H ex,PG (ZW X (own++fr) scope cl C s H ex) tg g) (ht:∀cl C s H ex,J6 (ZW X (own++fr) scope cl C s H ex) ifs tt) (he:∀cl C s H ex,PE (ZW X (own++fr) scope cl C s H ex) elt te)
  (hsw:swapsWith (.ListComp elt [⟨tg,iter,ifs,0⟩] scope pos) (some (.Name y py)) spos.line X.env=pure true:=by rfl)
  (hs:∀x,foldedSetIterable iter X.env x=pure x:=by intro _;rfl):PS X (.Assign [.Name y py] (.ListComp elt [⟨tg,iter,ifs,0⟩] scope pos) spos) (Mn (Pw own.length ix wi g tt te) (S2 i)):=
 GN hN hy hloc hcalm hi (Py S) hg ht he hsw hs
end
structure SA(mg:Str->Option Value):Prop where
 «len» : mg "len" = none
 «sum» : mg "sum" = none
 «range» : mg "range" = none
 «enumerate» : mg "enumerate" = none
 «zip» : mg "zip" = none
 «tuple» : mg "tuple" = none
 «list» : mg "list" = none
 «all» : mg "all" = none
 «any» : mg "any" = none
 «isinstance» : mg "isinstance" = none
 «int» : mg "int" = none
 «bool» : mg "bool" = none
 «str» : mg "str" = none
 «min» : mg "min" = none
 «max» : mg "max" = none
 «sorted» : mg "sorted" = none
 «abs» : mg "abs" = none
 «ValueError» : mg "ValueError" = none
 «reversed» : mg "reversed" = none
abbrev Di(g:TG)(tb:TS)(D:Tx)(σ:St)(J:It)(H:Hp):Prop:=
 ∃W:Nat->Nat->St->Hp->Prop,(∃m,W 0 m σ H)/\∀i m σ H,W i m σ H->
   (J.stop i H/\D.nx σ H)\/(J.go i H/\∃N:St->Hp->Prop,(∀σ' H',N σ' H'->∃m',m'<m/\W (i+1) m' σ' H')/\∀x H',J.yld i H x H'->g x σ H' fun σ2 H2=>tb { D with nx:=N,ct:=N,bk:=D.nx } σ2 H2)
def YC(l:List Int)(i:Nat):Int:=l.getD i 0
theorem K4(l:List Int):(List.range l.length).map (YC l)=l:=by
 apply List.ext_getElem?
 intro i;rw[List.getElem?_map]
 by_cases h:i<l.length
 ·rw[List.getElem?_eq_getElem (by simpa using h),List.getElem?_eq_getElem h]
  simp[YC,List.getD_eq_getElem?_getD,List.getElem?_eq_getElem h]
 ·rw[List.getElem?_eq_none (by simpa using h),List.getElem?_eq_none (by omega)];rfl
theorem Q3{f:Nat->Int}{n i:Nat}(h:i<n):YC ((List.range n).map f) i=f i:=by
 unfold YC
 rw[List.getD_eq_getElem?_getD,List.getElem?_map,List.getElem?_range h];rfl
def Zt(w:List (List Int))(i:Nat):List Int:=w.getD i []
theorem R1{w:List (List Int)}{i:Nat}(h:i<w.length):w[i]?=some (Zt w i):=by
 unfold Zt
 rw[List.getD_eq_getElem?_getD,List.getElem?_eq_getElem h];rfl
def ZM(w:List (List Int))(i j:Nat):Int:=YC (Zt w i) j
structure WebOk(w:List (List Int)):Prop where
 pos:1<=w.length
 few:w.length<=7
 sq:∀i,i<w.length->(Zt w i).length=w.length
 lo:∀i j,i<w.length->j<w.length->0<=ZM w i j
 hi:∀i j,i<w.length->j<w.length->ZM w i j<=9
 sym:∀i j,i<w.length->j<w.length->ZM w i j=ZM w j i
 dia:∀i,i<w.length->ZM w i i=0
def Dj(K:PySem.W.Frag):List V->Hp->VK->Prop:=fun xs H Q=>∃p ys,xs=[.ref p]/\((SqL K H p ys/\∀l,H l=none->Q (.ref l) (upd H l (.tup ys)))\/(SqT K H p ys/\Q (.ref p) H))
def GQ(K:PySem.W.Frag):List V->Hp->VK->Prop:=fun xs H Q=>∃p ys,xs=[.ref p]/\(SqL K H p ys\/SqT K H p ys)/\∀l,H l=none->Q (.ref l) (upd H l (.lst ys))
theorem Same.off{H Hc:Hp}{p:Addr}(s:Same H Hc)(n:Hc p=none):H p=none:=s.free n
abbrev Xm:=Nat×Nat×Int
def K5(e:Xm):List YH×V:=([.inl (e.1:Int),.inl (e.2.1:Int)],.int e.2.2)
def dE(ts:List Xm):List (List YH×V):=ts.map K5
structure DictOk(n:Nat)(ts:List Xm):Prop where
 ok:∀e∈ts,e.1<e.2.1/\e.2.1<n/\1<=e.2.2/\e.2.2<=9
 nd:(ts.map fun e=>(e.1,e.2.1)).Nodup
theorem Ou{a b a' b':Nat}(h:([Sum.inl (a:Int),Sum.inl (b:Int)]:List YH)=[Sum.inl (a':Int),Sum.inl (b':Int)]):a=a'/\b=b':=by
 have h1:=(List.cons.inj h).1
 have h2:=(List.cons.inj (List.cons.inj h).2).1
 have e1:=Sum.inl.inj h1;have e2:=Sum.inl.inj h2;omega
theorem DictOk.nil(n:Nat):DictOk n []:=⟨fun _ h=>by simp at h,by simp⟩
theorem GR{ts:List Xm}{a b:Nat}:(∀t,(a,b,t)∉ts)->Uo (dE ts) [.inl (a:Int),.inl (b:Int)]=none:=by
 intro h;unfold Uo dE;rw[Option.map_eq_none_iff,List.find?_eq_none];intro x hx
 obtain⟨e,he,rfl⟩:=List.mem_map.mp hx
 intro q;have q:=of_decide_eq_true q
 obtain⟨h1,h2⟩:=Ou q
 obtain⟨a',b',t⟩:=e
 simp only at h1 h2
 subst h1 h2
 exact h t he
theorem Dk{n:Nat}{ts:List Xm}{a b:Nat}{t:Int}(ok:DictOk n ts)(hab:a<b)(hb:b<n)(h1:1<=t)(h9:t<=9) :
  ∃ts',Vq (dE ts) [.inl (a:Int),.inl (b:Int)] (.int t)=dE ts'/\DictOk n ts'/\ts'.length<=ts.length+1:=by
 by_cases hm:∃t',(a,b,t')∈ts
 ·-- it is there: replaced
  obtain⟨t',hm⟩:=hm
  refine⟨ts.map fun e=>if(e.1,e.2.1)=(a,b) then(e.1,e.2.1,t) else e,?_,⟨?_,?_⟩,by simp⟩
  ·unfold Vq
   rw[if_pos ?_]
   ·unfold dE
    rw[List.map_map,List.map_map]
    apply List.map_congr_left
    intro e _
    show(if(K5 e).1=_ then((K5 e).1,V.int t) else K5 e)=K5 (if(e.1,e.2.1)=(a,b) then(e.1,e.2.1,t) else e)
    by_cases q:(e.1,e.2.1)=(a,b)
    ·rw[if_pos q,if_pos ?_]
     ·rfl
     ·have:=Prod.mk.inj q
      show([.inl (e.1:Int),.inl (e.2.1:Int)]:List YH)=_
      rw[this.1,this.2]
    ·rw[if_neg q,if_neg ?_]
     intro z
     obtain⟨h1,h2⟩:=Ou (show([.inl (e.1:Int),.inl (e.2.1:Int)]:List YH)=_ from z)
     exact q (by rw[h1,h2])
   ·rw[List.any_eq_true]
    exact⟨K5 (a,b,t'),List.mem_map.mpr ⟨_,hm,rfl⟩,decide_eq_true rfl⟩
  ·intro e he
   obtain⟨e',he',rfl⟩:=List.mem_map.mp he
   have:=ok.ok e' he'
   by_cases q:(e'.1,e'.2.1)=(a,b)
   ·rw[if_pos q];exact⟨this.1,this.2.1,h1,h9⟩
   ·rw[if_neg q];exact this
  ·rw[List.map_map]
   have e:((fun e:Xm=>(e.1,e.2.1)) ∘ fun e:Xm=>if(e.1,e.2.1)=(a,b) then(e.1,e.2.1,t) else e)=fun e:Xm=>(e.1,e.2.1):=by
    funext e
    show((if(e.1,e.2.1)=(a,b) then((e.1,e.2.1,t):Xm) else e).1,(if(e.1,e.2.1)=(a,b) then((e.1,e.2.1,t):Xm) else e).2.1)=_
    by_cases q:(e.1,e.2.1)=(a,b)
    ·rw[if_pos q]
    ·rw[if_neg q]
   rw[e];exact ok.nd
 ·have hn:∀t',(a,b,t')∉ts:=fun t' h=>hm ⟨t',h⟩
  refine⟨ts++[(a,b,t)],?_,⟨?_,?_⟩,by simp⟩
  ·rw[J3 _ (GR hn)]
   unfold dE
   rw[List.map_append];rfl
  ·intro e he
   rcases List.mem_append.mp he with q | q
   ·exact ok.ok e q
   ·rw[List.mem_singleton.mp q];exact⟨hab,hb,h1,h9⟩
  ·rw[List.map_append]
   refine Ol ok.nd ?_
   rw[List.mem_map]
   rintro⟨e,he,q⟩
   obtain⟨a',b',t'⟩:=e
   have:=Prod.mk.inj q
   simp only at this
   rw[this.1,this.2] at he
   exact hn t' he
def Xu(M:List (List Int))(a b:Nat)(t:Int):List (List Int):=M.set a ((Zt M a).set b t)
def YF(M:List (List Int))(e:Xm):List (List Int):=Xu (Xu M e.1 e.2.1 e.2.2) e.2.1 e.1 e.2.2
def K6(n:Nat)(ts:List Xm):List (List Int):=ts.foldl YF (List.replicate n (List.replicate n 0))
structure MatOk(n:Nat)(M:List (List Int)):Prop where
 len:M.length=n
 row:∀i,i<n->(Zt M i).length=n
 lo:∀i j,i<n->j<n->0<=ZM M i j
 hi:∀i j,i<n->j<n->ZM M i j<=9
 sym:∀i j,i<n->j<n->ZM M i j=ZM M j i
 dia:∀i,i<n->ZM M i i=0
theorem Pz{M:List (List Int)}{a i:Nat}{r:List Int}(ha:a<M.length):Zt (M.set a r) i=if a=i then r else Zt M i:=by
 unfold Zt;rw[List.getD_eq_getElem?_getD,List.getD_eq_getElem?_getD,List.getElem?_set]
 by_cases h:a=i
 ·subst h;simp[ha]
 ·simp[h]
theorem LC{l:List Int}{b j:Nat}{t:Int}(hb:b<l.length):YC (l.set b t) j=if b=j then t else YC l j:=by
 unfold YC;rw[List.getD_eq_getElem?_getD,List.getD_eq_getElem?_getD,List.getElem?_set]
 by_cases h:b=j
 ·subst h;simp[hb]
 ·simp[h]
theorem Vs{n:Nat}{M:List (List Int)}{a b i j:Nat}{t:Int}(hl:M.length=n)(hr:∀i,i<n->(Zt M i).length=n)(ha:a<n)(hb:b<n):ZM (Xu M a b t) i j=if a=i/\b=j then t else ZM M i j:=by
 show YC (Zt (M.set a ((Zt M a).set b t)) i) j=_
 rw[Pz (by omega)]
 by_cases h:a=i
 ·subst h
  rw[if_pos rfl,LC (by rw[hr a ha];exact hb)]
  by_cases q:b=j
  ·rw[if_pos q,if_pos ⟨rfl,q⟩]
  ·rw[if_neg q,if_neg (fun z=>q z.2)];rfl
 ·rw[if_neg h,if_neg (fun z=>h z.1)];rfl
theorem Xd{n:Nat}{M:List (List Int)}{a b:Nat}{t:Int}(hl:M.length=n)(hr:∀i,i<n->(Zt M i).length=n)(ha:a<n):(Xu M a b t).length=n/\∀i,i<n->(Zt (Xu M a b t) i).length=n:=by
 refine⟨by unfold Xu;rw[List.length_set];exact hl,fun i hi=>?_⟩
 show(Zt (M.set a ((Zt M a).set b t)) i).length=n
 rw[Pz (by omega)]
 split
 ·rw[List.length_set];exact hr a ha
 ·exact hr i hi
theorem MatOk.step{n:Nat}{M:List (List Int)}{e:Xm}(ok:MatOk n M)(h:e.1<e.2.1/\e.2.1<n/\1<=e.2.2/\e.2.2<=9):MatOk n (YF M e):=by
 obtain⟨a,b,t⟩:=e
 obtain⟨hab,hb,h1,h9⟩:=h
 simp only at hab hb h1 h9
 have ha:a<n:=by omega
 obtain⟨l1,r1⟩:=Xd (t:=t) (b:=b) ok.len ok.row ha
 obtain⟨l2,r2⟩:=Xd (t:=t) (b:=a) l1 r1 hb
 have E:∀i j,ZM (Xu (Xu M a b t) b a t) i j=if b=i/\a=j then t else if a=i/\b=j then t else ZM M i j:=fun i j=>by
  rw[Vs l1 r1 hb ha,Vs ok.len ok.row ha hb]
 refine⟨l2,r2,fun i j hi hj=>?_,fun i j hi hj=>?_,fun i j hi hj=>?_,fun i hi=>?_⟩
 ·show 0<=ZM (Xu (Xu M a b t) b a t) i j
  rw[E];split
  ·omega
  ·split
   ·omega
   ·exact ok.lo i j hi hj
 ·show ZM (Xu (Xu M a b t) b a t) i j<=9
  rw[E];split
  ·omega
  ·split
   ·omega
   ·exact ok.hi i j hi hj
 ·show ZM (Xu (Xu M a b t) b a t) i j=ZM (Xu (Xu M a b t) b a t) j i
  rw[E,E];have s:=ok.sym i j hi hj
  by_cases q1:b=i/\a=j
  ·rw[if_pos q1]
   obtain⟨rfl,rfl⟩:=q1
   rw[if_neg (by omega),if_pos ⟨rfl,rfl⟩]
  ·rw[if_neg q1]
   by_cases q2:a=i/\b=j
   ·rw[if_pos q2]
    obtain⟨rfl,rfl⟩:=q2
    rw[if_pos ⟨rfl,rfl⟩]
   ·rw[if_neg q2,if_neg (fun z=>q2 ⟨z.2,z.1⟩),if_neg (fun z=>q1 ⟨z.2,z.1⟩),s]
 ·show ZM (Xu (Xu M a b t) b a t) i i=0
  rw[E,if_neg (by omega),if_neg (by omega)]
  exact ok.dia i hi
theorem MatOk.zero(n:Nat):MatOk n (List.replicate n (List.replicate n 0)):=by
 have r:∀i,i<n->Zt (List.replicate n (List.replicate n (0:Int))) i=List.replicate n 0:=fun i hi=>by
  unfold Zt
  rw[List.getD_eq_getElem?_getD,List.getElem?_replicate,if_pos hi];rfl
 have z:∀i j,i<n->j<n->ZM (List.replicate n (List.replicate n (0:Int))) i j=0:=fun i j hi hj=>by
  show YC (Zt _ i) j=0
  rw[r i hi];unfold YC
  rw[List.getD_eq_getElem?_getD,List.getElem?_replicate,if_pos hj];rfl
 exact⟨by simp,fun i hi=>by rw[r i hi];simp,fun i j hi hj=>by rw[z i j hi hj];omega,fun i j hi hj=>by rw[z i j hi hj];omega,fun i j hi hj=>by rw[z i j hi hj,z j i hj hi],fun i hi=>z i i hi hi⟩
theorem R3{n:Nat}{ts:List Xm}(ok:DictOk n ts):MatOk n (K6 n ts):=by
 have gen:∀(l:List Xm)(M:List (List Int)),(∀e∈l,e.1<e.2.1/\e.2.1<n/\1<=e.2.2/\e.2.2<=9)->MatOk n M->MatOk n (l.foldl YF M):=by
  intro l
  induction l with
  | nil=>intro M _ h;exact h
  | cons e r ih=>
   intro M h hM;rw[List.foldl_cons]
   exact ih _ (fun e' he'=>h e' (List.mem_cons_of_mem _ he')) (hM.step (h e List.mem_cons_self))
 exact gen ts _ ok.ok (MatOk.zero n)
theorem MatOk.web{n:Nat}{M:List (List Int)}(h:MatOk n M)(h1:1<=n)(h7:n<=7):WebOk M:=by
 have e:=h.len;subst e
 exact⟨h1,h7,h.row,h.lo,h.hi,h.sym,h.dia⟩
theorem LD(l:List Int):((List.range l.length).map (YC l)).sum=l.sum:=by rw[K4]
theorem Nt{α:Type}(n:Nat)(x:α):(List.replicate n [x]).flatten=List.replicate n x:=by
 induction n with
 | zero=>rfl
 | succ n ih=>rw[List.replicate_succ,List.flatten_cons,ih];rfl
theorem Mw{α β:Type}(f:β->α->β)(s:β){l:List α}{i:Nat}{x:α}(h:l[i]?=some x):(l.take (i+1)).foldl f s=f ((l.take i).foldl f s) x:=by
 rw[List.take_add_one,h]
 show List.foldl f s (l.take i++[x])=_
 rw[List.foldl_append];rfl
structure NamesOk(i:Nat)(l:List Int):Prop where
 len:l.length=i
 nd:l.Nodup
 lo:∀x∈l,0<=x
 hi:∀x∈l,x<i
theorem NamesOk.nil:NamesOk 0 []:=⟨rfl,List.nodup_nil,fun _ h=>by simp at h,fun _ h=>by simp at h⟩
theorem NamesOk.ins{i:Nat}{l:List Int}(h:NamesOk i l)(k:Nat):NamesOk (i+1) (l.take k++(i:Int)::l.drop k):=by
 have hp:(l.take k++(i:Int)::l.drop k).Perm ((i:Int)::l):=by
  have:=List.perm_middle (a:=(i:Int)) (l₁:=l.take k) (l₂:=l.drop k)
  rw[List.take_append_drop] at this;exact this
 refine⟨by rw[hp.length_eq,List.length_cons,h.len],?_,fun x hx=>?_,fun x hx=>?_⟩
 ·rw[hp.nodup_iff,List.nodup_cons]
  exact⟨fun hm=>by have:=h.hi _ hm;omega,h.nd⟩
 ·rcases List.mem_cons.mp (hp.mem_iff.mp hx) with e | e
  ·omega
  ·exact h.lo x e
 ·rcases List.mem_cons.mp (hp.mem_iff.mp hx) with e | e
  ·omega
  ·have:=h.hi x e;omega
theorem NamesOk.at{i:Nat}{l:List Int}(h:NamesOk i l){x:Nat}(hx:x<i):0<=YC l x/\YC l x<i:=by
 have e:YC l x=l[x]'(by rw[h.len];exact hx):=by
  unfold YC
  rw[List.getD_eq_getElem?_getD,List.getElem?_eq_getElem (by rw[h.len];exact hx)];rfl
 rw[e]
 exact⟨h.lo _ (List.getElem_mem _),h.hi _ (List.getElem_mem _)⟩
theorem NamesOk.ne{i:Nat}{l:List Int}(h:NamesOk i l){x y:Nat}(hx:x<i)(hy:y<i)(n:x≠y):YC l x≠YC l y:=by
 have ex:YC l x=l[x]'(by rw[h.len];exact hx):=by
  unfold YC
  rw[List.getD_eq_getElem?_getD,List.getElem?_eq_getElem (by rw[h.len];exact hx)];rfl
 have ey:YC l y=l[y]'(by rw[h.len];exact hy):=by
  unfold YC
  rw[List.getD_eq_getElem?_getD,List.getElem?_eq_getElem (by rw[h.len];exact hy)];rfl
 rw[ex,ey];intro e
 exact n ((List.getElem_inj h.nd).mp e)
theorem lt_size{n:Nat}(h:n<=10000):n<sizeLine:=Nat.lt_of_le_of_lt h (by decide)
end L2
namespace VL
open PySem PySem.Spec PyProof.Rows L2
variable {K:PySem.W.Frag}
def B0(od:Obj)(f:Str)(u:Value):Prop:=∀(hp:Heap)(dx:Addr),hp.get? dx=some od->hp.Ns1 dx (fun n=>if n=f then some u else none)
def GS(n:Str):Str:=if n = "NoWeb" then "place" else if n = "Apart" then "houses" else if n = "TooMany" then "most" else "total"
inductive PV where
 | non | bl (b:Bool) | int (i:Int) | str (x:Str) | ty (n:String) | exc (n:Str) | exf (n:Str) (l:PV)
 | tup (l:List PV) | lst (l:List PV) | cst (l:List PV)
 | dK (ks:List YH) (vs:List PV) | dT (ks:List (List YH)) (vs:List PV)
instance:Inhabited PV:=⟨.non⟩
mutual
/-- nothing in it can be changed -/
def ZN:PV->Bool
 | .tup l=>ZJ l
 | .cst l=>ZJ l
 | .lst _=>false
 | .dK _ _=>false
 | .dT _ _=>false
 | .non=>true
 | .bl _=>true
 | .int _=>true
 | .str _=>true
 | .ty _=>true
 | .exc _=>true
 | .exf _ _=>true
def ZJ:List PV->Bool
 | []=>true
 | x::r=>ZN x&&ZJ r
end
theorem WD:∀l:List PV,ZJ l=l.all ZN
 | []=>rfl
 | x::r=>by rw[List.all_cons,<-WD r];rfl
def KL(K:PySem.W.Frag)(a:Addr)(xs:List V):Prop:=
 ∃(o:Obj) (its:Array Value) (n:Nat),K.lookup a=some o/\o.cls = .type "list"/\o.dict=none/\o.data = .seq its n/\its.size<=sizeLine/\Vals xs its.toList
def CsK(K:PySem.W.Frag)(H:Hp)(p:Addr)(xs:List V):Prop:=(∃o,H p=some (.frz o (.lst xs)))\/KL K p xs
theorem CsK.sq{K:PySem.W.Frag}{H:Hp}{p:Addr}{xs:List V}(h:CsK K H p xs):SqL K H p xs:=by
 rcases h with h | h
 ·exact .inl (.inr h)
 ·exact .inr h
mutual
/-- v is the tree l in the heap H;fp: the addresses of its lists and dicts -/
def Is(K:PySem.W.Frag)(H:Hp):PV->V->List Addr->Prop
 | .non,v,fp=>v = .non/\fp=[]
 | .bl b,v,fp=>v = .bl b/\fp=[]
 | .int i,v,fp=>v = .int i/\fp=[]
 | .str x,v,fp=>v = .str x/\fp=[]
 | .ty n,v,fp=>v = .ty n/\fp=[]
 | .exc n,v,fp=>(∃e o x C,v = .ref e/\H e=some (.frz o (.own x))/\o.cls = .ref C/\PySem.W.nsIn K mainGlobals n=some (some (.ref C))/\o.dict=none/\∃vs,o.data = .fields vs)/\fp=[]
 | .exf n l,v,fp=>(∃e o x C dx od u z,v = .ref e/\H e=some (.frz o (.own x))/\o.cls = .ref C/\PySem.W.nsIn K mainGlobals n=some (some (.ref C))/\o.dict=some dx/\(∃vs,o.data = .fields vs)/\H dx=some (.frz od (.own dx))/\B0 od (GS n) u/\RelV z u/\Is K H l z [])/\fp=[]
 | .tup l,v,fp=>∃p xs,v = .ref p/\H p=some (.tup xs)/\Iss K H l xs fp
 | .lst l,v,fp=>∃p xs fq,v = .ref p/\H p=some (.lst xs)/\Iss K H l xs fq/\fp=p::fq
 | .cst l,v,fp=>∃p xs,v = .ref p/\CsK K H p xs/\Iss K H l xs fp
 | .dK ks l,v,fp=>∃p kvs fq,v = .ref p/\Rd H p (.dK kvs)/\kvs.map (·.1)=ks/\Iss K H l (kvs.map (·.2)) fq/\fp=p::fq
 | .dT ks l,v,fp=>∃p kvs fq,v = .ref p/\Rd H p (.dT kvs)/\kvs.map (·.1)=ks/\Iss K H l (kvs.map (·.2)) fq/\fp=p::fq
def Iss(K:PySem.W.Frag)(H:Hp):List PV->List V->List Addr->Prop
 | [],xs,fp=>xs=[]/\fp=[]
 | l::ls,xs,fp=>∃x r f1 f2,xs=x::r/\Is K H l x f1/\Iss K H ls r f2/\fp=f1++f2
end
def RdK(H H':Hp)(p:Addr):Prop:=(∀xs,H p=some (.lst xs)->H' p=some (.lst xs))/\(∀kvs,Rd H p (.dK kvs)->Rd H' p (.dK kvs))/\∀kvs,Rd H p (.dT kvs)->Rd H' p (.dT kvs)
theorem RdK.of{H H':Hp}{p:Addr}(h:∀o,H p=some o->H' p=some o):RdK H H' p:=by
 have r:∀u,Rd H p u->Rd H' p u:=fun u q=>by
  rcases q with q | ⟨o,q⟩
  ·exact .inl (h _ q)
  ·exact .inr ⟨o,h _ q⟩
 exact⟨fun _=>h _,fun _=>r _,fun _=>r _⟩
structure TK2(H H':Hp):Prop where
 tup:TK H H'
 frz:∀b o xs,H b=some (.frz o (.lst xs))->H' b=some (.frz o (.lst xs))
 exc:∀b o x,H b=some (.frz o (.own x))->H' b=some (.frz o (.own x))
theorem Same.tk2{H H':Hp}(s:Same H H'):TK2 H H':=⟨s.tk,fun b o xs h=>s b _ h,fun b o x h=>s b _ h⟩
theorem CsK.tr{K:PySem.W.Frag}{H H':Hp}(t:TK2 H H'){p:Addr}{xs:List V}(h:CsK K H p xs):CsK K H' p xs:=by
 rcases h with⟨o,h⟩ | h
 ·exact .inl ⟨o,t.frz p o xs h⟩
 ·exact .inr h
mutual
theorem Is.tr{H H':Hp}(ht:TK2 H H'):∀(l:PV)(v:V)(fp:List Addr),(∀p∈fp,RdK H H' p)->Is K H l v fp->Is K H' l v fp
 | .non,_,_,_,h=>by simpa only[Is] using h
 | .bl _,_,_,_,h=>by simpa only[Is] using h
 | .int _,_,_,_,h=>by simpa only[Is] using h
 | .str _,_,_,_,h=>by simpa only[Is] using h
 | .ty _,_,_,_,h=>by simpa only[Is] using h
 | .exc _,_,_,_,h=>by
  simp only[Is] at h ⊢
  obtain⟨⟨e,o,x,C,a,b,c⟩,d⟩:=h
  exact⟨⟨e,o,x,C,a,ht.exc e o x b,c⟩,d⟩
 | .exf _ l,_,_,_,h=>by
  simp only[Is] at h ⊢
  obtain⟨⟨e,o,x,C,dx,od,u,z,a,b,c1,c2,c3,c4,c5,c6,c7,c8⟩,d⟩:=h
  exact⟨⟨e,o,x,C,dx,od,u,z,a,ht.exc e o x b,c1,c2,c3,c4,ht.exc dx od dx c5,c6,c7,Is.tr ht l z [] (fun p hp=>by simp at hp) c8⟩,d⟩
 | .tup l,v,fp,hm,h=>by
  simp only[Is] at h ⊢
  obtain⟨p,xs,e,hp,hi⟩:=h
  exact⟨p,xs,e,ht.tup p xs hp,Iss.tr ht l xs fp hm hi⟩
 | .lst l,v,fp,hm,h=>by
  simp only[Is] at h ⊢
  obtain⟨p,xs,fq,e,hr,hi,rfl⟩:=h
  exact⟨p,xs,fq,e,(hm p List.mem_cons_self).1 _ hr,Iss.tr ht l xs fq (fun q hq=>hm q (List.mem_cons_of_mem _ hq)) hi,rfl⟩
 | .cst l,v,fp,hm,h=>by
  simp only[Is] at h ⊢
  obtain⟨p,xs,e,hr,hi⟩:=h
  exact⟨p,xs,e,hr.tr ht,Iss.tr ht l xs fp hm hi⟩
 | .dK ks l,v,fp,hm,h=>by
  simp only[Is] at h ⊢
  obtain⟨p,kvs,fq,e,hr,hk,hi,rfl⟩:=h
  exact⟨p,kvs,fq,e,(hm p List.mem_cons_self).2.1 _ hr,hk,Iss.tr ht l _ fq (fun q hq=>hm q (List.mem_cons_of_mem _ hq)) hi,rfl⟩
 | .dT ks l,v,fp,hm,h=>by
  simp only[Is] at h ⊢
  obtain⟨p,kvs,fq,e,hr,hk,hi,rfl⟩:=h
  exact⟨p,kvs,fq,e,(hm p List.mem_cons_self).2.2 _ hr,hk,Iss.tr ht l _ fq (fun q hq=>hm q (List.mem_cons_of_mem _ hq)) hi,rfl⟩
theorem Iss.tr{H H':Hp}(ht:TK2 H H'):∀(l:List PV)(xs:List V)(fp:List Addr),(∀p∈fp,RdK H H' p)->Iss K H l xs fp->Iss K H' l xs fp
 | [],_,_,_,h=>by simpa only[Iss] using h
 | l::ls,xs,fp,hm,h=>by
  simp only[Iss] at h ⊢
  obtain⟨x,r,f1,f2,e,h1,h2,rfl⟩:=h
  exact⟨x,r,f1,f2,e,Is.tr ht l x f1 (fun q hq=>hm q (List.mem_append_left _ hq)) h1,Iss.tr ht ls r f2 (fun q hq=>hm q (List.mem_append_right _ hq)) h2,rfl⟩
end
theorem Is.mono{H H':Hp}(s:Same H H'){l:PV}{v:V}{fp:List Addr}(h:Is K H l v fp):Is K H' l v fp:=Is.tr (Same.tk2 s) l v fp (fun p _=>RdK.of fun o q=>s p o q) h
theorem Iss.mono{H H':Hp}(s:Same H H'){l:List PV}{v:List V}{fp:List Addr}(h:Iss K H l v fp):Iss K H' l v fp:=Iss.tr (Same.tk2 s) l v fp (fun p _=>RdK.of fun o q=>s p o q) h
mutual
theorem Is.pure{H:Hp}:∀(l:PV)(v:V)(fp:List Addr),ZN l=true->Is K H l v fp->fp=[]
 | .non,_,_,_,h=>by simp only[Is] at h;exact h.2
 | .bl _,_,_,_,h=>by simp only[Is] at h;exact h.2
 | .int _,_,_,_,h=>by simp only[Is] at h;exact h.2
 | .str _,_,_,_,h=>by simp only[Is] at h;exact h.2
 | .ty _,_,_,_,h=>by simp only[Is] at h;exact h.2
 | .exc _,_,_,_,h=>by simp only[Is] at h;exact h.2
 | .exf _ _,_,_,_,h=>by simp only[Is] at h;exact h.2
 | .tup l,v,fp,hp,h=>by
  simp only[Is] at h
  obtain⟨p,xs,e,_,hi⟩:=h
  exact Iss.pure l xs fp (by simpa only[ZN] using hp) hi
 | .lst l,v,fp,hp,h=>by simp[ZN] at hp
 | .cst l,v,fp,hp,h=>by
  simp only[Is] at h
  obtain⟨p,xs,e,_,hi⟩:=h
  exact Iss.pure l xs fp (by simpa only[ZN] using hp) hi
 | .dK ks l,v,fp,hp,h=>by simp[ZN] at hp
 | .dT ks l,v,fp,hp,h=>by simp[ZN] at hp
theorem Iss.pure{H:Hp}:∀(l:List PV)(xs:List V)(fp:List Addr),ZJ l=true->Iss K H l xs fp->fp=[]
 | [],_,_,_,h=>by simp only[Iss] at h;exact h.2
 | l::ls,xs,fp,hp,h=>by
  simp only[Iss] at h;simp only[ZJ,Bool.and_eq_true] at hp
  obtain⟨x,r,f1,f2,e,h1,h2,rfl⟩:=h
  rw[Is.pure l x f1 hp.1 h1,Iss.pure ls r f2 hp.2 h2];rfl
end
section
variable {H H':Hp}
theorem Iss.len:∀{l:List PV}{xs:List V}{fp:List Addr},Iss K H l xs fp->xs.length=l.length
 | [],xs,fp,h=>by simp only[Iss] at h;rw[h.1];rfl
 | l::ls,xs,fp,h=>by
  simp only[Iss] at h
  obtain⟨x,r,f1,f2,rfl,_,h2,_⟩:=h
  rw[List.length_cons,List.length_cons,h2.len]
theorem Iss.get:∀{l:List PV}{xs:List V}{fp:List Addr}{i:Nat}{a:PV},Iss K H l xs fp->l[i]?=some a->∃x f1,xs[i]?=some x/\Is K H a x f1/\∀p∈f1,p∈fp
 | [],xs,fp,i,a,h,e=>by simp at e
 | l::ls,xs,fp,0,a,h,e=>by
  simp only[Iss] at h
  obtain⟨x,r,f1,f2,rfl,h1,_,rfl⟩:=h
  simp at e;subst e
  exact⟨x,f1,rfl,h1,fun p hp=>List.mem_append_left _ hp⟩
 | l::ls,xs,fp,i+1,a,h,e=>by
  simp only[Iss] at h
  obtain⟨x,r,f1,f2,rfl,_,h2,rfl⟩:=h
  obtain⟨y,g,h3,h4,h5⟩:=h2.get (i:=i) (a:=a) (by simpa using e)
  exact⟨y,g,by simpa using h3,h4,fun p hp=>List.mem_append_right _ (h5 p hp)⟩
theorem Iss.get'{l:List PV}{xs:List V}{fp:List Addr}{i:Nat}{x:V}(h:Iss K H l xs fp)(e:xs[i]?=some x):∃a f1,l[i]?=some a/\Is K H a x f1/\∀p∈f1,p∈fp:=by
 have hi:i<l.length:=by rw[<-h.len];exact(List.getElem?_eq_some_iff.mp e).1
 obtain⟨y,f1,h1,h2,h3⟩:=h.get (List.getElem?_eq_getElem hi)
 rw[e] at h1;cases h1
 exact⟨_,f1,List.getElem?_eq_getElem hi,h2,h3⟩
theorem Iss.nil:Iss K H [] [] []:=by simp[Iss]
theorem Iss.cons{l:PV}{ls:List PV}{x:V}{xs:List V}{f1 f2:List Addr}(h1:Is K H l x f1)(h2:Iss K H ls xs f2):Iss K H (l::ls) (x::xs) (f1++f2):=by
 simp only[Iss];exact⟨x,xs,f1,f2,rfl,h1,h2,rfl⟩
theorem Iss.inv{l:PV}{ls:List PV}{xs:List V}{fp:List Addr}(h:Iss K H (l::ls) xs fp):∃x r f1 f2,xs=x::r/\Is K H l x f1/\Iss K H ls r f2/\fp=f1++f2:=by
 simpa only[Iss] using h
theorem Iss.append:∀{l m:List PV}{xs ys:List V}{f1 f2:List Addr},Iss K H l xs f1->Iss K H m ys f2->Iss K H (l++m) (xs++ys) (f1++f2)
 | [],m,xs,ys,f1,f2,h,h'=>by
  simp only[Iss] at h
  rw[h.1,h.2];exact h'
 | l::ls,m,xs,ys,f1,f2,h,h'=>by
  obtain⟨x,r,g1,g2,rfl,a,b,rfl⟩:=h.inv
  rw[List.append_assoc]
  exact Iss.cons a (b.append h')
theorem Iss.one{l:PV}{x:V}{f:List Addr}(h:Is K H l x f):Iss K H [l] [x] f:=by
 have:=Iss.cons h (Iss.nil (H:=H))
 rwa [List.append_nil] at this
theorem Iss.take:∀{l:List PV}{xs:List V}{fp:List Addr}(n:Nat),Iss K H l xs fp->∃f1,Iss K H (l.take n) (xs.take n) f1/\∀p∈f1,p∈fp
 | l,xs,fp,0,h=>⟨[],by rw[List.take_zero,List.take_zero];exact Iss.nil,fun p hp=>by simp at hp⟩
 | [],xs,fp,n+1,h=>by
  simp only[Iss] at h;rw[h.1]
  exact⟨[],by rw[List.take_nil,List.take_nil];exact Iss.nil,fun p hp=>by simp at hp⟩
 | l::ls,xs,fp,n+1,h=>by
  obtain⟨x,r,f1,f2,rfl,h1,h2,rfl⟩:=h.inv
  obtain⟨f3,a,b⟩:=h2.take n
  refine⟨f1++f3,Iss.cons h1 a,fun p hp=>?_⟩
  rcases List.mem_append.mp hp with h | h
  ·exact List.mem_append_left _ h
  ·exact List.mem_append_right _ (b p h)
theorem Iss.drop:∀{l:List PV}{xs:List V}{fp:List Addr}(n:Nat),Iss K H l xs fp->∃f1,Iss K H (l.drop n) (xs.drop n) f1/\∀p∈f1,p∈fp
 | l,xs,fp,0,h=>⟨fp,h,fun p hp=>hp⟩
 | [],xs,fp,n+1,h=>by
  simp only[Iss] at h;rw[h.1]
  exact⟨[],by rw[List.drop_nil,List.drop_nil];exact Iss.nil,fun p hp=>by simp at hp⟩
 | l::ls,xs,fp,n+1,h=>by
  obtain⟨x,r,f1,f2,rfl,h1,h2,rfl⟩:=h.inv
  obtain⟨f3,a,b⟩:=h2.drop n
  exact⟨f3,a,fun p hp=>List.mem_append_right _ (b p hp)⟩
theorem Iss.setP:∀{l:List PV}{xs:List V}{a:PV}{x:V}(i:Nat),ZJ l=true->ZN a=true->Iss K H l xs []->Is K H a x []->Iss K H (l.set i a) (xs.set i x) []
 | [],xs,a,x,i,_,_,h,_=>by
  simp only[Iss] at h
  rw[h.1];simp only[List.set_nil];exact Iss.nil
 | l::ls,xs,a,x,0,hp,_,h,ha=>by
  simp only[ZJ,Bool.and_eq_true] at hp
  obtain⟨y,r,f1,f2,rfl,_,h2,e⟩:=h.inv
  have e2:=Iss.pure _ _ _ hp.2 h2;subst e2
  exact Iss.cons (f1:=[]) ha h2
 | l::ls,xs,a,x,i+1,hp,hq,h,ha=>by
  simp only[ZJ,Bool.and_eq_true] at hp
  obtain⟨y,r,f1,f2,rfl,h1,h2,e⟩:=h.inv
  have e1:=Is.pure _ _ _ hp.1 h1;have e2:=Iss.pure _ _ _ hp.2 h2
  subst e1 e2
  exact Iss.cons (f1:=[]) h1 (Iss.setP i hp.2 hq h2 ha)
theorem Is.int_inv{i:Int}{v:V}{fp:List Addr}(h:Is K H (.int i) v fp):v = .int i/\fp=[]:=by simpa only[Is] using h
theorem Is.int(i:Int):Is K H (.int i) (.int i) []:=by simp[Is]
theorem Is.bl(i:Bool):Is K H (.bl i) (.bl i) []:=by simp[Is]
theorem Is.non:Is K H .non .non []:=by simp[Is]
theorem Is.str(x:Str):Is K H (.str x) (.str x) []:=by simp[Is]
theorem Is.ty(n:String):Is K H (.ty n) (.ty n) []:=by simp[Is]
theorem Is.bl_inv{i:Bool}{v:V}{fp:List Addr}(h:Is K H (.bl i) v fp):v = .bl i/\fp=[]:=by simpa only[Is] using h
theorem Is.str_inv{i:Str}{v:V}{fp:List Addr}(h:Is K H (.str i) v fp):v = .str i/\fp=[]:=by simpa only[Is] using h
theorem Is.non_inv{v:V}{fp:List Addr}(h:Is K H .non v fp):v = .non/\fp=[]:=by simpa only[Is] using h
theorem Is.ty_inv{n:String}{v:V}{fp:List Addr}(h:Is K H (.ty n) v fp):v = .ty n/\fp=[]:=by simpa only[Is] using h
theorem Is.tup_inv{l:List PV}{v:V}{fp:List Addr}(h:Is K H (.tup l) v fp):∃p xs,v = .ref p/\H p=some (.tup xs)/\Iss K H l xs fp:=by simpa only[Is] using h
theorem Is.tup{l:List PV}{p:Addr}{xs:List V}{fp:List Addr}(h:H p=some (.tup xs))(hi:Iss K H l xs fp):Is K H (.tup l) (.ref p) fp:=by simp only[Is];exact⟨p,xs,rfl,h,hi⟩
theorem Is.lst_inv{l:List PV}{v:V}{fp:List Addr}(h:Is K H (.lst l) v fp):∃p xs fq,v = .ref p/\H p=some (.lst xs)/\Iss K H l xs fq/\fp=p::fq:=by simpa only[Is] using h
theorem Is.lst{l:List PV}{p:Addr}{xs:List V}{fp:List Addr}(h:H p=some (.lst xs))(hi:Iss K H l xs fp):Is K H (.lst l) (.ref p) (p::fp):=by
 simp only[Is];exact⟨p,xs,fp,rfl,h,hi,rfl⟩
theorem Is.cst_inv{l:List PV}{v:V}{fp:List Addr}(h:Is K H (.cst l) v fp):∃p xs,v = .ref p/\CsK K H p xs/\Iss K H l xs fp:=by simpa only[Is] using h
theorem Is.cst{l:List PV}{p:Addr}{xs:List V}{fp:List Addr}(h:CsK K H p xs)(hi:Iss K H l xs fp):Is K H (.cst l) (.ref p) fp:=by
 simp only[Is];exact⟨p,xs,rfl,h,hi⟩
theorem Is.dT_inv{ks:List (List YH)}{l:List PV}{v:V}{fp:List Addr}(h:Is K H (.dT ks l) v fp):∃p kvs fq,v = .ref p/\Rd H p (.dT kvs)/\kvs.map (·.1)=ks/\Iss K H l (kvs.map (·.2)) fq/\fp=p::fq:=by simpa only[Is] using h
theorem Is.dT{ks:List (List YH)}{l:List PV}{p:Addr}{kvs:List (List YH×V)}{fp:List Addr}(h:H p=some (.dT kvs))(hk:kvs.map (·.1)=ks)(hi:Iss K H l (kvs.map (·.2)) fp):Is K H (.dT ks l) (.ref p) (p::fp):=by
 simp only[Is];exact⟨p,kvs,fp,rfl,.inl h,hk,hi,rfl⟩
theorem Is.dK_inv{ks:List YH}{l:List PV}{v:V}{fp:List Addr}(h:Is K H (.dK ks l) v fp):∃p kvs fq,v = .ref p/\Rd H p (.dK kvs)/\kvs.map (·.1)=ks/\Iss K H l (kvs.map (·.2)) fq/\fp=p::fq:=by simpa only[Is] using h
theorem Is.dK{ks:List YH}{l:List PV}{p:Addr}{kvs:List (YH×V)}{fp:List Addr}(h:H p=some (.dK kvs))(hk:kvs.map (·.1)=ks)(hi:Iss K H l (kvs.map (·.2)) fp):Is K H (.dK ks l) (.ref p) (p::fp):=by
 simp only[Is];exact⟨p,kvs,fp,rfl,.inl h,hk,hi,rfl⟩
end
abbrev iL(l:List Int):List PV:=l.map PV.int
theorem Xn(l:List Int):ZJ (iL l)=true:=by
 rw[WD,List.all_eq_true];intro x hx
 obtain⟨i,_,rfl⟩:=List.mem_map.mp hx
 rfl
theorem Iss.iL{H:Hp}:∀{l:List Int}{xs:List V}{fp:List Addr},Iss K H (VL.iL l) xs fp->xs=l.map V.int/\fp=[]
 | [],xs,fp,h=>by simpa only[VL.iL,List.map_nil,Iss] using h
 | i::l,xs,fp,h=>by
  obtain⟨x,r,f1,f2,rfl,h1,h2,rfl⟩:=Iss.inv (show Iss K H (PV.int i::VL.iL l) xs fp from h)
  obtain⟨rfl,rfl⟩:=h1.int_inv
  obtain⟨rfl,rfl⟩:=h2.iL
  exact⟨rfl,rfl⟩
theorem Iss.ofInts{H:Hp}:∀(l:List Int),Iss K H (VL.iL l) (l.map V.int) []
 | []=>Iss.nil
 | i::l=>Iss.cons (f1:=[]) (Is.int i) (Iss.ofInts l)
end VL
namespace VL
open PySem PySem.Spec PyProof.Rows L2
variable {K:PySem.W.Frag}
abbrev S5:=L2.St
abbrev ZY:=List (Option PV)
abbrev XE:=ZY->Option PV
structure EnvIs(K:PySem.W.Frag)(Rm:Addr->Prop)(H:Hp)(s:ZY)(σ:S5):Prop where
 is:∀(i:Nat) l,s[i]?=some (some l)->∃v fp,σ[i]?=some (some v)/\Is K H l v fp/\∀p∈fp,¬Rm p
theorem EnvIs.mono{Rm:Addr->Prop}{H H':Hp}{s:ZY}{σ:S5}(h:EnvIs K Rm H s σ)(e:Same H H'):EnvIs K Rm H' s σ:=⟨fun i l q=>by
 obtain⟨v,fp,a,b,c⟩:=h.is i l q
 exact⟨v,fp,a,b.mono e,c⟩⟩
theorem EnvIs.free{Rm:Addr->Prop}{H:Hp}{s:ZY}{σ:S5}(h:EnvIs K Rm H s σ):EnvIs K (fun _=>False) H s σ:=⟨fun i l q=>by
 obtain⟨v,fp,a,b,c⟩:=h.is i l q
 exact⟨v,fp,a,b,fun _ _ z=>z⟩⟩
theorem Same.mut{H H':Hp}(e:Same H H'){p:Addr}(h:Vo (H p)):Vo (H' p):=by
 cases q:H p with
 | none=>rw[q] at h;exact h.elim
 | some o=>rw[e p o q,<-q];exact h
theorem XB{H:Hp}{p:Addr}(h:Vo (H p)):H p≠none:=fun z=>by rw[z] at h;exact h
def tF(K:PySem.W.Frag)(f:XE):TE:=fun σ H Q=>∃(Rm:Addr->Prop) (s:ZY) (l:PV),(∀p,Rm p->Vo (H p))/\EnvIs K Rm H s σ/\f s=some l/\∀v H' fp,Same H H'->Is K H' l v fp->(∀p∈fp,¬Rm p)->Q v H'
def tM(K:PySem.W.Frag)(f:XE):TE:=fun σ H Q=>∃(s:ZY) (l:PV),EnvIs K (fun _=>False) H s σ/\f s=some l/\∀v H' fp,Same H H'->Is K H' l v fp->fp.Nodup->(∀p∈fp,H p=none/\Vo (H' p))->Q v H'
def VE(X:Cx)(e:Expr)(f:XE):Prop:=PE X e (tF X.K f)
def VM(X:Cx)(e:Expr)(f:XE):Prop:=PE X e (tM X.K f)
section
variable {X:Cx} {e:Expr} {f g:XE} {t t':TE}
theorem PE.imp(h:PE X e t)(i:∀σ H Q,t' σ H Q->t σ H Q):PE X e t':=fun pins s σ H Q I q=>h pins s σ H Q I (i σ H Q q)
theorem VM.ve(h:VM X e f):VE X e f:=PE.imp h fun σ H Q ⟨Rm,s,l,hd,env,e,k⟩=>
 ⟨s,l,env.free,e,fun v H' fp sm i _ n=>k v H' fp sm i fun p hp z=>XB (hd p z) (n p hp).1⟩
def eP(f:XE):XE:=fun s=>(f s).bind fun l=>if ZN l=true then some l else none
theorem GU{s:ZY}{l:PV}(h:eP f s=some l):f s=some l/\ZN l=true:=by
 unfold eP at h
 cases q:f s with
 | none=>rw[q] at h;cases h
 | some a=>
  rw[q] at h;simp only[Option.bind_some] at h
  split at h
  ·cases h;exact⟨rfl,by assumption⟩
  ·cases h
theorem VE.pure(h:VE X e f):VM X e (eP f):=PE.imp h fun σ H Q ⟨s,l,env,e,k⟩=>by
 obtain⟨e1,e2⟩:=GU e
 refine⟨fun _=>False,s,l,fun _ z=>z.elim,env,e1,fun v H' fp sm i n=>?_⟩
 have:=Is.pure l v fp e2 i
 subst this
 exact k v H' [] sm i List.nodup_nil fun p hp=>by simp at hp
end
def Za(i:Nat):XE:=fun s=>(s[i]?).join
def eC(l:PV):XE:=fun _=>some l
theorem SD{i:Nat}{s:ZY}{l:PV}(h:Za i s=some l):s[i]?=some (some l):=by
 unfold Za at h
 cases q:s[i]? with
 | none=>rw[q] at h;cases h
 | some o=>rw[q] at h;cases o with
  | none=>cases h
  | some a=>cases h;rfl
section
variable {X:Cx} {pos:Pos}
theorem Zd{e:Expr}{i:Nat}(h:PE X e (Tz i)):VE X e (Za i):=PE.imp h fun σ H Q ⟨Rm,s,l,hd,env,e,k⟩=>by
 obtain⟨v,fp,a,b,c⟩:=env.is i l (SD e)
 exact⟨v,a,k v H fp (Same.refl H) b c⟩
theorem GV{e:Expr}{v:V}{l:PV}(h:PE X e (tC v))(hv:∀H,Is X.K H l v []):VE X e (eC l):=PE.imp h fun σ H Q ⟨Rm,s,l',hd,env,e,k⟩=>by
 cases e
 exact k v H [] (Same.refl H) (hv H) fun p hp=>by simp at hp
theorem Zm{i j}:VE X (.Constant (.int i) j pos) (eC (.int i)):=GV EC fun _=>Is.int i
theorem PD{i j}:VE X (.Constant (.bool i) j pos) (eC (.bl i)):=GV D8 fun _=>Is.bl i
theorem Ib{j}:VE X (.Constant .none j pos) (eC .non):=GV JR fun _=>Is.non
end
def RB(K:PySem.W.Frag)(r:R2)(g:PV->PV->Option PV):Prop:=∀(H:Hp)(x y:V)(a b l:PV)(fa fb:List Addr),Is K H a x fa->Is K H b y fb->g a b=some l->∀Q:VK,
 (∀v H' fp,Same H H'->Is K H' l v fp->(∀p∈fp,p∈fa\/p∈fb\/H p=none)->Q v H')->r x y H Q
def Zg(g:PV->PV->Option PV)(a b:XE):XE:=fun s=>(a s).bind fun x=>(b s).bind fun y=>g x y
theorem TV{g:PV->PV->Option PV}{a b:XE}{s:ZY}{l:PV}(h:Zg g a b s=some l):∃x y,a s=some x/\b s=some y/\g x y=some l:=by
 unfold Zg at h
 cases q:a s with
 | none=>rw[q] at h;cases h
 | some x=>cases q2:b s with
  | none=>rw[q,q2] at h;cases h
  | some y=>rw[q,q2] at h;exact⟨x,y,rfl,rfl,h⟩
section
variable {X:Cx} {a b:Expr} {fa fb:XE} {pos:Pos}
theorem LF{r:R2}{g:PV->PV->Option PV}(hr:RB K r g):∀σ H Q,tF K (Zg g fa fb) σ H Q->EO r (tF K fa) (tF K fb) σ H Q:=fun σ H Q ⟨Rm,s,l,hd,env,e,k⟩=>by
 obtain⟨x',y',ex,ey,e⟩:=TV e
 refine⟨Rm,s,x',hd,env,ex,fun x H1 f1 s1 i1 n1=>⟨Rm,s,y',fun p hp=>Same.mut s1 (hd p hp),env.mono s1,ey,fun y H2 f2 s2 i2 n2=>?_⟩⟩
 refine hr H2 x y x' y' l f1 f2 (i1.mono s2) i2 e Q fun v H3 fp s3 i3 n3=>k v H3 fp (s1.trans (s2.trans s3)) i3 fun p hp z=>?_
 rcases n3 p hp with h | h | h
 ·exact n1 p h z
 ·exact n2 p h z
 ·exact XB (Same.mut (s1.trans s2) (hd p z)) h
theorem S6{op:Operator}{r:R2}{g:PV->PV->Option PV}(ho:UJ X (binaryOp op) r)(hr:RB X.K r g)(ha:VE X a fa)(hb:VE X b fb):VE X (.BinOp a op b pos) (Zg g fa fb):=
 PE.imp (JV ho ha hb) (LF hr)
theorem Ov{op:CmpOp}{r:R2}{g:PV->PV->Option PV}(ho:UJ X (compareOp op) r)(hr:RB X.K r g)(ha:VE X a fa)(hb:VE X b fb)(hm:behindInMarks op b=false):VE X (.Compare a [op] [b] pos) (Zg g fa fb):=
 PE.imp (Gu ho ha hb hm) (LF hr)
theorem CO{r:R2}{g:PV->PV->Option PV}(ho:IxR X r)(hr:RB X.K r g)(ha:VE X a fa)(hb:VE X b fb)(hs:Oh b):VE X (.Subscript a b pos) (Zg g fa fb):=
 PE.imp (Pp ho ha hb hs) (LF hr)
end
def gI(g:Int->Int->Int):PV->PV->Option PV
 | .int i,.int j=>some (.int (g i j))
 | _,_=>none
def gB(g:Int->Int->Bool):PV->PV->Option PV
 | .int i,.int j=>some (.bl (g i j))
 | _,_=>none
def HZ(C:Int->Int->Prop)[∀i j,Decidable (C i j)](g:Int->Int->Int):PV->PV->Option PV
 | .int i,.int j=>if C i j then some (.int (g i j)) else none
 | _,_=>none
theorem GW{g:Int->Int->Int}{a b l:PV}(h:gI g a b=some l):∃i j,a = .int i/\b = .int j/\l = .int (g i j):=by
 unfold gI at h;split at h
 ·cases h;exact⟨_,_,rfl,rfl,rfl⟩
 ·cases h
theorem GX{g:Int->Int->Bool}{a b l:PV}(h:gB g a b=some l):∃i j,a = .int i/\b = .int j/\l = .bl (g i j):=by
 unfold gB at h;split at h
 ·cases h;exact⟨_,_,rfl,rfl,rfl⟩
 ·cases h
theorem Ic{C:Int->Int->Prop}[∀i j,Decidable (C i j)]{g:Int->Int->Int}{a b l:PV}(h:HZ C g a b=some l):∃i j,a = .int i/\b = .int j/\C i j/\l = .int (g i j):=by
 unfold HZ at h;split at h
 ·split at h
  ·cases h;exact⟨_,_,rfl,rfl,by assumption,rfl⟩
  ·cases h
 ·cases h
theorem CP(g:Int->Int->Int):RB K (HY fun i j=>.int (g i j)) (gI g):=fun H x y a b l fa fb ha hb e Q k=>by
 obtain⟨i,j,rfl,rfl,rfl⟩:=GW e
 exact⟨i,j,ha.int_inv.1,hb.int_inv.1,k _ H [] (Same.refl H) (Is.int _) fun p hp=>by simp at hp⟩
theorem Mx(g:Int->Int->Bool):RB K (HY fun i j=>.bl (g i j)) (gB g):=fun H x y a b l fa fb ha hb e Q k=>by
 obtain⟨i,j,rfl,rfl,rfl⟩:=GX e
 exact⟨i,j,ha.int_inv.1,hb.int_inv.1,k _ H [] (Same.refl H) (Is.bl _) fun p hp=>by simp at hp⟩
theorem Nu(C:Int->Int->Prop)[∀i j,Decidable (C i j)](g:Int->Int->Int):RB K (rI C fun i j=>.int (g i j)) (HZ C g):=fun H x y a b l fa fb ha hb e Q k=>by
 obtain⟨i,j,rfl,rfl,c,rfl⟩:=Ic e
 exact⟨i,j,ha.int_inv.1,hb.int_inv.1,c,k _ H [] (Same.refl H) (Is.int _) fun p hp=>by simp at hp⟩
instance (i j:Int):Decidable (CMul i j):=by unfold CMul;infer_instance
instance (i j:Int):Decidable (TF i j):=by unfold TF;infer_instance
instance (i j:Int):Decidable (F7 i j):=by unfold F7;infer_instance
instance (i j:Int):Decidable (Cs i j):=by unfold Cs;infer_instance
abbrev ZX:=gI (· + ·)
abbrev Xz:=gI (· - ·)
abbrev Ox:=HZ CMul (· * ·)
abbrev XJ:=HZ TF (· / ·)
abbrev YR:=HZ (fun _ j=>0<j) (· % ·)
abbrev LG:=gB (fun i j=>decide (i<j))
abbrev JO:=gB (fun i j=>decide (i<=j))
abbrev Oy:=gB (fun i j=>decide (j<i))
abbrev CQ:=gB (fun i j=>decide (j<=i))
section
variable {X:Cx} {a b:Expr} {fa fb:XE} {pos:Pos}
theorem Xe(ha:VE X a fa)(hb:VE X b fb):VE X (.BinOp a .Add b pos) (Zg ZX fa fb):=S6 ES (CP _) ha hb
theorem Tf(ha:VE X a fa)(hb:VE X b fb):VE X (.BinOp a .Sub b pos) (Zg Xz fa fb):=S6 ET (CP _) ha hb
theorem Ie(ha:VE X a fa)(hb:VE X b fb):VE X (.BinOp a .Mult b pos) (Zg Ox fa fb):=S6 EU (Nu _ _) ha hb
theorem Wu(ha:VE X a fa)(hb:VE X b fb):VE X (.BinOp a .FloorDiv b pos) (Zg XJ fa fb):=S6 Gs (Nu _ _) ha hb
theorem Vh(ha:VE X a fa)(hb:VE X b fb):VE X (.BinOp a .Mod b pos) (Zg YR fa fb):=S6 EV (Nu _ _) ha hb
theorem CS(ha:VE X a fa)(hb:VE X b fb):VE X (.Compare a [.Gt] [b] pos) (Zg Oy fa fb):=Ov Ea (Mx _) ha hb (Vg _)
end
def ZA:PV->PV->Option PV
 | .lst l,.int i=>VH l i
 | .cst l,.int i=>VH l i
 | .tup l,.int i=>VH l i
 | .str z,.int i=>if z.length<=sizeLine then(VH z.cps.toList i).map fun c=>.str ⟨#[c]⟩ else none
 | _,_=>none
theorem My{l:List PV}{xs:List V}{H:Hp}{fp:List Addr}{i:Int}{a:PV}(h:Iss K H l xs fp)(e:VH l i=some a):∃x f1,VH xs i=some x/\Is K H a x f1/\∀p∈f1,p∈fp:=by
 unfold VH at e ⊢
 rw[h.len]
 cases q:Mj l.length i with
 | none=>rw[q] at e;cases e
 | some j=>rw[q] at e;exact h.get e
theorem CT:RB K (BQ K) ZA:=fun H x y a b l fa fb ha hb e Q k=>by
 unfold ZA at e;split at e
 ·obtain⟨p,xs,fq,rfl,hp,hi,rfl⟩:=ha.lst_inv
  obtain⟨z,f1,h1,h2,h3⟩:=My hi e
  exact .inl ⟨p,xs,_,z,rfl,hb.int_inv.1,SqL.of hp,h1,k z H f1 (Same.refl H) h2 fun q hq=>.inl (List.mem_cons_of_mem _ (h3 q hq))⟩
 ·obtain⟨p,xs,rfl,hp,hi⟩:=ha.cst_inv
  obtain⟨z,f1,h1,h2,h3⟩:=My hi e
  exact .inl ⟨p,xs,_,z,rfl,hb.int_inv.1,hp.sq,h1,k z H f1 (Same.refl H) h2 fun q hq=>.inl (h3 q hq)⟩
 ·obtain⟨p,xs,rfl,hp,hi⟩:=ha.tup_inv
  obtain⟨z,f1,h1,h2,h3⟩:=My hi e
  exact .inr (.inl ⟨p,xs,_,z,rfl,hb.int_inv.1,SqT.of hp,h1,k z H f1 (Same.refl H) h2 fun q hq=>.inl (h3 q hq)⟩)
 ·split at e
  ·cases q:VH _ _ with
   | none=>rw[q] at e;cases e
   | some c=>
    rw[q] at e;cases e
    exact .inr (.inr ⟨_,_,c,ha.str_inv.1,hb.int_inv.1,by assumption,q,k _ H [] (Same.refl H) (Is.str _) fun p hp=>by simp at hp⟩)
  ·cases e
 ·cases e
section
variable {X:Cx} {a b:Expr} {fa fb:XE} {pos:Pos}
theorem Zr(ha:VE X a fa)(hb:VE X b fb)(hs:Oh b:=by exact fun _ _=>rfl):VE X (.Subscript a b pos) (Zg ZA fa fb):=CO E1 CT ha hb hs
end
abbrev XT:=ZY->Option Bool
def Mk(K:PySem.W.Frag)(f:XT):TT:=fun σ H Q=>∃(Rm:Addr->Prop) (s:ZY) (c:Bool),(∀p,Rm p->Vo (H p))/\EnvIs K Rm H s σ/\f s=some c/\∀H',Same H H'->Q c H'
def VT(X:Cx)(e:Expr)(f:XT):Prop:=PT X e (Mk X.K f)
def VW(X:Cx)(e:Expr)(f:XT):Prop:=PW X e (Mk X.K f)
section
variable {X:Cx} {e:Expr} {f:XT}
theorem PT.imp{t t':TT}(h:PT X e t)(i:∀σ H Q,t' σ H Q->t σ H Q):PT X e t':=fun pins s σ H Q I q=>h pins s σ H Q I (i σ H Q q)
theorem PW.imp{t t':TT}(h:PW X e t)(i:∀σ H Q,t' σ H Q->t σ H Q):PW X e t':=fun whole pins s σ H Q I q=>h whole pins s σ H Q I (i σ H Q q)
theorem VW.vt(h:VW X e f):VT X e f:=PW.pt h
end
def xB(f:XE):XT:=fun s=>match f s with | some (.bl c)=>some c | _=>none
theorem TX{f:XE}{s:ZY}{c:Bool}(h:xB f s=some c):f s=some (.bl c):=by
 unfold xB at h;split at h
 ·cases h;assumption
 ·cases h
section
variable {X:Cx} {a b c:Expr} {Zx:List Expr} {fa fb:XE} {ga gb:XT} {pos:Pos}
theorem VU(h:VE X a fa)(he:∀whole,isTrue a X.env whole=(do let v <-whole;standAt a.pos;holding [v] (truthy v)):=by intro _;rfl):VT X a (xB fa):=
 PT.imp (EE h he) fun σ H Q ⟨Rm,s,c,hd,env,e,k⟩=>⟨Rm,s,.bl c,hd,env,TX e,fun v H' fp sm i n=>⟨c,i.bl_inv.1,k H' sm⟩⟩
theorem Nv:∀σ H Q,Mk K (xB fa) σ H Q->Ng (tF K fa) σ H Q:=fun σ H Q ⟨Rm,s,c,hd,env,e,k⟩=>⟨Rm,s,.bl c,hd,env,TX e,fun v H' fp sm i n=>⟨c,i.bl_inv.1,k H' sm⟩⟩
theorem R4{t t':TE}(i:∀σ H Q,t' σ H Q->t σ H Q):∀σ H Q,Ng t' σ H Q->Ng t σ H Q:=fun σ H Q h=>i σ H _ h
theorem VV{op:CmpOp}{r:R2}{g:PV->PV->Option PV}(ho:UJ X (compareOp op) r)(hr:RB X.K r g)(ha:VE X a fa)(hb:VE X b fb)(hm:behindInMarks op b=false):VT X (.Compare a [op] [b] pos) (xB (Zg g fa fb)):=
 PT.imp (Gw ho ha hb hm) fun σ H Q h=>R4 (LF hr) σ H Q (Nv σ H Q h)
theorem Eh(ha:VE X a fa)(hb:VE X b fb):VT X (.Compare a [.Lt] [b] pos) (xB (Zg LG fa fb)):=VV F8 (Mx _) ha hb (Vg _)
theorem CU(ha:VE X a fa)(hb:VE X b fb):VT X (.Compare a [.LtE] [b] pos) (xB (Zg JO fa fb)):=VV F9 (Mx _) ha hb (Vg _)
theorem Ig(ha:VE X a fa)(hb:VE X b fb):VT X (.Compare a [.Gt] [b] pos) (xB (Zg Oy fa fb)):=VV Ea (Mx _) ha hb (Vg _)
theorem CV(ha:VE X a fa)(hb:VE X b fb):VT X (.Compare a [.GtE] [b] pos) (xB (Zg CQ fa fb)):=VV Ct (Mx _) ha hb (Vg _)
def XM(a b:XT):XT:=fun s=>(a s).bind fun c=>if c=true then b s else some false
def O8(a b:XT):XT:=fun s=>(a s).bind fun c=>if c=true then some true else b s
def Tg(a:XT):XT:=fun s=>(a s).map not
theorem GY:∀σ H Q,Mk K (XM ga gb) σ H Q->Ca (Mk K ga) (Mk K gb) σ H Q:=fun σ H Q ⟨Rm,s,c,hd,env,e,k⟩=>by
 unfold XM at e
 cases q:ga s with
 | none=>rw[q] at e;cases e
 | some d=>
  rw[q] at e
  refine⟨Rm,s,d,hd,env,q,fun H1 s1=>?_⟩
  cases d with
  | true=>
   simp only[Option.bind_some,if_true] at e;rw[if_pos rfl]
   exact⟨Rm,s,c,fun p hp=>Same.mut s1 (hd p hp),env.mono s1,e,fun H2 s2=>k H2 (s1.trans s2)⟩
  | false=>
   simp only[Option.bind_some,Bool.false_eq_true,if_false] at e;cases e;rw[if_neg Bool.false_ne_true]
   exact k H1 s1
theorem Dl:∀σ H Q,Mk K (O8 ga gb) σ H Q->BN (Mk K ga) (Mk K gb) σ H Q:=fun σ H Q ⟨Rm,s,c,hd,env,e,k⟩=>by
 unfold O8 at e
 cases q:ga s with
 | none=>rw[q] at e;cases e
 | some d=>
  rw[q] at e
  refine⟨Rm,s,d,hd,env,q,fun H1 s1=>?_⟩
  cases d with
  | true=>
   simp only[Option.bind_some,if_true] at e;cases e;rw[if_pos rfl]
   exact k H1 s1
  | false=>
   simp only[Option.bind_some,Bool.false_eq_true,if_false] at e;rw[if_neg Bool.false_ne_true]
   exact⟨Rm,s,c,fun p hp=>Same.mut s1 (hd p hp),env.mono s1,e,fun H2 s2=>k H2 (s1.trans s2)⟩
theorem W7(ha:VT X a ga):VW X (.BoolOp .And [a] pos) ga:=Gk ha
theorem R5(ha:VT X a ga):VW X (.BoolOp .Or [a] pos) ga:=EF ha
theorem Uq(ha:VT X a ga)(hb:VW X (.BoolOp .And (b::Zx) pos) gb):VW X (.BoolOp .And (a::b::Zx) pos) (XM ga gb):=PW.imp (EG ha hb) GY
theorem R6(ha:VT X a ga)(hb:VW X (.BoolOp .Or (b::Zx) pos) gb):VW X (.BoolOp .Or (a::b::Zx) pos) (O8 ga gb):=PW.imp (Cb ha hb) Dl
theorem Th(ha:VT X a ga):VT X (.UnaryOp .Not a pos) (Tg ga):=PT.imp (EH ha) fun σ H Q ⟨Rm,s,c,hd,env,e,k⟩=>by
 unfold Tg at e
 cases q:ga s with
 | none=>rw[q] at e;cases e
 | some d=>rw[q] at e;cases e;exact⟨Rm,s,d,hd,env,q,k⟩
end
section
variable {X:Cx} {a b c:Expr} {Zx:List Expr} {fa fb:XE} {gc:XT} {pos:Pos}
def K7(a b:XE):XE:=fun s=>(xB a s).bind fun c=>if c=true then b s else some (.bl false)
def B1(a b:XE):XE:=fun s=>(xB a s).bind fun c=>if c=true then some (.bl true) else b s
def GZ(a:XE):XE:=fun s=>(xB a s).map fun c=>.bl !c
def Oz(c:XT)(a b:XE):XE:=fun s=>(c s).bind fun k=>if k=true then a s else b s
theorem Ih{op}(h:VE X a fa):VE X (.BoolOp op [a] pos) fa:=EI h
theorem Mz(ha:VE X a fa)(hb:VE X (.BoolOp .And (b::Zx) pos) fb):VE X (.BoolOp .And (a::b::Zx) pos) (K7 fa fb):=PE.imp (EJ ha hb) fun σ H Q ⟨Rm,s,l,hd,env,e,k⟩=>by
 unfold K7 at e
 cases q:xB fa s with
 | none=>rw[q] at e;cases e
 | some d=>
  rw[q] at e
  refine⟨Rm,s,.bl d,hd,env,TX q,fun v H1 fp s1 i1 _=>⟨d,i1.bl_inv.1,?_⟩⟩
  cases d with
  | true=>
   simp only[Option.bind_some,if_true] at e;rw[if_pos rfl]
   exact⟨Rm,s,l,fun p hp=>Same.mut s1 (hd p hp),env.mono s1,e,fun v2 H2 fp2 s2 i2 n2=>k v2 H2 fp2 (s1.trans s2) i2 n2⟩
  | false=>
   simp only[Option.bind_some,Bool.false_eq_true,if_false] at e;cases e;rw[if_neg Bool.false_ne_true]
   exact k _ H1 [] s1 (Is.bl false) fun p hp=>by simp at hp
theorem Dm(ha:VE X a fa):VE X (.UnaryOp .Not a pos) (GZ fa):=PE.imp (EK ha) fun σ H Q ⟨Rm,s,l,hd,env,e,k⟩=>by
 unfold GZ at e
 cases q:xB fa s with
 | none=>rw[q] at e;cases e
 | some d=>
  rw[q] at e;cases e
  exact⟨Rm,s,.bl d,hd,env,TX q,fun v H1 fp s1 i1 _=>⟨d,i1.bl_inv.1,k _ H1 [] s1 (Is.bl _) fun p hp=>by simp at hp⟩⟩
theorem LH(hc:VT X c gc)(ha:VE X a fa)(hb:VE X b fb):VE X (.IfExp c a b pos) (Oz gc fa fb):=PE.imp (JT hc ha hb) fun σ H Q ⟨Rm,s,l,hd,env,e,k⟩=>by
 unfold Oz at e
 cases q:gc s with
 | none=>rw[q] at e;cases e
 | some d=>
  rw[q] at e
  refine⟨Rm,s,d,hd,env,q,fun H1 s1=>?_⟩
  cases d with
  | true=>
   simp only[Option.bind_some,if_true] at e;rw[if_pos rfl]
   exact⟨Rm,s,l,fun p hp=>Same.mut s1 (hd p hp),env.mono s1,e,fun v2 H2 fp2 s2 i2 n2=>k v2 H2 fp2 (s1.trans s2) i2 n2⟩
  | false=>
   simp only[Option.bind_some,Bool.false_eq_true,if_false] at e;rw[if_neg Bool.false_ne_true]
   exact⟨Rm,s,l,fun p hp=>Same.mut s1 (hd p hp),env.mono s1,e,fun v2 H2 fp2 s2 i2 n2=>k v2 H2 fp2 (s1.trans s2) i2 n2⟩
end
section
variable {X:Cx} {a b c:Expr} {fa fb fc:XE} {pos:Pos}
def G0(neg:Bool):PV->Option PV
 | .non=>some (.bl !neg)
 | _=>some (.bl neg)
def VY:PV->Bool
 | .non=>true
 | _=>false
theorem R7{H:Hp}{l:PV}{v:V}{fp:List Addr}(i:Is K H l v fp):decide (v=V.non)=VY l:=by
 cases l with
 | non=>rw[i.non_inv.1];rfl
 | bl b=>rw[i.bl_inv.1];rfl
 | int j=>rw[i.int_inv.1];rfl
 | str y=>rw[i.str_inv.1];rfl
 | ty n=>rw[i.ty_inv.1];rfl
 | exc C=>simp only[Is] at i;obtain⟨⟨e,o,x,C,rfl,_⟩,_⟩:=i;rfl
 | exf C l=>simp only[Is] at i;obtain⟨⟨e,o,x,C,dx,od,u,z,rfl,_⟩,_⟩:=i;rfl
 | lst l=>obtain⟨p,xs,fq,rfl,_⟩:=i.lst_inv;rfl
 | cst l=>obtain⟨p,xs,rfl,_⟩:=i.cst_inv;rfl
 | tup l=>obtain⟨p,xs,rfl,_⟩:=i.tup_inv;rfl
 | dK ks l=>obtain⟨p,xs,fq,rfl,_⟩:=i.dK_inv;rfl
 | dT ks l=>obtain⟨p,xs,fq,rfl,_⟩:=i.dT_inv;rfl
def TY(neg:Bool)(a:XE):XE:=fun s=>(a s).bind (G0 neg)
theorem G1:∀σ H Q,tF K (TY false fa) σ H Q->D9 (tF K fa) σ H Q:=fun σ H Q ⟨Rm,s,l,hd,env,e,k⟩=>by
 unfold TY at e
 cases q:fa s with
 | none=>rw[q] at e;cases e
 | some m=>
  rw[q] at e;simp only[Option.bind_some] at e
  refine⟨Rm,s,m,hd,env,q,fun v H1 fp s1 i1 _=>?_⟩
  show Q _ H1
  rw[R7 i1]
  have:l = .bl (VY m):=by cases m<;>cases e<;>rfl
  subst this
  exact k _ H1 [] s1 (Is.bl _) fun p hp=>by simp at hp
theorem Ii:∀σ H Q,tF K (TY true fa) σ H Q->F3 (tF K fa) σ H Q:=fun σ H Q ⟨Rm,s,l,hd,env,e,k⟩=>by
 unfold TY at e
 cases q:fa s with
 | none=>rw[q] at e;cases e
 | some m=>
  rw[q] at e;simp only[Option.bind_some] at e
  refine⟨Rm,s,m,hd,env,q,fun v H1 fp s1 i1 _=>?_⟩
  show Q _ H1
  rw[R7 i1]
  have:l = .bl (!VY m):=by cases m<;>cases e<;>rfl
  subst this
  exact k _ H1 [] s1 (Is.bl _) fun p hp=>by simp at hp
theorem Ij:∀σ H Q,Mk K (xB fa) σ H Q->tB (tF K fa) σ H Q:=fun σ H Q ⟨Rm,s,c,hd,env,e,k⟩=>⟨Rm,s,.bl c,hd,env,TX e,fun v H' fp sm i n=>⟨c,i.bl_inv.1,k H' sm⟩⟩
theorem OA{t t':TE}(i:∀σ H Q,t' σ H Q->t σ H Q):∀σ H Q,tB t' σ H Q->tB t σ H Q:=fun σ H Q h=>i σ H _ h
theorem Dp{j pos'}(ha:VE X a fa):VT X (.Compare a [.Is] [.Constant .none j pos'] pos) (xB (TY false fa)):=PT.imp (Mm (ED ha)) fun σ H Q h=>OA G1 σ H Q (Ij σ H Q h)
theorem G3{j pos'}(ha:VE X a fa):VT X (.Compare a [.IsNot] [.Constant .none j pos'] pos) (xB (TY true fa)):=PT.imp (Mm (Gj ha)) fun σ H Q h=>OA Ii σ H Q (Ij σ H Q h)
def Rk:PV->Option PV
 | .int i=>some (.int (-i))
 | _=>none
def Ml(g:PV->Option PV)(a:XE):XE:=fun s=>(a s).bind g
theorem Ik(ha:VE X a fa):VE X (.UnaryOp .USub a pos) (Ml Rk fa):=PE.imp (Cp EW ha) fun σ H Q ⟨Rm,s,l,hd,env,e,k⟩=>by
 unfold Ml at e
 cases q:fa s with
 | none=>rw[q] at e;cases e
 | some m=>
  rw[q] at e;simp only[Option.bind_some] at e;unfold Rk at e
  split at e
  ·cases e
   exact⟨Rm,s,_,hd,env,q,fun v H1 fp s1 i1 _=>⟨_,i1.int_inv.1,k _ H1 [] s1 (Is.int _) fun p hp=>by simp at hp⟩⟩
  ·cases e
end
end VL
namespace VL
open PySem PySem.Spec PyProof.Rows L2
variable {K:PySem.W.Frag}
def Rl:List XE->ZY->Option (List PV)
 | [],_=>some []
 | f::fs,s=>(f s).bind fun x=>(Rl fs s).map (x::·)
theorem R8{f:XE}{fs:List XE}{s:ZY}{ls:List PV}(h:Rl (f::fs) s=some ls):∃x r,f s=some x/\Rl fs s=some r/\ls=x::r:=by
 unfold Rl at h
 cases q:f s with
 | none=>rw[q] at h;cases h
 | some x=>cases q2:Rl fs s with
  | none=>rw[q,q2] at h;cases h
  | some r=>rw[q,q2] at h;cases h;exact⟨x,r,rfl,rfl,rfl⟩
theorem UK:∀{fs:List XE}{s:ZY}{ls:List PV},Rl fs s=some ls->ls.length=fs.length
 | [],_,_,h=>by cases h;rfl
 | f::fs,s,ls,h=>by
  obtain⟨x,r,_,h2,rfl⟩:=R8 h
  rw[List.length_cons,List.length_cons,UK h2]
def BF(K:PySem.W.Frag)(fs:List XE):TA:=fun σ H Q=>∃(Rm:Addr->Prop) (s:ZY) (ls:List PV),(∀p,Rm p->Vo (H p))/\EnvIs K Rm H s σ/\Rl fs s=some ls/\∀vs H' fp,Same H H'->Iss K H' ls vs fp->(∀p∈fp,¬Rm p)->Q vs H'
def B2(K:PySem.W.Frag)(fs:List XE):TA:=fun σ H Q=>∃(s:ZY) (ls:List PV),EnvIs K (fun _=>False) H s σ/\Rl fs s=some ls/\∀vs H' fp,Same H H'->Iss K H' ls vs fp->fp.Nodup->(∀p∈fp,H p=none/\Vo (H' p))->Q vs H'
def VA(X:Cx)(es:List Expr)(fs:List XE):Prop:=PA X es (BF X.K fs)
def Bg(X:Cx)(es:List Expr)(fs:List XE):Prop:=PA X es (B2 X.K fs)
section
variable {X:Cx} {e:Expr} {es:List Expr} {f:XE} {fs:List XE} {pos:Pos} {k:Nat}
theorem PA.imp{t t':TA}(h:PA X es t)(i:∀σ H Q,t' σ H Q->t σ H Q):PA X es t':=fun pos pins s σ H Q I q=>h pos pins s σ H Q I (i σ H Q q)
theorem Zi:VA X [] []:=PA.imp Wo fun σ H Q ⟨Rm,s,ls,hd,env,e,k⟩=>by
 cases e
 exact k [] H [] (Same.refl H) Iss.nil fun p hp=>by simp at hp
theorem Zc(ha:VE X e f)(hr:VA X es fs)(hs:starEach (e::es) X.env=(false,eval e X.env)::starEach es X.env:=by rfl):VA X (e::es) (f::fs):=PA.imp (Y2 ha hr hs) fun σ H Q ⟨Rm,s,ls,hd,env,e,k⟩=>by
 obtain⟨x',r',h1,h2,rfl⟩:=R8 e
 refine⟨Rm,s,x',hd,env,h1,fun x H1 f1 s1 i1 n1=>⟨Rm,s,r',fun p hp=>Same.mut s1 (hd p hp),env.mono s1,h2,fun xs H2 f2 s2 i2 n2=>?_⟩⟩
 refine k _ H2 (f1++f2) (s1.trans s2) (Iss.cons (i1.mono s2) i2) fun p hp=>?_
 rcases List.mem_append.mp hp with h | h
 ·exact n1 p h
 ·exact n2 p h
theorem Wc:Bg X [] []:=PA.imp Wo fun σ H Q ⟨s,ls,env,e,k⟩=>by
 cases e
 exact k [] H [] (Same.refl H) Iss.nil List.nodup_nil fun p hp=>by simp at hp
theorem Vt(ha:VM X e f)(hr:Bg X es fs)(hs:starEach (e::es) X.env=(false,eval e X.env)::starEach es X.env:=by rfl):Bg X (e::es) (f::fs):=PA.imp (Y2 ha hr hs) fun σ H Q ⟨s,ls,env,e,k⟩=>by
 obtain⟨x',r',h1,h2,rfl⟩:=R8 e
 refine⟨s,x',env,h1,fun x H1 f1 s1 i1 d1 n1=>⟨s,r',env.mono s1,h2,fun xs H2 f2 s2 i2 d2 n2=>?_⟩⟩
 refine k _ H2 (f1++f2) (s1.trans s2) (Iss.cons (i1.mono s2) i2) ?_ fun p hp=>?_
 ·refine List.nodup_append.mpr ⟨d1,d2,fun a ha b hb z=>?_⟩
  subst z
  exact XB (n1 a ha).2 (n2 a hb).1
 ·rcases List.mem_append.mp hp with h | h
  ·exact⟨(n1 p h).1,Same.mut s2 (n1 p h).2⟩
  ·exact⟨Same.off s1 (n2 p h).1,(n2 p h).2⟩
def Yg(fs:List XE):XE:=fun s=>(Rl fs s).map .tup
def Yl(fs:List XE):XE:=fun s=>(Rl fs s).map .lst
theorem map_some{α β:Type}{o:Option α}{g:α->β}{b:β}(h:o.map g=some b):∃a,o=some a/\b=g a:=by
 cases o with
 | none=>cases h
 | some a=>cases h;exact⟨a,rfl,rfl⟩
theorem X5(h:VA X es fs)(hl:fs.length<=1000:=by decide):VE X (.Tuple es k pos) (Yg fs):=PE.imp (JZ h) fun σ H Q ⟨Rm,s,l,hd,env,e,q⟩=>by
 obtain⟨ls,e1,rfl⟩:=map_some e
 refine⟨Rm,s,ls,hd,env,e1,fun vs H1 fp s1 i1 n1=>⟨?_,fun p hp=>?_⟩⟩
 ·rw[i1.len,UK e1];exact Nat.le_of_lt (lt_size (by omega))
 ·exact q _ _ fp (s1.trans (Same.new hp _)) (Is.tup upd_same (i1.mono (Same.new hp _))) n1
theorem Ti(h:VA X es fs)(hl:fs.length<=1000:=by decide):VE X (.List es pos) (Yl fs):=PE.imp (Mr h) fun σ H Q ⟨Rm,s,l,hd,env,e,q⟩=>by
 obtain⟨ls,e1,rfl⟩:=map_some e
 refine⟨Rm,s,ls,hd,env,e1,fun vs H1 fp s1 i1 n1=>⟨?_,fun p hp=>?_⟩⟩
 ·rw[i1.len,UK e1];exact Nat.le_of_lt (lt_size (by omega))
 ·refine q _ _ (p::fp) (s1.trans (Same.new hp _)) (Is.lst upd_same (i1.mono (Same.new hp _))) fun a ha z=>?_
  rcases List.mem_cons.mp ha with rfl | ha
  ·exact XB (Same.mut s1 (hd a z)) hp
  ·exact n1 a ha z
theorem Vi(h:Bg X es fs)(hl:fs.length<=1000:=by decide):VM X (.List es pos) (Yl fs):=PE.imp (Mr h) fun σ H Q ⟨s,l,env,e,q⟩=>by
 obtain⟨ls,e1,rfl⟩:=map_some e
 refine⟨s,ls,env,e1,fun vs H1 fp s1 i1 d1 n1=>⟨?_,fun p hp=>?_⟩⟩
 ·rw[i1.len,UK e1];exact Nat.le_of_lt (lt_size (by omega))
 ·refine q _ _ (p::fp) (s1.trans (Same.new hp _)) (Is.lst upd_same (i1.mono (Same.new hp _))) (List.nodup_cons.mpr ⟨fun z=>XB (n1 p z).2 hp,d1⟩) fun a ha=>?_
  rcases List.mem_cons.mp ha with rfl | ha
  ·exact⟨Same.off s1 hp,by rw[upd_same];exact True.intro⟩
  ·exact⟨(n1 a ha).1,Same.mut (Same.new hp _) (n1 a ha).2⟩
theorem R9:VM X (.Dict [] [] pos) (eC (.dT [] [])):=PE.imp J5 fun σ H Q ⟨s,l,env,e,q⟩ p hp=>by
 cases e
 exact q _ _ [p] (Same.new hp _) (Is.dT upd_same rfl Iss.nil) (by simp) fun a ha=>by
  rw[List.mem_singleton.mp ha]
  exact⟨hp,by rw[upd_same];exact True.intro⟩
end
def Xt(K:PySem.W.Frag)(D:List PV->Option PV)(n:Nat):Sp:=fun vs H Q _=>vs.length=n/\∃ls fp l,Iss K H ls vs fp/\D ls=some l/\∀v H' fq,Same H H'->Is K H' l v fq->fq.Nodup->(∀p∈fq,H p=none/\Vo (H' p))->Q v H'
def Ze(D:List PV->Option PV)(fs:List XE):XE:=fun s=>(Rl fs s).bind D
theorem Zf{α β:Type}{o:Option α}{g:α->Option β}{b:β}(h:o.bind g=some b):∃a,o=some a/\g a=some b:=by
 cases o with
 | none=>cases h
 | some a=>exact⟨a,rfl,h⟩
section
variable {X:Cx} {x:Str} {ps:List Str} {k:Nat} {e:Expr} {es:List Expr} {fs:List XE} {p pos:Pos}
theorem ZD{D:List PV->Option PV}{n:Nat}(C:X3 X.prog X.w X.K X.mg X.base x ps (Xt X.K D n) k)(hr:Room k X.A)(hg:Gl X x)(ha:VA X (e::es) fs)(hn:fs.length=n:=by rfl)
  (hdb:(x==("__debug__" : Str))=false:=by decide) (he:starEach (e::es) X.env=(false,eval e X.env)::starEach es X.env:=by rfl) (hpl:(backTo pos (starEach es X.env)).any (·.1)=false:=by rfl) :
  VM X (.Call (.Name x p) (e::es) [] pos) (Ze D fs):=PE.imp (Dh C hr hg ha hdb he hpl) fun σ H Q ⟨s,l,env,e,q⟩=>by
 obtain⟨ls,e1,e2⟩:=Zf e
 refine⟨fun _=>False,s,ls,fun _ z=>z.elim,env,e1,fun vs H1 fp s1 i1 n1=>?_⟩
 show Xt X.K D n (vs++[]) H1 Q E0
 rw[List.append_nil]
 exact⟨by rw[i1.len,UK e1,hn],ls,fp,l,i1,e2,fun v H2 fq s2 i2 d2 n2=>q v H2 fq (s1.trans s2) i2 d2 fun a ha=>⟨Same.off s1 (n2 a ha).1,(n2 a ha).2⟩⟩
end
def RC(K:PySem.W.Frag)(r:List V->Hp->VK->Prop)(g:List PV->Option PV):Prop:=∀(H:Hp)(vs:List V)(ls:List PV)(l:PV)(fp:List Addr),Iss K H ls vs fp->g ls=some l->∀Q:VK,
 (∀v H' fq,Same H H'->Is K H' l v fq->(∀p∈fq,p∈fp\/H p=none)->Q v H')->r vs H Q
def D3(K:PySem.W.Frag)(r:List V->Hp->VK->Prop)(g:List PV->Option PV):Prop:=∀(H:Hp)(vs:List V)(ls:List PV)(l:PV)(fp:List Addr),Iss K H ls vs fp->g ls=some l->∀Q:VK,
 (∀v H' fq,Same H H'->Is K H' l v fq->fq.Nodup->(∀p∈fq,H p=none/\Vo (H' p))->Q v H')->r vs H Q
theorem Ei{r:List V->Hp->VK->Prop}{g:List PV->Option PV}{fs:List XE}(hr:RC K r g):∀σ H Q,tF K (Ze g fs) σ H Q->Ba r (BF K fs) σ H Q:=fun σ H Q ⟨Rm,s,l,hd,env,e,k⟩=>by
 obtain⟨ls,e1,e2⟩:=Zf e
 refine⟨Rm,s,ls,hd,env,e1,fun vs H1 fp s1 i1 n1=>hr H1 vs ls l fp i1 e2 Q fun v H2 fq s2 i2 n2=>k v H2 fq (s1.trans s2) i2 fun p hp z=>?_⟩
 rcases n2 p hp with h | h
 ·exact n1 p h z
 ·exact XB (Same.mut s1 (hd p z)) h
theorem Ej{r:List V->Hp->VK->Prop}{g:List PV->Option PV}{fs:List XE}(hr:D3 K r g):∀σ H Q,tM K (Ze g fs) σ H Q->Ba r (BF K fs) σ H Q:=fun σ H Q ⟨s,l,env,e,k⟩=>by
 obtain⟨ls,e1,e2⟩:=Zf e
 exact⟨fun _=>False,s,ls,fun _ z=>z.elim,env,e1,fun vs H1 fp s1 i1 n1=>hr H1 vs ls l fp i1 e2 Q fun v H2 fq s2 i2 d2 n2=>k v H2 fq (s1.trans s2) i2 d2 fun p hp=>⟨Same.off s1 (n2 p hp).1,(n2 p hp).2⟩⟩
section
variable {X:Cx} {x:Str} {k:Nat} {e:Expr} {es:List Expr} {fs:List XE} {p pos:Pos} {id T:String} {r:List V->Hp->VK->Prop} {g:List PV->Option PV}
theorem Zy(hc:X2 X (.builtin id) r)(hr:RC X.K r g)(hg:Gl X x)(hm:X.mg x=none)(hv:bootBuiltins x=some (.builtin id))(ha:VA X (e::es) fs)(hn:x≠"__name__":=by decide)(hdb:(x==("__debug__" : Str))=false:=by decide)
  (he:starEach (e::es) X.env=(false,eval e X.env)::starEach es X.env:=by rfl) (hpl:(backTo pos (starEach es X.env)).any (·.1)=false:=by rfl):VE X (.Call (.Name x p) (e::es) [] pos) (Ze g fs):=
 PE.imp (Ni hc hg hm hv ha hn hdb he hpl) (Ei hr)
theorem Nw(hc:X2 X (.builtin id) r)(hr:D3 X.K r g)(hg:Gl X x)(hm:X.mg x=none)(hv:bootBuiltins x=some (.builtin id))(ha:VA X (e::es) fs)(hn:x≠"__name__":=by decide)(hdb:(x==("__debug__" : Str))=false:=by decide)
  (he:starEach (e::es) X.env=(false,eval e X.env)::starEach es X.env:=by rfl) (hpl:(backTo pos (starEach es X.env)).any (·.1)=false:=by rfl):VM X (.Call (.Name x p) (e::es) [] pos) (Ze g fs):=
 PE.imp (Ni hc hg hm hv ha hn hdb he hpl) (Ej hr)
theorem YU(hc:X2 X (.type T) r)(hr:RC X.K r g)(hg:Gl X x)(hm:X.mg x=none)(hv:bootBuiltins x=some (.type T))(ha:VA X (e::es) fs)(hn:x≠"__name__":=by decide)(hdb:(x==("__debug__" : Str))=false:=by decide)
  (he:starEach (e::es) X.env=(false,eval e X.env)::starEach es X.env:=by rfl) (hpl:(backTo pos (starEach es X.env)).any (·.1)=false:=by rfl):VE X (.Call (.Name x p) (e::es) [] pos) (Ze g fs):=
 PE.imp (Po hc hg hm hv ha hn hdb he hpl) (Ei hr)
theorem SE(hc:X2 X (.type T) r)(hr:D3 X.K r g)(hg:Gl X x)(hm:X.mg x=none)(hv:bootBuiltins x=some (.type T))(ha:VA X (e::es) fs)(hn:x≠"__name__":=by decide)(hdb:(x==("__debug__" : Str))=false:=by decide)
  (he:starEach (e::es) X.env=(false,eval e X.env)::starEach es X.env:=by rfl) (hpl:(backTo pos (starEach es X.env)).any (·.1)=false:=by rfl):VM X (.Call (.Name x p) (e::es) [] pos) (Ze g fs):=
 PE.imp (Po hc hg hm hv ha hn hdb he hpl) (Ej hr)
end
theorem Iss.one_inv{H:Hp}{l:PV}{vs:List V}{fp:List Addr}(h:Iss K H [l] vs fp):∃v,vs=[v]/\Is K H l v fp:=by
 obtain⟨x,r,f1,f2,rfl,a,b,rfl⟩:=h.inv
 simp only[Iss] at b
 rw[b.1,b.2,List.append_nil];exact⟨x,rfl,a⟩
theorem Iss.two_inv{H:Hp}{l m:PV}{vs:List V}{fp:List Addr}(h:Iss K H [l,m] vs fp):∃v w f1 f2,vs=[v,w]/\Is K H l v f1/\Is K H m w f2/\fp=f1++f2:=by
 obtain⟨x,r,f1,f2,rfl,a,b,rfl⟩:=h.inv
 obtain⟨y,rfl,c⟩:=b.one_inv
 exact⟨x,y,f1,f2,rfl,a,c,rfl⟩
def Rn:PV->Option (List PV)
 | .lst l=>some l
 | .cst l=>some l
 | .tup l=>some l
 | _=>none
theorem VZ{H:Hp}{l:PV}{v:V}{fp:List Addr}{m:List PV}(h:Is K H l v fp)(e:Rn l=some m):∃p xs fq,v = .ref p/\(SqL K H p xs\/SqT K H p xs)/\Iss K H m xs fq/\∀q∈fq,q∈fp:=by
 cases l with
 | lst l=>
  cases e
  obtain⟨p,xs,fq,rfl,hp,hi,rfl⟩:=h.lst_inv
  exact⟨p,xs,fq,rfl,.inl (SqL.of hp),hi,fun q hq=>List.mem_cons_of_mem _ hq⟩
 | cst l=>
  cases e
  obtain⟨p,xs,rfl,hp,hi⟩:=h.cst_inv
  exact⟨p,xs,fp,rfl,.inl hp.sq,hi,fun q hq=>hq⟩
 | tup l=>
  cases e
  obtain⟨p,xs,rfl,hp,hi⟩:=h.tup_inv
  exact⟨p,xs,fp,rfl,.inr (SqT.of hp),hi,fun q hq=>hq⟩
 | _=>cases e
def ZG:List PV->Option PV
 | [.str z]=>if z.length<=sizeLine then some (.int z.length) else none
 | [l]=>(Rn l).map fun m=>.int m.length
 | _=>none
theorem YG:RC K (fun xs H Q=>∃x n,xs=[x]/\Cu K x H n/\Q (.int n) H) ZG:=fun H vs ls l fp h e Q k=>by
 unfold ZG at e
 split at e
 ·split at e
  ·cases e
   obtain⟨v,rfl,i⟩:=h.one_inv
   exact⟨v,_,rfl,by rw[i.str_inv.1];exact⟨by assumption,rfl⟩,k _ H [] (Same.refl H) (Is.int _) fun p hp=>by simp at hp⟩
  ·cases e
 ·obtain⟨m,e1,rfl⟩:=map_some e
  obtain⟨v,rfl,i⟩:=h.one_inv
  obtain⟨p,xs,fq,rfl,hp,hi,_⟩:=VZ (K:=K) i e1
  refine⟨_,xs.length,rfl,?_,?_⟩
  ·rcases hp with hp | hp
   ·exact .inl ⟨xs,hp,rfl⟩
   ·exact .inr ⟨xs,hp,rfl⟩
  ·rw[hi.len]
   exact k _ H [] (Same.refl H) (Is.int _) fun p hp=>by simp at hp
 ·cases e
def Y3:List PV->Option PV
 | [l]=>(Rn l).map .tup
 | _=>none
theorem XQ:RC K (Dj K) Y3:=fun H vs ls l fp h e Q k=>by
 unfold Y3 at e
 split at e
 ·obtain⟨m,e1,rfl⟩:=map_some e
  obtain⟨v,rfl,i⟩:=h.one_inv
  rename_i l0
  cases l0 with
  | tup l=>
   cases e1
   obtain⟨p,xs,rfl,hp,hi⟩:=id i.tup_inv
   exact⟨p,xs,rfl,.inr ⟨SqT.of hp,k _ H fp (Same.refl H) i fun a ha=>.inl ha⟩⟩
  | lst l=>
   cases e1
   obtain⟨p,xs,fq,rfl,hp,hi,rfl⟩:=i.lst_inv
   exact⟨p,xs,rfl,.inl ⟨SqL.of hp,fun q hq=>k _ _ fq (Same.new hq _) (Is.tup upd_same (hi.mono (Same.new hq _))) fun a ha=>.inl (List.mem_cons_of_mem _ ha)⟩⟩
  | cst l=>
   cases e1
   obtain⟨p,xs,rfl,hp,hi⟩:=i.cst_inv
   exact⟨p,xs,rfl,.inl ⟨hp.sq,fun q hq=>k _ _ fp (Same.new hq _) (Is.tup upd_same (hi.mono (Same.new hq _))) fun a ha=>.inl ha⟩⟩
  | _=>cases e1
 ·cases e
def XR:List PV->Option PV
 | [l]=>(Rn l).bind fun m=>if ZJ m=true then some (.lst m) else none
 | _=>none
theorem Qa:D3 K (GQ K) XR:=fun H vs ls l fp h e Q k=>by
 unfold XR at e
 split at e
 ·obtain⟨m,e1,e2⟩:=Zf e
  split at e2
  ·cases e2
   obtain⟨v,rfl,i⟩:=h.one_inv
   obtain⟨p,xs,fq,rfl,hp,hi,hs⟩:=VZ (K:=K) i e1
   have:=Iss.pure _ _ _ (by assumption) hi
   subst this
   refine⟨p,xs,rfl,hp,fun q hq=>k _ _ [q] (Same.new hq _) (Is.lst upd_same (hi.mono (Same.new hq _))) (by simp) fun a ha=>?_⟩
   rw[List.mem_singleton.mp ha]
   exact⟨hq,by rw[upd_same];exact True.intro⟩
  ·cases e2
 ·cases e
def Wq:List PV->Option (List Int)
 | []=>some []
 | .int i::r=>(Wq r).map (i::·)
 | _=>none
theorem Wg:∀l:List Int,Wq (iL l)=some l
 | []=>rfl
 | i::r=>by show(Wq (iL r)).map (i::·)=_;rw[Wg r];rfl
theorem Wh:∀{m:List PV}{l:List Int},Wq m=some l->m=iL l
 | [],l,h=>by cases h;rfl
 | .int i::r,l,h=>by
  obtain⟨a,e,rfl⟩:=map_some (show(Wq r).map (i::·)=some l from h)
  rw[Wh e];rfl
 | .non::_,_,h=>by cases h
 | .bl _::_,_,h=>by cases h
 | .str _::_,_,h=>by cases h
 | .ty _::_,_,h=>by cases h
 | .exc _::_,_,h=>by cases h
 | .exf _ _::_,_,h=>by cases h
 | .tup _::_,_,h=>by cases h
 | .lst _::_,_,h=>by cases h
 | .cst _::_,_,h=>by cases h
 | .dK _ _::_,_,h=>by cases h
 | .dT _ _::_,_,h=>by cases h
abbrev bL(l:List Bool):List PV:=l.map PV.bl
def V0:List PV->Option (List Bool)
 | []=>some []
 | .bl i::r=>(V0 r).map (i::·)
 | _=>none
theorem Vj:∀l:List Bool,V0 (bL l)=some l
 | []=>rfl
 | i::r=>by show(V0 (bL r)).map (i::·)=_;rw[Vj r];rfl
theorem V1:∀{m:List PV}{l:List Bool},V0 m=some l->m=bL l
 | [],l,h=>by cases h;rfl
 | .bl i::r,l,h=>by
  obtain⟨a,e,rfl⟩:=map_some (show(V0 r).map (i::·)=some l from h)
  rw[V1 e];rfl
 | .non::_,_,h=>by cases h
 | .int _::_,_,h=>by cases h
 | .str _::_,_,h=>by cases h
 | .ty _::_,_,h=>by cases h
 | .exc _::_,_,h=>by cases h
 | .exf _ _::_,_,h=>by cases h
 | .tup _::_,_,h=>by cases h
 | .lst _::_,_,h=>by cases h
 | .cst _::_,_,h=>by cases h
 | .dK _ _::_,_,h=>by cases h
 | .dT _ _::_,_,h=>by cases h
theorem Iss.bL{H:Hp}:∀{l:List Bool}{xs:List V}{fp:List Addr},Iss K H (VL.bL l) xs fp->xs=l.map V.bl/\fp=[]
 | [],xs,fp,h=>by simpa only[VL.bL,List.map_nil,Iss] using h
 | i::l,xs,fp,h=>by
  obtain⟨x,r,f1,f2,rfl,h1,h2,rfl⟩:=Iss.inv (show Iss K H (PV.bl i::VL.bL l) xs fp from h)
  obtain⟨rfl,rfl⟩:=h1.bl_inv
  obtain⟨rfl,rfl⟩:=h2.bL
  exact⟨rfl,rfl⟩
theorem MA{H:Hp}{p:Addr}{xs:List V}(h:SqL K H p xs\/SqT K H p xs):∃b,RY b K H p xs:=by
 rcases h with h | h
 ·exact⟨true,h⟩
 ·exact⟨false,h⟩
def Il:List PV->Option PV
 | [l]=>(Rn l).bind fun m=>(Wq m).map fun ns=>.int ns.sum
 | _=>none
def Tj:List PV->Option PV
 | [l]=>(Rn l).bind fun m=>(V0 m).map fun bs=>.bl (bs.all id)
 | _=>none
def Nx:List PV->Option PV
 | [l]=>(Rn l).bind fun m=>(V0 m).map fun bs=>.bl (bs.any id)
 | _=>none
theorem Dq:RC K (fun xs H Q=>∃(b:Bool) (p:Addr) (ns:List Int),xs=[.ref p]/\RY b K H p (ns.map V.int)/\Q (.int ns.sum) H) Il:=fun H vs ls l fp h e Q k=>by
 unfold Il at e
 split at e
 ·obtain⟨m,e1,e2⟩:=Zf e
  obtain⟨ns,e3,rfl⟩:=map_some e2
  obtain⟨v,rfl,i⟩:=h.one_inv
  obtain⟨p,xs,fq,rfl,hp,hi,hs⟩:=VZ (K:=K) i e1
  have em:=Wh e3;subst em
  obtain⟨rfl,rfl⟩:=hi.iL
  obtain⟨b,hb⟩:=MA hp
  exact⟨b,p,ns,rfl,hb,k _ H [] (Same.refl H) (Is.int _) fun p hp=>by simp at hp⟩
 ·cases e
theorem MB:RC K (fun xs H Q=>∃(b:Bool) (p:Addr) (bs:List Bool),xs=[.ref p]/\RY b K H p (bs.map V.bl)/\Q (.bl (bs.all id)) H) Tj:=fun H vs ls l fp h e Q k=>by
 unfold Tj at e
 split at e
 ·obtain⟨m,e1,e2⟩:=Zf e
  obtain⟨ns,e3,rfl⟩:=map_some e2
  obtain⟨v,rfl,i⟩:=h.one_inv
  obtain⟨p,xs,fq,rfl,hp,hi,hs⟩:=VZ (K:=K) i e1
  have em:=V1 e3;subst em
  obtain⟨rfl,rfl⟩:=hi.bL
  obtain⟨b,hb⟩:=MA hp
  exact⟨b,p,ns,rfl,hb,k _ H [] (Same.refl H) (Is.bl _) fun p hp=>by simp at hp⟩
 ·cases e
theorem Dr:RC K (fun xs H Q=>∃(b:Bool) (p:Addr) (bs:List Bool),xs=[.ref p]/\RY b K H p (bs.map V.bl)/\Q (.bl (bs.any id)) H) Nx:=fun H vs ls l fp h e Q k=>by
 unfold Nx at e
 split at e
 ·obtain⟨m,e1,e2⟩:=Zf e
  obtain⟨ns,e3,rfl⟩:=map_some e2
  obtain⟨v,rfl,i⟩:=h.one_inv
  obtain⟨p,xs,fq,rfl,hp,hi,hs⟩:=VZ (K:=K) i e1
  have em:=V1 e3;subst em
  obtain⟨rfl,rfl⟩:=hi.bL
  obtain⟨b,hb⟩:=MA hp
  exact⟨b,p,ns,rfl,hb,k _ H [] (Same.refl H) (Is.bl _) fun p hp=>by simp at hp⟩
 ·cases e
def Uk:List PV->Option PV
 | [.int i,.int j]=>some (.int (if j<i then j else i))
 | _=>none
def PF:List PV->Option PV
 | [.int i,.int j]=>some (.int (if j>i then j else i))
 | _=>none
def Ul:List PV->Option PV
 | [.int i]=>some (.int i)
 | [.bl c]=>some (.int (if c then 1 else 0))
 | _=>none
theorem LI:RC K (fun xs H Q=>∃i j,xs=[.int i,.int j]/\Q (.int (if j<i then j else i)) H) Uk:=fun H vs ls l fp h e Q k=>by
 unfold Uk at e
 split at e
 ·cases e
  obtain⟨v,w,f1,f2,rfl,a,b,rfl⟩:=h.two_inv
  exact⟨_,_,by rw[a.int_inv.1,b.int_inv.1],k _ H [] (Same.refl H) (Is.int _) fun p hp=>by simp at hp⟩
 ·cases e
theorem G4:RC K (fun xs H Q=>∃i j,xs=[.int i,.int j]/\Q (.int (if j>i then j else i)) H) PF:=fun H vs ls l fp h e Q k=>by
 unfold PF at e
 split at e
 ·cases e
  obtain⟨v,w,f1,f2,rfl,a,b,rfl⟩:=h.two_inv
  exact⟨_,_,by rw[a.int_inv.1,b.int_inv.1],k _ H [] (Same.refl H) (Is.int _) fun p hp=>by simp at hp⟩
 ·cases e
theorem LJ:RC K (fun xs H Q=>(∃i,xs=[.int i]/\Q (.int i) H)\/∃k,xs=[.bl k]/\Q (.int (if k then 1 else 0)) H) Ul:=fun H vs ls l fp h e Q k=>by
 unfold Ul at e
 split at e
 ·cases e
  obtain⟨v,rfl,a⟩:=h.one_inv
  exact .inl ⟨_,by rw[a.int_inv.1],k _ H [] (Same.refl H) (Is.int _) fun p hp=>by simp at hp⟩
 ·cases e
  obtain⟨v,rfl,a⟩:=h.one_inv
  exact .inr ⟨_,by rw[a.bl_inv.1],k _ H [] (Same.refl H) (Is.int _) fun p hp=>by simp at hp⟩
 ·cases e
section
variable {X:Cx} {e:Expr} {es:List Expr} {fs:List XE} {p pos:Pos}
def W8:List PV->Option PV
 | [.int _,.ty "int"]=>some (.bl true)
 | [.int _,.ty "bool"]=>some (.bl false)
 | [.bl _,.ty "bool"]=>some (.bl true)
 | [.tup _,.ty "tuple"]=>some (.bl true)
 | [.lst _,.ty "list"]=>some (.bl true)
 | [.str _,.ty "str"]=>some (.bl true)
 | _=>none
theorem Q4:PySem.W.kitOne K (.type "bool") (.type "bool")=some true:=rfl
theorem RA:RC K (fun xs H Q=>∃x T t b,xs=[x,.ty T]/\TyOf K H x t/\PySem.W.kitOne K t (.type T)=some b/\Q (.bl b) H) W8:=fun H vs ls l fp h e Q k=>by
  have fin:∀b:Bool,l = .bl b->Q (.bl b) H:=fun b z=>by subst z;exact k _ H [] (Same.refl H) (Is.bl _) fun p hp=>by simp at hp
  unfold W8 at e
  split at e<;>first
    | (cases e
       obtain⟨v,w,f1,f2,rfl,a,b,rfl⟩:=h.two_inv
       first
         | (obtain⟨rfl,_⟩:=a.int_inv;first
             | exact⟨_,_,_,_,by rw[b.ty_inv.1],TyOf.int _,Nn,fin _ rfl⟩
             | exact⟨_,_,_,_,by rw[b.ty_inv.1],TyOf.int _,Ot,fin _ rfl⟩)
         | (obtain⟨rfl,_⟩:=a.bl_inv;exact⟨_,_,_,_,by rw[b.ty_inv.1],TyOf.bl _,Q4,fin _ rfl⟩)
         | (obtain⟨rfl,_⟩:=a.str_inv;exact⟨_,_,_,_,by rw[b.ty_inv.1],TyOf.str _,Nq,fin _ rfl⟩)
         | (obtain⟨q,xs,rfl,hp,_⟩:=a.tup_inv;exact⟨_,_,_,_,by rw[b.ty_inv.1],TyOf.tup hp,Np,fin _ rfl⟩)
         | (obtain⟨q,xs,fq,rfl,hp,_⟩:=a.lst_inv
            exact⟨_,_,_,_,by rw[b.ty_inv.1],TyOf.lst hp,Q2,fin _ rfl⟩))
    | cases e
theorem LK{x:Str}{n:String}(hg:Gl X x)(hm:X.mg x=none)(hv:bootBuiltins x=some (.type n))(hn:x≠"__name__":=by decide)(hd:(x==("__debug__" : Str))=false:=by decide):VE X (.Name x pos) (eC (.ty n)):=
 GV (Gi hg hm hv (v:=.ty n) rfl hn hd) fun _=>Is.ty n
end
end VL
namespace VL
open PySem PySem.Spec PyProof.Rows L2
variable {K:PySem.W.Frag}
open Classical in
noncomputable instance:DecidableEq PV:=fun a b=>propDecidable (a=b)
def Wv:Nat->PV->PV->Bool
 | _+1,.non,.non=>true
 | _+1,.bl _,.bl _=>true
 | _+1,.int _,.int _=>true
 | _+1,.str _,.str _=>true
 | n+1,.tup l,.tup m=>(l.zip m).all fun z=>Wv n z.1 z.2
 | n+1,.lst l,.lst m=>(l.zip m).all fun z=>Wv n z.1 z.2
 | _,_,_=>false
theorem TZ{α β:Type}{p:α×β->Bool}{a:α}{b:β}{l:List α}{m:List β}(h:((a::l).zip (b::m)).all p=true):p (a,b)=true/\(l.zip m).all p=true:=by
 rw[List.zip_cons_cons,List.all_cons,Bool.and_eq_true] at h;exact h
theorem Iss.inj'{n:Nat}{H:Hp}(ih:∀a b v fa fb,Wv n a b=true->Is K H a v fa->Is K H b v fb->a=b):∀{l m:List PV}{xs:List V}{fa fb:List Addr},(l.zip m).all (fun z=>Wv n z.1 z.2)=true->Iss K H l xs fa->Iss K H m xs fb->l=m
 | [],m,xs,fa,fb,_,h,h'=>by
  simp only[Iss] at h
  rw[h.1] at h'
  have:=h'.len
  cases m with
  | nil=>rfl
  | cons _ _=>simp at this
 | a::l,m,xs,fa,fb,hc,h,h'=>by
  obtain⟨x,r,f1,f2,rfl,h1,h2,rfl⟩:=h.inv
  cases m with
  | nil=>have:=h'.len;simp at this
  | cons b m=>
   obtain⟨x',r',g1,g2,e,h3,h4,rfl⟩:=h'.inv
   cases e
   obtain⟨c1,c2⟩:=TZ hc
   rw[ih a b x f1 g1 c1 h1 h3,Iss.inj' ih c2 h2 h4]
theorem Is.inj'{H:Hp}:∀(n:Nat)(a b:PV)(v:V)(fa fb:List Addr),Wv n a b=true->Is K H a v fa->Is K H b v fb->a=b
 | 0,a,b,v,fa,fb,hc,_,_=>by unfold Wv at hc;simp at hc
 | n+1,a,b,v,fa,fb,hc,ha,hb=>by
  cases a<;>cases b<;>first
   | (exfalso;revert hc;unfold Wv;simp;done)
   | skip
  ·rfl
  ·rw[ha.bl_inv.1] at hb;have:=hb.bl_inv.1;cases this;rfl
  ·rw[ha.int_inv.1] at hb;have:=hb.int_inv.1;cases this;rfl
  ·rw[ha.str_inv.1] at hb;have:=hb.str_inv.1;cases this;rfl
  ·obtain⟨p,xs,rfl,hp,hi⟩:=ha.tup_inv
   obtain⟨p',ys,e,hp',hi'⟩:=hb.tup_inv
   cases e
   rw[hp] at hp';cases hp'
   unfold Wv at hc;rw[Iss.inj' (Is.inj' n) hc hi hi']
  ·obtain⟨p,xs,fq,rfl,hp,hi,_⟩:=ha.lst_inv
   obtain⟨p',ys,fq',e,hp',hi',_⟩:=hb.lst_inv
   cases e
   rw[hp] at hp';cases hp'
   unfold Wv at hc;rw[Iss.inj' (Is.inj' n) hc hi hi']
section
variable {X:Cx} {pins:List (Addr×Obj)} {σ:S5} {H:Hp} {s:Shared} {A:Around}
theorem MC{n:Nat}(ih:∀a b x y fa fb u w,Wv n a b=true->Is K H a x fa->Is K H b y fb->RelV x u->RelV y w->∃r,SeqAt.EqAt A s u w r/\(r=true↔a=b)) :
  ∀{l m:List PV}{xs ys:List V}{fa fb:List Addr}{us ws:List Value},(l.zip m).all (fun z=>Wv n z.1 z.2)=true->Iss K H l xs fa->Iss K H m ys fb->Vals xs us->Vals ys ws->
  ∃e:Nat->Bool,(∀j (h1:j<us.length) (h2:j<ws.length),SeqAt.EqAt A s us[j] ws[j] (e j))/\((List.range (min us.length ws.length)).all e=true↔l.take (min us.length ws.length)=m.take (min us.length ws.length))
 | [],m,xs,ys,fa,fb,us,ws,_,h,_,r,_=>by
  simp only[Iss] at h
  obtain⟨rfl,_⟩:=h
  cases r
  exact⟨fun _=>true,fun j h1=>by simp at h1,by simp⟩
 | a::l,[],xs,ys,fa,fb,us,ws,_,_,h,_,r=>by
  simp only[Iss] at h
  obtain⟨rfl,_⟩:=h
  cases r
  exact⟨fun _=>true,fun j h1 h2=>by simp at h2,by simp⟩
 | a::l,b::m,xs,ys,fa,fb,us,ws,hc,h,h',r,r'=>by
  obtain⟨x,xr,f1,f2,rfl,h1,h2,rfl⟩:=h.inv
  obtain⟨y,yr,g1,g2,rfl,h3,h4,rfl⟩:=h'.inv
  obtain⟨c1,c2⟩:=TZ hc
  cases r with
  | cons q v=>cases r' with
   | cons q' v'=>
    obtain⟨t,ht,ht'⟩:=ih a b x y f1 g1 _ _ c1 h1 h3 q q'
    obtain⟨e,he,he'⟩:=MC ih c2 h2 h4 v v'
    refine⟨fun j=>match j with | 0=>t | k+1=>e k,fun j h1 h2=>?_,?_⟩
    ·cases j with
     | zero=>exact ht
     | succ k=>exact he k (by simpa using h1) (by simpa using h2)
    ·simp only[List.length_cons,Nat.succ_min_succ,List.range_succ_eq_map,List.all_cons,List.all_map,Bool.and_eq_true,List.take_succ_cons,List.cons.injEq]
     exact and_congr ht' he'
theorem Iss.same'{l m:List PV}{xs ys:List V}{fa fb:List Addr}{us ws:List Value}(h:Iss K H l xs fa)(h':Iss K H m ys fb)(r:Vals xs us)(r':Vals ys ws) :
  (l.take (min us.length ws.length)=m.take (min us.length ws.length)/\us.length=ws.length)↔l=m:=by
 have e1:=h.len;have e2:=h'.len;have e3:=r.length;have e4:=r'.length;constructor
 ·rintro⟨a,b⟩
  rw[List.take_of_length_le (by omega),List.take_of_length_le (by omega)] at a;exact a
 ·intro a
  subst a
  exact⟨rfl,by omega⟩
def Ek(A:Around)(s:Shared)(u w:Value)(r:Bool):Prop:=SeqAt.RcAt A s u w r/\SeqAt.RcNeAt A s u w !r
theorem Qb(I:Inv X pins σ H s):∀(n:Nat)(A:Around)(a b:PV)(x y:V)(fa fb:List Addr)(u w:Value),A.units+2*n+2<cLine->Wv n a b=true->Is K H a x fa->Is K H b y fb->RelV x u->RelV y w->
  (∃r,SeqAt.EqAt A s u w r/\(r=true↔a=b))/\∃r,Ek A s u w r/\(r=true↔a=b)
 | 0,A,a,b,x,y,fa,fb,u,w,hu,hc,_,_,_,_=>by unfold Wv at hc;simp at hc
 | n+1,A,a,b,x,y,fa,fb,u,w,hu,hc,ha,hb,ru,Yd=>by
  cases a<;>cases b<;>first
   | (exfalso;revert hc;unfold Wv;simp;done)
   | skip
  ·rw[ha.non_inv.1] at ru;rw[hb.non_inv.1] at Yd
   cases ru;cases Yd
   exact⟨⟨true,SeqAt.EqAt.same _,by simp⟩,true,⟨SeqAt.RcAt.none_none,SeqAt.RcNeAt.none_none⟩,by simp⟩
  ·rw[ha.bl_inv.1] at ru;rw[hb.bl_inv.1] at Yd
   cases ru;cases Yd
   exact⟨⟨_,SeqAt.EqAt.bool_bool _ _,by simp⟩,_,⟨SeqAt.RcAt.bool_bool _ _,SeqAt.RcNeAt.bool_bool _ _⟩,by simp⟩
  ·rw[ha.int_inv.1] at ru;rw[hb.int_inv.1] at Yd
   obtain⟨t,rfl⟩:=ru
   obtain⟨t',rfl⟩:=Yd
   exact⟨⟨_,SeqAt.EqAt.int_int _ _ _ _,by simp⟩,_,⟨SeqAt.RcAt.int_int _ _ _ _,SeqAt.RcNeAt.int_int _ _ _ _⟩,by simp⟩
  ·rw[ha.str_inv.1] at ru;rw[hb.str_inv.1] at Yd
   obtain⟨t,rfl⟩:=ru
   obtain⟨t',rfl⟩:=Yd
   exact⟨⟨_,SeqAt.EqAt.str_str _ _ _ _,by simp⟩,_,⟨SeqAt.RcAt.str_str _ _ _ _,SeqAt.RcNeAt.str_str _ _ _ _⟩,by simp⟩
  ·rename_i l1 l2
   obtain⟨p,xs,rfl,hp,hi⟩:=id ha.tup_inv
   obtain⟨p',ys,rfl,hp',hi'⟩:=id hb.tup_inv
   cases ru;cases Yd;have hc':=hc
   unfold Wv at hc'
   obtain⟨us,rv,q,_⟩:=I.tuple (SqT.of hp)
   obtain⟨ws,rv',q',_⟩:=I.tuple (SqT.of hp')
   obtain⟨f,hf,hf'⟩:=MC (A:=A.in1) (fun a b x y fa fb u w c i1 i2 r1 r2=>(Qb I n A.in1 a b x y fa fb u w (by show A.units+1+2*n+2<cLine;omega) c i1 i2 r1 r2).1) hc' hi hi' rv rv'
   have rc:=SeqAt.RcAt.tuples (A:=A) (e:=f) (show s.heap.IsTuple p us.toArray from q) (show s.heap.IsTuple p' ws.toArray from q') (by omega) (fun j h1 h2=>hf j (by simpa using h1) (by simpa using h2))
   have rn:=SeqAt.RcNeAt.tuples (A:=A) (e:=f) (show s.heap.IsTuple p us.toArray from q) (show s.heap.IsTuple p' ws.toArray from q') (by omega) (fun j h1 h2=>hf j (by simpa using h1) (by simpa using h2))
   have key:(((List.range (min us.toArray.size ws.toArray.size)).all f&&us.toArray.size==ws.toArray.size)=true)↔PV.tup l1=PV.tup l2:=by
    simp only[List.size_toArray,Bool.and_eq_true,beq_iff_eq,PV.tup.injEq];rw[hf']
    exact Iss.same' hi hi' rv rv'
   refine⟨?_,_,⟨rc,rn⟩,key⟩
   by_cases e:p=p'
   ·subst e
    exact⟨true,SeqAt.EqAt.same _,by simp[Is.inj' (n+1) _ _ _ _ _ hc ha hb]⟩
   ·exact⟨_,SeqAt.EqAt.of_refs e rc,key⟩
  ·rename_i l1 l2
   obtain⟨p,xs,fq,rfl,hp,hi,_⟩:=id ha.lst_inv
   obtain⟨p',ys,fq',rfl,hp',hi',_⟩:=id hb.lst_inv
   cases ru;cases Yd;have hc':=hc
   unfold Wv at hc'
   obtain⟨us,rv,q,_⟩:=I.list (SqL.of hp)
   obtain⟨ws,rv',q',_⟩:=I.list (SqL.of hp')
   obtain⟨f,hf,hf'⟩:=MC (A:=A.in1) (fun a b x y fa fb u w c i1 i2 r1 r2=>(Qb I n A.in1 a b x y fa fb u w (by show A.units+1+2*n+2<cLine;omega) c i1 i2 r1 r2).1) hc' hi hi' rv rv'
   have fin:∃r,Ek A s (.ref p) (.ref p') r/\(r=true↔PV.lst l1=PV.lst l2):=by
    have key:=Iss.same' hi hi' rv rv'
    by_cases hsz:us.length=ws.length
    ·refine⟨_,⟨SeqAt.RcAt.lists (e:=f) q.isList q'.isList (by simpa using hsz) (by omega) (fun j h1 h2=>hf j (by simpa using h1) (by simpa using h2)),SeqAt.RcNeAt.lists (e:=f) q.isList q'.isList (by simpa using hsz) (by omega) (fun j h1 h2=>hf j (by simpa using h1) (by simpa using h2))⟩,?_⟩
     rw[hsz,Nat.min_self] at hf' key
     simp only[List.size_toArray,PV.lst.injEq];rw[hsz,hf',<-key]
     simp
    ·refine⟨false,⟨SeqAt.RcAt.lists_lengths q.isList q'.isList (by simpa using hsz) (by omega),SeqAt.RcNeAt.lists_lengths q.isList q'.isList (by simpa using hsz) (by omega)⟩,?_⟩
     rw[PV.lst.injEq,<-key];simp[hsz]
   obtain⟨r,hr,hk⟩:=fin
   refine⟨?_,r,hr,hk⟩
   by_cases e:p=p'
   ·subst e
    exact⟨true,SeqAt.EqAt.same _,by simp[Is.inj' (n+1) _ _ _ _ _ hc ha hb]⟩
   ·exact⟨r,SeqAt.EqAt.of_refs e hr.1,hk⟩
end
def Ds(K:PySem.W.Frag)(neg:Bool):R2:=fun x y H Q=>∃a b fa fb,Is K H a x fa/\Is K H b y fb/\Wv 8 a b=true/\∀r:Bool,(r=true↔a=b)->Q (.bl (if neg then !r else r)) H
section
variable {X:Cx}
theorem Im(hu:X.A.units+64<cLine):UJ X (compareOp .Eq) (Ds X.K false):=by
 intro pins s σ H x y v u Q I rx ry h
 obtain⟨a,b,fa,fb,ha,hb,hc,q⟩:=h
 obtain⟨_,r,hr,hk⟩:=Qb I 8 X.A a b x y fa fb v u (by omega) hc ha hb rx ry
 exact hr.1 X.prog X.w X.xe _ ⟨.bl r,H,I,rfl,q r hk⟩
theorem Io(hu:X.A.units+64<cLine):UJ X (compareOp .NotEq) (Ds X.K true):=by
 intro pins s σ H x y v u Q I rx ry h
 obtain⟨a,b,fa,fb,ha,hb,hc,q⟩:=h
 obtain⟨_,r,hr,hk⟩:=Qb I 8 X.A a b x y fa fb v u (by omega) hc ha hb rx ry
 exact hr.2 X.prog X.w X.xe _ ⟨.bl !r,H,I,rfl,q r hk⟩
end
noncomputable def Yc(neg:Bool):PV->PV->Option PV:=fun a b=>if Wv 8 a b=true then some (.bl (if neg then !decide (a=b) else decide (a=b))) else none
theorem OB(neg:Bool):RB K (Ds K neg) (Yc neg):=fun H x y a b l fa fb ha hb e Q k=>by
 unfold Yc at e
 split at e
 ·cases e
  refine⟨a,b,fa,fb,ha,hb,by assumption,fun r hr=>?_⟩
  have:r=decide (a=b):=by
   cases r with
   | true=>exact(decide_eq_true (hr.mp rfl)).symm
   | false=>exact(decide_eq_false fun z=>Bool.false_ne_true (hr.mpr z)).symm
  subst this
  exact k _ H [] (Same.refl H) (Is.bl _) fun p hp=>by simp at hp
 ·cases e
def Dt(K:PySem.W.Frag)(neg:Bool):R2:=fun x y H Q=>∃a b m fa fb,Is K H a x fa/\Is K H b y fb/\Rn b=some m/\(m.all fun z=>Wv 8 z a)=true/\∀r:Bool,(r=true↔a∈m)->Q (.bl (if neg then !r else r)) H
section
variable {X:Cx} {pins:List (Addr×Obj)} {σ:S5} {H:Hp} {s:Shared}
theorem RD{a:PV}{x:V}{fa:List Addr}{u:Value}{A:Around}(I:Inv X pins σ H s)(hu:A.units+18<cLine)(ha:Is K H a x fa)(rx:RelV x u):∀{m:List PV}{xs:List V}{fb:List Addr}{us:List Value},(m.all fun z=>Wv 8 z a)=true->Iss K H m xs fb->Vals xs us->
  ∃e:Value->Bool,(∀y∈us,SeqAt.EqAt A s y u (e y))/\(us.any e=true↔a∈m):=fun{m xs fb us} hc h r=>by
 -- each one's answer
 have each:∀y∈us,∃t:Bool,SeqAt.EqAt A s y u t/\(t=true↔∃b,b∈m/\b=a/\∃z f,Is K H b z f/\RelV z y):=fun y hy=>by
  obtain⟨j,hj,e⟩:=List.mem_iff_getElem.mp hy
  have hl:=r.length
  have hxj:xs[j]?=some xs[j]:=List.getElem?_eq_getElem (by omega)
  obtain⟨b,f,hb,ib,_⟩:=h.get' hxj
  obtain⟨w,hw,Yd⟩:=r.get hxj
  rw[List.getElem?_eq_getElem hj] at hw;cases hw;rw[e] at Yd
  have hbm:b∈m:=List.mem_of_getElem? hb
  have cb:=List.all_eq_true.mp hc b hbm
  obtain⟨⟨t,ht,hk⟩,_⟩:=Qb I 8 A b a xs[j] x f fa y u (by omega) cb ib ha Yd rx
  refine⟨t,ht,hk.trans ⟨fun z=>⟨b,hbm,z,xs[j],f,ib,Yd⟩,fun⟨b',hb',e',z,f',i',r'⟩=>?_⟩⟩
  have ez:z=xs[j]:=r'.inj Yd
  subst ez;have cb':=List.all_eq_true.mp hc b' hb'
  subst e'
  exact Is.inj' 8 b b' _ _ _ cb ib i'
 classical
 refine⟨fun y=>if hy:y∈us then(each y hy).choose else false,fun y hy=>?_,?_⟩
 ·simp only[dif_pos hy];exact(each y hy).choose_spec.1
 ·rw[List.any_eq_true]
  constructor
  ·rintro⟨y,hy,e⟩
   rw[dif_pos hy] at e
   obtain⟨b,hb,rfl,_⟩:=(each y hy).choose_spec.2.mp e
   exact hb
  ·intro hm
   obtain⟨j,hj,e⟩:=List.mem_iff_getElem.mp hm
   obtain⟨z,f,hz,iz,_⟩:=h.get (List.getElem?_eq_getElem hj)
   obtain⟨y,hy,ry⟩:=r.get hz
   have hyu:y∈us:=List.mem_of_getElem? hy
   refine⟨y,hyu,?_⟩
   rw[dif_pos hyu]
   exact(each y hyu).choose_spec.2.mpr ⟨a,hm,rfl,z,f,e▸iz,ry⟩
end
section
variable {X:Cx}
theorem Du(hu:X.A.units+64<cLine):UJ X (compareOp .In) (Dt X.K false):=by
 intro pins s σ H x y v u Q I rx ry h
 obtain⟨a,b,m,fa,fb,ha,hb,hm,hc,q⟩:=h
 obtain⟨p,xs,fq,rfl,hp,hi,_⟩:=VZ (K:=X.K) hb hm
 cases ry
 rcases hp with hp | hp
 ·obtain⟨us,rv,t,_⟩:=I.list hp
  obtain⟨e,he,hk⟩:=RD (A:=X.A.in1) I (by show X.A.units+1+18<cLine;omega) ha rx hc hi rv
  refine SeqAt.in_listAt e t.isList (fun w hw=>he w (by simpa using hw)) ⟨.bl _,H,I,rfl,?_⟩
  rw[show us.toArray.any e=us.any e by simp]
  exact q _ hk
 ·obtain⟨us,rv,t,_⟩:=I.tuple hp
  obtain⟨e,he,hk⟩:=RD (A:=X.A.in1) I (by show X.A.units+1+18<cLine;omega) ha rx hc hi rv
  refine SeqAt.in_tupleAt e t (fun w hw=>he w (by simpa using hw)) ⟨.bl _,H,I,rfl,?_⟩
  rw[show us.toArray.any e=us.any e by simp]
  exact q _ hk
theorem K8(hu:X.A.units+64<cLine):UJ X (compareOp .NotIn) (Dt X.K true):=by
 intro pins s σ H x y v u Q I rx ry h
 obtain⟨a,b,m,fa,fb,ha,hb,hm,hc,q⟩:=h
 obtain⟨p,xs,fq,rfl,hp,hi,_⟩:=VZ (K:=X.K) hb hm
 cases ry
 rcases hp with hp | hp
 ·obtain⟨us,rv,t,_⟩:=I.list hp
  obtain⟨e,he,hk⟩:=RD (A:=X.A.in1) I (by show X.A.units+1+18<cLine;omega) ha rx hc hi rv
  refine SeqAt.notIn_listAt e t.isList (fun w hw=>he w (by simpa using hw)) ⟨.bl _,H,I,rfl,?_⟩
  rw[show us.toArray.any e=us.any e by simp]
  exact q _ hk
 ·obtain⟨us,rv,t,_⟩:=I.tuple hp
  obtain⟨e,he,hk⟩:=RD (A:=X.A.in1) I (by show X.A.units+1+18<cLine;omega) ha rx hc hi rv
  refine SeqAt.notIn_tupleAt e t (fun w hw=>he w (by simpa using hw)) ⟨.bl _,H,I,rfl,?_⟩
  rw[show us.toArray.any e=us.any e by simp]
  exact q _ hk
end
noncomputable def RE(neg:Bool):PV->PV->Option PV:=fun a b=>(Rn b).bind fun m=>if(m.all fun z=>Wv 8 z a)=true then some (.bl (if neg then !decide (a∈m) else decide (a∈m))) else none
theorem Ip(neg:Bool):RB K (Dt K neg) (RE neg):=fun H x y a b l fa fb ha hb e Q k=>by
 obtain⟨m,hm,e⟩:=Zf e
 split at e
 ·cases e
  refine⟨a,b,m,fa,fb,ha,hb,hm,by assumption,fun r hr=>?_⟩
  have:r=decide (a∈m):=by
   cases r with
   | true=>exact(decide_eq_true (hr.mp rfl)).symm
   | false=>exact(decide_eq_false fun z=>Bool.false_ne_true (hr.mpr z)).symm
  subst this
  exact k _ H [] (Same.refl H) (Is.bl _) fun p hp=>by simp at hp
 ·cases e
end VL
namespace VL
open PySem PySem.Spec PyProof.Rows L2
variable {K:PySem.W.Frag}
mutual
theorem Is.dom{H:Hp}:∀(l:PV)(v:V)(fp:List Addr),Is K H l v fp->∀p∈fp,H p≠none
 | .non,_,_,h=>by simp only[Is] at h;rw[h.2];simp
 | .bl _,_,_,h=>by simp only[Is] at h;rw[h.2];simp
 | .int _,_,_,h=>by simp only[Is] at h;rw[h.2];simp
 | .str _,_,_,h=>by simp only[Is] at h;rw[h.2];simp
 | .ty _,_,_,h=>by simp only[Is] at h;rw[h.2];simp
 | .exc _,_,_,h=>by simp only[Is] at h;rw[h.2];simp
 | .exf _ _,_,_,h=>by simp only[Is] at h;rw[h.2];simp
 | .tup l,v,fp,h=>by
  obtain⟨p,xs,_,_,hi⟩:=h.tup_inv
  exact Iss.dom l xs fp hi
 | .lst l,v,fp,h=>by
  obtain⟨p,xs,fq,_,hp,hi,rfl⟩:=h.lst_inv
  intro q hq
  rcases List.mem_cons.mp hq with rfl | hq
  ·rw[hp];simp
  ·exact Iss.dom l xs fq hi q hq
 | .cst l,v,fp,h=>by
  obtain⟨p,xs,_,_,hi⟩:=h.cst_inv
  exact Iss.dom l xs fp hi
 | .dK ks l,v,fp,h=>by
  obtain⟨p,kvs,fq,_,hp,_,hi,rfl⟩:=h.dK_inv
  intro q hq
  rcases List.mem_cons.mp hq with rfl | hq
  ·rcases hp with e | ⟨o,e⟩<;>rw[e]<;>simp
  ·exact Iss.dom l _ fq hi q hq
 | .dT ks l,v,fp,h=>by
  obtain⟨p,kvs,fq,_,hp,_,hi,rfl⟩:=h.dT_inv
  intro q hq
  rcases List.mem_cons.mp hq with rfl | hq
  ·rcases hp with e | ⟨o,e⟩<;>rw[e]<;>simp
  ·exact Iss.dom l _ fq hi q hq
theorem Iss.dom{H:Hp}:∀(l:List PV)(xs:List V)(fp:List Addr),Iss K H l xs fp->∀p∈fp,H p≠none
 | [],_,_,h=>by simp only[Iss] at h;rw[h.2];simp
 | l::ls,xs,fp,h=>by
  obtain⟨x,r,f1,f2,_,h1,h2,rfl⟩:=h.inv
  intro q hq
  rcases List.mem_append.mp hq with hq | hq
  ·exact Is.dom l x f1 h1 q hq
  ·exact Iss.dom ls r f2 h2 q hq
end
def Ab(Rm:Addr->Prop)(H H':Hp):Prop:=∀b o,H b=some o->¬Rm b->H' b=some o
theorem Same.ab{Rm:Addr->Prop}{H H':Hp}(s:Same H H'):Ab Rm H H':=fun b o h _=>s b o h
theorem Ab.tk{Rm:Addr->Prop}{H H':Hp}(a:Ab Rm H H')(hd:∀p,Rm p->Vo (H p)):TK2 H H':=⟨fun b xs h=>a b _ h fun z=>by
 have:=hd b z
 rw[h] at this;exact this,fun b o xs h=>a b _ h fun z=>by
 have:=hd b z
 rw[h] at this;exact this,fun b o x h=>a b _ h fun z=>by
 have:=hd b z
 rw[h] at this;exact this⟩
theorem Is.ab{Rm:Addr->Prop}{H H':Hp}(a:Ab Rm H H')(hd:∀p,Rm p->Vo (H p)){l:PV}{v:V}{fp:List Addr}(n:∀p∈fp,¬Rm p)(h:Is K H l v fp):Is K H' l v fp:=
 Is.tr (a.tk hd) l v fp (fun p hp=>RdK.of fun o q=>a p o q (n p hp)) h
structure Bh(K:PySem.W.Frag)(Rm:Addr->Prop)(H1:Hp)(J:It)(ls:List PV):Prop where
 stop:∀H',Ab Rm H1 H'->J.stop ls.length H'
 go:∀H' (i:Nat) l,Ab Rm H1 H'->ls[i]?=some l->J.go i H'
 yld:∀H' (i:Nat) l x H'',Ab Rm H1 H'->ls[i]?=some l->J.yld i H' x H''->Same H' H''/\∃fp,Is K H'' l x fp/\∀p∈fp,H1 p≠none/\¬Rm p
abbrev XL:=ZY->Option (List PV)
def iF(K:PySem.W.Frag)(f:XL):TI:=fun σ H R=>∃(Rm:Addr->Prop) (s:ZY) (ls:List PV),(∀p,Rm p->Vo (H p))/\EnvIs K Rm H s σ/\f s=some ls/\∀J H1,Same H H1->Bh K Rm H1 J ls->R J H1
def VI(X:Cx)(tg e:Expr)(f:XL):Prop:=PI X tg e (iF X.K f)
section
variable {X:Cx} {tg e:Expr} {es:List Expr}
theorem PI.imp{t t':TI}(h:PI X tg e t)(i:∀σ H R,t' σ H R->t σ H R):PI X tg e t':=fun pins s σ H R I q=>h pins s σ H R I (i σ H R q)
def El:PV->Option (List PV)
 | .lst m=>some m
 | .cst m=>some m
 | _=>none
def YM(f:XE):XL:=fun s=>(f s).bind El
def Vk(f:XE):XL:=fun s=>match f s with | some (.tup m)=>some m | _=>none
theorem Iq{a:PV}{m:List PV}(h:El a=some m):a = .lst m\/a = .cst m:=by
 unfold El at h;split at h
 ·cases h;exact .inl rfl
 ·cases h;exact .inr rfl
 ·cases h
theorem K9{f:XE}{s:ZY}{m:List PV}(h:Vk f s=some m):f s=some (.tup m):=by
 unfold Vk at h;split at h
 ·cases h;assumption
 ·cases h
theorem XC{f:XE}(h:VE X e f):VI X tg e (YM f):=PI.imp (Gp h) fun σ H R ⟨Rm,s,ls,hd,env,e,k⟩=>by
 obtain⟨l,e1,e2⟩:=Zf e
 refine⟨Rm,s,l,hd,env,e1,fun v H1 fp s1 i1 n1=>?_⟩
 have hd1:∀p,Rm p->Vo (H1 p):=fun p hp=>Same.mut s1 (hd p hp)
 have main:∀a xs fq,v = .ref a->SqL X.K H1 a xs->(∀H',Ab Rm H1 H'->SqL X.K H' a xs)->Iss X.K H1 ls xs fq->(∀p∈fq,p∈fp)->∃a,v = .ref a/\(∃xs,SqL X.K H1 a xs)/\R (Bu X.K a) H1:=by
  rintro a xs fq rfl ha keep hi sub
  refine⟨a,rfl,⟨xs,ha⟩,k _ H1 s1 ⟨fun H' ab=>⟨xs,keep H' ab,by rw[hi.len];exact Nat.le_refl _⟩,fun H' i l ab hl=>?_,fun H' i l x H'' ab hl y=>?_⟩⟩
  ·obtain⟨x,f1,hx,_,_⟩:=hi.get hl
   exact⟨xs,x,keep H' ab,hx⟩
  ·obtain⟨rfl,y⟩:=y
   obtain⟨x',f1,hx,ix,sub'⟩:=hi.get hl
   have:=y xs (keep _ ab)
   rw[hx] at this;cases this
   have n1':∀p∈f1,¬Rm p:=fun p hp=>n1 p (sub p (sub' p hp))
   exact⟨Same.refl _,f1,ix.ab ab hd1 n1',fun p hp=>⟨Is.dom _ _ _ ix p hp,n1' p hp⟩⟩
 rcases Iq e2 with rfl | rfl
 ·obtain⟨a,xs,fq,rfl,ha,hi,rfl⟩:=i1.lst_inv
  exact main a xs fq rfl (SqL.of ha) (fun H' ab=>SqL.of (ab a _ ha (n1 a List.mem_cons_self))) hi fun p hp=>List.mem_cons_of_mem _ hp
 ·obtain⟨a,xs,rfl,ha,hi⟩:=i1.cst_inv
  exact main a xs fp rfl ha.sq (fun H' ab=>(ha.tr (ab.tk hd1)).sq) hi fun p hp=>hp
theorem OC{f:XE}(h:VE X e f):VI X tg e (Vk f):=PI.imp (EN h) fun σ H R ⟨Rm,s,ls,hd,env,e,k⟩=>by
 refine⟨Rm,s,.tup ls,hd,env,K9 e,fun v H1 fp s1 i1 n1=>?_⟩
 obtain⟨a,xs,rfl,ha,hi⟩:=i1.tup_inv
 have hd1:∀p,Rm p->Vo (H1 p):=fun p hp=>Same.mut s1 (hd p hp)
 have keep:∀H',Ab Rm H1 H'->SqT X.K H' a xs:=fun H' ab=>SqT.of ((ab.tk hd1).tup a xs ha)
 refine⟨a,rfl,⟨xs,SqT.of ha⟩,k _ H1 s1 ⟨fun H' ab=>⟨xs,keep H' ab,by rw[hi.len];exact Nat.le_refl _⟩,fun H' i l ab hl=>?_,fun H' i l x H'' ab hl y=>?_⟩⟩
 ·obtain⟨x,f1,hx,_,_⟩:=hi.get hl
  exact⟨xs,x,keep H' ab,hx⟩
 ·obtain⟨rfl,y⟩:=y
  obtain⟨x',f1,hx,ix,sub⟩:=hi.get hl
  have:=y xs (keep _ ab)
  rw[hx] at this;cases this
  have n1':∀p∈f1,¬Rm p:=fun p hp=>n1 p (sub p hp)
  exact⟨Same.refl _,f1,ix.ab ab hd1 n1',fun p hp=>⟨Is.dom _ _ _ ix p hp,n1' p hp⟩⟩
def Xv(n:Nat):List PV:=(List.range n).map fun(i:Nat)=>PV.int (i:Int)
def Xf(lo:Int)(n:Nat):List PV:=(List.range n).map fun(i:Nat)=>PV.int (lo+(i:Int))
def ZL(fs:List XE):XL:=fun s=>match Rl fs s with | some [.int j]=>if -1000000<=j/\j<=1000000 then some (Xv j.toNat) else none | _=>none
def ZZ(fs:List XE):XL:=fun s=>match Rl fs s with | some [.int i,.int j]=>if -1000000<=i/\i<=1000000/\-1000000<=j/\j<=1000000 then some (Xf i (j-i).toNat) else none | _=>none
theorem LL{Rm:Addr->Prop}{H1:Hp}(lo:Int)(n:Nat):Bh K Rm H1 (Ck lo n) (Xf lo n):=by
 refine⟨fun H' _=>by unfold Xf;rw[List.length_map,List.length_range];exact Nat.le_refl n,fun H' i l _ hl=>?_,fun H' i l x H'' _ hl y=>?_⟩
 ·have:=(List.getElem?_eq_some_iff.mp hl).1
  unfold Xf at this;rw[List.length_map,List.length_range] at this;exact this
 ·obtain⟨rfl,rfl⟩:=y
  have hi:=(List.getElem?_eq_some_iff.mp hl).1
  unfold Xf at hi hl;rw[List.length_map,List.length_range] at hi;rw[List.getElem?_map,List.getElem?_range hi] at hl;cases hl
  exact⟨Same.refl _,[],Is.int _,fun p hp=>by simp at hp⟩
theorem G5(n:Nat):Xv n=Xf 0 n:=by
 unfold Xv Xf
 apply List.map_congr_left
 intro i _;rw[Int.zero_add]
theorem Yt{a:Expr}{fs:List XE}{p pos:Pos}(hg:Gl X "range")(hm:X.mg "range" = none)(ha:VA X [a] fs)(hs:starEach [a] X.env=[(false,eval a X.env)]:=by rfl):VI X tg (.Call (.Name "range" p) [a] [] pos) (ZL fs):=
 PI.imp (KD hg hm ha hs) fun σ H R ⟨Rm,s,ls,hd,env,e,k⟩=>by
 unfold ZL at e
 split at e
 ·split at e
  ·cases e
   rename_i j he hb
   refine⟨Rm,s,_,hd,env,he,fun vs H1 fp s1 i1 _=>?_⟩
   obtain⟨v,rfl,i⟩:=i1.one_inv
   refine⟨j,by rw[i.int_inv.1],by omega,by omega,k _ H1 s1 ?_⟩
   rw[G5];exact LL _ _
  ·cases e
 ·cases e
theorem XF{a b:Expr}{fs:List XE}{p pos:Pos}(hg:Gl X "range")(hm:X.mg "range" = none)(ha:VA X [a,b] fs)(hs:starEach [a,b] X.env=[(false,eval a X.env),(false,eval b X.env)]:=by rfl)(hs2:starEach [b] X.env=[(false,eval b X.env)]:=by rfl):VI X tg (.Call (.Name "range" p) [a,b] [] pos) (ZZ fs):=
 PI.imp (KG hg hm ha hs hs2) fun σ H R ⟨Rm,s,ls,hd,env,e,k⟩=>by
 unfold ZZ at e
 split at e
 ·split at e
  ·cases e
   rename_i i j he hb
   refine⟨Rm,s,_,hd,env,he,fun vs H1 fp s1 i1 _=>?_⟩
   obtain⟨v,w,f1,f2,rfl,iv,iw,_⟩:=i1.two_inv
   exact⟨i,j,by rw[iv.int_inv.1,iw.int_inv.1],⟨by omega,by omega,by omega,by omega⟩,k _ H1 s1 (LL _ _)⟩
  ·cases e
 ·cases e
def Vu(m:List PV):List PV:=m.zipIdx.map fun z=>.tup [.int (z.2:Nat),z.1]
def Q5(m n:List PV):List PV:=(m.zip n).map fun z=>.tup [z.1,z.2]
theorem PH{m:List PV}{i:Nat}{l:PV}(h:(Vu m)[i]?=some l):∃a,m[i]?=some a/\l = .tup [.int (i:Nat),a]:=by
 unfold Vu at h;rw[List.getElem?_map,List.getElem?_zipIdx] at h
 cases q:m[i]? with
 | none=>rw[q] at h;cases h
 | some a=>rw[q] at h;cases h;exact⟨a,rfl,by simp⟩
theorem UL(m:List PV):(Vu m).length=m.length:=by unfold Vu;rw[List.length_map,List.length_zipIdx]
theorem Ny{m n:List PV}{i:Nat}{l:PV}(h:(Q5 m n)[i]?=some l):∃a b,m[i]?=some a/\n[i]?=some b/\l = .tup [a,b]:=by
 unfold Q5 at h;rw[List.getElem?_map] at h
 cases q:(m.zip n)[i]? with
 | none=>rw[q] at h;cases h
 | some z=>
  rw[q] at h;cases h
  obtain⟨q1,q2⟩:=List.getElem?_zip_eq_some.mp q
  exact⟨z.1,z.2,q1,q2,rfl⟩
theorem Nz(m n:List PV):(Q5 m n).length=min m.length n.length:=by unfold Q5;rw[List.length_map,List.length_zip]
def seqB:Bool->PV->Option (List PV)
 | true,.lst l=>some l
 | true,.cst l=>some l
 | false,.tup l=>some l
 | _,_=>none
theorem OD{H:Hp}{b:Bool}{l:PV}{v:V}{fp:List Addr}{m:List PV}(h:Is K H l v fp)(e:seqB b l=some m):∃p xs fq,v = .ref p/\Iss K H m xs fq/\(∀q∈fq,q∈fp)/\∀(Rm:Addr->Prop) H',Ab Rm H H'->(∀p,Rm p->Vo (H p))->(∀p∈fp,¬Rm p)->RY b K H' p xs:=by
 cases b with
 | true=>cases l with
  | lst l=>
   cases e
   obtain⟨p,xs,fq,rfl,hp,hi,rfl⟩:=h.lst_inv
   exact⟨p,xs,fq,rfl,hi,fun q hq=>List.mem_cons_of_mem _ hq,fun Rm H' ab _ n=>SqL.of (ab p _ hp (n p List.mem_cons_self))⟩
  | cst l=>
   cases e
   obtain⟨p,xs,rfl,hp,hi⟩:=h.cst_inv
   exact⟨p,xs,fp,rfl,hi,fun q hq=>hq,fun Rm H' ab hd _=>(hp.tr (ab.tk hd)).sq⟩
  | _=>cases e
 | false=>cases l with
  | tup l=>
   cases e
   obtain⟨p,xs,rfl,hp,hi⟩:=h.tup_inv
   exact⟨p,xs,fp,rfl,hi,fun q hq=>hq,fun Rm H' ab hd _=>SqT.of ((ab.tk hd).tup p xs hp)⟩
  | _=>cases e
def Ta(b:Bool)(fs:List XE):XL:=fun s=>match Rl fs s with | some [l]=>(seqB b l).map Vu | _=>none
def Ir(b1 b2:Bool)(fs:List XE):XL:=fun s=>match Rl fs s with | some [l,r]=>(seqB b1 l).bind fun m=>(seqB b2 r).map fun n=>Q5 m n | _=>none
theorem LM{elts:List Expr}{k:Nat}{tpos:Pos}(b:Bool){a:Expr}{fs:List XE}{p pos:Pos}(hg:Gl X "enumerate")(hm:X.mg "enumerate" = none)(ha:VA X [a] fs)(hs:starEach [a] X.env=[(false,eval a X.env)]:=by rfl) :
  VI X (.Tuple elts k tpos) (.Call (.Name "enumerate" p) [a] [] pos) (Ta b fs):=PI.imp (GO b hg hm ha hs) fun σ H R ⟨Rm,s,ls,hd,env,e,k⟩=>by
 unfold Ta at e
 split at e
 ·rename_i l he
  obtain⟨m,e1,rfl⟩:=map_some e
  refine⟨Rm,s,_,hd,env,he,fun vs H1 fp s1 i1 n1=>?_⟩
  obtain⟨v,rfl,i⟩:=i1.one_inv
  have hd1:∀p,Rm p->Vo (H1 p):=fun p hp=>Same.mut s1 (hd p hp)
  obtain⟨a,xs,fq,rfl,hi,sub,keep⟩:=OD (K:=X.K) i e1
  have kp:=fun H' ab=>keep Rm H' ab hd1 n1
  refine⟨a,rfl,⟨xs,kp H1 (Same.ab (Same.refl H1))⟩,k _ H1 s1 ⟨fun H' ab=>⟨xs,kp H' ab,by rw[UL,hi.len]⟩,fun H' i l ab hl=>?_,fun H' i l x H'' ab hl y=>?_⟩⟩
  ·obtain⟨c,hc,rfl⟩:=PH hl
   obtain⟨x,f1,hx,_,_⟩:=hi.get hc
   exact⟨xs,x,kp H' ab,hx⟩
  ·obtain⟨c,hc,rfl⟩:=PH hl
   obtain⟨x',f1,hx,ix,sb⟩:=hi.get hc
   obtain⟨q,z,hq,rfl,rfl,y⟩:=y
   have:=y xs (kp _ ab)
   rw[hx] at this;cases this
   have n1':∀p∈f1,¬Rm p:=fun p hp=>n1 p (sub p (sb p hp))
   refine⟨Same.new hq _,f1,Is.tup upd_same ?_,fun p hp=>⟨Is.dom _ _ _ ix p hp,n1' p hp⟩⟩
   exact Iss.cons (f1:=[]) (Is.int _) (Iss.one ((ix.ab ab hd1 n1').mono (Same.new hq _)))
 ·cases e
theorem Dv{elts:List Expr}{k:Nat}{tpos:Pos}(b1 b2:Bool){a b:Expr}{fs:List XE}{p pos:Pos}(hg:Gl X "zip")(hm:X.mg "zip" = none)(ha:VA X [a,b] fs)
  (hs:starEach [a,b] X.env=[(false,eval a X.env),(false,eval b X.env)]:=by rfl) (hs2:starEach [b] X.env=[(false,eval b X.env)]:=by rfl) :
  VI X (.Tuple elts k tpos) (.Call (.Name "zip" p) [a,b] [] pos) (Ir b1 b2 fs):=PI.imp (De b1 b2 hg hm ha hs hs2) fun σ H R ⟨Rm,s,ls,hd,env,e,k⟩=>by
 unfold Ir at e
 split at e
 ·rename_i l r he
  obtain⟨m,e1,e⟩:=Zf e
  obtain⟨n,e2,rfl⟩:=map_some e
  refine⟨Rm,s,_,hd,env,he,fun vs H1 fp s1 i1 n1=>?_⟩
  obtain⟨v,w,g1,g2,rfl,iv,iw,rfl⟩:=i1.two_inv
  have hd1:∀p,Rm p->Vo (H1 p):=fun p hp=>Same.mut s1 (hd p hp)
  have ng1:∀p∈g1,¬Rm p:=fun p hp=>n1 p (List.mem_append_left _ hp)
  have ng2:∀p∈g2,¬Rm p:=fun p hp=>n1 p (List.mem_append_right _ hp)
  obtain⟨a1,xs,fq,rfl,hi,sub,keep⟩:=OD (K:=X.K) iv e1
  obtain⟨a2,ys,fr,rfl,hj,sub2,keep2⟩:=OD (K:=X.K) iw e2
  have kp:=fun H' ab=>keep Rm H' ab hd1 ng1
  have kp2:=fun H' ab=>keep2 Rm H' ab hd1 ng2
  refine⟨a1,a2,rfl,⟨xs,kp H1 (Same.ab (Same.refl H1))⟩,⟨ys,kp2 H1 (Same.ab (Same.refl H1))⟩,k _ H1 s1 ⟨fun H' ab=>⟨xs,ys,kp H' ab,kp2 H' ab,?_⟩,fun H' i l ab hl=>?_,fun H' i l x H'' ab hl y=>?_⟩⟩
  ·rw[Nz,hi.len,hj.len]
   omega
  ·obtain⟨c,d,hc,hd',rfl⟩:=Ny hl
   obtain⟨x,f1,hx,_,_⟩:=hi.get hc
   obtain⟨y,f2,hy,_,_⟩:=hj.get hd'
   exact⟨xs,ys,x,y,kp H' ab,kp2 H' ab,hx,hy⟩
  ·obtain⟨c,d,hc,hd',rfl⟩:=Ny hl
   obtain⟨x',f1,hx,ix,sb⟩:=hi.get hc
   obtain⟨y',f2,hy,iy,sb2⟩:=hj.get hd'
   obtain⟨q,z,z',hq,rfl,rfl,y1,y2⟩:=y
   have:=y1 xs (kp _ ab)
   rw[hx] at this;cases this
   have:=y2 ys (kp2 _ ab)
   rw[hy] at this;cases this
   have n1':∀p∈f1,¬Rm p:=fun p hp=>ng1 p (sub p (sb p hp))
   have n2':∀p∈f2,¬Rm p:=fun p hp=>ng2 p (sub2 p (sb2 p hp))
   refine⟨Same.new hq _,f1++f2,Is.tup upd_same ?_,fun p hp=>?_⟩
   ·exact Iss.cons ((ix.ab ab hd1 n1').mono (Same.new hq _)) (Iss.one ((iy.ab ab hd1 n2').mono (Same.new hq _)))
   ·rcases List.mem_append.mp hp with hp | hp
    ·exact⟨Is.dom _ _ _ ix p hp,n1' p hp⟩
    ·exact⟨Is.dom _ _ _ iy p hp,n2' p hp⟩
 ·cases e
end
inductive Tgt where
 | one (i:Nat) | many (is:List Nat)
def Tgt.slots:Tgt->List Nat
 | .one i=>[i]
 | .many is=>is
def setAll:List Nat->List PV->ZY->ZY
 | i::is,l::ls,s=>setAll is ls (s.set i (some l))
 | _,_,s=>s
def Xo:List Nat->List V->S5->S5
 | i::is,l::ls,s=>Xo is ls (s.set i (some l))
 | _,_,s=>s
def Ur:Tgt->PV->ZY->Option ZY
 | .one i,l,s=>some (s.set i (some l))
 | .many is,.tup ls,s=>if ls.length=is.length then some (setAll is ls s) else none
 | _,_,_=>none
def MD:List Nat->F5
 | []=>Cg
 | i::is=>F6 (S2 i) (MD is)
def gT(K:PySem.W.Frag):Tgt->TG
 | .one i=>S2 i
 | .many is=>Ci K is.length (MD is)
theorem Qc:∀{is:List Nat}{vs:List V}{σ:S5}{H:Hp}{Q:S5->Hp->Prop},vs.length=is.length->Q (Xo is vs σ) H->MD is vs σ H Q
 | [],[],_,_,_,_,q=>⟨rfl,q⟩
 | [],_::_,_,_,_,h,_=>by simp at h
 | _::_,[],_,_,_,h,_=>by simp at h
 | i::is,v::vs,σ,H,Q,h,q=>⟨v,vs,rfl,Qc (is:=is) (vs:=vs) (by simpa using h) q⟩
theorem OE{T:Tgt}{l:PV}{v:V}{fp:List Addr}{s s':ZY}{H:Hp}(h:Is K H l v fp)(e:Ur T l s=some s') :
  ∃ls vs fs,s'=setAll T.slots ls s/\Iss K H ls vs fs/\ls.length=T.slots.length/\(∀p∈fs,p∈fp)/\∀σ (Q:S5->Hp->Prop),Q (Xo T.slots vs σ) H->gT K T v σ H Q:=by
 cases T with
 | one i=>
  cases e
  exact⟨[l],[v],fp,rfl,Iss.one h,rfl,fun p hp=>hp,fun σ Q q=>q⟩
 | many is=>
  cases l with
  | tup ls=>
   have e:(if ls.length=is.length then some (VL.setAll is ls s) else none)=some s':=e
   split at e
   ·cases e
    obtain⟨p,xs,rfl,hp,hi⟩:=h.tup_inv
    exact⟨ls,xs,fp,rfl,hi,by assumption,fun p hp=>hp,fun σ Q q=>⟨p,xs,rfl,SqT.of hp,by rw[hi.len];assumption,Qc (by rw[hi.len];assumption) q⟩⟩
   ·cases e
  | _=>cases e
theorem V2:∀{is:List Nat}{vs:List V}{σ:S5}{n:Nat},(∀i∈is,i<n)->(Xo is vs σ).drop n=σ.drop n
 | [],_,_,_,_=>rfl
 | _::_,[],_,_,_=>rfl
 | i::is,v::vs,σ,n,h=>by
  show(Xo is vs (σ.set i (some v))).drop n=_
  rw[V2 (fun j hj=>h j (List.mem_cons_of_mem _ hj))]
  have:=h i List.mem_cons_self
  rw[List.drop_set,if_pos this]
theorem EnvIs.set{Rm:Addr->Prop}{H:Hp}{s:ZY}{σ:S5}{i:Nat}{l:PV}{v:V}{fp:List Addr}(h:EnvIs K Rm H s σ)(hl:s.length=σ.length)(hi:Is K H l v fp)(n:∀p∈fp,¬Rm p):EnvIs K Rm H (s.set i (some l)) (σ.set i (some v)):=⟨fun j a e=>by
 rw[List.getElem?_set] at e
 by_cases hj:i=j
 ·subst hj
  rw[if_pos rfl] at e
  split at e
  ·cases e
   exact⟨v,fp,by rw[List.getElem?_set,if_pos rfl,if_pos (by omega)],hi,n⟩
  ·cases e
 ·rw[if_neg hj] at e
  obtain⟨w,f,h1,h2,h3⟩:=h.is j a e
  exact⟨w,f,by rw[List.getElem?_set,if_neg hj];exact h1,h2,h3⟩⟩
theorem EnvIs.setAll{Rm:Addr->Prop}{H:Hp}:∀{is:List Nat}{ls:List PV}{vs:List V}{fs:List Addr}{s:ZY}{σ:S5},EnvIs K Rm H s σ->s.length=σ.length->Iss K H ls vs fs->(∀p∈fs,¬Rm p)->EnvIs K Rm H (VL.setAll is ls s) (Xo is vs σ)
 | [],_,_,_,_,_,h,_,_,_=>by unfold VL.setAll Xo;exact h
 | i::is,[],vs,fs,s,σ,h,_,hi,_=>by
  simp only[Iss] at hi;rw[hi.1];exact h
 | i::is,l::ls,vs,fs,s,σ,h,hl,hi,n=>by
  obtain⟨x,r,f1,f2,rfl,h1,h2,rfl⟩:=hi.inv
  show EnvIs K Rm H (VL.setAll is ls (s.set i (some l))) (Xo is r (σ.set i (some x)))
  exact EnvIs.setAll (h.set hl h1 fun p hp=>n p (List.mem_append_left _ hp)) (by rw[List.length_set,List.length_set];exact hl) h2 fun p hp=>n p (List.mem_append_right _ hp)
def Yn(n:Nat)(ix:List Nat)(s:ZY):ZY:=List.replicate n none++ix.map (fun i=>(s[i]?).join)
def WK(T:Tgt)(ft:XT)(fe:XE)(s0:ZY):List PV->Option (List PV)
 | []=>some []
 | l::r=>(Ur T l s0).bind fun s1=>(ft s1).bind fun c=>if c=true then(fe s1).bind fun y=>(WK T ft fe s0 r).map (y::·) else WK T ft fe s0 r
def Zu(n:Nat)(ix:List Nat)(fi:XL)(T:Tgt)(ft:XT)(fe:XE):XE:=fun s=>(fi s).bind fun ls=>if ls.length<=10000 then(WK T ft fe (Yn n ix s) ls).map .lst else none
def ZH:XT:=fun _=>some true
theorem join_some{α:Type}{o:Option (Option α)}{a:α}(h:o.join=some a):o=some (some a):=by
 cases o with
 | none=>cases h
 | some b=>cases b with
  | none=>cases h
  | some c=>cases h;rfl
theorem EnvIs.comp{Rm:Addr->Prop}{H:Hp}{s:ZY}{σ:S5}{n:Nat}{ix:List Nat}(h:EnvIs K Rm H s σ):EnvIs K Rm H (Yn n ix s) (YE n ix σ):=⟨fun i l e=>by
 unfold Yn at e;unfold YE
 by_cases hi:i<n
 ·rw[List.getElem?_append_left (by simpa using hi),List.getElem?_replicate,if_pos hi] at e
  cases e
 ·rw[List.getElem?_append_right (by simpa using hi),List.length_replicate,List.getElem?_map] at e
  rw[List.getElem?_append_right (by simpa using hi),List.length_replicate,List.getElem?_map]
  cases q:ix[i-n]? with
  | none=>rw[q] at e;cases e
  | some j=>
   rw[q] at e
   have e:=join_some (Option.some.inj e)
   obtain⟨v,fp,a,b,c⟩:=h.is j l e
   exact⟨v,fp,by show some ((σ[j]?).join)=_;rw[a];rfl,b,c⟩⟩
theorem NA(n:Nat)(ix:List Nat)(s:ZY)(σ:S5):(Yn n ix s).length=(YE n ix σ).length:=by unfold Yn YE;simp
theorem Qd{T:Tgt}{ft:XT}{fe:XE}{s0:ZY}{l:PV}{r ys:List PV}(h:WK T ft fe s0 (l::r)=some ys):∃s1 c,Ur T l s0=some s1/\ft s1=some c/\((c=true/\∃y zs,fe s1=some y/\WK T ft fe s0 r=some zs/\ys=y::zs)\/(c=false/\WK T ft fe s0 r=some ys)):=by
 unfold WK at h
 obtain⟨s1,e1,h⟩:=Zf h
 obtain⟨c,e2,h⟩:=Zf h
 refine⟨s1,c,e1,e2,?_⟩
 cases c with
 | true=>
  rw[if_pos rfl] at h
  obtain⟨y,e3,h⟩:=Zf h
  obtain⟨zs,e4,rfl⟩:=map_some h
  exact .inl ⟨rfl,y,zs,e3,e4,rfl⟩
 | false=>
  rw[if_neg Bool.false_ne_true] at h
  exact .inr ⟨rfl,h⟩
theorem Qe{α:Type}{l:List α}{i:Nat}{a:α}{r:List α}(h:l.drop i=a::r):l[i]?=some a/\l.drop (i+1)=r:=by
 constructor
 ·have:=congrArg (fun z=>z[0]?) h
  simpa [List.getElem?_drop] using this
 ·rw[<-List.drop_drop,h];rfl
section
variable {n:Nat} {ix:List Nat} {fi:XL} {T:Tgt} {ft:XT} {fe:XE}
theorem G6(hT:∀i∈T.slots,i<n):∀σ H Q,tF K (Zu n ix fi T ft fe) σ H Q->Pw n ix (iF K fi) (gT K T) (Mk K ft) (tF K fe) σ H Q:=fun σ H Q ⟨Rm,s,L,hd,env,e,k⟩=>by
 obtain⟨ls,e1,e⟩:=Zf e
 split at e
 case isFalse=>cases e
 rename_i hlen
 obtain⟨ys,e2,rfl⟩:=map_some e
 refine⟨Rm,s,ls,hd,env,e1,fun J H1 s1 jis=>?_⟩
 have hd1:∀p,Rm p->Vo (H1 p):=fun p hp=>Same.mut s1 (hd p hp)
 refine⟨fun i m vs Hc=>m=ls.length-i/\i<=ls.length/\Same H1 Hc/\∃dn Zx fp,ys=dn++Zx/\dn.length<=i/\WK T ft fe (Yn n ix s) (ls.drop i)=some Zx/\Iss K Hc dn vs fp/\∀p∈fp,¬Rm p,
  ⟨ls.length,by simp,Nat.zero_le _,Same.refl H1,[],ys,[],rfl,Nat.le_refl _,e2,Iss.nil,fun p hp=>by simp at hp⟩,?_⟩
 rintro i m vs Hc ⟨rfl,hi,sc,dn,Zx,fp,rfl,hdl,ec,iv,nv⟩
 refine⟨by rw[iv.len];exact Nat.le_of_lt (lt_size (by omega)),?_⟩
 cases q:ls.drop i with
 | nil=>
  have hil:i=ls.length:=by
   have:=congrArg List.length q
   rw[List.length_drop] at this
   simp at this;omega
  subst hil;rw[q] at ec;cases ec
  refine .inl ⟨jis.stop Hc (Same.ab sc),fun p hp=>k _ _ (p::fp) (s1.trans (sc.trans (Same.new hp _))) ?_ fun a ha z=>?_⟩
  ·rw[List.append_nil]
   exact Is.lst upd_same (iv.mono (Same.new hp _))
  ·rcases List.mem_cons.mp ha with rfl | ha
   ·exact XB (Same.mut (s1.trans sc) (hd a z)) hp
   ·exact nv a ha z
 | cons l r=>
  obtain⟨hl,hr⟩:=Qe q
  have hilt:i<ls.length:=(List.getElem?_eq_some_iff.mp hl).1
  rw[q] at ec
  obtain⟨sb,c,eb,et,alt⟩:=Qd ec
  refine .inr ⟨jis.go Hc i l (Same.ab sc) hl,fun vs' H'=>Same H1 H'/\∃dn' rest' fp',dn++Zx=dn'++rest'/\dn'.length<=i+1/\WK T ft fe (Yn n ix s) (ls.drop (i+1))=some rest'/\Iss K H' dn' vs' fp'/\∀p∈fp',¬Rm p,
   fun vs' H' h'=>⟨ls.length-(i+1),by omega,rfl,hilt,h'.1,h'.2⟩,fun x H2 y=>?_⟩
  obtain⟨s2,fx,ix',nx⟩:=jis.yld Hc i l x H2 (Same.ab sc) hl y
  have hd2:∀p,Rm p->Vo (H2 p):=fun p hp=>Same.mut (sc.trans s2) (hd1 p hp)
  obtain⟨bl,bv,bf,rfl,bi,_,bsub,buse⟩:=OE (K:=K) ix' eb
  have env2:EnvIs K Rm H2 (Yn n ix s) (YE n ix σ):=(env.mono (s1.trans (sc.trans s2))).comp
  have env3:=env2.setAll (is:=T.slots) (NA n ix s σ) bi fun p hp=>(nx p (bsub p hp)).2
  refine buse _ _ ⟨V2 hT,Rm,_,c,hd2,env3,et,fun H3 s3=>?_⟩
  have hd3:∀p,Rm p->Vo (H3 p):=fun p hp=>Same.mut s3 (hd2 p hp)
  rcases alt with⟨rfl,y',zs,ey,ez,rfl⟩ | ⟨rfl,ez⟩
  ·refine CI ?_
   refine⟨Rm,_,y',hd3,env3.mono s3,ey,fun v H4 f4 s4 i4 n4=>?_⟩
   refine⟨sc.trans (s2.trans (s3.trans s4)),dn++[y'],zs,fp++f4,by rw[List.append_assoc];rfl,by rw[List.length_append];simp;exact hdl,by rw[hr];exact ez,(iv.mono (s2.trans (s3.trans s4))).append (Iss.one i4),fun p hp=>?_⟩
   rcases List.mem_append.mp hp with h | h
   ·exact nv p h
   ·exact n4 p h
  ·refine CH ?_
   exact⟨sc.trans (s2.trans s3),dn,Zx,fp,rfl,Nat.le_succ_of_le hdl,by rw[hr];exact ez,iv.mono (s2.trans s3),nv⟩
theorem LN(hT:∀i∈T.slots,i<n):∀σ H Q,tM K (Zu n ix fi T ft fe) σ H Q->Pw n ix (iF K fi) (gT K T) (Mk K ft) (tM K fe) σ H Q:=fun σ H Q ⟨s,L,env,e,k⟩=>by
 obtain⟨ls,e1,e⟩:=Zf e
 split at e
 case isFalse=>cases e
 rename_i hlen
 obtain⟨ys,e2,rfl⟩:=map_some e
 have hd:∀(H:Hp) p,(fun _=>False:Addr->Prop) p->Vo (H p):=fun _ _ z=>z.elim
 refine⟨fun _=>False,s,ls,hd H,env,e1,fun J H1 s1 jis=>?_⟩
 refine⟨fun i m vs Hc=>m=ls.length-i/\i<=ls.length/\Same H1 Hc/\∃dn Zx fp,ys=dn++Zx/\dn.length<=i/\WK T ft fe (Yn n ix s) (ls.drop i)=some Zx/\Iss K Hc dn vs fp/\fp.Nodup/\∀p∈fp,H1 p=none/\Vo (Hc p),
  ⟨ls.length,by simp,Nat.zero_le _,Same.refl H1,[],ys,[],rfl,Nat.le_refl _,e2,Iss.nil,List.nodup_nil,fun p hp=>by simp at hp⟩,?_⟩
 rintro i m vs Hc ⟨rfl,hi,sc,dn,Zx,fp,rfl,hdl,ec,iv,dv,nv⟩
 refine⟨by rw[iv.len];exact Nat.le_of_lt (lt_size (by omega)),?_⟩
 cases q:ls.drop i with
 | nil=>
  have hil:i=ls.length:=by
   have:=congrArg List.length q
   rw[List.length_drop] at this
   simp at this;omega
  subst hil;rw[q] at ec;cases ec
  refine .inl ⟨jis.stop Hc (Same.ab sc),fun p hp=>k _ _ (p::fp) (s1.trans (sc.trans (Same.new hp _))) ?_ (List.nodup_cons.mpr ⟨fun z=>XB (nv p z).2 hp,dv⟩) fun a ha=>?_⟩
  ·rw[List.append_nil]
   exact Is.lst upd_same (iv.mono (Same.new hp _))
  ·rcases List.mem_cons.mp ha with rfl | ha
   ·exact⟨Same.off (s1.trans sc) hp,by rw[upd_same];exact True.intro⟩
   ·exact⟨Same.off s1 (nv a ha).1,Same.mut (Same.new hp _) (nv a ha).2⟩
 | cons l r=>
  obtain⟨hl,hr⟩:=Qe q
  have hilt:i<ls.length:=(List.getElem?_eq_some_iff.mp hl).1
  rw[q] at ec
  obtain⟨sb,c,eb,et,alt⟩:=Qd ec
  refine .inr ⟨jis.go Hc i l (Same.ab sc) hl,fun vs' H'=>Same H1 H'/\∃dn' rest' fp',dn++Zx=dn'++rest'/\dn'.length<=i+1/\WK T ft fe (Yn n ix s) (ls.drop (i+1))=some rest'/\Iss K H' dn' vs' fp'/\fp'.Nodup/\∀p∈fp',H1 p=none/\Vo (H' p),
   fun vs' H' h'=>⟨ls.length-(i+1),by omega,rfl,hilt,h'.1,h'.2⟩,fun x H2 y=>?_⟩
  obtain⟨s2,fx,ix',nx⟩:=jis.yld Hc i l x H2 (Same.ab sc) hl y
  obtain⟨bl,bv,bf,rfl,bi,_,bsub,buse⟩:=OE (K:=K) ix' eb
  have env2:EnvIs K (fun _=>False) H2 (Yn n ix s) (YE n ix σ):=(env.mono (s1.trans (sc.trans s2))).comp
  have env3:=env2.setAll (is:=T.slots) (NA n ix s σ) bi fun p hp=>(nx p (bsub p hp)).2
  refine buse _ _ ⟨V2 hT,fun _=>False,_,c,hd H2,env3,et,fun H3 s3=>?_⟩
  rcases alt with⟨rfl,y',zs,ey,ez,rfl⟩ | ⟨rfl,ez⟩
  ·refine CI ?_
   refine⟨_,y',env3.mono s3,ey,fun v H4 f4 s4 i4 d4 n4=>?_⟩
   refine⟨sc.trans (s2.trans (s3.trans s4)),dn++[y'],zs,fp++f4,by rw[List.append_assoc];rfl,by rw[List.length_append];simp;exact hdl,by rw[hr];exact ez,(iv.mono (s2.trans (s3.trans s4))).append (Iss.one i4),List.nodup_append.mpr ⟨dv,d4,fun a ha b hb z=>?_⟩,fun p hp=>?_⟩
   ·subst z
    exact XB (Same.mut (s2.trans s3) (nv a ha).2) (n4 a hb).1
   ·rcases List.mem_append.mp hp with h | h
    ·exact⟨(nv p h).1,Same.mut (s2.trans (s3.trans s4)) (nv p h).2⟩
    ·exact⟨Same.off (sc.trans (s2.trans s3)) (n4 p h).1,(n4 p h).2⟩
  ·refine CH ?_
   exact⟨sc.trans (s2.trans s3),dn,Zx,fp,rfl,Nat.le_succ_of_le hdl,by rw[hr];exact ez,iv.mono (s2.trans s3),dv,fun p hp=>⟨(nv p hp).1,Same.mut (s2.trans s3) (nv p hp).2⟩⟩
end
def CW(X:Cx)(ifs:List Expr)(f:XT):Prop:=J6 X ifs (Mk X.K f)
section
variable {X:Cx} {tg elt iter c:Expr} {ifs:List Expr} {scope:Scope} {pos:Pos} {fi:XL} {T:Tgt} {ft:XT} {fe:XE}
theorem YJ:CW X [] ZH:=fun pins s σ H Q I ⟨Rm,s',c,hd,env,e,k⟩=>by
 cases e
 exact GJ pins s σ H Q I (k H (Same.refl H))
theorem OF(h:VT X c ft):CW X [c] ft:=GK h
theorem Ww(own fr:List Str)(ix:List Nat)(hcalm:X.calm=true)(hi:VI X tg iter fi)(S:Te X.N X.env.scope scope own fr ix=true)
  (hg:∀cl C s H ex,PG (ZW X (own++fr) scope cl C s H ex) tg (gT X.K T)) (ht:∀cl C s H ex,CW (ZW X (own++fr) scope cl C s H ex) ifs ft) (he:∀cl C s H ex,VE (ZW X (own++fr) scope cl C s H ex) elt fe)
  (hT:∀i∈T.slots,i<own.length:=by decide) (hs:∀x,foldedSetIterable iter X.env x=pure x:=by intro _;rfl):VE X (.ListComp elt [⟨tg,iter,ifs,0⟩] scope pos) (Zu own.length ix fi T ft fe):=
 PE.imp (Nr own fr ix hcalm hi S hg (fun cl C s H ex=>(show J6 (ZW X (own++fr) scope cl C s H ex) ifs (Mk X.K ft) from ht cl C s H ex)) (fun cl C s H ex=>(show PE (ZW X (own++fr) scope cl C s H ex) elt (tF X.K fe) from he cl C s H ex)) hs) (G6 hT)
theorem T1(own fr:List Str)(ix:List Nat)(hcalm:X.calm=true)(hi:VI X tg iter fi)(S:Te X.N X.env.scope scope own fr ix=true)
  (hg:∀cl C s H ex,PG (ZW X (own++fr) scope cl C s H ex) tg (gT X.K T)) (ht:∀cl C s H ex,CW (ZW X (own++fr) scope cl C s H ex) ifs ft) (he:∀cl C s H ex,VM (ZW X (own++fr) scope cl C s H ex) elt fe)
  (hT:∀i∈T.slots,i<own.length:=by decide) (hs:∀x,foldedSetIterable iter X.env x=pure x:=by intro _;rfl):VM X (.ListComp elt [⟨tg,iter,ifs,0⟩] scope pos) (Zu own.length ix fi T ft fe):=
 PE.imp (Nr own fr ix hcalm hi S hg (fun cl C s H ex=>(show J6 (ZW X (own++fr) scope cl C s H ex) ifs (Mk X.K ft) from ht cl C s H ex)) (fun cl C s H ex=>(show PE (ZW X (own++fr) scope cl C s H ex) elt (tM X.K fe) from he cl C s H ex)) hs) (LN hT)
end
def Ro(xs:List PV)(lo hi:Option Int):List PV:=(xs.drop (HT.sIx xs.length 0 lo)).take (HT.sIx xs.length xs.length hi-HT.sIx xs.length 0 lo)
theorem Iss.cut{H:Hp}{l:List PV}{xs:List V}{fp:List Addr}(lo hi:Option Int)(h:Iss K H l xs fp):∃f1,Iss K H (Ro l lo hi) (KQ xs lo hi) f1/\∀p∈f1,p∈fp:=by
 unfold Ro KQ;rw[h.len]
 obtain⟨f1,a,b⟩:=h.drop (HT.sIx l.length 0 lo)
 obtain⟨f2,c,d⟩:=a.take (HT.sIx l.length l.length hi-HT.sIx l.length 0 lo)
 exact⟨f2,c,fun p hp=>b p (d p hp)⟩
abbrev XO:=ZY->Option (Option Int)
def B3(K:PySem.W.Frag)(f:XO):TO:=fun σ H Q=>∃(Rm:Addr->Prop) (s:ZY) (i:Option Int),(∀p,Rm p->Vo (H p))/\EnvIs K Rm H s σ/\f s=some i/\∀H',Same H H'->Q i H'
def VO(X:Cx)(e:Option Expr)(f:XO):Prop:=PO X e (B3 X.K f)
def B4:XO:=fun _=>some none
def CY(f:XE):XO:=fun s=>match f s with | some (.int i)=>some (some i) | _=>none
def Dw(x:PV)(lo hi:Option Int):Option PV:=match x with | .lst l=>some (.lst (Ro l lo hi)) | .cst l=>some (.lst (Ro l lo hi)) | _=>none
def BG(g:PV->Option Int->Option Int->Option PV)(a:XE)(lo hi:XO):XE:=fun s=>(a s).bind fun x=>(lo s).bind fun l=>(hi s).bind fun u=>g x l u
theorem Ja{l:List PV}(lo hi:Option Int)(h:ZJ l=true):ZJ (Ro l lo hi)=true:=by
 rw[WD,List.all_eq_true] at *
 intro x hx;unfold Ro at hx
 exact h x (List.mem_of_mem_drop (List.mem_of_mem_take hx))
section
variable {X:Cx} {e:Expr} {lo hi:Option Expr} {p2 pos:Pos} {fa:XE} {fl fh:XO}
theorem LO{e:Expr}(h:VE X e fa):VO X (some e) (CY fa):=fun pins s σ H Q I ⟨Rm,s',i,hd,env,e,k⟩=>by
 unfold CY at e
 split at e
 ·cases e
  rename_i j hj
  exact GA h pins s σ H Q I ⟨Rm,s',.int j,hd,env,hj,fun v H' fp sm i n=>⟨j,i.int_inv.1,k H' sm⟩⟩
 ·cases e
theorem Jb(ha:VE X e fa)(hl:VO X lo fl)(hh:VO X hi fh):VE X (.Subscript e (.Slice lo hi none p2) pos) (BG Dw fa fl fh):=PE.imp (J2 GD ha hl hh) fun σ H Q ⟨Rm,s,l,hd,env,e,k⟩=>by
 obtain⟨x,e1,e⟩:=Zf e
 obtain⟨a,e2,e⟩:=Zf e
 obtain⟨b,e3,e⟩:=Zf e
 refine⟨Rm,s,x,hd,env,e1,fun v H1 fp s1 i1 n1=>⟨Rm,s,a,fun p hp=>Same.mut s1 (hd p hp),env.mono s1,e2,fun H2 s2=>⟨Rm,s,b,fun p hp=>Same.mut (s1.trans s2) (hd p hp),env.mono (s1.trans s2),e3,fun H3 s3=>?_⟩⟩⟩
 cases x with
 | lst l=>
  cases e
  obtain⟨p,xs,fq,rfl,hp,hi,rfl⟩:=(i1.mono (s2.trans s3)).lst_inv
  obtain⟨f1,c,d⟩:=hi.cut a b
  refine⟨p,xs,rfl,SqL.of hp,fun q hq=>k _ _ (q::f1) (s1.trans (s2.trans (s3.trans (Same.new hq _)))) (Is.lst upd_same (c.mono (Same.new hq _))) fun r hr z=>?_⟩
  rcases List.mem_cons.mp hr with rfl | hr
  ·exact XB (Same.mut (s1.trans (s2.trans s3)) (hd r z)) hq
  ·exact n1 r (List.mem_cons_of_mem _ (d r hr)) z
 | cst l=>
  cases e
  obtain⟨p,xs,rfl,hp,hi⟩:=(i1.mono (s2.trans s3)).cst_inv
  obtain⟨f1,c,d⟩:=hi.cut a b
  refine⟨p,xs,rfl,hp.sq,fun q hq=>k _ _ (q::f1) (s1.trans (s2.trans (s3.trans (Same.new hq _)))) (Is.lst upd_same (c.mono (Same.new hq _))) fun r hr z=>?_⟩
  rcases List.mem_cons.mp hr with rfl | hr
  ·exact XB (Same.mut (s1.trans (s2.trans s3)) (hd r z)) hq
  ·exact n1 r (d r hr) z
 | _=>cases e
end
end VL
namespace VL
open PySem PySem.Spec PyProof.Rows L2
variable {K:PySem.W.Frag}
structure Rel(K:PySem.W.Frag)(O:List Nat)(H0:Hp)(fps:Nat->List Addr)(s:ZY)(σ:S5)(H:Hp):Prop where
 same:Same H0 H
 len:s.length=σ.length
 is:∀(i:Nat) l,s[i]?=some (some l)->∃v,σ[i]?=some (some v)/\Is K H l v (fps i)
 emp:∀(i:Nat),(∀l,s[i]?≠some (some l))->fps i=[]
 nd:∀i∈O,(fps i).Nodup
 own:∀i∈O,∀p∈fps i,H0 p=none/\Vo (H p)
 dis:∀i∈O,∀j,j≠i->∀p∈fps i,p∉fps j
def Ow(O:List Nat)(fps:Nat->List Addr)(p:Addr):Prop:=∃i∈O,p∈fps i
def ZE(O:List Nat)(s:ZY):ZY:=O.foldl (fun s i=>s.set i none) s
theorem Qf:∀{O:List Nat}{s:ZY}{i:Nat}{l:PV},(ZE O s)[i]?=some (some l)->i∉O/\s[i]?=some (some l)
 | [],s,i,l,h=>⟨by simp,h⟩
 | o::O,s,i,l,h=>by
  obtain⟨h1,h2⟩:=Qf (O:=O) (s:=s.set o none) h
  rw[List.getElem?_set] at h2
  by_cases e:o=i
  ·rw[if_pos e] at h2;split at h2<;>cases h2
  ·rw[if_neg e] at h2
   exact⟨by simp only[List.mem_cons,not_or];exact⟨fun z=>e z.symm,h1⟩,h2⟩
section
variable {O:List Nat} {H0 H H':Hp} {fps:Nat->List Addr} {s:ZY} {σ:S5}
theorem Rel.at(r:Rel K O H0 fps s σ H)(i:Nat){p:Addr}(hp:p∈fps i):∃l v,s[i]?=some (some l)/\σ[i]?=some (some v)/\Is K H l v (fps i):=by
 cases q:s[i]? with
 | none=>rw[r.emp i (fun l z=>by rw[q] at z;cases z)] at hp;simp at hp
 | some o=>cases o with
  | none=>rw[r.emp i (fun l z=>by rw[q] at z;cases z)] at hp;simp at hp
  | some l=>
   obtain⟨v,a,b⟩:=r.is i l q
   exact⟨l,v,rfl,a,b⟩
theorem Rel.dom(r:Rel K O H0 fps s σ H)(i:Nat):∀p∈fps i,H p≠none:=fun p hp=>by
 obtain⟨l,v,_,_,b⟩:=r.at i hp
 exact Is.dom _ _ _ b p hp
theorem Rel.env(r:Rel K O H0 fps s σ H):EnvIs K (fun _=>False) H s σ:=⟨fun i l e=>by
 obtain⟨v,a,b⟩:=r.is i l e
 exact⟨v,_,a,b,fun _ _ z=>z⟩⟩
theorem Rel.envO(r:Rel K O H0 fps s σ H):EnvIs K (Ow O fps) H (ZE O s) σ:=⟨fun i l e=>by
 obtain⟨n,e⟩:=Qf e
 obtain⟨v,a,b⟩:=r.is i l e
 exact⟨v,_,a,b,fun p hp ⟨j,hj,hpj⟩=>r.dis j hj i (fun z=>n (z▸hj)) p hpj hp⟩⟩
theorem Rel.owMut(r:Rel K O H0 fps s σ H):∀p,Ow O fps p->Vo (H p):=fun p ⟨i,hi,hp⟩=>(r.own i hi p hp).2
theorem Rel.grow(r:Rel K O H0 fps s σ H)(e:Same H H'):Rel K O H0 fps s σ H':=
 ⟨r.same.trans e,r.len,fun i l q=>by obtain⟨v,a,b⟩:=r.is i l q;exact⟨v,a,b.mono e⟩,r.emp,r.nd,fun i hi p hp=>⟨(r.own i hi p hp).1,Same.mut e (r.own i hi p hp).2⟩,r.dis⟩
theorem Rel.less{F:Hp}(r:Rel K O F fps s σ H)(e:Same H0 F):Rel K O H0 fps s σ H:=
 ⟨e.trans r.same,r.len,r.is,r.emp,r.nd,fun i hi p hp=>⟨Same.off e (r.own i hi p hp).1,(r.own i hi p hp).2⟩,r.dis⟩
open Classical in
noncomputable def Wi(H:Hp)(Rm:Addr->Prop):Hp:=fun b=>if Rm b then none else H b
theorem PJ{Rm:Addr->Prop}:Same (Wi H Rm) H:=fun b o h=>by
 unfold Wi at h
 split at h
 ·cases h
 ·exact h
theorem Rel.frame(r:Rel K O H0 fps s σ H):Rel K O (Wi H (Ow O fps)) fps s σ H:=
 ⟨PJ,r.len,r.is,r.emp,r.nd,fun i hi p hp=>⟨by unfold Wi;rw[if_pos ⟨i,hi,hp⟩],(r.own i hi p hp).2⟩,r.dis⟩
theorem Rel.under(r:Rel K O H0 fps s σ H):Same H0 (Wi H (Ow O fps)):=fun b o h=>by
 unfold Wi
 rw[if_neg (fun⟨i,hi,hp⟩=>by rw[(r.own i hi b hp).1] at h;cases h)]
 exact r.same b o h
open Classical in
noncomputable def Rq(fps:Nat->List Addr)(n:Nat)(i:Nat)(fp:List Addr):Nat->List Addr:=fun j=>if j=i/\i<n then fp else fps j
theorem YD{n i j:Nat}{fp:List Addr}(h:j≠i):Rq fps n i fp j=fps j:=by unfold Rq;rw[if_neg (fun z=>h z.1)]
theorem LP{n i:Nat}{fp:List Addr}(h:i<n):Rq fps n i fp i=fp:=by unfold Rq;rw[if_pos ⟨rfl,h⟩]
theorem Rel.set(r:Rel K O H0 fps s σ H){i:Nat}{l:PV}{v:V}{fp:List Addr}(hi:Is K H l v fp)(ho:i∈O->fp.Nodup/\∀p∈fp,H0 p=none/\Vo (H p))
  (hd:∀j,j≠i->(j∈O\/i∈O)->∀p∈fp,p∉fps j):Rel K O H0 (Rq fps s.length i fp) (s.set i (some l)) (σ.set i (some v)) H:=by
 by_cases hlt:i<s.length
 ·have e1:Rq fps s.length i fp i=fp:=LP hlt
  refine⟨r.same,by rw[List.length_set,List.length_set];exact r.len,fun j a e=>?_,fun j h=>?_,fun j hj=>?_,fun j hj p hp=>?_,fun j hj k hk p hp=>?_⟩
  ·rw[List.getElem?_set] at e
   by_cases hj:i=j
   ·subst hj
    rw[if_pos rfl,if_pos hlt] at e;cases e;rw[e1]
    exact⟨v,by rw[List.getElem?_set,if_pos rfl,if_pos (by rw[<-r.len];exact hlt)],hi⟩
   ·rw[if_neg hj] at e
    obtain⟨w,h1,h2⟩:=r.is j a e
    rw[YD (Ne.symm hj)]
    exact⟨w,by rw[List.getElem?_set,if_neg hj];exact h1,h2⟩
  ·by_cases hj:i=j
   ·subst hj
    exact absurd (by rw[List.getElem?_set,if_pos rfl,if_pos hlt]) (h l)
   ·rw[YD (Ne.symm hj)]
    exact r.emp j fun a z=>h a (by rw[List.getElem?_set,if_neg hj];exact z)
  ·by_cases e:j=i
   ·subst e;rw[e1];exact(ho hj).1
   ·rw[YD e];exact r.nd j hj
  ·by_cases e:j=i
   ·subst e;rw[e1] at hp;exact(ho hj).2 p hp
   ·rw[YD e] at hp;exact r.own j hj p hp
  ·by_cases e:j=i
   ·subst e
    rw[e1] at hp;rw[YD hk]
    exact hd k hk (.inr hj) p hp
   ·rw[YD e] at hp
    by_cases e2:k=i
    ·subst e2
     rw[e1]
     exact fun z=>hd j e (.inl hj) p z hp
    ·rw[YD e2];exact r.dis j hj k hk p hp
 ·have e1:s.set i (some l)=s:=List.set_eq_of_length_le (by omega)
  have e2:σ.set i (some v)=σ:=List.set_eq_of_length_le (by rw[<-r.len];omega)
  have e3:Rq fps s.length i fp=fps:=by funext j;unfold Rq;rw[if_neg (fun z=>hlt z.2)]
  rw[e1,e2,e3];exact r
theorem Rel.mutate(r:Rel K O H0 fps s σ H){i:Nat}(hi:i∈O){p:Addr}(hp:p∈fps i){o:HO}{l':PV}{v:V}{fp':List Addr}(hv:σ[i]?=some (some v))(hlt:i<s.length)
  (h':Is K (upd H p o) l' v fp') (nd:fp'.Nodup) (hm:∀q∈fp',H0 q=none/\Vo (upd H p o q)) (hd:∀j,j≠i->∀q∈fp',q∉fps j) (hmo:Vo (some o)):Rel K O H0 (Rq fps s.length i fp') (s.set i (some l')) σ (upd H p o):=by
 have mu:=(r.own i hi p hp).2
 have pn:H0 p=none:=(r.own i hi p hp).1
 have e1:Rq fps s.length i fp' i=fp':=LP hlt
 have tk:TK2 H (upd H p o):=⟨fun b xs h=>by
  rw[upd_ne (fun z=>by rw[z] at h;rw[h] at mu;exact mu)];exact h,fun b o xs h=>by
  rw[upd_ne (fun z=>by rw[z] at h;rw[h] at mu;exact mu)];exact h,fun b o x h=>by
  rw[upd_ne (fun z=>by rw[z] at h;rw[h] at mu;exact mu)];exact h⟩
 refine⟨fun b u h=>by rw[upd_ne (ZC h pn)];exact r.same b u h,by rw[List.length_set];exact r.len,fun j a e=>?_,fun j h=>?_,fun j hj=>?_,fun j hj q hq=>?_,fun j hj k hk q hq=>?_⟩
 ·rw[List.getElem?_set] at e
  by_cases hj:i=j
  ·subst hj
   rw[if_pos rfl,if_pos hlt] at e;cases e
   rw[e1];exact⟨v,hv,h'⟩
  ·rw[if_neg hj] at e
   obtain⟨w,h1,h2⟩:=r.is j a e
   rw[YD (Ne.symm hj)]
   refine⟨w,h1,Is.tr tk _ _ _ (fun q hq=>RdK.of fun u hu=>?_) h2⟩
   have ne:q≠p:=fun z=>r.dis i hi j (Ne.symm hj) p hp (z▸hq)
   rw[upd_ne ne];exact hu
 ·by_cases hj:i=j
  ·subst hj
   exact absurd (by rw[List.getElem?_set,if_pos rfl,if_pos hlt]) (h l')
  ·rw[YD (Ne.symm hj)]
   exact r.emp j fun a z=>h a (by rw[List.getElem?_set,if_neg hj];exact z)
 ·by_cases e:j=i
  ·subst e;rw[e1];exact nd
  ·rw[YD e];exact r.nd j hj
 ·by_cases e:j=i
  ·subst e;rw[e1] at hq;exact hm q hq
  ·rw[YD e] at hq
   refine⟨(r.own j hj q hq).1,?_⟩
   have ne:q≠p:=fun z=>r.dis j hj i (Ne.symm e) q hq (z▸hp)
   rw[upd_ne ne];exact(r.own j hj q hq).2
 ·by_cases e:j=i
  ·subst e
   rw[e1] at hq;rw[YD hk]
   exact hd k hk q hq
  ·rw[YD e] at hq
   by_cases e2:k=i
   ·subst e2
    rw[e1]
    exact fun z=>hd j e q z hq
   ·rw[YD e2];exact r.dis j hj k hk q hq
end
def Kep(a b:List Addr):Prop:=a=b\/a=[]
theorem Kep.refl(a:List Addr):Kep a a:=.inl rfl
theorem Kep.trans{a b c:List Addr}(h:Kep a b)(k:Kep b c):Kep a c:=by
 rcases h with rfl | h
 ·exact k
 ·exact .inr h
inductive Out where
 | nx (s:ZY) | rt (l:PV) | bk (s:ZY) | ct (s:ZY)
abbrev XS:=ZY->Option Out
def OutOk(K:PySem.W.Frag)(O W:List Nat)(H0:Hp)(fps:Nat->List Addr)(σ:S5)(D:Tx):Out->Prop
 | .nx s'=>∀fps' σ' H',Rel K O H0 fps' s' σ' H'->(∀j,j∉W->σ'[j]?=σ[j]?/\Kep (fps' j) (fps j))->D.nx σ' H'
 | .bk s'=>∀fps' σ' H',Rel K O H0 fps' s' σ' H'->(∀j,j∉W->σ'[j]?=σ[j]?/\Kep (fps' j) (fps j))->D.bk σ' H'
 | .ct s'=>∀fps' σ' H',Rel K O H0 fps' s' σ' H'->(∀j,j∉W->σ'[j]?=σ[j]?/\Kep (fps' j) (fps j))->D.ct σ' H'
 | .rt l=>∀v fp H',Same H0 H'->Is K H' l v fp->fp.Nodup->(∀p∈fp,H0 p=none/\Vo (H' p))->D.rt v H'
def H9(K:PySem.W.Frag)(O W:List Nat)(f:XS):TS:=fun D σ H=>∃H0 fps s out,Rel K O H0 fps s σ H/\f s=some out/\OutOk K O W H0 fps σ D out
def VS(X:Cx)(O W:List Nat)(st:Stmt)(f:XS):Prop:=PS X st (H9 X.K O W f)
def Ga(X:Cx)(O W:List Nat)(st:List Stmt)(f:XS):Prop:=PSs X st (H9 X.K O W f)
theorem OutOk.same{O W W':List Nat}{H0:Hp}{fps fps1:Nat->List Addr}{σ σ1:S5}{D:Tx}{out:Out}(h:OutOk K O W' H0 fps σ D out)(k:∀j,j∉W'->σ1[j]?=σ[j]?/\Kep (fps1 j) (fps j))(hs:∀j,j∉W'->j∉W):OutOk K O W H0 fps1 σ1 D out:=by
 cases out with
 | nx s'=>exact fun fps' σ' H' r q=>h fps' σ' H' r fun j hj=>⟨(q j (hs j hj)).1.trans (k j hj).1,(q j (hs j hj)).2.trans (k j hj).2⟩
 | bk s'=>exact fun fps' σ' H' r q=>h fps' σ' H' r fun j hj=>⟨(q j (hs j hj)).1.trans (k j hj).1,(q j (hs j hj)).2.trans (k j hj).2⟩
 | ct s'=>exact fun fps' σ' H' r q=>h fps' σ' H' r fun j hj=>⟨(q j (hs j hj)).1.trans (k j hj).1,(q j (hs j hj)).2.trans (k j hj).2⟩
 | rt l=>exact h
theorem OutOk.less{O W:List Nat}{H0 F:Hp}{fps:Nat->List Addr}{σ:S5}{D:Tx}{out:Out}(h:OutOk K O W H0 fps σ D out)(e:Same H0 F):OutOk K O W F fps σ D out:=by
 cases out with
 | nx s'=>exact fun fps' σ' H' r q=>h fps' σ' H' (r.less e) q
 | bk s'=>exact fun fps' σ' H' r q=>h fps' σ' H' (r.less e) q
 | ct s'=>exact fun fps' σ' H' r q=>h fps' σ' H' (r.less e) q
 | rt l=>exact fun v fp H' sm i d n=>h v fp H' (e.trans sm) i d fun p hp=>⟨Same.off e (n p hp).1,(n p hp).2⟩
def ZO:XS:=fun s=>some (.nx s)
def Zj(f g:XS):XS:=fun s=>(f s).bind fun o=>match o with | .nx s'=>g s' | r=>some r
def WU(c:XT)(f g:XS):XS:=fun s=>(c s).bind fun k=>if k=true then f s else g s
def Z4(f:XE):XS:=fun s=>(f s).map .rt
def Zk(i:Nat)(f:XE):XS:=fun s=>(f s).map fun l=>.nx (s.set i (some l))
section
variable {X:Cx} {O W W1 W2:List Nat} {st:Stmt} {Zx:List Stmt} {f g:XS} {pos:Pos}
theorem PS.imp{t t':TS}(h:PS X st t)(i:∀D σ H,t' D σ H->t D σ H):PS X st t':=fun pins s σ H D I q=>h pins s σ H D I (i D σ H q)
theorem PSs.imp{t t':TS}(h:PSs X Zx t)(i:∀D σ H,t' D σ H->t D σ H):PSs X Zx t':=fun pins s σ H D I q=>h pins s σ H D I (i D σ H q)
theorem Iu:∀D σ H,H9 K O W ZO D σ H->F4 D σ H:=fun D σ H ⟨H0,fps,s,out,r,e,k⟩=>by
 cases e
 exact k fps σ H r fun j _=>⟨rfl,Kep.refl _⟩
theorem Yo:Ga X O [] [] ZO:=PSs.imp Gm Iu
theorem Zl(h:VS X O W st f):Ga X O W [st] f:=Gn h
theorem Zh(h1:VS X O W1 st f)(h2:Ga X O W2 Zx g):Ga X O (W1++W2) (st::Zx) (Zj f g):=PSs.imp (JU h1 h2) fun D σ H ⟨H0,fps,s,out,r,e,k⟩=>by
 obtain⟨o1,e1,e⟩:=Zf e
 have sub1:∀j,j∉W1++W2->j∉W1:=fun j hj z=>hj (List.mem_append_left _ z)
 have sub2:∀j,j∉W1++W2->j∉W2:=fun j hj z=>hj (List.mem_append_right _ z)
 refine⟨H0,fps,s,o1,r,e1,?_⟩
 cases o1 with
 | nx s1=>
  intro fps1 σ1 H1 r1 q1
  exact⟨H0,fps1,s1,out,r1,e,k.same (fun j hj=>q1 j (sub1 j hj)) sub2⟩
 | bk s1=>cases e;exact fun fps' σ' H' r' q'=>k fps' σ' H' r' fun j hj=>q' j (sub1 j hj)
 | ct s1=>cases e;exact fun fps' σ' H' r' q'=>k fps' σ' H' r' fun j hj=>q' j (sub1 j hj)
 | rt l=>cases e;exact k
theorem XU{c:Expr}{a b:List Stmt}{fc:XT}(hc:VT X c fc)(ha:Ga X O W1 a f)(hb:Ga X O W2 b g):VS X O (W1++W2) (.If c a b pos) (WU fc f g):=PS.imp (Ce hc ha hb) fun D σ H ⟨H0,fps,s,out,r,e,k⟩=>by
 obtain⟨c,e1,e⟩:=Zf e
 have sub1:∀j,j∉W1++W2->j∉W1:=fun j hj z=>hj (List.mem_append_left _ z)
 have sub2:∀j,j∉W1++W2->j∉W2:=fun j hj z=>hj (List.mem_append_right _ z)
 refine⟨fun _=>False,s,c,fun _ z=>z.elim,r.env,e1,fun H1 s1=>?_⟩
 cases c with
 | true=>
  rw[if_pos rfl] at e ⊢
  exact⟨H0,fps,s,out,r.grow s1,e,k.same (fun j _=>⟨rfl,Kep.refl _⟩) sub1⟩
 | false=>
  rw[if_neg Bool.false_ne_true] at e ⊢
  exact⟨H0,fps,s,out,r.grow s1,e,k.same (fun j _=>⟨rfl,Kep.refl _⟩) sub2⟩
theorem Z1{e:Expr}{fe:XE}(he:VM X e fe):VS X O [] (.Return (some e) pos) (Z4 fe):=PS.imp (Od he) fun D σ H ⟨H0,fps,s,out,r,e,k⟩=>by
 obtain⟨l,e1,rfl⟩:=map_some e
 exact⟨s,l,r.env,e1,fun v H' fp sm i d n=>k v fp H' (r.same.trans sm) i d fun p hp=>⟨Same.off r.same (n p hp).1,(n p hp).2⟩⟩
theorem T2{e:Expr}{i:Nat}(he:PE X e (Tz i))(hi:i∈O:=by decide):VS X O [] (.Return (some e) pos) (Z4 (Za i)):=PS.imp (Od he) fun D σ H ⟨H0,fps,s,out,r,e,k⟩=>by
 obtain⟨l,e1,rfl⟩:=map_some e
 obtain⟨v,a,b⟩:=r.is i l (SD e1)
 exact⟨v,a,k v _ H r.same b (r.nd i hi) (r.own i hi)⟩
theorem LQ{t:TE}{i:Nat}{fe:XE}(ht:∀σ H Q,tM K fe σ H Q->t σ H Q):∀D σ H,H9 K O [i] (Zk i fe) D σ H->Mn t (S2 i) D σ H:=fun D σ H ⟨H0,fps,s,out,r,e,k⟩=>by
 obtain⟨l,e1,rfl⟩:=map_some e
 refine ht σ H _ ⟨s,l,r.env,e1,fun v H' fp sm is d n=>?_⟩
 refine k _ _ H' ((r.grow sm).set (i:=i) is (fun _=>⟨d,fun p hp=>⟨Same.off r.same (n p hp).1,(n p hp).2⟩⟩) fun j _ _ p hp z=>r.dom j p z (n p hp).1) fun j hj=>?_
 have:j≠i:=by simpa using hj
 exact⟨by rw[List.getElem?_set,if_neg (Ne.symm this)],.inl (YD this)⟩
theorem Zw{i:Nat}{x:Str}{e:Expr}{fe:XE}{pos':Pos}(hN:X.N.Nodup)(hi:X.N[i]?=some x)(hx:D7 X.env.scope x)(he:VM X e fe)(hs:swapsWith e (some (.Name x pos')) pos.line X.env=pure false:=by rfl)(hf:X.fn x=true\/X.env.scope.names.lookup x=some .local:=by first | exact .inl rfl | exact .inr rfl | assumption) :
  VS X O [i] (.Assign [.Name x pos'] e pos) (Zk i fe):=PS.imp (EM hN hi hx he hs hf) (LQ fun _ _ _ h=>h)
end
def Xc(T:Tgt)(fb:XS):List PV->ZY->Option Out
 | [],s=>some (.nx s)
 | l::r,s=>(Ur T l s).bind fun s1=>(fb s1).bind fun o=>match o with | .nx s2=>Xc T fb r s2 | .ct s2=>Xc T fb r s2 | .bk s2=>some (.nx s2) | .rt v=>some (.rt v)
def Z0(O:List Nat)(fi:XL)(T:Tgt)(fb:XS):XS:=fun s=>(fi (ZE O s)).bind fun ls=>Xc T fb ls s
theorem Rel.setAll{O:List Nat}{H0 H:Hp}:∀{is:List Nat}{ls:List PV}{vs:List V}{fs:List Addr}{fps:Nat->List Addr}{s:ZY}{σ:S5},Rel K O H0 fps s σ H->Iss K H ls vs fs->ls.length=is.length->(∀i∈is,i∉O)->(∀i∈O,∀p∈fps i,p∉fs)->
  ∃fps',Rel K O H0 fps' (VL.setAll is ls s) (Xo is vs σ) H/\∀j,j∉is->(Xo is vs σ)[j]?=σ[j]?/\Kep (fps' j) (fps j)
 | [],ls,vs,fs,fps,s,σ,r,_,_,_,_=>⟨fps,by unfold VL.setAll Xo;exact r,fun j _=>⟨by unfold Xo;rfl,Kep.refl _⟩⟩
 | i::is,[],vs,fs,fps,s,σ,r,_,hl,_,_=>by simp at hl
 | i::is,l::ls,vs,fs,fps,s,σ,r,hi,hl,hO,hd=>by
  obtain⟨x,rr,f1,f2,rfl,h1,h2,rfl⟩:=hi.inv
  have hiO:=hO i List.mem_cons_self
  have r1:=r.set (i:=i) h1 (fun z=>absurd z hiO) fun j hj hjo p hp z=>by
   rcases hjo with hjo | hjo
   ·exact hd j hjo p z (List.mem_append_left _ hp)
   ·exact absurd hjo hiO
  obtain⟨fps',r2,q2⟩:=Rel.setAll (is:=is) r1 h2 (by simpa using hl) (fun j hj=>hO j (List.mem_cons_of_mem _ hj)) fun j hj p hp z=>by
   have hji:j≠i:=fun e=>hiO (by rw[<-e];exact hj)
   rw[YD hji] at hp
   exact hd j hj p hp (List.mem_append_right _ z)
  refine⟨fps',r2,fun j hj=>?_⟩
  have hji:j≠i:=fun e=>hj (e▸List.mem_cons_self)
  obtain⟨a,b⟩:=q2 j (fun z=>hj (List.mem_cons_of_mem _ z))
  exact⟨a.trans (by rw[List.getElem?_set,if_neg (Ne.symm hji)]),b.trans (.inl (YD hji))⟩
section
variable {O W:List Nat} {T:Tgt} {fb:XS}
theorem Qg{H1:Hp}{fps:Nat->List Addr}{s:ZY}{σ:S5}{D:Tx}{J:It}{ls:List PV}{out:Out}(r:Rel K O (Wi H1 (Ow O fps)) fps s σ H1)(jis:Bh K (Ow O fps) H1 J ls)(e:Xc T fb ls s=some out)(hT:∀i∈T.slots,i∉O)
  (k:OutOk K O (T.slots++W) (Wi H1 (Ow O fps)) fps σ D out):Di (gT K T) (H9 K O W fb) D σ J H1:=by
 have subT:∀j,j∉T.slots++W->j∉T.slots:=fun j hj z=>hj (List.mem_append_left _ z)
 have subW:∀j,j∉T.slots++W->j∉W:=fun j hj z=>hj (List.mem_append_right _ z)
 refine⟨fun i m σ' H'=>m=ls.length-i/\i<=ls.length/\∃fps' s',Rel K O (Wi H1 (Ow O fps)) fps' s' σ' H'/\Xc T fb (ls.drop i) s'=some out/\∀j,j∉T.slots++W->σ'[j]?=σ[j]?/\Kep (fps' j) (fps j),
  ⟨ls.length,by simp,Nat.zero_le _,fps,s,r,e,fun j _=>⟨rfl,Kep.refl _⟩⟩,?_⟩
 rintro i m σ' H' ⟨rfl,hi,fps',s',r',e',q'⟩
 have ab:Ab (Ow O fps) H1 H':=fun b o h n=>r'.same b o (by unfold Wi;rw[if_neg n];exact h)
 cases q:ls.drop i with
 | nil=>
  have hil:i=ls.length:=by
   have:=congrArg List.length q
   rw[List.length_drop] at this
   simp at this;omega
  subst hil
  rw[q] at e'
  cases e'
  exact .inl ⟨jis.stop H' ab,k fps' σ' H' r' q'⟩
 | cons l rr=>
  obtain⟨hl,hr⟩:=Qe q
  have hilt:i<ls.length:=(List.getElem?_eq_some_iff.mp hl).1
  rw[q] at e'
  unfold Xc at e'
  obtain⟨sb,eb,e'⟩:=Zf e'
  obtain⟨o,eo,e'⟩:=Zf e'
  refine .inr ⟨jis.go H' i l ab hl,fun σ2 H2=>∃fps2 s2,Rel K O (Wi H1 (Ow O fps)) fps2 s2 σ2 H2/\Xc T fb (ls.drop (i+1)) s2=some out/\∀j,j∉T.slots++W->σ2[j]?=σ[j]?/\Kep (fps2 j) (fps j),
   fun σ2 H2 h2=>⟨ls.length-(i+1),by omega,rfl,hilt,h2⟩,fun x H2 y=>?_⟩
  obtain⟨s2,fx,ix,nx⟩:=jis.yld H' i l x H2 ab hl y
  obtain⟨bl,bv,bf,rfl,bi,blen,bsub,buse⟩:=OE (K:=K) ix eb
  obtain⟨fps3,r3,q3⟩:=Rel.setAll (is:=T.slots) (r'.grow s2) bi blen hT fun j hj p hp z=>by
   obtain⟨n1,n2⟩:=nx p (bsub p z)
   have:=(r'.own j hj p hp).1
   unfold Wi at this;rw[if_neg n2] at this
   exact n1 this
  refine buse _ _ ⟨_,fps3,_,o,r3,eo,?_⟩
  have keep:∀j,j∉T.slots++W->(Xo T.slots bv σ')[j]?=σ[j]?/\Kep (fps3 j) (fps j):=fun j hj=>⟨(q3 j (subT j hj)).1.trans (q' j hj).1,(q3 j (subT j hj)).2.trans (q' j hj).2⟩
  cases o with
  | nx s4=>exact fun fps4 σ4 H4 r4 q4=>⟨fps4,s4,r4,by rw[hr];exact e',fun j hj=>⟨(q4 j (subW j hj)).1.trans (keep j hj).1,(q4 j (subW j hj)).2.trans (keep j hj).2⟩⟩
  | ct s4=>exact fun fps4 σ4 H4 r4 q4=>⟨fps4,s4,r4,by rw[hr];exact e',fun j hj=>⟨(q4 j (subW j hj)).1.trans (keep j hj).1,(q4 j (subW j hj)).2.trans (keep j hj).2⟩⟩
  | bk s4=>
   cases e'
   exact fun fps4 σ4 H4 r4 q4=>k fps4 σ4 H4 r4 fun j hj=>⟨(q4 j (subW j hj)).1.trans (keep j hj).1,(q4 j (subW j hj)).2.trans (keep j hj).2⟩
  | rt v=>
   cases e'
   exact k
end
section
variable {X:Cx} {O W:List Nat} {tg iter:Expr} {body:List Stmt} {fi:XL} {T:Tgt} {fb:XS} {pos:Pos}
theorem YV(hp:PassesOwn (model X.prog X.w) X.A X.env X.xe)(hc:X.calm=true)(hi:VI X tg iter fi)(hg:PG X tg (gT X.K T))(hb:Ga X O W body fb)(hT:∀i∈T.slots,i∉O:=by decide)
  (hs:∀x,foldedSetIterable iter X.env x=pure x:=by intro _;rfl):VS X O (T.slots++W) (.For tg iter body [] pos) (Z0 O fi T fb):=PS.imp (Of hp hc hi hg hb hs) fun D σ H ⟨H0,fps,s,out,r,e,k⟩=>by
 obtain⟨ls,e1,e⟩:=Zf e
 refine⟨Ow O fps,ZE O s,ls,r.owMut,r.envO,e1,fun J H1 s1 jis=>?_⟩
 exact Qg (r.grow s1).frame jis e hT (k.less (r.grow s1).under)
end
end VL
namespace VL
open PySem PySem.Spec PyProof.Rows L2
variable {K:PySem.W.Frag}
section
variable {O:List Nat} {H0 H H':Hp} {fps:Nat->List Addr} {s:ZY} {σ:S5}
theorem Rel.lst_at(r:Rel K O H0 fps s σ H){i:Nat}(hi:i∈O){m:List PV}(e:s[i]?=some (some (.lst m))):∃p xs fq,σ[i]?=some (some (.ref p))/\H p=some (.lst xs)/\Iss K H m xs fq/\fps i=p::fq:=by
 obtain⟨v,a,b⟩:=r.is i _ e
 obtain⟨p,xs,fq,rfl,hp,hm,ef⟩:=b.lst_inv
 exact⟨p,xs,fq,a,hp,hm,ef⟩
theorem Rel.dT_at(r:Rel K O H0 fps s σ H){i:Nat}(hi:i∈O){ks:List (List YH)}{m:List PV}(e:s[i]?=some (some (.dT ks m))):∃p kvs fq,σ[i]?=some (some (.ref p))/\H p=some (.dT kvs)/\kvs.map (·.1)=ks/\Iss K H m (kvs.map (·.2)) fq/\fps i=p::fq:=by
 obtain⟨v,a,b⟩:=r.is i _ e
 obtain⟨p,xs,fq,rfl,hp,hk,hm,ef⟩:=b.dT_inv
 refine⟨p,xs,fq,a,?_,hk,hm,ef⟩
 have mu:=(r.own i hi p (by rw[ef];exact List.mem_cons_self)).2
 rcases hp with hp | ⟨o,hp⟩
 ·exact hp
 ·rw[hp] at mu;exact mu.elim
theorem Rel.dK_at(r:Rel K O H0 fps s σ H){i:Nat}(hi:i∈O){ks:List YH}{m:List PV}(e:s[i]?=some (some (.dK ks m))):∃p kvs fq,σ[i]?=some (some (.ref p))/\H p=some (.dK kvs)/\kvs.map (·.1)=ks/\Iss K H m (kvs.map (·.2)) fq/\fps i=p::fq:=by
 obtain⟨v,a,b⟩:=r.is i _ e
 obtain⟨p,xs,fq,rfl,hp,hk,hm,ef⟩:=b.dK_inv
 refine⟨p,xs,fq,a,?_,hk,hm,ef⟩
 have mu:=(r.own i hi p (by rw[ef];exact List.mem_cons_self)).2
 rcases hp with hp | ⟨o,hp⟩
 ·exact hp
 ·rw[hp] at mu;exact mu.elim
theorem UM{α:Type}{l:List α}{i:Nat}{a:α}(h:l[i]?=some a):i<l.length:=(List.getElem?_eq_some_iff.mp h).1
theorem TK.upd'{p:Addr}{o:HO}(mu:Vo (H p)):TK2 H (L2.upd H p o):=⟨fun b xs h=>by
 rw[upd_ne (fun z=>by rw[z] at h;rw[h] at mu;exact mu)];exact h,fun b o xs h=>by
 rw[upd_ne (fun z=>by rw[z] at h;rw[h] at mu;exact mu)];exact h,fun b o x h=>by
 rw[upd_ne (fun z=>by rw[z] at h;rw[h] at mu;exact mu)];exact h⟩
theorem RdK.upd_ne{p q:Addr}{o:HO}(ne:q≠p):RdK H (L2.upd H p o) q:=RdK.of fun u hu=>by rw[L2.upd_ne ne];exact hu
theorem Rel.relist(r:Rel K O H0 fps s σ H){i:Nat}(hi:i∈O){m m':List PV}(e:s[i]?=some (some (.lst m))){p:Addr}{fq fq':List Addr}{xs':List V}(ef:fps i=p::fq)(hv:σ[i]?=some (some (.ref p)))
  (h':Iss K H m' xs' fq') (nd:(p::fq').Nodup) (hf:∀q∈fq',q∈fq\/((H0 q=none/\Vo (H q))/\∀j,q∉fps j)):Rel K O H0 (Rq fps s.length i (p::fq')) (s.set i (some (.lst m'))) σ (L2.upd H p (.lst xs')):=by
 have hp:p∈fps i:=by rw[ef];exact List.mem_cons_self
 have mu:=(r.own i hi p hp).2
 have np:p∉fq':=(List.nodup_cons.mp nd).1
 refine r.mutate hi hp hv (UM e) (Is.lst upd_same (Iss.tr (TK.upd' mu) _ _ _ (fun q hq=>RdK.upd_ne fun z=>np (z▸hq)) h')) nd (fun q hq=>?_) (fun j hj q hq z=>?_) True.intro
 ·rcases List.mem_cons.mp hq with rfl | hq
  ·exact⟨(r.own i hi q hp).1,by rw[upd_same];exact True.intro⟩
  ·have ne:q≠p:=fun z=>np (z▸hq)
   rw[L2.upd_ne ne]
   rcases hf q hq with h | h
   ·exact r.own i hi q (by rw[ef];exact List.mem_cons_of_mem _ h)
   ·exact h.1
 ·rcases List.mem_cons.mp hq with rfl | hq
  ·exact r.dis i hi j hj q hp z
  ·rcases hf q hq with h | h
   ·exact r.dis i hi j hj q (by rw[ef];exact List.mem_cons_of_mem _ h) z
   ·exact h.2 j z
end
def Gb(s:ZY)(i:Nat):Option (List PV):=match s[i]? with | some (some (.lst m))=>some m | _=>none
def JP:PV->Option Int
 | .int k=>some k
 | _=>none
def CZ:PV->Option (List PV)
 | .lst k=>some k
 | _=>none
theorem T3{s:ZY}{i:Nat}{m:List PV}(h:Gb s i=some m):s[i]?=some (some (.lst m)):=by
 unfold Gb at h;split at h
 ·cases h;assumption
 ·cases h
theorem T4{a:PV}{k:Int}(h:JP a=some k):a = .int k:=by
 unfold JP at h;split at h
 ·cases h;rfl
 ·cases h
theorem NB{a:PV}{k:List PV}(h:CZ a=some k):a = .lst k:=by
 unfold CZ at h;split at h
 ·cases h;rfl
 ·cases h
def gd(c:Bool):Option Unit:=if c=true then some () else none
theorem UN{c:Bool}{u:Unit}(h:gd c=some u):c=true:=by
 unfold gd at h;split at h
 ·assumption
 ·cases h
def Y4(i:Nat)(f:XE):XS:=fun s=>(f s).bind fun l=>(Gb s i).bind fun m=>(gd (decide (m.length<=10000))).bind fun _=>some (.nx (s.set i (some (.lst (m++[l])))))
def Wx(i:Nat)(f:XE):XS:=fun s=>(f s).bind fun l=>(CZ l).bind fun n=>(Gb s i).bind fun m=>(gd (decide (m.length+n.length<=10000))).bind fun _=>some (.nx (s.set i (some (.lst (m++n)))))
def UO(i:Nat)(fk:XE)(f:XE):XS:=fun s=>(fk s).bind fun k=>(f s).bind fun l=>(JP k).bind fun k=>(Gb s i).bind fun m=>(gd (ZJ m&&ZN l&&decide (0<=k/\k<=1000000/\m.length<=10000))).bind fun _=>some (.nx (s.set i (some (.lst (m.take k.toNat++l::m.drop k.toNat)))))
section
variable {X:Cx} {O:List Nat} {i:Nat} {st:Stmt} {f fk:XE}
theorem BH{H:Hp}{p:Addr}{xs:List V}(h:H p=some (.lst xs)):BA K "list" (.ref p) H:=.inl ⟨rfl,_,SqL.of h⟩
theorem PK{s:ZY}{σ:S5}{fps:Nat->List Addr}{fp:List Addr}:∀j,j∉[i]->σ[j]?=σ[j]?/\Kep (Rq fps s.length i fp j) (fps j):=fun j hj=>⟨rfl,.inl (YD (by simpa using hj))⟩
theorem Vv(h:PS X st (Lp (Bb X.K "list" Lu (Tz i) (TH (tM X.K f) KO))))(hi:i∈O:=by decide):VS X O [i] st (Y4 i f):=PS.imp h fun D σ H ⟨H0,fps,s,out,r,e,k⟩=>by
 obtain⟨l,e1,e⟩:=Zf e
 obtain⟨m,em,e⟩:=Zf e
 obtain⟨_,eg,e⟩:=Zf e
 have em:=T3 em
 have hlen:=of_decide_eq_true (UN eg)
 cases e
 obtain⟨p,xs,fq,hv,hp,hm,ef⟩:=r.lst_at hi em
 refine⟨.ref p,hv,BH hp,s,l,r.env,e1,fun y H2 fe s2 i2 d2 n2=>?_⟩
 refine⟨p,xs,y,rfl,rfl,s2 _ _ hp,by rw[hm.len];exact lt_size (by omega),?_⟩
 have r2:=r.grow s2
 have fr:∀q∈fe,∀j,q∉fps j:=fun q hq j z=>r.dom j q z (n2 q hq).1
 refine k _ _ _ (r2.relist hi em ef hv ((hm.mono s2).append (Iss.one i2)) ?_ fun q hq=>?_) PK
 ·have nd:=r.nd i hi
  rw[ef] at nd;rw[<-List.cons_append]
  exact List.nodup_append.mpr ⟨nd,d2,fun a ha b hb z=>fr b hb i (by rw[ef,<-z];exact ha)⟩
 ·rcases List.mem_append.mp hq with h | h
  ·exact .inl h
  ·exact .inr ⟨⟨Same.off r.same (n2 q h).1,(n2 q h).2⟩,fr q h⟩
theorem PL(h:PS X st (Lp (Bb X.K "list" Lv (Tz i) (TH (tM X.K f) KO))))(hi:i∈O:=by decide):VS X O [i] st (Wx i f):=PS.imp h fun D σ H ⟨H0,fps,s,out,r,e,k⟩=>by
 obtain⟨l,e1,e⟩:=Zf e
 obtain⟨n,en,e⟩:=Zf e
 obtain⟨m,em,e⟩:=Zf e
 obtain⟨_,eg,e⟩:=Zf e
 rw[NB en] at e1;have em:=T3 em
 have hlen:=of_decide_eq_true (UN eg)
 cases e
 obtain⟨p,xs,fq,hv,hp,hm,ef⟩:=r.lst_at hi em
 refine⟨.ref p,hv,BH hp,s,_,r.env,e1,fun y H2 fe s2 i2 d2 n2=>?_⟩
 obtain⟨b,zs,fb,rfl,hb,hz,rfl⟩:=i2.lst_inv
 have hb':H2 b=some (.lst zs):=hb
 refine⟨p,b,xs,zs,rfl,rfl,s2 _ _ hp,hb',by rw[hm.len,hz.len];exact Nat.le_of_lt (lt_size (by omega)),?_⟩
 have r2:=r.grow s2
 have fr:∀q∈fb,∀j,q∉fps j:=fun q hq j z=>r.dom j q z (n2 q (List.mem_cons_of_mem _ hq)).1
 refine k _ _ _ (r2.relist hi em ef hv ((hm.mono s2).append hz) ?_ fun q hq=>?_) PK
 ·have nd:=r.nd i hi
  rw[ef] at nd;rw[<-List.cons_append]
  exact List.nodup_append.mpr ⟨nd,(List.nodup_cons.mp d2).2,fun a ha b hb z=>fr b hb i (by rw[ef,<-z];exact ha)⟩
 ·rcases List.mem_append.mp hq with h | h
  ·exact .inl h
  ·exact .inr ⟨⟨Same.off r.same (n2 q (List.mem_cons_of_mem _ h)).1,(n2 q (List.mem_cons_of_mem _ h)).2⟩,fr q h⟩
theorem Iss.pureEq{H:Hp}{l:List PV}{xs:List V}{fp:List Addr}(h:Iss K H l xs fp)(hp:ZJ l=true):Iss K H l xs []:=by
 have:=Iss.pure _ _ _ hp h
 subst this;exact h
theorem ME{l:List PV}(n:Nat)(h:ZJ l=true):ZJ (l.take n)=true:=by
 rw[WD,List.all_eq_true] at *
 exact fun x hx=>h x (List.mem_of_mem_take hx)
theorem MF{l:List PV}(n:Nat)(h:ZJ l=true):ZJ (l.drop n)=true:=by
 rw[WD,List.all_eq_true] at *
 exact fun x hx=>h x (List.mem_of_mem_drop hx)
theorem Jc(h:PS X st (Lp (Bb X.K "list" LB (Tz i) (TH (tF X.K fk) (TH (tF X.K f) KO)))))(hi:i∈O:=by decide):VS X O [i] st (UO i fk f):=PS.imp h fun D σ H ⟨H0,fps,s,out,r,e,k⟩=>by
 obtain⟨kk,e0,e⟩:=Zf e
 obtain⟨l,e1,e⟩:=Zf e
 obtain⟨ki,ek,e⟩:=Zf e
 obtain⟨m,em,e⟩:=Zf e
 obtain⟨_,eg,e⟩:=Zf e
 rw[T4 ek] at e0;have em:=T3 em;have hc:=UN eg;simp only[Bool.and_eq_true,decide_eq_true_eq] at hc
 obtain⟨⟨pm,pl⟩,k0,k1,hlen⟩:=hc
 cases e
 obtain⟨p,xs,fq,hv,hp,hm,ef⟩:=r.lst_at hi em
 refine⟨.ref p,hv,BH hp,fun _=>False,s,_,fun _ z=>z.elim,r.env,e0,fun z H1 fz s1 i1 _=>⟨fun _=>False,s,l,fun _ z=>z.elim,r.env.mono s1,e1,fun y H2 fe s2 i2 _=>?_⟩⟩
 have s12:=s1.trans s2
 obtain⟨rfl,_⟩:=i1.int_inv
 have:=Is.pure _ _ _ pl i2
 subst this
 refine⟨p,xs,ki,y,rfl,rfl,s12 _ _ hp,k0,by omega,by rw[hm.len];exact lt_size (by omega),?_⟩
 have hm':=(hm.mono s12).pureEq pm
 obtain⟨f1,a1,_⟩:=hm'.take ki.toNat
 obtain⟨f2,a2,_⟩:=hm'.drop ki.toNat
 have a1:=a1.pureEq (ME _ pm)
 have a2:=a2.pureEq (MF _ pm)
 exact k _ _ _ ((r.grow s12).relist hi em ef hv (a1.append (Iss.cons i2 a2)) (by simp) fun q hq=>by simp at hq) PK
end
theorem Iss.setRow{H:Hp}{o:List V}:∀{m:List PV}{xs:List V}{fq:List Addr}{j:Nat}{n n':List PV}{q:Addr},Iss K H m xs fq->m[j]?=some (.lst n)->xs[j]?=some (.ref q)->fq.Nodup->Vo (H q)->ZJ n=true->Iss K (L2.upd H q (.lst o)) n' o []->
  Iss K (L2.upd H q (.lst o)) (m.set j (.lst n')) xs fq
 | [],_,_,_,_,_,_,_,e,_,_,_,_,_=>by simp at e
 | a::m,xs,fq,0,n,n',q,h,e,ex,nd,mu,pn,h'=>by
  obtain⟨x,r,f1,f2,rfl,h1,h2,rfl⟩:=h.inv
  simp at e ex
  subst e ex
  obtain⟨p',zs,fz,e,hp,hz,rfl⟩:=h1.lst_inv
  cases e
  have:=Iss.pure _ _ _ pn hz
  subst this
  have nq:q∉f2:=(List.nodup_cons.mp nd).1
  exact Iss.cons (Is.lst upd_same h') (Iss.tr (TK.upd' mu) _ _ _ (fun z hz=>RdK.upd_ne fun e=>nq (e▸hz)) h2)
 | a::m,xs,fq,j+1,n,n',q,h,e,ex,nd,mu,pn,h'=>by
  obtain⟨x,r,f1,f2,rfl,h1,h2,rfl⟩:=h.inv
  simp at e ex
  obtain⟨nd1,nd2,nd3⟩:=List.nodup_append.mp nd
  obtain⟨y,fy,hy,iy,suby⟩:=h2.get e
  rw[ex] at hy;cases hy
  obtain⟨p',zs,fz,e',_,_,rfl⟩:=iy.lst_inv
  cases e'
  have nq:q∉f1:=fun z=>nd3 q z q (suby q List.mem_cons_self) rfl
  exact Iss.cons (Is.tr (TK.upd' mu) _ _ _ (fun z hz=>RdK.upd_ne fun e=>nq (e▸hz)) h1) (Iss.setRow h2 e ex nd2 mu pn h')
def XD(i:Nat)(fa fb:XE)(f:XE):XS:=fun s=>(f s).bind fun l=>(fa s).bind fun a=>(fb s).bind fun b=>(JP a).bind fun a=>(JP b).bind fun b=>(Gb s i).bind fun m=>(Mj m.length a).bind fun j=>(m[j]?).bind fun r=>(CZ r).bind fun n=>
 (gd (ZJ n&&ZN l)).bind fun _=>(Mj n.length b).map fun c=>.nx (s.set i (some (.lst (m.set j (.lst (n.set c l))))))
theorem UP{X:Cx}{O:List Nat}{i:Nat}{st:Stmt}{f fa fb:XE}(h:PS X st (Mn (tF X.K f) (Cj (EO (GC X.K) (Tz i) (tF X.K fa)) (tF X.K fb) Ed)))(hi:i∈O:=by decide):VS X O [i] st (XD i fa fb f):=PS.imp h fun D σ H ⟨H0,fps,s,out,r,e,k⟩=>by
 obtain⟨l,e0,e⟩:=Zf e
 obtain⟨a,e1,e⟩:=Zf e
 obtain⟨b,e2,e⟩:=Zf e
 obtain⟨ai,ea,e⟩:=Zf e
 obtain⟨bi,eb,e⟩:=Zf e
 obtain⟨m,em,e⟩:=Zf e
 obtain⟨j,ej,e⟩:=Zf e
 obtain⟨Yd,en,e⟩:=Zf e
 obtain⟨n,er,e⟩:=Zf e
 obtain⟨_,eg,e⟩:=Zf e
 rw[T4 ea] at e1;rw[T4 eb] at e2;rw[NB er] at en;have em:=T3 em;have hc:=UN eg;simp only[Bool.and_eq_true] at hc
 obtain⟨pn,pl⟩:=hc
 obtain⟨c,ec,rfl⟩:=map_some e
 obtain⟨p,xs,fq,hv,hp,hm,ef⟩:=r.lst_at hi em
 refine⟨fun _=>False,s,l,fun _ z=>z.elim,r.env,e0,fun y H1 fy s1 i1 _=>?_⟩
 refine⟨.ref p,hv,fun _=>False,s,_,fun _ z=>z.elim,r.env.mono s1,e1,fun z H2 fz s2 i2 _=>?_⟩
 obtain⟨rfl,_⟩:=i2.int_inv
 have s12:=s1.trans s2
 obtain⟨q,f1,hq,iq,subq⟩:=(hm.mono s12).get en
 obtain⟨qa,zs,fz',rfl,hqa,hz,rfl⟩:=id iq.lst_inv
 refine⟨p,xs,ai,.ref qa,rfl,rfl,SqL.of (s12 _ _ hp),?_,fun _=>False,s,_,fun _ z=>z.elim,r.env.mono s12,e2,fun w H3 fw s3 i3 _=>?_⟩
 ·unfold VH;rw[hm.len,ej];exact hq
 obtain⟨rfl,_⟩:=i3.int_inv
 have s123:=s12.trans s3;have r3:=r.grow s123
 have hqf:qa∈fps i:=by rw[ef];exact List.mem_cons_of_mem _ (subq qa List.mem_cons_self)
 have mu:=(r3.own i hi qa hqf).2
 have hqa3:H3 qa=some (.lst zs):=s3 _ _ hqa
 have:=Is.pure _ _ _ pl i1
 subst this
 refine⟨qa,zs,bi,c,rfl,rfl,hqa3,by rw[hz.len];exact ec,?_⟩
 have nd:=r.nd i hi;rw[ef] at nd
 have hqp:qa≠p:=fun z=>(List.nodup_cons.mp nd).1 (z▸subq qa List.mem_cons_self)
 have newrow:Iss X.K (L2.upd H3 qa (.lst (zs.set c y))) (n.set c l) (zs.set c y) []:=Iss.tr (TK.upd' mu) _ _ _ (fun q hq=>by simp at hq) (Iss.setP c pn pl ((hz.mono s3).pureEq pn) (i1.mono (s2.trans s3)))
 have rows:=Iss.setRow (hm.mono s123) en hq (List.nodup_cons.mp nd).2 mu pn newrow
 refine k _ _ _ (r3.mutate (o:=.lst (zs.set c y)) (l':=.lst (m.set j (.lst (n.set c l)))) (fp':=p::fq) hi hqf hv (UM em) (Is.lst (by rw[L2.upd_ne (Ne.symm hqp)];exact s123 _ _ hp) rows) nd (fun q hq=>?_) (fun j hj q hq z=>r.dis i hi j hj q (by rw[ef];exact hq) z) True.intro) PK
 refine⟨(r.own i hi q (by rw[ef];exact hq)).1,?_⟩
 by_cases e:q=qa
 ·subst e;rw[upd_same];exact True.intro
 ·rw[L2.upd_ne e];exact(r3.own i hi q (by rw[ef];exact hq)).2
def S7(T:Tgt)(f:XE):XS:=fun s=>(f s).bind fun l=>if ZN l=true then(Ur T l s).map .nx else none
theorem LR{X:Cx}{O:List Nat}{st:Stmt}{f:XE}{T:Tgt}(h:PS X st (Mn (tF X.K f) (gT X.K T)))(hT:∀i∈T.slots,i∉O:=by decide):VS X O T.slots st (S7 T f):=PS.imp h fun D σ H ⟨H0,fps,s,out,r,e,k⟩=>by
 obtain⟨l,e1,e⟩:=Zf e
 split at e
 case isFalse=>cases e
 rename_i pl
 obtain⟨s',e2,rfl⟩:=map_some e
 refine⟨fun _=>False,s,l,fun _ z=>z.elim,r.env,e1,fun v H1 fp s1 i1 _=>?_⟩
 have:=Is.pure _ _ _ pl i1
 subst this
 obtain⟨ls,vs,fs,rfl,hi,hl,sub,use⟩:=OE (K:=X.K) i1 e2
 obtain⟨fps',r2,q2⟩:=Rel.setAll (is:=T.slots) (r.grow s1) hi hl hT fun j hj p hp z=>by have:=sub p z;simp at this
 exact use σ D.nx (k fps' _ H1 r2 q2)
end VL
namespace VL
open PySem PySem.Spec PyProof.Rows L2
variable {K:PySem.W.Frag}
def Qh:PV->Option YH
 | .int i=>some (.inl i)
 | .str x=>some (.inr x)
 | _=>none
def NC:List PV->Option (List YH)
 | []=>some []
 | a::r=>(Qh a).bind fun k=>(NC r).map (k::·)
def Qi:PV->Option (List YH)
 | .tup l=>NC l
 | _=>none
def kP:YH->PV
 | .inl i=>.int i
 | .inr x=>.str x
theorem OG{H:Hp}{a:PV}{k:YH}{v:V}{fp:List Addr}(e:Qh a=some k)(h:Is K H a v fp):v=kV k/\fp=[]:=by
 cases a with
 | int i=>cases e;exact h.int_inv
 | str x=>cases e;exact h.str_inv
 | _=>cases e
theorem ND{H:Hp}:∀{l:List PV}{ks:List YH}{xs:List V}{fp:List Addr},NC l=some ks->Iss K H l xs fp->xs=ks.map kV/\fp=[]
 | [],ks,xs,fp,e,h=>by
  cases e
  simpa only[List.map_nil,Iss] using h
 | a::r,ks,xs,fp,e,h=>by
  obtain⟨k,e1,e⟩:=Zf (show(Qh a).bind (fun k=>(NC r).map (k::·))=some ks from e)
  obtain⟨kr,e2,rfl⟩:=map_some e
  obtain⟨x,rr,f1,f2,rfl,h1,h2,rfl⟩:=h.inv
  obtain⟨rfl,rfl⟩:=OG e1 h1
  obtain⟨rfl,rfl⟩:=ND e2 h2
  exact⟨rfl,rfl⟩
theorem LS{H:Hp}{a:PV}{k:List YH}{v:V}{fp:List Addr}(e:Qi a=some k)(h:Is K H a v fp):∃b,v = .ref b/\H b=some (.tup (k.map kV)):=by
 cases a with
 | tup l=>
  obtain⟨p,xs,rfl,hp,hi⟩:=h.tup_inv
  obtain⟨rfl,_⟩:=ND (show NC l=some k from e) hi
  exact⟨p,rfl,hp⟩
 | _=>cases e
theorem C0{H:Hp}(k:YH):Is K H (kP k) (kV k) []:=by
 cases k with
 | inl i=>exact Is.int i
 | inr x=>exact Is.str x
theorem Iv{H:Hp}:∀(ks:List YH),Iss K H (ks.map kP) (ks.map kV) []
 | []=>Iss.nil
 | k::r=>Iss.cons (f1:=[]) (C0 k) (Iv r)
section
variable {κ:Type} [DecidableEq κ]
def WV(ks:List κ)(vs:List PV)(k:κ):Option PV:=((ks.zip vs).find? fun z=>decide (z.1=k)).map (·.2)
def Us(ks:List κ)(k:κ):List κ:=if k∈ks then ks else ks++[k]
def Ut(ks:List κ)(vs:List PV)(k:κ)(v:PV):List PV:=if k∈ks then(ks.zip vs).map fun z=>if z.1=k then v else z.2 else vs++[v]
theorem Qj{H:Hp}:∀{kvs:List (κ×V)}{l:List PV}{fq:List Addr}(k:κ),Iss K H l (kvs.map (·.2)) fq->
  (WV (kvs.map (·.1)) l k=none/\Uo kvs k=none)\/∃a x f,WV (kvs.map (·.1)) l k=some a/\Uo kvs k=some x/\Is K H a x f/\∀p∈f,p∈fq
 | [],l,fq,k,h=>.inl ⟨by unfold WV;simp,rfl⟩
 | kv::r,[],fq,k,h=>by have:=h.len;simp at this
 | kv::r,a::l,fq,k,h=>by
  obtain⟨x,rr,f1,f2,e,h1,h2,rfl⟩:=h.inv
  cases e
  by_cases hk:kv.1=k
  ·refine .inr ⟨a,kv.2,f1,?_,TM hk,h1,fun p hp=>List.mem_append_left _ hp⟩
   unfold WV;rw[List.map_cons,List.zip_cons_cons,List.find?_cons];simp[hk]
  ·have e1:WV ((kv::r).map (·.1)) (a::l) k=WV (r.map (·.1)) l k:=by
    unfold WV;rw[List.map_cons,List.zip_cons_cons,List.find?_cons];simp[hk]
   rw[e1,TN hk]
   rcases Qj (l:=l) k h2 with z | ⟨b,y,f,z1,z2,z3,z4⟩
   ·exact .inl z
   ·exact .inr ⟨b,y,f,z1,z2,z3,fun p hp=>List.mem_append_right _ (z4 p hp)⟩
theorem any_mem{kvs:List (κ×V)}{k:κ}:(kvs.any fun kv=>decide (kv.1=k))=true↔k∈kvs.map (·.1):=by
 rw[List.any_eq_true,List.mem_map];constructor
 ·rintro⟨x,hx,e⟩;exact⟨x,hx,of_decide_eq_true e⟩
 ·rintro⟨x,hx,e⟩;exact⟨x,hx,decide_eq_true e⟩
theorem LU{kvs:List (κ×V)}{k:κ}{x:V}:(Vq kvs k x).map (·.1)=Us (kvs.map (·.1)) k:=by
 unfold Vq Us
 by_cases h:k∈kvs.map (·.1)
 ·rw[if_pos (any_mem.mpr h),if_pos h,List.map_map]
  apply List.map_congr_left
  intro z _
  show(if z.1=k then(z.1,x) else z).1=z.1
  split<;>rfl
 ·rw[if_neg (fun z=>h (any_mem.mp z)),if_neg h,List.map_append];rfl
theorem LV{H:Hp}{kvs:List (κ×V)}{l:List PV}{k:κ}{a:PV}{x:V}(h:Iss K H l (kvs.map (·.2)) [])(hp:ZJ l=true)(ha:Is K H a x [])(pa:ZN a=true):Iss K H (Ut (kvs.map (·.1)) l k a) ((Vq kvs k x).map (·.2)) []:=by
 unfold Vq Ut
 by_cases hk:k∈kvs.map (·.1)
 ·rw[if_pos (any_mem.mpr hk),if_pos hk]
  clear hk
  induction kvs generalizing l with
  | nil=>
   have:=h.len
   cases l with
   | nil=>exact Iss.nil
   | cons _ _=>simp at this
  | cons kv r ih=>
   cases l with
   | nil=>have:=h.len;simp at this
   | cons b l=>
    obtain⟨y,rr,f1,f2,e,h1,h2,e2⟩:=h.inv
    cases e;simp only[ZJ,Bool.and_eq_true] at hp;have z1:=Is.pure _ _ _ hp.1 h1;have z2:=Iss.pure _ _ _ hp.2 h2
    subst z1 z2
    have ih:=ih h2 hp.2;rw[List.map_cons,List.zip_cons_cons,List.map_cons,List.map_cons,List.map_cons]
    by_cases e:kv.1=k
    ·rw[if_pos e,if_pos e]
     exact Iss.cons (f1:=[]) ha ih
    ·rw[if_neg e,if_neg e]
     exact Iss.cons (f1:=[]) h1 ih
 ·rw[if_neg (fun z=>hk (any_mem.mp z)),if_neg hk,List.map_append]
  exact h.append (Iss.one ha)
end
def X4:PV->PV->Option PV
 | .dK ks vs,k=>(Qh k).bind fun k=>WV ks vs k
 | .dT ks vs,k=>(Qi k).bind fun k=>WV ks vs k
 | _,_=>none
def Bi:PV->PV->Option Bool
 | .dK ks vs,k=>(Qh k).map fun k=>(WV ks vs k).isSome
 | .dT ks vs,k=>(Qi k).map fun k=>(WV ks vs k).isSome
 | _,_=>none
theorem LW{H:Hp}{d k:PV}{x y:V}{fd fk:List Addr}(hd:Is K H d x fd)(hk:Is K H k y fk){b:Bool}(e:Bi d k=some b):∃a o,x = .ref a/\KR H a y o/\o.isSome=b/\((X4 d k=none/\o=none)\/∃c v f,X4 d k=some c/\o=some v/\Is K H c v f/\∀p∈f,p∈fd):=by
 cases d with
 | dK ks vs=>
  obtain⟨kk,e1,rfl⟩:=map_some (show(Qh k).map (fun k=>(WV ks vs k).isSome)=some b from e)
  obtain⟨p,kvs,fq,rfl,hp,rfl,hi,rfl⟩:=hd.dK_inv
  obtain⟨rfl,_⟩:=OG e1 hk
  refine⟨p,Uo kvs kk,rfl,.inl ⟨kvs,kk,hp,rfl,rfl⟩,?_,?_⟩
  ·rcases Qj kk hi with⟨z1,z2⟩ | ⟨a,v,f,z1,z2,_⟩<;>rw[z1,z2]<;>rfl
  ·show(X4 (.dK _ vs) k=none/\_)\/_
   have eg:X4 (.dK (kvs.map (·.1)) vs) k=WV (kvs.map (·.1)) vs kk:=by show(Qh k).bind _=_;rw[e1];rfl
   rw[eg]
   rcases Qj kk hi with z | ⟨a,v,f,z1,z2,z3,z4⟩
   ·exact .inl z
   ·exact .inr ⟨a,v,f,z1,z2,z3,fun q hq=>List.mem_cons_of_mem _ (z4 q hq)⟩
 | dT ks vs=>
  obtain⟨kk,e1,rfl⟩:=map_some (show(Qi k).map (fun k=>(WV ks vs k).isSome)=some b from e)
  obtain⟨p,kvs,fq,rfl,hp,rfl,hi,rfl⟩:=hd.dT_inv
  obtain⟨b,rfl,hb⟩:=LS e1 hk
  refine⟨p,Uo kvs kk,rfl,.inr ⟨kvs,kk,b,hp,rfl,hb,rfl⟩,?_,?_⟩
  ·rcases Qj kk hi with⟨z1,z2⟩ | ⟨a,v,f,z1,z2,_⟩<;>rw[z1,z2]<;>rfl
  ·have eg:X4 (.dT (kvs.map (·.1)) vs) k=WV (kvs.map (·.1)) vs kk:=by show(Qi k).bind _=_;rw[e1];rfl
   rw[eg]
   rcases Qj kk hi with z | ⟨a,v,f,z1,z2,z3,z4⟩
   ·exact .inl z
   ·exact .inr ⟨a,v,f,z1,z2,z3,fun q hq=>List.mem_cons_of_mem _ (z4 q hq)⟩
 | _=>cases e
theorem G7{d k c:PV}(h:X4 d k=some c):Bi d k=some true:=by
 cases d with
 | dK ks vs=>
  obtain⟨kk,e1,e2⟩:=Zf (show(Qh k).bind (fun k=>WV ks vs k)=some c from h)
  show(Qh k).map _=_
  rw[e1];show some ((WV ks vs kk).isSome)=_;rw[e2];rfl
 | dT ks vs=>
  obtain⟨kk,e1,e2⟩:=Zf (show(Qi k).bind (fun k=>WV ks vs k)=some c from h)
  show(Qi k).map _=_
  rw[e1];show some ((WV ks vs kk).isSome)=_;rw[e2];rfl
 | _=>cases h
section
variable {X:Cx} {o i e f:Expr} {fd fk fx:XE} {pos apos cpos:Pos}
theorem Iw:∀σ H Q,tF K (Zg X4 fd fk) σ H Q->Ef (tF K fd) (tF K fk) σ H Q:=fun σ H Q ⟨Rm,s,l,hd,env,e,k⟩=>by
 obtain⟨d,kk,e1,e2,e3⟩:=TV e
 refine⟨Rm,s,d,hd,env,e1,fun x H1 f1 s1 i1 n1=>⟨Rm,s,kk,fun p hp=>Same.mut s1 (hd p hp),env.mono s1,e2,fun y H2 f2 s2 i2 n2=>?_⟩⟩
 obtain⟨a,ov,rfl,dg,_,alt⟩:=LW (i1.mono s2) i2 (G7 e3)
 rcases alt with⟨z,_⟩ | ⟨c,v,fv,z1,rfl,z3,z4⟩
 ·rw[z] at e3;cases e3
 ·rw[z1] at e3;cases e3
  exact⟨a,v,rfl,dg,k v H2 fv (s1.trans s2) z3 fun p hp=>n1 p (z4 p hp)⟩
theorem RF(hu:X.A.units+1<cLine)(ho:VE X o fd)(hi:VE X i fk)(hs:E6 i:=by exact fun _ _=>rfl):VE X (.Subscript o i pos) (Zg X4 fd fk):=PE.imp (GI hu ho hi hs) Iw
def Rr(neg:Bool)(fk fd:XE):XE:=fun s=>(fk s).bind fun k=>(fd s).bind fun d=>(Bi d k).map fun b=>.bl (if neg then !b else b)
theorem MG:∀σ H Q,tF K (Rr true fk fd) σ H Q->Lz (tF K fk) (tF K fd) σ H Q:=fun σ H Q ⟨Rm,s,l,hd,env,e,k⟩=>by
 obtain⟨kk,e1,e⟩:=Zf e
 obtain⟨d,e2,e⟩:=Zf e
 obtain⟨b,e3,rfl⟩:=map_some e
 refine⟨Rm,s,kk,hd,env,e1,fun y H1 f1 s1 i1 n1=>⟨Rm,s,d,fun p hp=>Same.mut s1 (hd p hp),env.mono s1,e2,fun x H2 f2 s2 i2 n2=>?_⟩⟩
 obtain⟨a,ov,rfl,dg,rfl,_⟩:=LW i2 (i1.mono s2) e3
 exact⟨a,ov,rfl,dg,k _ H2 [] (s1.trans s2) (Is.bl _) fun p hp=>by simp at hp⟩
theorem Jd(hu:X.A.units+1<cLine)(hi:VE X i fk)(ho:VE X o fd)(hm:behindInMarks .NotIn o=false:=by with_unfolding_all rfl):VT X (.Compare i [.NotIn] [o] pos) (xB (Rr true fk fd)):=PT.imp (Mm (KW hu hi ho) hm) fun σ H Q h=>OA MG σ H Q (Ij σ H Q h)
end
def G8(d k v:PV):Option PV:=match d with
 | .dT ks vs=>(gd (ZJ vs&&ZN v&&decide (ks.length<=10000))).bind fun _=>(Qi k).map fun k=>.dT (Us ks k) (Ut ks vs k v)
 | .dK ks vs=>(gd (ZJ vs&&ZN v&&decide (ks.length<=10000))).bind fun _=>(Qh k).map fun k=>.dK (Us ks k) (Ut ks vs k v)
 | _=>none
def sDPut(i:Nat)(fk fv:XE):XS:=fun s=>(fv s).bind fun v=>(fk s).bind fun k=>((s[i]?).join).bind fun d=>(G8 d k v).map fun d=>.nx (s.set i (some d))
theorem RG{X:Cx}{O:List Nat}{i:Nat}{st:Stmt}{fk fv:XE}(h:PS X st (L2.sDPut (Tz i) (tF X.K fk) (tF X.K fv)))(hi:i∈O:=by decide):VS X O [i] st (sDPut i fk fv):=PS.imp h fun D σ H ⟨H0,fps,s,out,r,e,k⟩=>by
 obtain⟨v,e1,e⟩:=Zf e
 obtain⟨kk,e2,e⟩:=Zf e
 obtain⟨d,em,e⟩:=Zf e
 obtain⟨d',ed,rfl⟩:=map_some e
 have em:=join_some em
 cases d with
 | dT ks vs=>
  obtain⟨_,eg,ed⟩:=Zf (show(gd (ZJ vs&&ZN v&&decide (ks.length<=10000))).bind (fun _=>(Qi kk).map fun k=>PV.dT (Us ks k) (Ut ks vs k v))=some d' from ed)
  have hc:=UN eg;simp only[Bool.and_eq_true,decide_eq_true_eq] at hc
  obtain⟨⟨pm,pl⟩,hlen⟩:=hc
  obtain⟨kt,e3,rfl⟩:=map_some ed
  obtain⟨p,kvs,fq,hv,hp,rfl,hm,ef⟩:=r.dT_at hi em
  refine⟨fun _=>False,s,v,fun _ z=>z.elim,r.env,e1,fun y H1 fy s1 i1 _=>⟨.ref p,hv,fun _=>False,s,kk,fun _ z=>z.elim,r.env.mono s1,e2,fun z H2 fz s2 i2 _=>?_⟩⟩
  have s12:=s1.trans s2
  obtain⟨b,rfl,hb⟩:=LS e3 i2
  have z1:=Is.pure _ _ _ pl i1;subst z1
  have hm':=(hm.mono s12).pureEq pm
  have z2:=Iss.pure _ _ _ pm hm;subst z2;have r2:=r.grow s12
  have hpf:p∈fps i:=by rw[ef];exact List.mem_cons_self
  have mu:=(r2.own i hi p hpf).2
  refine⟨p,_,rfl,.inr ⟨kvs,kt,b,s12 _ _ hp,rfl,hb,by rw[<-List.length_map (·.1)];exact lt_size hlen,rfl⟩,?_⟩
  refine k _ _ _ (r2.mutate (o:=.dT (Vq kvs kt y)) (l':=.dT (Us (kvs.map (·.1)) kt) (Ut (kvs.map (·.1)) vs kt v)) (fp':=[p]) hi hpf hv (UM em) (Is.dT upd_same LU (Iss.tr (TK.upd' mu) _ _ _ (fun q hq=>by simp at hq) (LV hm' pm (i1.mono s2) pl))) (by simp) (fun q hq=>?_) (fun j hj q hq z=>r.dis i hi j hj q (by rw[ef];exact hq) z) True.intro) PK
  rw[List.mem_singleton.mp hq]
  exact⟨(r.own i hi p hpf).1,by rw[upd_same];exact True.intro⟩
 | dK ks vs=>
  obtain⟨_,eg,ed⟩:=Zf (show(gd (ZJ vs&&ZN v&&decide (ks.length<=10000))).bind (fun _=>(Qh kk).map fun k=>PV.dK (Us ks k) (Ut ks vs k v))=some d' from ed)
  have hc:=UN eg;simp only[Bool.and_eq_true,decide_eq_true_eq] at hc
  obtain⟨⟨pm,pl⟩,hlen⟩:=hc
  obtain⟨kt,e3,rfl⟩:=map_some ed
  obtain⟨p,kvs,fq,hv,hp,rfl,hm,ef⟩:=r.dK_at hi em
  refine⟨fun _=>False,s,v,fun _ z=>z.elim,r.env,e1,fun y H1 fy s1 i1 _=>⟨.ref p,hv,fun _=>False,s,kk,fun _ z=>z.elim,r.env.mono s1,e2,fun z H2 fz s2 i2 _=>?_⟩⟩
  have s12:=s1.trans s2
  obtain⟨rfl,_⟩:=OG e3 i2
  have z1:=Is.pure _ _ _ pl i1;subst z1
  have hm':=(hm.mono s12).pureEq pm
  have z2:=Iss.pure _ _ _ pm hm;subst z2;have r2:=r.grow s12
  have hpf:p∈fps i:=by rw[ef];exact List.mem_cons_self
  have mu:=(r2.own i hi p hpf).2
  refine⟨p,_,rfl,.inl ⟨kvs,kt,s12 _ _ hp,rfl,by rw[<-List.length_map (·.1)];exact lt_size hlen,rfl⟩,?_⟩
  refine k _ _ _ (r2.mutate (o:=.dK (Vq kvs kt y)) (l':=.dK (Us (kvs.map (·.1)) kt) (Ut (kvs.map (·.1)) vs kt v)) (fp':=[p]) hi hpf hv (UM em) (Is.dK upd_same LU (Iss.tr (TK.upd' mu) _ _ _ (fun q hq=>by simp at hq) (LV hm' pm (i1.mono s2) pl))) (by simp) (fun q hq=>?_) (fun j hj q hq z=>r.dis i hi j hj q (by rw[ef];exact hq) z) True.intro) PK
  rw[List.mem_singleton.mp hq]
  exact⟨(r.own i hi p hpf).1,by rw[upd_same];exact True.intro⟩
 | _=>cases ed
end VL
namespace VL
open PySem PySem.Spec PyProof.Rows L2
variable {K:PySem.W.Frag}
section
variable {X:Cx} {a b c d:Expr} {fa fb fc fd:XE} {pos:Pos}
theorem T5(hu:X.A.units+64<cLine)(ha:VE X a fa)(hb:VE X b fb):VE X (.Compare a [.Eq] [b] pos) (Zg (Yc false) fa fb):=Ov (Im hu) (OB false) ha hb (Vg _)
theorem C1(hu:X.A.units+64<cLine)(ha:VE X a fa)(hb:VE X b fb):VE X (.Compare a [.NotEq] [b] pos) (Zg (Yc true) fa fb):=Ov (Io hu) (OB true) ha hb (Vg _)
theorem T6(hu:X.A.units+64<cLine)(ha:VE X a fa)(hb:VE X b fb):VT X (.Compare a [.Eq] [b] pos) (xB (Zg (Yc false) fa fb)):=VV (Im hu) (OB false) ha hb (Vg _)
theorem PM(hu:X.A.units+64<cLine)(ha:VE X a fa)(hb:VE X b fb):VT X (.Compare a [.NotEq] [b] pos) (xB (Zg (Yc true) fa fb)):=VV (Io hu) (OB true) ha hb (Vg _)
theorem Em(hu:X.A.units+64<cLine)(ha:VE X a fa)(hb:VE X b fb)(hm:behindInMarks .In b=false:=by with_unfolding_all rfl):VT X (.Compare a [.In] [b] pos) (xB (Zg (RE false) fa fb)):=VV (Du hu) (Ip false) ha hb hm
theorem Qk(hu:X.A.units+64<cLine)(ha:VE X a fa)(hb:VE X b fb)(hm:behindInMarks .NotIn b=false:=by with_unfolding_all rfl):VT X (.Compare a [.NotIn] [b] pos) (xB (Zg (RE true) fa fb)):=VV (K8 hu) (Ip true) ha hb hm
def MH:PV->Option Bool
 | .bl c=>some c
 | _=>none
theorem Iy{a:PV}{k:Bool}(h:MH a=some k):a = .bl k:=by
 unfold MH at h;split at h
 ·cases h;rfl
 ·cases h
def LX(g h:PV->PV->Option PV)(a b c:XE):XE:=fun s=>(a s).bind fun x=>(b s).bind fun y=>((g x y).bind MH).bind fun k=>if k=true then(c s).bind fun z=>h y z else some (.bl false)
theorem Iz{r r':R2}{g h:PV->PV->Option PV}(hr:RB K r g)(hr':RB K r' h):∀σ H Q,tF K (LX g h fa fb fc) σ H Q->JW r r' (tF K fa) (tF K fb) (tF K fc) σ H Q:=fun σ H Q ⟨Rm,s,l,hd,env,e,k⟩=>by
 obtain⟨x',e1,e⟩:=Zf e
 obtain⟨y',e2,e⟩:=Zf e
 obtain⟨b,e3,e⟩:=Zf e
 obtain⟨z',e3,eb⟩:=Zf e3
 rw[Iy eb] at e3
 refine⟨Rm,s,x',hd,env,e1,fun x H1 f1 s1 i1 n1=>⟨Rm,s,y',fun p hp=>Same.mut s1 (hd p hp),env.mono s1,e2,fun y H2 f2 s2 i2 n2=>?_⟩⟩
 refine hr H2 x y x' y' _ f1 f2 (i1.mono s2) i2 e3 _ fun v H3 fp s3 i3 n3=>⟨b,i3.bl_inv.1,?_⟩
 have s123:=s1.trans (s2.trans s3)
 cases b with
 | false=>
  rw[if_neg Bool.false_ne_true] at e ⊢
  cases e
  exact k _ H3 [] s123 (Is.bl _) fun p hp=>by simp at hp
 | true=>
  rw[if_pos rfl] at e ⊢
  obtain⟨w',e4,e⟩:=Zf e
  refine⟨Rm,s,w',fun p hp=>Same.mut s123 (hd p hp),env.mono s123,e4,fun w H4 f4 s4 i4 n4=>?_⟩
  refine hr' H4 y w y' w' l f2 f4 (i2.mono (s3.trans s4)) i4 e Q fun v H5 fp5 s5 i5 n5=>k v H5 fp5 (s123.trans (s4.trans s5)) i5 fun p hp z=>?_
  rcases n5 p hp with q | q | q
  ·exact n2 p q z
  ·exact n4 p q z
  ·exact XB (Same.mut (s123.trans s4) (hd p z)) q
theorem IA{op op':CmpOp}{r r':R2}{g h:PV->PV->Option PV}(ho:UJ X (compareOp op) r)(ho':UJ X (compareOp op') r')(hr:RB X.K r g)(hr':RB X.K r' h)(ha:VE X a fa)(hb:VE X b fb)(hc:VE X c fc)
  (hm:lastMarks [op,op'] [b,c]=false:=by with_unfolding_all rfl):VT X (.Compare a [op,op'] [b,c] pos) (xB (LX g h fa fb fc)):=PT.imp (JX ho ho' ha hb hc hm) fun σ H Q q=>R4 (Iz hr hr') σ H Q (Nv σ H Q q)
end
section
variable {X:Cx} {a b:Expr} {fa fb:XE} {pos:Pos}
def gCat:PV->PV->Option PV
 | .lst m,.lst n=>if m.length+n.length<=10000 then some (.lst (m++n)) else none
 | _,_=>none
def Ql:PV->PV->Option PV
 | .lst m,.lst n=>if m.length+n.length<=10000/\ZJ m=true/\ZJ n=true then some (.lst (m++n)) else none
 | _,_=>none
theorem LY(ha:VE X a fa)(hb:VE X b fb):VM X (.BinOp a .Add b pos) (Zg Ql fa fb):=PE.imp (JV E3 ha hb) fun σ H Q ⟨s,l,env,e,k⟩=>by
 obtain⟨x',y',e1,e2,e⟩:=TV e
 refine⟨fun _=>False,s,x',fun _ z=>z.elim,env,e1,fun x H1 f1 s1 i1 _=>⟨fun _=>False,s,y',fun _ z=>z.elim,env.mono s1,e2,fun y H2 f2 s2 i2 _=>?_⟩⟩
 cases x' with
 | lst m=>cases y' with
  | lst n=>
   have e:(if m.length+n.length<=10000/\ZJ m=true/\ZJ n=true then some (PV.lst (m++n)) else none)=some l:=e
   split at e
   case isFalse=>cases e
   rename_i hl
   cases e
   obtain⟨p,xs,fq,rfl,hp,hi,rfl⟩:=i1.lst_inv
   obtain⟨p',ys,fq',rfl,hp',hi',rfl⟩:=i2.lst_inv
   refine⟨p,p',xs,ys,rfl,rfl,s2 _ _ hp,hp',by rw[hi.len,hi'.len];exact Nat.le_of_lt (lt_size hl.1),fun q hq=>?_⟩
   refine k _ _ [q] (s1.trans (s2.trans (Same.new hq _))) (Is.lst upd_same ((((hi.mono s2).pureEq hl.2.1).append (hi'.pureEq hl.2.2)).mono (Same.new hq _))) (by simp) fun r hr=>?_
   rw[List.mem_singleton.mp hr]
   exact⟨Same.off (s1.trans s2) hq,by rw[upd_same];exact True.intro⟩
  | _=>cases e
 | _=>cases e
def Q6:PV->PV->Option PV
 | .lst m,.int k=>if ZJ m=true/\-1000000<=k/\k<=1000000/\m.length*k.toNat<=10000 then some (.lst (List.replicate k.toNat m).flatten) else none
 | _,_=>none
theorem Iss.rep{H:Hp}{m:List PV}{xs:List V}(h:Iss K H m xs []):∀k:Nat,Iss K H (List.replicate k m).flatten (List.replicate k xs).flatten []
 | 0=>Iss.nil
 | k+1=>by
  rw[List.replicate_succ,List.replicate_succ,List.flatten_cons,List.flatten_cons]
  exact h.append (Iss.rep h k)
theorem IB(ha:VE X a fa)(hb:VE X b fb):VM X (.BinOp a .Mult b pos) (Zg Q6 fa fb):=PE.imp (JV E4 ha hb) fun σ H Q ⟨s,l,env,e,k⟩=>by
 obtain⟨x',y',e1,e2,e⟩:=TV e
 refine⟨fun _=>False,s,x',fun _ z=>z.elim,env,e1,fun x H1 f1 s1 i1 _=>⟨fun _=>False,s,y',fun _ z=>z.elim,env.mono s1,e2,fun y H2 f2 s2 i2 _=>?_⟩⟩
 cases x' with
 | lst m=>cases y' with
  | int n=>
   have e:(if ZJ m=true/\-1000000<=n/\n<=1000000/\m.length*n.toNat<=10000 then some (PV.lst (List.replicate n.toNat m).flatten) else none)=some l:=e
   split at e
   case isFalse=>cases e
   rename_i hl
   cases e
   obtain⟨p,xs,fq,rfl,hp,hi,rfl⟩:=i1.lst_inv
   refine⟨p,n,xs,rfl,i2.int_inv.1,s2 _ _ hp,by omega,by omega,by rw[hi.len];exact Nat.le_of_lt (lt_size hl.2.2.2),fun q hq=>?_⟩
   refine k _ _ [q] (s1.trans (s2.trans (Same.new hq _))) (Is.lst upd_same ((Iss.rep ((hi.mono s2).pureEq hl.1) n.toNat).mono (Same.new hq _))) (by simp) fun r hr=>?_
   rw[List.mem_singleton.mp hr]
   exact⟨Same.off (s1.trans s2) hq,by rw[upd_same];exact True.intro⟩
  | _=>cases e
 | _=>cases e
end
theorem Iss.fps{H:Hp}:∀{ls:List PV}{vs:List V}{fp:List Addr},Iss K H ls vs fp->∃fps:Nat->List Addr,(∀(i:Nat) l,ls[i]?=some l->∃v,vs[i]?=some v/\Is K H l v (fps i))/\∀i,ls.length<=i->fps i=[]
 | [],vs,fp,h=>⟨fun _=>[],fun i l e=>by simp at e,fun _ _=>rfl⟩
 | a::ls,vs,fp,h=>by
  obtain⟨x,r,f1,f2,rfl,h1,h2,rfl⟩:=h.inv
  obtain⟨fps,p1,p2⟩:=h2.fps
  refine⟨fun i=>match i with | 0=>f1 | k+1=>fps k,fun i l e=>?_,fun i hi=>?_⟩
  ·cases i with
   | zero=>simp at e;subst e;exact⟨x,rfl,h1⟩
   | succ k=>
    obtain⟨v,a,b⟩:=p1 k l (by simpa using e)
    exact⟨v,by simpa using a,b⟩
  ·cases i with
   | zero=>simp at hi
   | succ k=>exact p2 k (by simpa using hi)
def Xg(m:Nat)(ls:List PV):ZY:=ls.map some++List.replicate (m-ls.length) none
def Xh:Out->Option PV
 | .rt v=>some v
 | .nx _=>some .non
 | _=>none
def Xy(m:Nat)(f:XS):List PV->Option PV:=fun ls=>(f (Xg m ls)).bind Xh
theorem OH{N:List Str}{n:Nat}{O W:List Nat}{f:XS}{vs:List V}{H:Hp}{Q:VK}{E:XK}(hO:∀i∈O,n<=i)(h:Xt K (Xy N.length f) n vs H Q E):H9 K O W f { nx:=fun _ H'=>Q .non H',rt:=Q } (L2.start N vs) H:=by
 obtain⟨hl,ls,fp,l,hi,e,q⟩:=h
 obtain⟨out,e1,e2⟩:=Zf e
 obtain⟨fps,p1,p2⟩:=hi.fps
 have hlen:=hi.len
 have hout:∀i:Nat,ls.length<=i->∀l,(Xg N.length ls)[i]?≠some (some l):=fun i hi l z=>by
  unfold Xg at z;rw[List.getElem?_append_right (by simpa using hi),List.getElem?_replicate] at z
  split at z<;>cases z
 have rel:Rel K O H fps (Xg N.length ls) (L2.start N vs) H:=by
  refine⟨Same.refl H,?_,fun i a z=>?_,fun i hne=>?_,fun i hi=>?_,fun i hi p hp=>?_,fun i hi j hj p hp=>?_⟩
  ·unfold Xg L2.start;simp[hlen]
  ·by_cases hil:i<ls.length
   ·unfold Xg at z
    rw[List.getElem?_append_left (by simpa using hil),List.getElem?_map] at z
    cases q:ls[i]? with
    | none=>rw[q] at z;cases z
    | some b=>
     rw[q] at z;cases z
     obtain⟨v,a1,b1⟩:=p1 i a q
     refine⟨v,?_,b1⟩
     unfold L2.start
     rw[List.getElem?_append_left (by simpa [hlen] using hil),List.getElem?_map,a1];rfl
   ·exact absurd z (hout i (by omega) a)
  ·by_cases hil:i<ls.length
   ·exact absurd (by unfold Xg;rw[List.getElem?_append_left (by simpa using hil),List.getElem?_map,List.getElem?_eq_getElem hil];rfl) (hne ls[i])
   ·exact p2 i (by omega)
  ·rw[p2 i (by have:=hO i hi;omega)];exact List.nodup_nil
  ·rw[p2 i (by have:=hO i hi;omega)] at hp;simp at hp
  ·rw[p2 i (by have:=hO i hi;omega)] at hp;simp at hp
 refine⟨H,fps,Xg N.length ls,out,rel,e1,?_⟩
 cases out with
 | nx s'=>
  cases e2
  exact fun fps' σ' H' r' _=>q .non H' [] r'.same Is.non List.nodup_nil fun p hp=>by simp at hp
 | rt v=>
  cases e2
  exact fun v fp H' sm i d n=>q v H' fp sm i d n
 | bk s'=>cases e2
 | ct s'=>cases e2
section
variable {P:Program} {w:World} {mg:Str->Option Value} {base:Heap}
theorem Yp{x:Str}{st:Stmt}{N ps:List Str}{k n:Nat}{O W:List Nat}(m:Nat)(f:XS)(D:Def K mg x st)(S:ZI N ps (Zn st))
  (hb:∀(kV doc pm:Value)(an:Option Addr)(cdv ct:Value)(us:List Value),us.length=ps.length->bindArgs (PySem.W.fnOf x x (XN st) (YT st) (Zn st) .none kV doc pm an cdv ct) ⟨us,[]⟩=pure (ps.zip us))
  (hn:ps.length=n) (hm:N.length=m) (hO:∀i∈O,n<=i)
  (hbody:∀(fa:Addr)(cdv:Value)(A:Around)(outer:List Env)(s:Shared)(H:Hp)(E:XK),Room k (A.deeper (envOfC x (Zn st) s.heap.objs.size fa cdv))->Ga (QW Mv P w K mg base N x (Zn st) fa cdv A outer s H E).nox O W (YT st) f) :
  X3 P w K mg base x ps (Xt K (Xy m f) n) (k+1):=by
 subst hm
 refine D.cal S hb (fun vs H Q E h=>by rw[hn];exact h.1) fun fa cdv A outer s H vs Q E hr h=>⟨_,hbody fa cdv A outer s H E hr,OH hO h⟩
end
end VL
namespace VL
open PySem PySem.Spec PyProof.Rows L2
variable {K:PySem.W.Frag}
theorem Inv.thaw{X:Cx}{pins:List (Addr×Obj)}{σ:S5}{H:Hp}{s:Shared}{d:Addr}{kvs:List (List YH×V)}{o:Obj}(I:L2.Inv X pins σ H s)(hd:H d=some (.frz o (.dT kvs)))(h0:∀o u,X.H₀ d≠some (.frz o u)) :
  L2.Inv X pins σ (upd H d (.dT kvs)) s:=by
 have ne:∀b u,H b=some u->(∀o v,u≠.frz o v)->b≠d:=fun b u q n z=>by rw[z,hd] at q;exact n _ _ (Option.some.inj q).symm
 have nn:∀b,H b=none->b≠d:=fun b q z=>by rw[z,hd] at q;cases q
 have hok:HOk X.prog X.w (upd H d (.dT kvs)) s.heap:=fun b u q=>by
  have hown:∀c y,H c=some (.own y)->upd H d (.dT kvs) c=some (.own y):=fun c y z=>by rw[upd_ne (ne c _ z fun _ _ z=>nomatch z)];exact z
  have htup:∀c xs,H c=some (.tup xs)->upd H d (.dT kvs) c=some (.tup xs):=fun c y z=>by rw[upd_ne (ne c _ z fun _ _ z=>nomatch z)];exact z
  by_cases hb:b=d
  ·subst hb
   rw[upd_same] at q;cases q
   obtain⟨_,x⟩:=(show ObjOk X.prog X.w H s.heap b (.frz o (.dT kvs)) from I.hok b _ hd)
   exact ObjOk.stay x (fun _ _ _ z=>z) (fun c z=>hown c _ z) htup
  ·rw[upd_ne hb] at q
   exact(I.hok b u q).stay (fun _ _ _ z=>z) (fun c z=>hown c _ z) htup
 refine⟨I.ok,I.os,I.bare,⟨I.base.keep,I.base.slot,fun b o q n hx=>?_,I.base.there,fun b xs q=>?_,fun b o u q=>?_,fun b ps q=>?_⟩,I.loc,I.cell,?_,fun x c e=>?_,fun p hp=>?_,hok,I.len⟩
 ·have z:=I.base.free b o q n hx
  rw[upd_ne (nn b z)];exact z
 ·have z:=I.base.tups b xs q
  rw[upd_ne (ne b _ z fun _ _ z=>nomatch z)];exact z
 ·have z:=I.base.frzs b o u q
  have hb:b≠d:=fun e=>h0 o u (by rw[<-e];exact q)
  rw[upd_ne hb];exact z
 ·obtain⟨more,z⟩:=I.base.tbls b ps q
  exact⟨more,by rw[upd_ne (ne b _ z fun _ _ z=>nomatch z)];exact z⟩
 ·rw[upd_ne (nn _ I.free)];exact I.free
 ·rw[upd_ne (nn _ (I.freeC x c e))];exact I.freeC x c e
 ·obtain⟨a,b,c⟩:=I.pin p hp
  exact⟨a,by rw[upd_ne (nn _ b)];exact b,c⟩
def thaw(d:Addr)(kvs:List (List YH×V))(D:Tx):Tx where
 nx:=fun σ H=>(∃o,H d=some (.frz o (.dT kvs)))/\D.nx σ (upd H d (.dT kvs))
 bk:=fun σ H=>(∃o,H d=some (.frz o (.dT kvs)))/\D.bk σ (upd H d (.dT kvs))
 ct:=fun σ H=>(∃o,H d=some (.frz o (.dT kvs)))/\D.ct σ (upd H d (.dT kvs))
 rt:=fun v H=>(∃o,H d=some (.frz o (.dT kvs)))/\D.rt v (upd H d (.dT kvs))
def En(i:Nat)(g:TG)(tb:TS):TS:=fun D σ H=>∃d kvs,σ[i]?=some (some (.ref d))/\
 ((H d=some (.dT kvs)/\∀o,Di g tb (thaw d kvs D) σ (Dg d o kvs) (upd H d (.frz o (.dT kvs))))\/∃o,H d=some (.frz o (.dT kvs))/\Di g tb D σ (Dg d o kvs) H)
theorem LZ{X:Cx}{st:Stmt}{i:Nat}{g:TG}{tb:TS}(h:PS X st (Gq (LA (Tz i)) g tb)):PS X st (En i g tb):=by
 intro pins s σ H D I hq
 obtain⟨d,kvs,hv,alt⟩:=hq
 rcases alt with⟨hd,q⟩ | ⟨o,hd,q⟩
 ·have h0:∀o u,X.H₀ d≠some (.frz o u):=fun o u z=>by
   have:=I.base.frzs d o u z
   rw[hd] at this;cases this
  have main:=h pins s σ H (thaw d kvs D) I ⟨.ref d,hv,d,kvs,rfl,.inl ⟨hd,q⟩⟩
  refine Y1 main fun f s' hsp=>?_
  cases f with
  | next=>
   obtain⟨σ',H',I',⟨o,ho⟩,q'⟩:=hsp
   exact⟨σ',_,Inv.thaw I' ho h0,q'⟩
  | brk=>
   obtain⟨σ',H',I',⟨o,ho⟩,q'⟩:=hsp
   exact⟨σ',_,Inv.thaw I' ho h0,q'⟩
  | cont=>
   obtain⟨σ',H',I',⟨o,ho⟩,q'⟩:=hsp
   exact⟨σ',_,Inv.thaw I' ho h0,q'⟩
  | ret u=>
   obtain⟨v,σ',H',I',r',⟨o,ho⟩,q'⟩:=hsp
   exact⟨v,σ',_,Inv.thaw I' ho h0,r',q'⟩
 ·exact h pins s σ H D I ⟨.ref d,hv,d,kvs,rfl,.inr ⟨o,hd,q⟩⟩
def G9(k:List YH):PV:=.tup (k.map kP)
theorem NF{Rm:Addr->Prop}{H1:Hp}{d:Addr}{o:Obj}{kvs:List (List YH×V)}(hd:H1 d=some (.frz o (.dT kvs)))(hn:¬Rm d):Bh K Rm H1 (Dg d o kvs) ((kvs.map (·.1)).map G9):=by
 refine⟨fun H' ab=>⟨ab d _ hd hn,by simp⟩,fun H' i l ab hl=>⟨ab d _ hd hn,by have:=(List.getElem?_eq_some_iff.mp hl).1;simpa using this⟩,fun H' i l x H'' ab hl y=>?_⟩
 obtain⟨rfl,b,k,v,hk,rfl,hb⟩:=y
 rw[List.getElem?_map,List.getElem?_map,hk] at hl;cases hl
 exact⟨Same.refl _,[],Is.tup hb (Iv k),fun p hp=>by simp at hp⟩
def PN:PV->Option (List PV)
 | .dT ks _=>some (ks.map G9)
 | _=>none
def Qm(i:Nat)(T:Tgt)(fb:XS):XS:=fun s=>((s[i]?).join.bind PN).bind fun ls=>Xc T fb ls s
theorem Rd.dT_inj{H:Hp}{p:Addr}{xs ys:List (List YH×V)}(a:Rd H p (.dT xs))(b:Rd H p (.dT ys)):xs=ys:=by
 rcases a with a | ⟨o,a⟩<;>rcases b with b | ⟨o',b⟩<;>rw[a] at b<;>cases b<;>rfl
theorem RdK.swap{H H':Hp}{d:Addr}{kvs:List (List YH×V)}(h:Rd H d (.dT kvs))(h':Rd H' d (.dT kvs))(hs:∀b,b≠d->H' b=H b)(p:Addr):RdK H H' p:=by
 by_cases hp:p=d
 ·subst hp
  refine⟨fun xs z=>?_,fun k z=>?_,fun k z=>?_⟩
  ·rcases h with h | ⟨o,h⟩<;>rw[h] at z<;>cases z
  ·rcases h with h | ⟨o,h⟩<;>rcases z with z | ⟨o',z⟩<;>rw[h] at z<;>cases z
  ·rw[<-Rd.dT_inj h z];exact h'
 ·exact RdK.of fun o z=>by rw[hs p hp];exact z
theorem TK2.swap{H H':Hp}{d:Addr}{kvs:List (List YH×V)}(h:Rd H d (.dT kvs))(hs:∀b,b≠d->H' b=H b):TK2 H H':=by
 have ne:∀b u,H b=some u->(∀k,u≠.dT k)->(∀o k,u≠.frz o (.dT k))->b≠d:=fun b u q n n' z=>by
  rw[z] at q
  rcases h with h | ⟨o,h⟩<;>rw[h] at q<;>cases q
  ·exact n _ rfl
  ·exact n' _ _ rfl
 exact⟨fun b xs z=>by rw[hs b (ne b _ z (fun _ z=>nomatch z) fun _ _ z=>nomatch z)];exact z,fun b o xs z=>by rw[hs b (ne b _ z (fun _ z=>nomatch z) fun o k z=>by cases z)];exact z,fun b o xs z=>by rw[hs b (ne b _ z (fun _ z=>nomatch z) fun o k z=>by cases z)];exact z⟩
section
variable {O W:List Nat} {T:Tgt} {fb:XS} {i:Nat}
theorem PQ{O':List Nat}{H0 H:Hp}{fps:Nat->List Addr}{s:ZY}{σ:S5}{D:Tx}{out:Out}{ks:List (List YH)}{vs:List PV}(r:Rel K O H0 fps s σ H)(hO':∀j∈O',j∈O/\j≠i)(e:s[i]?=some (some (.dT ks vs)))
  (ef:Xc T fb (ks.map G9) s=some out) (hT:∀j∈T.slots,j∉O')
  (k:∀(F:Hp)(th:Hp->Hp),(∀b,H b≠none->¬Ow O' fps b->F b≠none)->Same H0 (th F)->(∀H',Same F H'->Same (th F) (th H')/\TK2 H' (th H')/\(∀p,RdK H' (th H') p)/\(∀p,F p=none->th H' p=H' p)/\(∀p,p∈fps i->¬Ow O' fps p->H p=th H' p))->(∀p,F p=none->H0 p=none)->
   ∀out',out=out'->match out' with
    | .nx s'=>∀fps' σ' H',Rel K O' F fps' s' σ' H'->(∀j,j∉T.slots++W->σ'[j]?=σ[j]?/\Kep (fps' j) (fps j))->D.nx σ' (th H')
    | .rt l=>∀v fp H',Same F H'->Is K H' l v fp->fp.Nodup->(∀p∈fp,F p=none/\Vo (H' p))->D.rt v (th H')
    | _=>True):En i (gT K T) (H9 K O' W fb) D σ H:=by
 obtain⟨v,hv,iv⟩:=r.is i _ e
 obtain⟨d,kvs,fq,rfl,hd,rfl,hi,efp⟩:=iv.dT_inv
 have dO:¬Ow O' fps d:=fun⟨j,hj,hp⟩=>r.dis j (hO' j hj).1 i (Ne.symm (hO' j hj).2) d hp (by rw[efp];exact List.mem_cons_self)
 have owm:∀p,Ow O' fps p->H0 p=none/\Vo (H p):=fun p ⟨j,hj,hp⟩=>r.own j (hO' j hj).1 p hp
 -- the frame and the relation at the loop's start,in a heap that differs from H at d alone
 have start:∀H2:Hp,Rd H2 d (.dT kvs)->(∀b,b≠d->H2 b=H b)->Rel K O' (Wi H2 (Ow O' fps)) fps s σ H2:=fun H2 h2 hs=>by
  refine⟨PJ,r.len,fun j l q=>?_,r.emp,fun j hj=>r.nd j (hO' j hj).1,fun j hj p hp=>⟨by unfold Wi;rw[if_pos ⟨j,hj,hp⟩],?_⟩,fun j hj=>r.dis j (hO' j hj).1⟩
  ·obtain⟨w,a,b⟩:=r.is j l q
   exact⟨w,a,Is.tr (TK2.swap hd hs) _ _ _ (fun p _=>RdK.swap hd h2 hs p) b⟩
  ·have pd:p≠d:=fun z=>dO ⟨j,hj,z▸hp⟩
   rw[hs p pd];exact(r.own j (hO' j hj).1 p hp).2
 have outk:∀(F:Hp)(th:Hp->Hp)(D':Tx),(∀σ' H',Same F H'->D.nx σ' (th H')->D'.nx σ' H')->(∀v H',Same F H'->D.rt v (th H')->D'.rt v H')->(∀b,H b≠none->¬Ow O' fps b->F b≠none)->Same H0 (th F)->(∀H',Same F H'->Same (th F) (th H')/\TK2 H' (th H')/\(∀p,RdK H' (th H') p)/\(∀p,F p=none->th H' p=H' p)/\(∀p,p∈fps i->¬Ow O' fps p->H p=th H' p))->(∀p,F p=none->H0 p=none)->(∀s',out≠.bk s')->(∀s',out≠.ct s')->OutOk K O' (T.slots++W) F fps σ D' out:=fun F th D' h1 h2 h3 h4 h5 h6 hb hc=>by
  have kk:=k F th h3 h4 h5 h6 out rfl
  cases out with
  | nx s'=>exact fun fps' σ' H' r' q'=>h1 σ' H' r'.same (kk fps' σ' H' r' q')
  | rt l=>exact fun v fp H' sm i d n=>h2 v H' sm (kk v fp H' sm i d n)
  | bk s'=>exact absurd rfl (hb s')
  | ct s'=>exact absurd rfl (hc s')
 have nobc:(∀s',out≠.bk s')/\(∀s',out≠.ct s'):=by
  have:∀(ls:List PV)(s:ZY)(o:Out),Xc T fb ls s=some o->(∀s',o≠.bk s')/\(∀s',o≠.ct s'):=by
   intro ls
   induction ls with
   | nil=>intro s o h;cases h;exact⟨fun _ z=>(nomatch z),fun _ z=>(nomatch z)⟩
   | cons l rr ih=>
    intro s o h;unfold Xc at h
    obtain⟨s1,_,h⟩:=Zf h
    obtain⟨o1,_,h⟩:=Zf h
    cases o1 with
    | nx s2=>exact ih s2 o h
    | ct s2=>exact ih s2 o h
    | bk s2=>cases h;exact⟨fun _ z=>(nomatch z),fun _ z=>(nomatch z)⟩
    | rt v=>cases h;exact⟨fun _ z=>(nomatch z),fun _ z=>(nomatch z)⟩
  exact this _ _ _ ef
 rcases hd with hd | ⟨o,hd⟩
 ·refine⟨d,kvs,hv,.inl ⟨hd,fun o=>?_⟩⟩
  have h2:upd H d (.frz o (.dT kvs)) d=some (.frz o (.dT kvs)):=upd_same
  have hs:∀b,b≠d->upd H d (.frz o (.dT kvs)) b=H b:=fun b hb=>upd_ne hb
  have Fd:Wi (upd H d (.frz o (.dT kvs))) (Ow O' fps) d=some (.frz o (.dT kvs)):=by unfold Wi;rw[if_neg dO];exact h2
  refine Qg (K:=K) (start _ (.inr ⟨o,h2⟩) hs) (NF h2 dO) ef hT (outk _ (fun Hx=>upd Hx d (.dT kvs)) (thaw d kvs D) (fun σ' H' sm q=>⟨⟨o,sm d _ Fd⟩,q⟩) (fun v H' sm q=>⟨⟨o,sm d _ Fd⟩,q⟩) (fun b hb nb=>?_) (fun b u h=>?_) (fun H' sm=>⟨?_,?_,fun p=>?_,fun p hp=>?_,fun p hp np=>?_⟩) (fun p hp=>?_) nobc.1 nobc.2)
  ·unfold Wi;rw[if_neg nb]
   by_cases e:b=d
   ·subst e;rw[h2];simp
   ·rw[hs b e];exact hb
  ·by_cases e:b=d
   ·subst e
    have:=r.same b u h
    rw[hd] at this;cases this;exact upd_same
   ·rw[upd_ne e]
    unfold Wi
    rw[if_neg (fun z=>by rw[(owm b z).1] at h;cases h),hs b e]
    exact r.same b u h
  ·intro b u h
   by_cases e:b=d
   ·subst e;rw[upd_same] at h ⊢;exact h
   ·rw[upd_ne e] at h ⊢;exact sm b u h
  ·exact TK2.swap (d:=d) (kvs:=kvs) (.inr ⟨o,sm d _ Fd⟩) fun b hb=>upd_ne hb
  ·exact RdK.swap (d:=d) (kvs:=kvs) (.inr ⟨o,sm d _ Fd⟩) (.inl upd_same) (fun b hb=>upd_ne hb) p
  ·exact upd_ne fun e=>by rw[e,Fd] at hp;cases hp
  ·by_cases e:p=d
   ·subst e;rw[hd];exact upd_same.symm
   ·show H p=upd H' d (.dT kvs) p
    rw[upd_ne e];have hpn:=r.dom i p hp
    cases q:H p with
    | none=>exact absurd q hpn
    | some u=>exact(sm p u (by unfold Wi;rw[if_neg np,hs p e];exact q)).symm
  ·cases q:H0 p with
   | none=>rfl
   | some u=>
    exfalso
    have hpd:p≠d:=fun e=>by rw[e,Fd] at hp;cases hp
    unfold Wi at hp
    rw[if_neg (fun z=>by rw[(owm p z).1] at q;cases q),hs p hpd,r.same p u q] at hp
    cases hp
 ·refine⟨d,kvs,hv,.inr ⟨o,hd,?_⟩⟩
  have Fd:Wi H (Ow O' fps) d=some (.frz o (.dT kvs)):=by unfold Wi;rw[if_neg dO];exact hd
  refine Qg (K:=K) (start H (.inr ⟨o,hd⟩) fun _ _=>rfl) (NF hd dO) ef hT (outk _ (fun Hx=>Hx) D (fun σ' H' sm q=>q) (fun v H' sm q=>q) (fun b hb nb=>by unfold Wi;rw[if_neg nb];exact hb) (fun b u h=>?_) (fun H' sm=>⟨sm,Same.tk2 (Same.refl _),fun p=>RdK.of fun _ z=>z,fun p _=>rfl,fun p hp np=>?_⟩) (fun p hp=>?_) nobc.1 nobc.2)
  ·unfold Wi
   rw[if_neg (fun z=>by rw[(owm b z).1] at h;cases h)]
   exact r.same b u h
  ·have hpn:=r.dom i p hp
   cases q:H p with
   | none=>exact absurd q hpn
   | some u=>exact(sm p u (by unfold Wi;rw[if_neg np];exact q)).symm
  ·cases q:H0 p with
   | none=>rfl
   | some u=>
    exfalso;unfold Wi at hp
    rw[if_neg (fun z=>by rw[(owm p z).1] at q;cases q),r.same p u q] at hp
    cases hp
end
section
variable {X:Cx} {O O' W:List Nat} {T:Tgt} {fb:XS} {i:Nat} {st:Stmt}
theorem L0(h:PS X st (Gq (LA (Tz i)) (gT X.K T) (H9 X.K O W fb)))(hi:i∉O:=by decide)(hT:∀j∈T.slots,j∉O:=by decide):VS X O (T.slots++W) st (Qm i T fb):=PS.imp (LZ h) fun D σ H ⟨H0,fps,s,out,r,e,k⟩=>by
 obtain⟨ls,e1,e⟩:=Zf e
 obtain⟨d,e2,e3⟩:=Zf e1
 have e2:=join_some e2
 cases d with
 | dT ks vs=>
  cases e3
  refine PQ (O':=O) r (fun j hj=>⟨hj,fun z=>hi (z▸hj)⟩) e2 e hT fun F th _ h4 h5 h6 out' eo=>?_
  subst eo
  cases out with
  | nx s'=>
   intro fps' σ' H' r' q'
   obtain⟨t1,t2,t3,t4,_⟩:=h5 H' r'.same
   refine k fps' σ' (th H') ⟨h4.trans t1,r'.len,fun j l q=>?_,r'.emp,r'.nd,fun j hj p hp=>⟨h6 p (r'.own j hj p hp).1,by rw[t4 p (r'.own j hj p hp).1];exact(r'.own j hj p hp).2⟩,r'.dis⟩ q'
   obtain⟨v,a,b⟩:=r'.is j l q
   exact⟨v,a,Is.tr t2 _ _ _ (fun p _=>t3 p) b⟩
  | rt l=>
   intro v fp H' sm is nd fr
   obtain⟨t1,t2,t3,t4,_⟩:=h5 H' sm
   exact k v fp (th H') (h4.trans t1) (Is.tr t2 _ _ _ (fun p _=>t3 p) is) nd fun p hp=>⟨h6 p (fr p hp).1,by rw[t4 p (fr p hp).1];exact(fr p hp).2⟩
  | bk s'=>trivial
  | ct s'=>trivial
 | _=>cases e3
def XW(O:List Nat):Nat->ZY->ZY
 | _,[]=>[]
 | k,o::r=>(if k∈O then o else match o with | some l=>if ZN l=true then some l else none | none=>none)::XW O (k+1) r
theorem Tn{O:List Nat}:∀{s:ZY}{k j:Nat}{l:PV},(XW O k s)[j]?=some (some l)->s[j]?=some (some l)/\(k+j∈O\/ZN l=true)
 | [],k,j,l,h=>by simp[XW] at h
 | o::r,k,0,l,h=>by
  unfold XW at h;simp only[List.getElem?_cons_zero,Option.some.injEq] at h
  by_cases hk:k∈O
  ·rw[if_pos hk] at h;exact⟨by simp[h],.inl hk⟩
  ·rw[if_neg hk] at h
   cases o with
   | none=>cases h
   | some a=>
    simp only at h
    split at h
    ·cases h;exact⟨rfl,.inr (by assumption)⟩
    ·cases h
 | o::r,k,j+1,l,h=>by
  unfold XW at h;rw[List.getElem?_cons_succ] at h
  obtain⟨a,b⟩:=Tn h
  exact⟨by simpa using a,by rw[show k+(j+1)=k+1+j by omega];exact b⟩
theorem Qn{O:List Nat}:∀{s:ZY}{k:Nat},(XW O k s).length=s.length
 | [],_=>rfl
 | o::r,k=>by unfold XW;rw[List.length_cons,List.length_cons,Qn]
def MI(O:List Nat):Out->Out
 | .nx s=>.nx (XW O 0 s)
 | o=>o
def To(O:List Nat)(i:Nat)(T:Tgt)(fb:XS):XS:=fun s=>((s[i]?).join.bind PN).bind fun ls=>(Xc T fb ls s).map (MI O)
open Classical in
theorem IC(h:PS X st (Gq (LA (Tz i)) (gT X.K T) (H9 X.K O' W fb)))(hi:i∈O:=by decide)(hO:∀j,j∈O'↔(j∈O/\j≠i))(hT:∀j∈T.slots,j∉O:=by decide)(hW:i∉T.slots++W:=by decide):VS X O (T.slots++W) st (To O i T fb):=PS.imp (LZ h) fun D σ H ⟨H0,fps,s,out,r,e,k⟩=>by
 obtain⟨ls,e1,e⟩:=Zf e
 obtain⟨d,e2,e3⟩:=Zf e1
 obtain⟨out0,e5,rfl⟩:=map_some e
 have e2:=join_some e2
 cases d with
 | dT ks vs=>
  cases e3
  refine PQ (O':=O') r (fun j hj=>(hO j).mp hj) e2 e5 (fun j hj z=>hT j hj ((hO j).mp z).1) fun F th h3 h4 h5 h6 out' eo=>?_
  subst eo
  cases out0 with
  | nx s'=>
   intro fps' σ' H' r' q'
   obtain⟨t1,t2,t3,t4,t5⟩:=h5 H' r'.same
   have ki:=q' i hW
   have fi:∀p∈fps i,¬Ow O' fps p:=fun p hp ⟨j,hj,z⟩=>r.dis i hi j ((hO j).mp hj).2 p hp z
   have Fi:∀p∈fps i,F p≠none:=fun p hp=>h3 p (r.dom i p hp) (fi p hp)
   have sub:∀p,p∈fps' i->p∈fps i:=fun p hp=>by
    rcases ki.2 with z | z
    ·rw[<-z];exact hp
    ·rw[z] at hp;simp at hp
   have ow':∀j∈O',∀p∈fps' j,F p=none:=fun j hj p hp=>(r'.own j hj p hp).1
   have inO:∀j∈O,j≠i->j∈O':=fun j hj n=>(hO j).mpr ⟨hj,n⟩
   have get:∀j p,p∈(if(XW O 0 s')[j]?=s'[j]? then fps' j else [])->p∈fps' j/\(XW O 0 s')[j]?=s'[j]?:=fun j p hp=>by
    split at hp
    ·exact⟨hp,by assumption⟩
    ·simp at hp
   refine k (fun j=>if(XW O 0 s')[j]?=s'[j]? then fps' j else []) σ' (th H') ⟨h4.trans t1,by rw[Qn];exact r'.len,fun j l q=>?_,fun j hne=>?_,fun j hj=>?_,fun j hj p hp=>?_,fun j hj m hm p hp z=>?_⟩ fun j hj=>⟨(q' j hj).1,?_⟩
   ·obtain⟨q1,_⟩:=Tn q
    obtain⟨v,a,b⟩:=r'.is j l q1
    rw[if_pos (q.trans q1.symm)]
    exact⟨v,a,Is.tr t2 _ _ _ (fun p _=>t3 p) b⟩
   ·show(if(XW O 0 s')[j]?=s'[j]? then fps' j else [])=[]
    split
    ·rename_i h;exact r'.emp j fun l z=>hne l (by rw[h];exact z)
    ·rfl
   ·show(if(XW O 0 s')[j]?=s'[j]? then fps' j else []).Nodup
    split
    ·by_cases e:j=i
     ·subst e
      rcases ki.2 with z | z
      ·rw[z];exact r.nd j hi
      ·rw[z];exact List.nodup_nil
     ·exact r'.nd j (inO j hj e)
    ·exact List.nodup_nil
   ·obtain⟨hp,_⟩:=get j p hp
    by_cases e:j=i
    ·subst e
     have hp:=sub p hp
     exact⟨(r.own j hi p hp).1,by rw[<-t5 p hp (fi p hp)];exact(r.own j hi p hp).2⟩
    ·have o:=r'.own j (inO j hj e) p hp
     exact⟨h6 p o.1,by rw[t4 p o.1];exact o.2⟩
   ·obtain⟨hp,_⟩:=get j p hp
    obtain⟨zp,zc⟩:=get m p z
    by_cases e:j=i
    ·subst e
     have hpi:=sub p hp
     by_cases hmO:m∈O'
     ·exact Fi p hpi (ow' m hmO p zp)
     ·obtain⟨l,v,ql,_,b⟩:=r'.at m zp
      rw[ql] at zc
      obtain⟨_,alt⟩:=Tn zc
      rcases alt with alt | alt
      ·rw[Nat.zero_add] at alt
       exact hmO (inO m alt hm)
      ·rw[Is.pure _ _ _ alt b] at zp;simp at zp
    ·exact r'.dis j (inO j hj e) m hm p hp zp
   ·show Kep (if(XW O 0 s')[j]?=s'[j]? then fps' j else []) (fps j)
    split
    ·exact(q' j hj).2
    ·exact .inr rfl
  | rt l=>
   intro v fp H' sm is nd fr
   obtain⟨t1,t2,t3,t4,_⟩:=h5 H' sm
   exact k v fp (th H') (h4.trans t1) (Is.tr t2 _ _ _ (fun p _=>t3 p) is) nd fun p hp=>⟨h6 p (fr p hp).1,by rw[t4 p (fr p hp).1];exact(fr p hp).2⟩
  | bk s'=>trivial
  | ct s'=>trivial
 | _=>cases e3
end
end VL
namespace VL
open PySem PySem.Spec PyProof.Rows L2
variable {K:PySem.W.Frag}
section
variable {X:Cx} {O:List Nat} {tg elt iter:Expr} {ifs:List Expr} {scope:Scope} {pos:Pos} {fi:XL} {T:Tgt} {ft:XT} {fe:XE}
theorem UQ(own fr:List Str)(ix:List Nat){i:Nat}{y:Str}{py spos:Pos}(hN:X.N.Nodup)(hy:X.N[i]?=some y)(hloc:X.env.scope.names.lookup y=some .local)(hcalm:X.calm=true)(hi:VI X tg iter fi)(S:Te X.N X.env.scope scope own fr ix=true)
  (hg:∀cl C s H ex,PG (ZW X (own++fr) scope cl C s H ex) tg (gT X.K T)) (ht:∀cl C s H ex,CW (ZW X (own++fr) scope cl C s H ex) ifs ft) (he:∀cl C s H ex,VM (ZW X (own++fr) scope cl C s H ex) elt fe)
  (hT:∀i∈T.slots,i<own.length:=by decide)
  (hsw:swapsWith (.ListComp elt [⟨tg,iter,ifs,0⟩] scope pos) (some (.Name y py)) spos.line X.env=pure true:=by rfl)
  (hs:∀x,foldedSetIterable iter X.env x=pure x:=by intro _;rfl):VS X O [i] (.Assign [.Name y py] (.ListComp elt [⟨tg,iter,ifs,0⟩] scope pos) spos) (Zk i (Zu own.length ix fi T ft fe)):=
 PS.imp (Ia own fr ix hN hy hloc hcalm hi S hg (fun cl C s H ex=>(show J6 (ZW X (own++fr) scope cl C s H ex) ifs (Mk X.K ft) from ht cl C s H ex)) (fun cl C s H ex=>(show PE (ZW X (own++fr) scope cl C s H ex) elt (tM X.K fe) from he cl C s H ex)) hsw hs) (LQ (LN hT))
end
def OI(i:Nat)(fk:XE):XS:=fun s=>(Za i s).bind fun a=>((fk s).bind JP).bind fun k=>if k=0 then some (.rt .non) else if k=1 then some (.rt a) else none
theorem Je{X:Cx}{O:List Nat}{e:Expr}{i:Nat}{fk:XE}{pos:Pos}(he:PE X e (EO (GC X.K) (Cw (TH (tC .non) (TH (Tz i) KO))) (tF X.K fk)))(hi:i∈O:=by decide):VS X O [] (.Return (some e) pos) (OI i fk):=PS.imp (Od he) fun D σ H ⟨H0,fps,s,out,r,e,k⟩=>by
 obtain⟨a,e0,e⟩:=Zf e
 obtain⟨n,e1,e⟩:=Zf e
 obtain⟨l,e1,e2⟩:=Zf e1
 rw[T4 e2] at e1
 obtain⟨v,hv,iv⟩:=r.is i a (SD e0)
 refine⟨v,hv,(by show 2<=sizeLine;decide),fun p hp=>?_⟩
 have sn:Same H (upd H p (.lst [V.non,v])):=Same.new hp _
 refine⟨fun _=>False,s,_,fun _ z=>z.elim,r.env.mono sn,e1,fun y H2 fy s2 i2 _=>?_⟩
 have hp2:H2 p=some (.lst [V.non,v]):=s2 _ _ upd_same
 by_cases h0:n=0
 ·rw[if_pos h0] at e;cases e
  exact⟨p,[V.non,v],n,V.non,rfl,i2.int_inv.1,SqL.of hp2,by rw[h0];rfl,k .non [] H2 (r.same.trans (sn.trans s2)) Is.non List.nodup_nil fun p hp=>by simp at hp⟩
 ·rw[if_neg h0] at e
  split at e
  ·rename_i h1
   cases e;have s12:=sn.trans s2
   exact⟨p,[V.non,v],n,v,rfl,i2.int_inv.1,SqL.of hp2,by rw[h1];rfl,k v (fps i) H2 (r.same.trans s12) (iv.mono s12) (r.nd i hi) fun q hq=>⟨(r.own i hi q hq).1,Same.mut s12 (r.own i hi q hq).2⟩⟩
  ·cases e
section
variable {P:Program} {w:World} {mg:Str->Option Value} {base:Heap}
theorem Dx{x:Str}{st:Stmt}{N ps:List Str}{k n:Nat}{O W:List Nat}{fa:Addr}{fd:FuncData}(m:Nat)(f:XS)(F:Fun K x x st fa fd)(S:ZI N ps (Zn st))
  (hn:ps.length=n) (hm:N.length=m) (hO:∀i∈O,n<=i)
  (hbody:∀(fa:Addr)(cdv:Value)(A:Around)(outer:List Env)(s:Shared)(H:Hp)(E:XK),Room k (A.deeper (envOfC x (Zn st) s.heap.objs.size fa cdv))->Ga (QW Mv P w K mg base N x (Zn st) fa cdv A outer s H E).nox O W (YT st) f) :
  Sv P w K mg base Mv (k+1) fa fd ps (Xt K (Xy m f) n):=by
 subst hm
 refine F.ok S (fun vs H Q E h=>by rw[hn];exact h.1) fun cdv A outer s H vs Q E hr h=>⟨_,hbody fa cdv A outer s H E hr,?_⟩
 exact OH hO h
theorem ID{st:Stmt}{x:Str}{D:List PV->Option PV}{k:Nat}{fa:Addr}(Df:Def K mg "law" st)(hfa:mg "law" = some (.ref fa))
  (hb:∀(kV doc pm:Value)(an:Option Addr)(cdv ct u:Value),bindArgs (PySem.W.fnOf "law" "law" (XN st) (YT st) (Zn st) .none kV doc pm an cdv ct) ⟨[u],[]⟩=pure [(x,u)])
  (H:∀(base:Heap)(f:Addr)(fd:FuncData),K.In base->base.Ns mainGlobals mg->Fun K "law" "law" st f fd->Sv P w K mg base Mv k f fd [x] (Xt K D 1)) :
  ∃fd:FuncData,(∀(s:Shared)(u:Value),BindsTo s fd ⟨[u],[]⟩ [(x,u)])/\∀base:Heap,K.In base->base.Ns mainGlobals mg->Sv P w K mg base Mv k fa fd [x] (Xt K D 1):=by
 obtain⟨f,fd,hm,F⟩:=Df.ex
 have e:=hfa.symm.trans hm;cases e
 refine⟨fd,?_,fun base h1 h2=>H base fa fd h1 h2 F⟩
 obtain⟨oc,od,kV,doc,pm,an,cdv,ct,osl,rfl,lk,hcd⟩:=F.ex
 exact fun s u=>.of_eq (hb kV doc pm an cdv ct u)
end
theorem Dy{H:Hp}{a:Addr}{ns:List Int}{D:List PV->Option PV}{E:XK}(hD:D [.cst (iL ns)]=some (.bl true))(hO:E8 H)(hS:SqL K H a (ns.map V.int)):Xt K D 1 [.ref a] H (fun v _=>v = .bl true) E:=by
 have cs:CsK K H a (ns.map V.int):=by
  rcases hS with h | h
  ·rcases h with h | ⟨o,h⟩
   ·rcases hO a with z | ⟨o,xs,z⟩
    ·rw[h] at z;cases z
    ·rw[h] at z;cases z
   ·exact .inl ⟨o,h⟩
  ·exact .inr h
 exact⟨rfl,[.cst (iL ns)],[],.bl true,Iss.one (Is.cst cs (Iss.ofInts ns)),hD,fun v H' fq _ i _ _=>i.bl_inv.1⟩
end VL
namespace VL
open PySem L2
@[simp] theorem T7(i:Nat)(s:ZY):Za i s=(s[i]?).join:=rfl
@[simp] theorem eC_def(l:PV)(s:ZY):eC l s=some l:=rfl
@[simp] theorem Z2(g:PV->PV->Option PV)(a b:XE)(s:ZY):Zg g a b s=(a s).bind fun x=>(b s).bind fun y=>g x y:=rfl
@[simp] theorem eUn_def(g:PV->Option PV)(a:XE)(s:ZY):Ml g a s=(a s).bind g:=rfl
@[simp] theorem Xa(f:XE)(s:ZY):eP f s=(f s).bind fun l=>if ZN l=true then some l else none:=rfl
@[simp] theorem Fb(s:ZY):Rl [] s=some []:=rfl
@[simp] theorem ZP(f:XE)(fs:List XE)(s:ZY):Rl (f::fs) s=(f s).bind fun x=>(Rl fs s).map (x::·):=rfl
@[simp] theorem Yu(D:List PV->Option PV)(fs:List XE)(s:ZY):Ze D fs s=(Rl fs s).bind D:=rfl
@[simp] theorem eTup_def(fs:List XE)(s:ZY):Yg fs s=(Rl fs s).map .tup:=rfl
@[simp] theorem IE(fs:List XE)(s:ZY):Yl fs s=(Rl fs s).map .lst:=rfl
@[simp] theorem eSl_def(g:PV->Option Int->Option Int->Option PV)(a:XE)(lo hi:XO)(s:ZY):BG g a lo hi s=(a s).bind fun x=>(lo s).bind fun l=>(hi s).bind fun u=>g x l u:=rfl
@[simp] theorem xoN_def(s:ZY):B4 s=some none:=rfl
@[simp] theorem gI_ii(g:Int->Int->Int)(i j:Int):gI g (.int i) (.int j)=some (.int (g i j)):=rfl
@[simp] theorem gB_ii(g:Int->Int->Bool)(i j:Int):gB g (.int i) (.int j)=some (.bl (g i j)):=rfl
@[simp] theorem Dz(C:Int->Int->Prop)[∀i j,Decidable (C i j)](g:Int->Int->Int)(i j:Int):HZ C g (.int i) (.int j)=if C i j then some (.int (g i j)) else none:=rfl
@[simp] theorem gIx_ti(l:List PV)(i:Int):ZA (.tup l) (.int i)=VH l i:=rfl
@[simp] theorem gIx_li(l:List PV)(i:Int):ZA (.lst l) (.int i)=VH l i:=rfl
@[simp] theorem gIx_ci(l:List PV)(i:Int):ZA (.cst l) (.int i)=VH l i:=rfl
@[simp] theorem XX(f:XE)(s:ZY):xB f s=(f s).bind MH:=by
 unfold xB
 cases f s with
 | none=>rfl
 | some a=>cases a<;>rfl
@[simp] theorem DA(b:Bool):MH (.bl b)=some b:=rfl
@[simp] theorem WL(a b:XT)(s:ZY):XM a b s=(a s).bind fun c=>if c=true then b s else some false:=rfl
@[simp] theorem UR(a b:XT)(s:ZY):O8 a b s=(a s).bind fun c=>if c=true then some true else b s:=rfl
@[simp] theorem Uu(a:XT)(s:ZY):Tg a s=(a s).map not:=rfl
@[simp] theorem NG(a b:XE)(s:ZY):K7 a b s=(xB a s).bind fun c=>if c=true then b s else some (.bl false):=rfl
@[simp] theorem eOr_def(a b:XE)(s:ZY):B1 a b s=(xB a s).bind fun c=>if c=true then some (.bl true) else b s:=rfl
@[simp] theorem eNot_def(a:XE)(s:ZY):GZ a s=(xB a s).map fun c=>.bl !c:=rfl
@[simp] theorem V3(c:XT)(a b:XE)(s:ZY):Oz c a b s=(c s).bind fun k=>if k=true then a s else b s:=rfl
@[simp] theorem eIsN_def(neg:Bool)(a:XE)(s:ZY):TY neg a s=(a s).bind (G0 neg):=rfl
@[simp] theorem PR(s:ZY):ZO s=some (.nx s):=rfl
@[simp] theorem Yh(f g:XS)(s:ZY):Zj f g s=(f s).bind fun o=>match o with | .nx s'=>g s' | r=>some r:=rfl
@[simp] theorem Yj(c:XT)(f g:XS)(s:ZY):WU c f g s=(c s).bind fun k=>if k=true then f s else g s:=rfl
@[simp] theorem IF(f:XE)(s:ZY):Z4 f s=(f s).map .rt:=rfl
@[simp] theorem Zv(i:Nat)(f:XE)(s:ZY):Zk i f s=(f s).map fun l=>.nx (s.set i (some l)):=rfl
@[simp] theorem retO_rt(v:PV):Xh (.rt v)=some v:=rfl
@[simp] theorem Jf(i:Int):ZN (.int i)=true:=rfl
@[simp] theorem pureV_bl(i:Bool):ZN (.bl i)=true:=rfl
@[simp] theorem pureV_str(i:Str):ZN (.str i)=true:=rfl
@[simp] theorem pureV_non:ZN .non=true:=rfl
@[simp] theorem US(l:List PV):ZN (.tup l)=ZJ l:=by rw[ZN]
@[simp] theorem pureL_nil:ZJ []=true:=rfl
@[simp] theorem pureL_cons(a:PV)(l:List PV):ZJ (a::l)=(ZN a&&ZJ l):=rfl
theorem SF{α:Type}{l:List α}{f:α->PV}(h:∀a∈l,ZN (f a)=true):ZJ (l.map f)=true:=by
 rw[WD,List.all_map,List.all_eq_true];exact h
@[simp] theorem pureL_iL(l:List Int):ZJ (l.map PV.int)=true:=Xn l
abbrev pP(l:List Int):PV:=.tup (iL l)
abbrev wP(W:List (List Int)):PV:=.tup (W.map pP)
@[simp] theorem T8(W:List (List Int)):ZJ (W.map pP)=true:=SF fun a _=>by simp
theorem IG{l:List Int}{k:Nat}(h:k<l.length):(iL l)[k]?=some (.int (YC l k)):=by
 rw[List.getElem?_map,List.getElem?_eq_getElem h];simp[YC,List.getD_eq_getElem?_getD,List.getElem?_eq_getElem h]
theorem Vl{l:List Int}{k:Nat}(h:k<l.length):VH (iL l) (k:Int)=some (.int (YC l k)):=W4 (IG h)
theorem RH{W:List (List Int)}{k:Nat}(h:k<W.length):VH (W.map pP) (k:Int)=some (pP (Zt W k)):=by
 refine W4 ?_
 rw[List.getElem?_map,R1 h];rfl
@[simp] theorem gSum_t(l:List Int):Il [.tup (l.map PV.int)]=some (.int l.sum):=by
 simp[Il,Rn,Wg l]
@[simp] theorem MJ(l:List Bool):Tj [.lst (l.map PV.bl)]=some (.bl (l.all id)):=by
 simp[Tj,Rn,Vj l]
@[simp] theorem DB(l:List Bool):Nx [.lst (l.map PV.bl)]=some (.bl (l.any id)):=by
 simp[Nx,Rn,Vj l]
@[simp] theorem gLen_t(l:List PV):ZG [.tup l]=some (.int l.length):=rfl
@[simp] theorem gLen_l(l:List PV):ZG [.lst l]=some (.int l.length):=rfl
@[simp] theorem gLen_c(l:List PV):ZG [.cst l]=some (.int l.length):=rfl
@[simp] theorem gTuple_l(l:List PV):Y3 [.lst l]=some (.tup l):=rfl
@[simp] theorem gTuple_t(l:List PV):Y3 [.tup l]=some (.tup l):=rfl
@[simp] theorem NH(l:List PV):XR [.tup l]=if ZJ l=true then some (.lst l) else none:=rfl
@[simp] theorem IH(l:List PV):XR [.lst l]=if ZJ l=true then some (.lst l) else none:=rfl
@[simp] theorem gMin2_ii(i j:Int):Uk [.int i,.int j]=some (.int (if j<i then j else i)):=rfl
@[simp] theorem gMax2_ii(i j:Int):PF [.int i,.int j]=some (.int (if j>i then j else i)):=rfl
@[simp] theorem gInt1_b(c:Bool):Ul [.bl c]=some (.int (if c then 1 else 0)):=rfl
@[simp] theorem gInt1_i(c:Int):Ul [.int c]=some (.int c):=rfl
@[simp] theorem gInst_ii(i:Int):W8 [.int i,.ty "int"]=some (.bl true):=rfl
@[simp] theorem gInst_ib(i:Int):W8 [.int i,.ty "bool"]=some (.bl false):=rfl
@[simp] theorem gInst_tt(l:List PV):W8 [.tup l,.ty "tuple"]=some (.bl true):=rfl
@[simp] theorem gInst_ll(l:List PV):W8 [.lst l,.ty "list"]=some (.bl true):=rfl
theorem L4(n:Nat)(i j:Int):Wv (n+1) (.int i) (.int j)=true:=rfl
theorem S8{α β:Type}{f:α->PV}{g:β->PV}{p:PV->PV->Bool}(h:∀a b,p (f a) (g b)=true):∀(l:List α)(m:List β),((l.map f).zip (m.map g)).all (fun z=>p z.1 z.2)=true
 | [],_=>by simp
 | _::_,[]=>by simp
 | a::l,b::m=>by
  rw[List.map_cons,List.map_cons,List.zip_cons_cons,List.all_cons,S8 h l m,h a b];rfl
theorem Fc(n:Nat)(l m:List Int):Wv (n+2) (.lst (iL l)) (.lst (iL m))=true:=S8 (fun a b=>L4 n a b) l m
theorem DC{l m:List Int}:iL l=iL m↔l=m:=by
 constructor
 ·intro h
  exact(List.map_inj_right (fun a b e=>PV.int.inj e)).mp h
 ·intro h;rw[h]
@[simp] theorem gEq_ii(neg:Bool)(i j:Int):Yc neg (.int i) (.int j)=some (.bl (if neg then !decide (i=j) else decide (i=j))):=by
 unfold Yc;rw[if_pos (L4 7 i j)]
 congr 2
 cases neg<;>simp
@[simp] theorem DD(neg:Bool)(l m:List Int):Yc neg (.lst (l.map PV.int)) (.lst (m.map PV.int))=some (.bl (if neg then !decide (l=m) else decide (l=m))):=by
 unfold Yc;rw[if_pos (Fc 6 l m)]
 have:decide ((PV.lst (l.map PV.int)) = .lst (m.map PV.int))=decide (l=m):=decide_eq_decide.mpr (by rw[PV.lst.injEq];exact DC)
 rw[this]
theorem PU{α:Type}{T:Tgt}{ft:XT}{fe:XE}{s0:ZY}{q g:α->PV}:∀{ls:List α},(∀a∈ls,∃s1,Ur T (q a) s0=some s1/\ft s1=some true/\fe s1=some (g a))->WK T ft fe s0 (ls.map q)=some (ls.map g)
 | [],_=>rfl
 | a::r,h=>by
  obtain⟨s1,h1,h2,h3⟩:=h a List.mem_cons_self
  have ih:=PU (ls:=r) fun b hb=>h b (List.mem_cons_of_mem _ hb)
  rw[List.map_cons,List.map_cons];unfold WK;rw[h1];simp only[Option.bind_some,h2,if_true,h3,ih,Option.map_some]
theorem T9{α:Type}{T:Tgt}{ft:XT}{fe:XE}{s0:ZY}{q g:α->PV}{c:α->Bool}:∀{ls:List α},(∀a∈ls,∃s1,Ur T (q a) s0=some s1/\ft s1=some (c a)/\(c a=true->fe s1=some (g a)))->WK T ft fe s0 (ls.map q)=some ((ls.filter c).map g)
 | [],_=>rfl
 | a::r,h=>by
  obtain⟨s1,h1,h2,h3⟩:=h a List.mem_cons_self
  have ih:=T9 (ls:=r) fun b hb=>h b (List.mem_cons_of_mem _ hb)
  rw[List.map_cons];unfold WK;rw[h1];simp only[Option.bind_some,h2]
  cases hc:c a with
  | true=>simp[h3 hc,ih,hc]
  | false=>simp[ih,hc]
theorem ZQ{α:Type}{n:Nat}{ix:List Nat}{fi:XL}{T:Tgt}{ft:XT}{fe:XE}{s:ZY}(ls:List α)(q g:α->PV)(hfi:fi s=some (ls.map q))(hl:ls.length<=10000)
  (h:∀a∈ls,∃s1,Ur T (q a) (Yn n ix s)=some s1/\ft s1=some true/\fe s1=some (g a)):Zu n ix fi T ft fe s=some (.lst (ls.map g)):=by
 unfold Zu;rw[hfi];simp only[Option.bind_some,List.length_map,if_pos hl,PU h,Option.map_some]
theorem Wy{α:Type}{n:Nat}{ix:List Nat}{fi:XL}{T:Tgt}{ft:XT}{fe:XE}{s:ZY}(ls:List α)(q g:α->PV)(c:α->Bool)(hfi:fi s=some (ls.map q))(hl:ls.length<=10000)
  (h:∀a∈ls,∃s1,Ur T (q a) (Yn n ix s)=some s1/\ft s1=some (c a)/\(c a=true->fe s1=some (g a))):Zu n ix fi T ft fe s=some (.lst ((ls.filter c).map g)):=by
 unfold Zu;rw[hfi];simp only[Option.bind_some,List.length_map,if_pos hl,T9 h,Option.map_some]
theorem ZK{T:Tgt}{fb:XS}:∀{ls:List PV}{s:ZY}(Jv:Nat->ZY->Prop),Jv 0 s->(∀(i:Nat) l st,ls[i]?=some l->Jv i st->∃s1 s2,Ur T l st=some s1/\fb s1=some (.nx s2)/\Jv (i+1) s2)->
  ∃s',Xc T fb ls s=some (.nx s')/\Jv ls.length s'
 | [],s,Jv,h0,_=>⟨s,rfl,h0⟩
 | l::r,s,Jv,h0,h=>by
  obtain⟨s1,s2,a,b,c⟩:=h 0 l s rfl h0
  obtain⟨s',d,e⟩:=ZK (ls:=r) (s:=s2) (fun i=>Jv (i+1)) c fun i l' st hl hi=>h (i+1) l' st (by simpa using hl) hi
  refine⟨s',?_,e⟩
  unfold Xc;rw[a];simp only[Option.bind_some,b];exact d
theorem XY{n i:Nat}{l:PV}(h:(Xv n)[i]?=some l):i<n/\l = .int (i:Int):=by
 have hi:=(List.getElem?_eq_some_iff.mp h).1
 unfold Xv at hi h;rw[List.length_map,List.length_range] at hi;rw[List.getElem?_map,List.getElem?_range hi] at h
 exact⟨hi,(Option.some.inj h).symm⟩
theorem Wj{lo:Int}{n i:Nat}{l:PV}(h:(Xf lo n)[i]?=some l):i<n/\l = .int (lo+(i:Int)):=by
 have hi:=(List.getElem?_eq_some_iff.mp h).1
 unfold Xf at hi h;rw[List.length_map,List.length_range] at hi;rw[List.getElem?_map,List.getElem?_range hi] at h
 exact⟨hi,(Option.some.inj h).symm⟩
@[simp] theorem Vw(n:Nat):(Xv n).length=n:=by unfold Xv;simp
@[simp] theorem Wk(lo:Int)(n:Nat):(Xf lo n).length=n:=by unfold Xf;simp
@[simp] theorem bindT_one(i:Nat)(l:PV)(s:ZY):Ur (.one i) l s=some (s.set i (some l)):=rfl
theorem S9(m:List PV):Vu m=(List.range m.length).map fun(i:Nat)=>.tup [.int (i:Int),m.getD i .non]:=by
 apply List.ext_getElem?
 intro i;rw[List.getElem?_map]
 by_cases h:i<m.length
 ·have:(Vu m)[i]?=some (.tup [.int (i:Int),m[i]]):=by
   unfold Vu;rw[List.getElem?_map,List.getElem?_zipIdx,List.getElem?_eq_getElem h]
   simp
  rw[this,List.getElem?_range h];simp[List.getD_eq_getElem?_getD,List.getElem?_eq_getElem h]
 ·rw[List.getElem?_eq_none (by rw[UL];omega),List.getElem?_eq_none (by simpa using h)];rfl
theorem MK(m n:List PV)(h:n.length=m.length):Q5 m n=(List.range m.length).map fun(i:Nat)=>.tup [m.getD i .non,n.getD i .non]:=by
 apply List.ext_getElem?
 intro i;rw[List.getElem?_map]
 by_cases hi:i<m.length
 ·have:(Q5 m n)[i]?=some (.tup [m[i],n[i]]):=by
   unfold Q5
   rw[List.getElem?_map,List.getElem?_zip_eq_some (z:=(m[i],n[i])) |>.mpr ⟨List.getElem?_eq_getElem hi,List.getElem?_eq_getElem (by omega)⟩]
   rfl
  rw[this,List.getElem?_range hi];simp[List.getD_eq_getElem?_getD,List.getElem?_eq_getElem hi,List.getElem?_eq_getElem (show i<n.length by omega)]
 ·rw[List.getElem?_eq_none (by rw[Nz];omega),List.getElem?_eq_none (by simpa using hi)];rfl
theorem L5(l:List Int)(i:Nat)(h:i<l.length):(iL l).getD i .non = .int (YC l i):=by
 rw[List.getD_eq_getElem?_getD,IG h];rfl
theorem II(W:List (List Int))(i:Nat)(h:i<W.length):(W.map pP).getD i .non=pP (Zt W i):=by
 rw[List.getD_eq_getElem?_getD,List.getElem?_map,R1 h];rfl
@[simp] theorem Fe(f:XE)(s:ZY):ZL [f] s=(f s).bind fun a=>(JP a).bind fun j=>if -1000000<=j/\j<=1000000 then some (Xv j.toNat) else none:=by
 unfold ZL
 cases h:f s with
 | none=>simp[h]
 | some a=>cases a<;>simp[h,JP]
@[simp] theorem Ff(f g:XE)(s:ZY):ZZ [f,g] s=(f s).bind fun a=>(g s).bind fun b=>(JP a).bind fun i=>(JP b).bind fun j=>if -1000000<=i/\i<=1000000/\-1000000<=j/\j<=1000000 then some (Xf i (j-i).toNat) else none:=by
 unfold ZZ
 cases h:f s with
 | none=>simp[h]
 | some a=>cases h2:g s with
  | none=>simp[h,h2]
  | some b=>cases a<;>cases b<;>simp[h,h2,JP]
@[simp] theorem RI(i:Int):JP (.int i)=some i:=rfl
@[simp] theorem L6(i:List PV):CZ (.lst i)=some i:=rfl
@[simp] theorem Jg(b:Bool)(f:XE)(s:ZY):Ta b [f] s=(f s).bind fun l=>(seqB b l).map Vu:=by
 unfold Ta
 cases h:f s<;>simp[h]
@[simp] theorem DE(l:List PV):seqB false (.tup l)=some l:=rfl
@[simp] theorem seqB_t(l:List PV):seqB true (.lst l)=some l:=rfl
@[simp] theorem seqB_c(l:List PV):seqB true (.cst l)=some l:=rfl
@[simp] theorem xLst_def(f:XE)(s:ZY):YM f s=(f s).bind El:=rfl
@[simp] theorem asS_l(l:List PV):El (.lst l)=some l:=rfl
@[simp] theorem asS_c(l:List PV):El (.cst l)=some l:=rfl
theorem IJ{f:XE}{s:ZY}{l:List PV}(h:f s=some (.tup l)):Vk f s=some l:=by unfold Vk;rw[h]
@[simp] theorem ZU(O:List Nat)(fi:XL)(T:Tgt)(fb:XS)(s:ZY):Z0 O fi T fb s=(fi (ZE O s)).bind fun ls=>Xc T fb ls s:=rfl
@[simp] theorem xTrue_def(s:ZY):ZH s=some true:=rfl
theorem Ya{f:XE}{s:ZY}{n:Nat}(h:f s=some (.int (n:Int)))(hn:n<=10000):ZL [f] s=some (Xv n):=by
 rw[Fe,h];simp only[Option.bind_some,RI];rw[if_pos ⟨by omega,by omega⟩,Int.toNat_natCast]
theorem Y8{f g:XE}{s:ZY}{i j:Int}(h:f s=some (.int i))(h':g s=some (.int j))(hi : -10000<=i/\i<=10000)(hj : -10000<=j/\j<=10000):ZZ [f,g] s=some (Xf i (j-i).toNat):=by
 rw[Ff,h,h'];simp only[Option.bind_some,RI];rw[if_pos ⟨by omega,by omega,by omega,by omega⟩]
theorem IK{i j:Int}(h0 : -10000<=i)(h:i<=10000):CMul i j:=by
 refine .inl ?_
 have e:(2^64:Int)=18446744073709551616:=by decide
 rw[e];omega
theorem Sa{c:Bool}(h:c=true):gd c=some ():=by unfold gd;rw[if_pos h]
theorem Qo{i:Nat}{f:XE}{s:ZY}{m n:List PV}(h:f s=some (.lst n))(hm:Gb s i=some m)(hl:m.length+n.length<=10000):Wx i f s=some (.nx (s.set i (some (.lst (m++n))))):=by
 unfold Wx;rw[h];simp only[Option.bind_some,L6,hm,Sa (decide_eq_true hl)]
theorem V4{i:Nat}{f:XE}{s:ZY}{m:List PV}{l:PV}(h:f s=some l)(hm:Gb s i=some m)(hl:m.length<=10000):Y4 i f s=some (.nx (s.set i (some (.lst (m++[l]))))):=by
 unfold Y4;rw[h];simp only[Option.bind_some,hm,Sa (decide_eq_true hl)]
theorem ML{i:Nat}{fk f:XE}{s:ZY}{m:List PV}{l:PV}{k:Int}(hk:fk s=some (.int k))(h:f s=some l)(hm:Gb s i=some m)(hp:ZJ m=true)(hq:ZN l=true)(h0:0<=k)(h1:k<=1000000)(hl:m.length<=10000) :
  UO i fk f s=some (.nx (s.set i (some (.lst (m.take k.toNat++l::m.drop k.toNat))))):=by
 unfold UO;rw[hk,h]
 have c:(ZJ m&&ZN l&&decide (0<=k/\k<=1000000/\m.length<=10000))=true:=by rw[hp,hq,decide_eq_true ⟨h0,h1,hl⟩];rfl
 simp only[Option.bind_some,RI,hm,Sa c]
theorem V5{i:Nat}{fa fb f:XE}{s:ZY}{m n:List PV}{l:PV}{a b:Int}{j c:Nat}(h:f s=some l)(ha:fa s=some (.int a))(hb:fb s=some (.int b))(hm:Gb s i=some m)(hj:Mj m.length a=some j)(hn:m[j]?=some (.lst n))(hp:ZJ n=true)(hq:ZN l=true)(hc:Mj n.length b=some c) :
  XD i fa fb f s=some (.nx (s.set i (some (.lst (m.set j (.lst (n.set c l))))))):=by
 unfold XD;rw[h,ha,hb]
 have cc:(ZJ n&&ZN l)=true:=by rw[hp,hq];rfl
 simp only[Option.bind_some,RI,L6,hm,hj,hn,Sa cc,hc,Option.map_some]
theorem W9{n k:Nat}(h:k<n):Mj n (k:Int)=some k:=by
 unfold Mj
 rw[if_pos (by omega),if_pos (by omega)];rfl
theorem V6{i j:Int}(h0:0<j)(h:j<=10000):TF i j:=⟨h0,by omega⟩
end VL
namespace VL
open PySem PySem.Spec PyProof.Rows L2
variable {K:PySem.W.Frag}
def Eo(K:PySem.W.Frag):R2:=fun x y H Q=>∃a b xs ys,x = .ref a/\y = .ref b/\SqT K H a xs/\SqT K H b ys/\xs.length+ys.length<=sizeLine/\
 (xs=[]->Q (.ref b) H)/\(ys=[]->Q (.ref a) H)/\∀p,H p=none->Q (.ref p) (upd H p (.tup (xs++ys)))
theorem Fg{X:Cx}:UJ X (binaryOp .Add) (Eo X.K):=by
 intro pins s σ H x y v u Q I rx ry h
 obtain⟨a,b,xs,ys,rfl,rfl,ha,hb,hz,q0,q1,q2⟩:=h
 by_cases hx:xs=[]
 ·cases rx
  cases ry
  obtain⟨its,r1,p1,_⟩:=I.tuple ha
  obtain⟨its2,r2,p2,_⟩:=I.tuple hb
  obtain⟨⟨cls,dd,data,sl⟩,ho,hc,n,hd⟩:=id p1
  obtain⟨⟨cls2,dd2,data2,sl2⟩,ho2,hc2,n2,hd2⟩:=id p2
  simp only at hc hd hc2 hd2
  subst hc hd hc2 hd2
  exact concat_meets ⟨_,ho,rfl⟩ ⟨_,ho2,rfl⟩ noFill_tuple_add seq_tuple_add PySem.F.slot_tuple_add PySem.F.entry_tuple_add (PySem.F.args_tuple_add_2 _ _)
   (tuple_addW0 a b its.toArray its2.toArray n n2 dd dd2 sl sl2 (by simp[r1.nil_iff.mpr hx])) ⟨ho,ho2,.ref b,H,I,rfl,q0 hx⟩
 ·exact GB _ _ _ _ _ _ _ _ _ I rx ry ⟨a,b,xs,ys,rfl,rfl,ha,hb,hx,hz,q1,fun _=>q2⟩
def Qp:PV->PV->Option PV
 | .tup m,.tup n=>if m.length+n.length<=10000 then some (.tup (m++n)) else none
 | _,_=>none
theorem Fh:RB K (Eo K) Qp:=fun H x y a b l fa fb ha hb e Q k=>by
 cases a with
 | tup m=>cases b with
  | tup n=>
   have e:(if m.length+n.length<=10000 then some (PV.tup (m++n)) else none)=some l:=e
   split at e
   case isFalse=>cases e
   rename_i hl
   cases e
   obtain⟨p,xs,rfl,hp,hi⟩:=ha.tup_inv
   obtain⟨p',ys,rfl,hp',hi'⟩:=hb.tup_inv
   refine⟨p,p',xs,ys,rfl,rfl,SqT.of hp,SqT.of hp',by rw[hi.len,hi'.len];exact Nat.le_of_lt (lt_size hl),fun z=>?_,fun z=>?_,fun q hq=>?_⟩
   ·have:m=[]:=List.length_eq_zero_iff.mp (by rw[<-hi.len,z];rfl)
    subst this
    exact k _ _ fb (Same.refl _) hb fun r hr=>.inr (.inl hr)
   ·have:n=[]:=List.length_eq_zero_iff.mp (by rw[<-hi'.len,z];rfl)
    subst this;rw[List.append_nil] at k
    exact k _ _ fa (Same.refl _) ha fun r hr=>.inl hr
   ·exact k _ _ (fa++fb) (Same.new hq _) (Is.tup upd_same ((hi.append hi').mono (Same.new hq _))) fun r hr=>(List.mem_append.mp hr).elim .inl fun z=>.inr (.inl z)
  | _=>cases e
 | _=>cases e
end VL
namespace PW
open PySem L2 VL
noncomputable def SG:XS:=(Z4 (eP (Ze Il [(Zg ZA (Za 0) (Za 1))])))
noncomputable def X6:List PV->Option PV:=Xy 2 SG
noncomputable def UT:XS:=(Zj (Zk 1 (Yl []))
  (Zj (Z0 [1] (Ta false [(Za 0)]) (.many [2,3]) (Z0 [1] (ZZ [(Zg ZX (Za 2) (eC (.int 1))),(Ze ZG [(Za 0)])]) (.one 4) (Wx 1 (Zu 1 [2,4] (ZL [(Zg ZA (Za 3) (Za 4))]) (.one 0) ZH (eP (Yg [(Za 1),(Za 2),(Za 0)]))))))
  (Z4 (Za 1))))
noncomputable def WE:List PV->Option PV:=Xy 5 UT
noncomputable def Qq:XS:=(Z4 (eP (Zg ZA (Zg Ql (BG Dw (Za 0) (CY (Za 1)) (CY (Zg ZX (Za 1) (eC (.int 1))))) (Yl [(eC (.int 0))])) (eC (.int 0)))))
noncomputable def Zs:List PV->Option PV:=Xy 2 Qq
noncomputable def SH:XS:=(Z4 (eP (K7 (Ze W8 [(Za 0),(eC (.ty "int"))]) (GZ (Ze W8 [(Za 0),(eC (.ty "bool"))])))))
noncomputable def YW:List PV->Option PV:=Xy 1 SH
noncomputable def Va:XS:=(Zj (Zk 3 (Yl []))
  (Zj (Z0 [3,5] (ZL [(Za 2)]) (.one 4) (Zj (UO 3 (Zg YR (Za 1) (Zg ZX (Za 4) (eC (.int 1)))) (Za 4))
  (Zk 1 (eP (Zg XJ (Za 1) (Zg ZX (Za 4) (eC (.int 1))))))))
  (Zj (Zk 5 (eC (.dT [] [])))
  (Zj (Qm 0 (.many [6,7]) (Zj (Zk 8 (eP (Yg [(Ze Uk [(Zg ZA (Za 3) (Za 6)),(Zg ZA (Za 3) (Za 7))]),(Ze PF [(Zg ZA (Za 3) (Za 6)),(Zg ZA (Za 3) (Za 7))])])))
  (sDPut 5 (Za 8) (Zg X4 (Za 0) (Yg [(Za 6),(Za 7)])))))
  (Z4 (Za 5))))))
noncomputable def Wl:List PV->Option PV:=Xy 9 Va
noncomputable def XZ:XS:=(Zj (Zk 4 (eC (.dT [] [])))
  (Zj (Zk 5 (Yl [(eP (eC (.int 0)))]))
  (Zj (Z0 [4,5] (ZL [(Za 1)]) (.one 6) (Z0 [4,5] (ZZ [(Zg ZX (Za 6) (eC (.int 1))),(Za 1)]) (.one 7) (Zj (Zk 8 (eP (Ze Uk [(Zg Ox (Zg YR (Za 0) (eC (.int 2))) (Zg ZX (eC (.int 1)) (Zg YR (Zg XJ (Za 0) (eC (.int 2))) (Za 3)))),(Za 2)])))
  (Zj (Zk 0 (eP (Zg ZA (Yl [(Zg XJ (Za 0) (eC (.int 2))),(Zg XJ (Zg XJ (Za 0) (eC (.int 2))) (Za 3))]) (Zg YR (Za 0) (eC (.int 2))))))
  (WU (xB (Zg Oy (Za 8) (eC (.int 0)))) (Zj (sDPut 4 (Yg [(Za 6),(Za 7)]) (Za 8))
  (Zk 2 (eP (Zg Xz (Za 2) (Za 8))))) ZO)))))
  (Zj (Z0 [4,5] (ZL [(Za 1)]) (.one 9) (To [4,5] 4 (.many [6,7]) (Zj (WU (XM (xB (Zg (RE false) (Za 6) (Za 5))) (xB (Zg (RE true) (Za 7) (Za 5)))) (Y4 5 (eP (Za 7))) ZO)
  (WU (XM (xB (Zg (RE false) (Za 7) (Za 5))) (xB (Zg (RE true) (Za 6) (Za 5)))) (Y4 5 (eP (Za 6))) ZO))))
  (OI 4 (Ze Ul [(Zg (Yc false) (Ze ZG [(Za 5)]) (Za 1))]))))))
noncomputable def Z3:List PV->Option PV:=Xy 10 XZ
noncomputable def SI:XS:=(Zj (Zk 3 (Ze Zs [(Za 0),(Za 1)]))
  (Zj (WU (XM (xB (Zg (Yc false) (Zg YR (Za 3) (eC (.int 2))) (eC (.int 1)))) (xB (TY true (Ze Z3 [(Zg XJ (Za 3) (eC (.int 2))),(Za 2),(eC (.int 30)),(eC (.int 9))])))) (Z4 (Ze Z3 [(Zg XJ (Za 3) (eC (.int 2))),(Za 2),(eC (.int 30)),(eC (.int 9))])) ZO)
  (Zj (Zk 4 (eC (.dT [] [])))
  (Zj (Zk 5 (eP (eC (.int 30))))
  (Zj (Z0 [4] (ZZ [(eC (.int 1)),(Za 2)]) (.one 6) (Zj (Zk 7 (Ze Zs [(Za 0),(Zg ZX (Za 1) (Za 6))]))
  (Zj (Zk 8 (eP (Ze Uk [(Zg ZA (Yl [(eC (.int 1)),(eC (.int 1)),(eC (.int 1)),(eC (.int 2)),(eC (.int 3)),(eC (.int 9))]) (Zg YR (Zg XJ (Za 7) (Za 6)) (eC (.int 6)))),(Zg Xz (Za 5) (Zg Xz (Zg Xz (Za 2) (eC (.int 1))) (Za 6)))])))
  (Zj (sDPut 4 (Yg [(Zg YR (Za 7) (Za 6)),(Za 6)]) (Za 8))
  (Zk 5 (eP (Zg Xz (Za 5) (Za 8))))))))
  (Zj (Zk 9 (eP (Zg ZX (Za 1) (eC (.int 7)))))
  (Zj (Z0 [4] (ZL [(Za 2)]) (.one 10) (Z0 [4] (ZZ [(Zg ZX (Za 10) (eC (.int 1))),(Za 2)]) (.one 11) (Zj (Zk 8 (eP (Zg ZA (Yl [(eC (.int 0)),(eC (.int 0)),(eC (.int 0)),(eC (.int 1)),(eC (.int 1)),(eC (.int 2)),(eC (.int 4)),(eC (.int 9))]) (Zg YR (Ze Zs [(Za 0),(Za 9)]) (eC (.int 8))))))
  (Zj (Zk 9 (eP (Zg ZX (Za 9) (eC (.int 1)))))
  (WU (XM (xB (Rr true (Yg [(Za 10),(Za 11)]) (Za 4))) (xB (LX LG JO (eC (.int 0)) (Za 8) (Za 5)))) (Zj (sDPut 4 (Yg [(Za 10),(Za 11)]) (Za 8))
  (Zk 5 (eP (Zg Xz (Za 5) (Za 8))))) ZO)))))
  (Z4 (Ze Wl [(Za 4),(Zg XJ (Ze Zs [(Za 0),(Za 1)]) (eC (.int 7))),(Za 2)])))))))))
noncomputable def Jh:List PV->Option PV:=Xy 12 SI
noncomputable def V7:XS:=(Zj (Zk 2 (Zu 1 [1] (ZL [(Za 1)]) (.one 0) ZH (Zg Q6 (Yl [(eC (.int 0))]) (Za 1))))
  (Zj (Qm 0 (.many [3,4]) (Zj (XD 2 (Za 3) (Za 4) (Zg X4 (Za 0) (Yg [(Za 3),(Za 4)])))
  (XD 2 (Za 4) (Za 3) (Zg X4 (Za 0) (Yg [(Za 3),(Za 4)])))))
  (Z4 (eP (Ze Y3 [(Zu 1 [] (YM (Za 2)) (.one 0) ZH (Ze Y3 [(Za 0)]))])))))
noncomputable def X7:List PV->Option PV:=Xy 5 V7
end PW
namespace VL
open PySem PySem.Spec PyProof.Rows L2
def Sb(l:List Int):List Int:=l.mergeSort fun a b=>decide (a<=b)
theorem Qr(l:List Int):(Sb l).Perm l:=List.mergeSort_perm l _
theorem OJ(l:List Int):(Sb l).Pairwise (·<=·):=by
 have:=List.pairwise_mergeSort (le:=fun a b:Int=>decide (a<=b)) (fun a b c h1 h2=>by simp only[decide_eq_true_eq] at *;omega) (fun a b=>by simp only[Bool.or_eq_true,decide_eq_true_eq];omega) l
 exact this.imp fun h=>of_decide_eq_true h
theorem NI{l m:List Int}(hp:m.Perm l)(hs:m.Pairwise (·<=·)):m=Sb l:=
 List.Perm.eq_of_pairwise (le:=(·<=·)) (fun a b _ _ h1 h2=>Int.le_antisymm h1 h2) hs (OJ l) (hp.trans (Qr l).symm)
theorem Sd:∀{us:List Value}{ns:List Int},IntsAre us ns->Vals (ns.map V.int) us
 | _,_,.nil=>.nil
 | _,_,.cons n t h=>.cons ⟨t,rfl⟩ (Sd h)
def OK:XS:=fun _=>none
theorem IL{X:Cx}{O W:List Nat}{st:Stmt}:VS X O W st OK:=by
 intro pins s σ H D I h;unfold H9 at h;simp only[OK] at h
 obtain⟨_,_,_,_,_,q,_⟩:=h
 cases q
theorem Qs:∀(us:List Value)(k:Nat),(∀(i:Nat)(v:Value),us[i]?=some v->∃t,v=Value.int ((k+i:Nat):Int) t)->Vals ((List.range us.length).map fun i=>V.int ((k+i:Nat):Int)) us
 | [],k,_=>.nil
 | u::us,k,h=>by
  obtain⟨t,rfl⟩:=h 0 u rfl
  rw[List.length_cons,List.range_succ_eq_map,List.map_cons,List.map_map]
  refine .cons ⟨t,rfl⟩ ?_
  have:=Qs us (k+1) fun i v hv=>by
   obtain⟨t,e⟩:=h (i+1) v (by simpa using hv)
   exact⟨t,by rw[e];congr 2;omega⟩
  refine Eq.mp (congrArg (fun l=>Vals l us) (List.map_congr_left fun i _=>?_)) this
  show V.int _=V.int _
  congr 2;omega
def B5(ta:TA):TE:=fun σ H Q=>ta σ H fun vs H1=>∃j:Nat,vs=[.int (j:Int)]/\j<=10000/\∀l,H1 l=none->Q (.ref l) (upd H1 l (.lst ((List.range j).map fun(i:Nat)=>V.int (i:Int))))
section
variable {X:Cx} {a:Expr} {ta:TA} {p p2 pos pos2:Pos}
theorem OL(hc:X.calm=true)(hgl:Gl X "list")(hml:X.mg "list" = none)(hgr:Gl X "range")(hmr:X.mg "range" = none)(ha:PA X [a] ta)(hs:starEach [a] X.env=[(false,eval a X.env)]:=by rfl)
  (he:starEach [.Call (.Name "range" p2) [a] [] pos2] X.env=(false,eval (.Call (.Name "range" p2) [a] [] pos2) X.env)::starEach [] X.env:=by rfl) (hpl:(backTo pos (starEach [] X.env)).any (·.1)=false:=by rfl) :
  PE X (.Call (.Name "list" p) [.Call (.Name "range" p2) [a] [] pos2] [] pos) (B5 ta):=by
 intro pins s σ H Q I h
 refine wpAny_Call_Name_kw (VN I hgl hml (u:=.type "list") (by decide +kernel) ?_)
 refine PyProof.Rows.callWith_type1 (T:="list") ?_ he hpl
 rw[he]
 show wpAny _ _ (spliced ((false,eval (.Call (.Name "range" p2) [a] [] pos2) X.env)::[])) _ _ s
 refine Calls.spliced_cons ?_
 refine Call_ (VN I hgr hmr boot_range (PyProof.Rows.callWith_type1 (Y1 (ha pos2 pins s σ H _ I h) fun us s1 ⟨vs,H1,I1,r1,q1⟩=>?_) hs rfl))
 obtain⟨j,e,hj,q⟩:=q1
 subst e
 cases r1 with
 | cons r rr=>
  cases rr
  obtain⟨t,rfl⟩:=r
  refine call_range_1 (Calls.spliced_nil ?_)
  have sz:sizeLine=2^24:=rfl
  refine call_list_range (n:=j) (I.ok.hd hc) (IsRange.new ..) (small_one (by omega) (by omega) (by omega) (by omega)) (by rw[rangeSize_one];split<;>omega) (by omega) fun h' tk acc' c' hk hS hacc=>?_
  have I2:=I1.kept (t':=s1.toks+1+1) (h':=s1.heap.push { cls:=.type "range",data:=.fields #[.int 0 s1.toks,.int (j:Int) t,.int 1 (s1.toks+1)] }) fun b o e=>Heap.get?_push_of_some _ e
  refine⟨.ref _,_,I2.laid (t':=tk) hk (Nat.le_refl _) (show ObjOk X.prog X.w _ _ _ (.lst ((List.range j).map fun(i:Nat)=>V.int (i:Int))) from⟨by simp;omega,acc'.toList,c',?_,?_⟩),rfl,q _ (I2.hok.fresh (Nat.le_refl _))⟩
  ·have:=Qs acc'.toList 0 fun i v hv=>by
    obtain⟨t',e⟩:=hacc.2 i v (by simpa using hv)
    exact⟨t',by rw[e];congr 1;omega⟩
   rw[Array.length_toList,hacc.1] at this
   refine Eq.mp (congrArg (fun l=>Vals l acc'.toList) (List.map_congr_left fun i _=>?_)) this
   show V.int _=V.int _
   congr 2;omega
  ·rw[Array.toArray_toList];exact hS
end
def SJ:PV->Option PV
 | .int k=>if 0<=k/\k<=10000 then some (.lst (iL ((List.range k.toNat).map fun(i:Nat)=>(i:Int)))) else none
 | _=>none
theorem OM{X:Cx}{a:Expr}{fa:XE}{p p2 pos pos2:Pos}(hc:X.calm=true)(hgl:Gl X "list")(hml:X.mg "list" = none)(hgr:Gl X "range")(hmr:X.mg "range" = none)(ha:VE X a fa)(hs:starEach [a] X.env=[(false,eval a X.env)]:=by rfl)
  (he:starEach [.Call (.Name "range" p2) [a] [] pos2] X.env=(false,eval (.Call (.Name "range" p2) [a] [] pos2) X.env)::starEach [] X.env:=by rfl) (hpl:(backTo pos (starEach [] X.env)).any (·.1)=false:=by rfl) :
  VM X (.Call (.Name "list" p) [.Call (.Name "range" p2) [a] [] pos2] [] pos) (Ml SJ fa):=
 PE.imp (OL hc hgl hml hgr hmr (Zc ha Zi hs) hs he hpl) fun σ H Q ⟨s,l,env,e,k⟩=>by
  obtain⟨x,e1,e2⟩:=Zf e
  refine⟨fun _=>False,s,[x],fun _ z=>z.elim,env,by show(fa s).bind _=_;rw[e1];rfl,fun vs H1 fp s1 i1 _=>?_⟩
  obtain⟨w,rfl,iw⟩:=i1.one_inv
  cases x with
  | int kk=>
   unfold SJ at e2
   simp only at e2
   split at e2
   case isFalse=>cases e2
   rename_i hk
   cases e2
   refine⟨kk.toNat,by rw[iw.int_inv.1];congr 2;omega,by omega,fun q hq=>?_⟩
   have hm:(List.range kk.toNat).map (fun(i:Nat)=>V.int (i:Int))=((List.range kk.toNat).map fun(i:Nat)=>(i:Int)).map V.int:=by rw[List.map_map];rfl
   rw[hm]
   refine k _ _ [q] (s1.trans (Same.new hq _)) (Is.lst upd_same (Iss.ofInts _)) (by simp) fun r hr=>?_
   rw[List.mem_singleton.mp hr]
   exact⟨Same.off s1 hq,by rw[upd_same];exact True.intro⟩
  | _=>cases e2
variable {K:PySem.W.Frag}
def CMulW(i j:Int):Prop:=i.natAbs.log2<67108863/\j.natAbs.log2<67108863
def PX(i j:Int):Prop:=j≠0/\j.natAbs.log2<9000
instance (i j:Int):Decidable (CMulW i j):=by unfold CMulW;infer_instance
instance (i j:Int):Decidable (PX i j):=by unfold PX;infer_instance
theorem L7(i:Int):Builtin.Int.intBits i<=i.natAbs.log2+1:=by
 unfold Builtin.Int.intBits
 split
 ·exact Nat.zero_le _
 ·exact Nat.le_refl _
theorem CMulW.ok{i j:Int}(h:CMulW i j):IntMulOk i j:=by
 unfold IntMulOk Builtin.Int.intTooBig;have h1:=L7 i;have h2:=L7 j;have h3:=h.1;have h4:=h.2
 have:decide (((Builtin.Int.intBits i:Int)+(Builtin.Int.intBits j:Int))>(bitsLine:Int))=false:=decide_eq_false (by
  have e:(bitsLine:Int)=134217728:=rfl
  rw[e];omega)
 rw[this]
 simp
section
variable {X:Cx} {a b:Expr} {fa fb:XE} {pos:Pos}
theorem Fj:UJ X (binaryOp .Mult) (rI CMulW fun i j=>.int (i*j)):=Cq fun _ _ _ _ _ _ _ hc q=>mul_int q hc.ok
theorem IM:UJ X (binaryOp .FloorDiv) (rI PX fun i j=>.int (i.fdiv j)):=Cq fun _ _ _ _ _ _ _ hc q=>floordiv_int hc.1 q (.inl (PyProof.noPylong_of_log2 hc.2))
abbrev NJ:=HZ CMulW (· * ·)
abbrev IP:=HZ PX Int.fdiv
theorem L8(ha:VE X a fa)(hb:VE X b fb):VE X (.BinOp a .Mult b pos) (Zg NJ fa fb):=S6 Fj (Nu _ _) ha hb
theorem IQ(ha:VE X a fa)(hb:VE X b fb):VE X (.BinOp a .FloorDiv b pos) (Zg IP fa fb):=S6 IM (Nu _ _) ha hb
end
theorem Qt:∀{ns:List Int}{n:Int},n∈ns->n.natAbs.log2<=PySem.W.WData.weightAll (ns.map .int)
 | m::r,n,h=>by
  rw[List.map_cons];simp only[PySem.W.WData.weightAll,PySem.W.WData.weight]
  rcases List.mem_cons.mp h with rfl | h
  ·by_cases h0:n=0
   ·subst h0
    have:Nat.log2 (Int.natAbs 0)=0:=by decide +kernel
    omega
   ·rw[if_neg (by simpa using h0)];omega
  ·have:=Qt h
   omega
open PySem.W PySem.Calls in
theorem law_walkB{l:PySem.W.OpenLaw}{q:Program}{loose:List Str}{XP:(Str->Option Value)->Heap->Prop}{YP:World->Heap->Prop}{d:DefRec}{KK:Params->PySem.W.Frag}{x:Str}{D:List PV->Option PV}(k:Nat)(hn:l.most=some 63)(hdf:d.params.defaults=[])
  (hr:Room k callerA) (hD:∀ns:List Int,ns.length<=63->(∀n∈ns,n.natAbs.log2<=1048576)->D [.cst (iL ns)]=some (.bl true))
  (hY:∀(w:World)(h:Heap),YP w h->(KK w.params).In h)
  (F:∀(w:World)(mg:Str->Option Value)(fa:Addr)(h:Heap),(KK w.params).In h->h.Ns mainGlobals mg->mg d.name=some (.ref fa)->
   ∃fd:FuncData,(∀(s:Shared)(u:Value),BindsTo s fd ⟨[u],[]⟩ [(x,u)])/\∀base:Heap,(KK w.params).In base->base.Ns mainGlobals mg->Sv l.prog w (KK w.params) mg base Mv k fa fd [x] (Xt (KK w.params) D 1)) :
  PySem.W.WalkO q loose XP YP l.row.toRowW d [] (fun f vs=>PySem.call f vs):=by
 intro w s₀ s₁ mg mb gr yy fa o pm cd doc dv kv ho hd hcd hdd hmg hgen args vals as hpre hlay hrd hwl hlo
 obtain rfl:dv = .none:=Dflts.none hdd hdf
 obtain rfl:kv = .none:=Dflts.noKw hdd
 obtain⟨a,vs,ns,rfl,rfl,hobj,hints,hlen⟩:=Att.script_of hn hpre hwl
 have hw:∀n∈ns,n.natAbs.log2<=1048576:=fun n h=>by
  have h1:(WData.list (ns.map WData.int)).layable=true:=List.all_eq_true.mp hlay _ (List.mem_singleton.mpr rfl)
  unfold WData.layable at h1
  have h2:=of_decide_eq_true (Bool.and_eq_true_iff.mp h1).2
  have h3:WData.weightAll (ns.map WData.int)<=1048576:=by simpa [WData.weight] using h2
  exact Nat.le_trans (Qt h) h3
 have kx:=hY w _ yy
 obtain⟨fd,hb,hF⟩:=F w mg fa _ kx gr.T.g hmg
 refine enter_call (codeAny_mono (L2.law_call kx gr.T.g gr.T.b gr.T.builtins gr.T.nolimit hgen hobj hints (Nat.le_trans hlen (by decide)) hr hF hb (fun H hO hS=>Dy (hD ns hlen hw) hO hS) fun H e s' z=>z) fun r s' hq=>?_)
 obtain⟨rfl,h2,h3,h4⟩:=hq
 exact⟨.inl ⟨.bool true,.bool true,[],rfl,fun _=>rfl,.bool true,Att.post_true l _,fun _=>⟨List.Pairwise.nil,fun _ hm=>(nomatch hm)⟩⟩,h2,h3,h4⟩
end VL
namespace VL
open PySem PySem.Spec PyProof.Rows L2
def IS(i:Nat)(f0:XE):XS:=fun s=>(f0 s).bind fun l0=>match s[i]? with
 | some (some l)=>if ZN l0=true then some (.rt (.tup [l0,l])) else none
 | _=>none
theorem IT{X:Cx}{O:List Nat}{e:Expr}{i:Nat}{f0:XE}{pos:Pos}(he:PE X e (Cv (TH (tF X.K f0) (TH (Tz i) KO))))(hi:i∈O:=by decide):VS X O [] (.Return (some e) pos) (IS i f0):=PS.imp (Od he) fun D σ H ⟨H0,fps,s,out,r,e,k⟩=>by
 obtain⟨l0,e0,e⟩:=Zf e
 split at e
 case h_2=>cases e
 rename_i l em
 split at e
 case isFalse=>cases e
 rename_i pu
 cases e
 obtain⟨v,hv,iv⟩:=r.is i _ em
 refine⟨fun _=>False,s,l0,fun _ z=>z.elim,r.env,e0,fun v0 H1 f1 s1 i1 _=>?_⟩
 have:=Is.pure _ _ _ pu i1
 subst this
 refine⟨v,hv,(by show 2<=sizeLine;decide),fun q hq=>?_⟩
 have sn:Same H1 (upd H1 q (.tup [v0,v])):=Same.new hq _
 have r3:=r.grow s1
 refine k _ (fps i) _ (r3.same.trans sn) (Is.tup upd_same ?_) (r.nd i hi) fun z hz=>?_
 ·have h1:=Iss.cons (i1.mono sn) (Iss.one ((iv.mono s1).mono sn))
  simpa using h1
 ·have:=r3.own i hi z hz
  exact⟨this.1,Same.mut sn this.2⟩
end VL
namespace PW
open PySem L2 VL
noncomputable def UU:XS:=(Z4 (eP (Ze Y3 [(Zu 2 [3,1,2,0] (Ir false false [(Za 0),(Za 1)]) (.many [0,1]) ZH (Zg IP (Zg Xz (Zg NJ (Zg ZA (Za 3) (Za 4)) (Za 0)) (Zg NJ (Zg ZA (Za 5) (Za 4)) (Za 1))) (Za 2)))])))
noncomputable def XG:List PV->Option PV:=Xy 4 UU
noncomputable def Se:XS:=(Zj (Zk 1 (Ze XR [(Za 0)]))
  (Zj (Zk 2 (eP (eC (.int 1))))
  (Zj (Z0 [1] (ZL [(Ze ZG [(Za 0)])]) (.one 3) (Zj (Zk 4 (eP (Zg ZA (Za 1) (Za 3))))
  (Zj (Zk 1 (Zu 2 [3,4,2] (Ta true [(Za 1)]) (.many [0,1]) ZH (eP (Oz (xB (Zg (Yc false) (Za 0) (Za 2))) (Za 1) (Ze XG [(Za 1),(Za 3),(Za 2),(Za 4)])))))
  (Zk 2 (eP (Zg ZA (Za 4) (Za 3)))))))
  (IS 1 (Za 2)))))
noncomputable def Vx:List PV->Option PV:=Xy 5 Se
noncomputable def Vy:XS:=(Z4 (eP (Ze Y3 [(Zu 1 [1,0] (YM (Za 2)) (.one 0) ZH (Oz (xB (Zg (Yc false) (Za 0) (Za 1))) (Ze X6 [(Za 2),(Za 1)]) (Ml Rk (Zg ZA (Zg ZA (Za 2) (Za 1)) (Za 0)))))])))
noncomputable def WN:List PV->Option PV:=Xy 3 Vy
noncomputable def Yv:XS:=(Zj (Zk 2 (Zu 1 [1] (ZL [(Ze ZG [(Za 0)])]) (.one 0) (xB (Zg (Yc true) (Za 0) (Za 1))) (eP (Za 0))))
  (Z4 (eP (Ze Y3 [(Zu 1 [0,2] (YM (Za 2)) (.one 0) ZH (Ze WN [(Za 1),(Za 0),(Za 2)]))]))))
noncomputable def YX:List PV->Option PV:=Xy 3 Yv
end PW
namespace VL
open PySem PySem.W PyProof.Rows
def WW(r:Nat->Int)(n:Nat){α:Type}:KasT α->(α->Prop)->Prop
 | .ret a,Q=>Q a
 | .ask i j k,Q=>i<n/\j<n/\WW r n (k (decide (r i<r j))) Q
theorem WG{r:Nat->Int}{n:Nat}{α β:Type}{g:α->KasT β}{Q:β->Prop}:∀{t:KasT α},WW r n t (fun a=>WW r n (g a) Q)->WW r n (t.bind g) Q
 | .ret a,h=>h
 | .ask i j k,h=>⟨h.1,h.2.1,WG h.2.2⟩
theorem XH{r:Nat->Int}{n:Nat}{α:Type}{Q Q':α->Prop}(hq:∀a,Q a->Q' a):∀{t:KasT α},WW r n t Q->WW r n t Q'
 | .ret a,h=>hq a h
 | .ask i j k,h=>⟨h.1,h.2.1,XH hq h.2.2⟩
theorem Ka{r:Nat->Int}{n:Nat}{α:Type}{cmp:Nat->Nat->(Bool->Shared->Prop)->Shared->Prop}{Q:α->Prop}{Q':α->Shared->Prop}{s:Shared}
  (hc:∀i j,i<n->j<n->∀C:Bool->Shared->Prop,C (decide (r i<r j)) s->cmp i j C s) (hq:∀a,Q a->Q' a s):∀{t:KasT α},WW r n t Q->t.kasWp cmp Q' s
 | .ret a,h=>hq a h
 | .ask i j k,h=>hc i j h.1 h.2.1 _ (Ka hc hq h.2.2)
section
variable {r:Nat->Int} {n:Nat}
def Zz(p:Array Nat)(i:Nat):Nat:=p.getD i 0
structure Pm(n:Nat)(p:Array Nat):Prop where
 sz:p.size=n
 lt:∀i,i<n->Zz p i<n
 inj:∀i j,i<n->j<n->Zz p i=Zz p j->i=j
def Up(r:Nat->Int)(p:Array Nat)(m:Nat):Prop:=∀i j,i<j->j<m->r (Zz p i)<r (Zz p j)
def Dn(r:Nat->Int)(p:Array Nat)(m:Nat):Prop:=∀i j,i<j->j<m->r (Zz p j)<r (Zz p i)
theorem Xp(p:Array Nat)(i:Nat):Zz p i=(p[i]?).getD 0:=by unfold Zz;exact Array.getD_eq_getD_getElem?
theorem Pm.ne{p:Array Nat}(h:Pm n p)(hr:∀i j,i<n->j<n->r i=r j->i=j){i j:Nat}(hi:i<n)(hj:j<n)(hij:i≠j):r (Zz p i)≠r (Zz p j):=fun z=>hij (h.inj i j hi hj (hr _ _ (h.lt i hi) (h.lt j hj) z))
theorem Up.snoc{p:Array Nat}{m:Nat}(h:Up r p m)(h1:1<=m)(hl:r (Zz p (m-1))<r (Zz p m)):Up r p (m+1):=fun i j hij hj=>by
 by_cases q:j<m
 ·exact h i j hij q
 ·have:j=m:=by omega
  subst this
  by_cases z:i=j-1
  ·subst z;exact hl
  ·have:=h i (j-1) (by omega) (by omega)
   omega
theorem Dn.snoc{p:Array Nat}{m:Nat}(h:Dn r p m)(h1:1<=m)(hl:r (Zz p m)<r (Zz p (m-1))):Dn r p (m+1):=fun i j hij hj=>by
 by_cases q:j<m
 ·exact h i j hij q
 ·have:j=m:=by omega
  subst this
  by_cases z:i=j-1
  ·subst z;exact hl
  ·have:=h i (j-1) (by omega) (by omega)
   omega
theorem ON{p:Array Nat}(hp:Pm n p)(hr:∀i j,i<n->j<n->r i=r j->i=j):∀(f m:Nat),1<=m->m+f=n->Up r p m->WW r n (kas_asc p f m) fun m'=>m<=m'/\m'<=n/\Up r p m'/\(m'=n\/r (Zz p m')<r (Zz p (m'-1)))
 | 0,m,h1,hm,hu=>⟨Nat.le_refl _,by omega,hu,.inl (by omega)⟩
 | f+1,m,h1,hm,hu=>by
  refine⟨hp.lt m (by omega),hp.lt (m-1) (by omega),?_⟩
  show WW r n (if decide (r (Zz p m)<r (Zz p (m-1)))=true then KasT.ret m else kas_asc p f (m+1)) _
  by_cases q:r (Zz p m)<r (Zz p (m-1))
  ·rw[if_pos (decide_eq_true q)]
   exact⟨Nat.le_refl _,by omega,hu,.inr q⟩
  ·rw[if_neg (by rw[decide_eq_false q];exact Bool.false_ne_true)]
   have ne:=hp.ne hr (show m<n by omega) (show m-1<n by omega) (by omega)
   exact XH (fun m' h=>⟨by omega,h.2⟩) (ON hp hr f (m+1) (by omega) (by omega) (hu.snoc h1 (by omega)))
theorem NK{p:Array Nat}(hp:Pm n p)(hr:∀i j,i<n->j<n->r i=r j->i=j):∀(f m:Nat),1<=m->m+f=n->Dn r p m->WW r n (kas_desc f p m 0) fun x=>x.1=p/\x.2.2=0/\m<=x.2.1/\x.2.1<=n/\Dn r p x.2.1
 | 0,m,h1,hm,hu=>⟨rfl,rfl,Nat.le_refl _,by show m<=n;omega,hu⟩
 | f+1,m,h1,hm,hu=>by
  refine⟨hp.lt m (by omega),hp.lt (m-1) (by omega),?_⟩
  have ne:=hp.ne hr (show m<n by omega) (show m-1<n by omega) (by omega)
  by_cases q:r (Zz p m)<r (Zz p (m-1))
  ·show WW r n (if decide (r (Zz p m)<r (Zz p (m-1)))=true then(if 0>0 then _ else kas_desc f p (m+1) 0) else _) _
   rw[if_pos (decide_eq_true q),if_neg (by omega)]
   exact XH (fun x h=>⟨h.1,h.2.1,by omega,h.2.2.2⟩) (NK hp hr f (m+1) (by omega) (by omega) (hu.snoc h1 q))
  ·have q':r (Zz p (m-1))<r (Zz p m):=by omega
   show WW r n (if decide (r (Zz p m)<r (Zz p (m-1)))=true then _ else KasT.ask (p.getD (m-1) 0) (p.getD m 0) fun d=>if d=true then .ret (p,m,0) else kas_desc f p (m+1) (0+1)) _
   rw[if_neg (by rw[decide_eq_false q];exact Bool.false_ne_true)]
   refine⟨hp.lt (m-1) (by omega),hp.lt m (by omega),?_⟩
   show WW r n (if decide (r (Zz p (m-1))<r (Zz p m))=true then KasT.ret (p,m,0) else _) _
   rw[if_pos (decide_eq_true q')]
   exact⟨rfl,rfl,Nat.le_refl _,by show m<=n;omega,hu⟩
theorem Kb{p:Array Nat}{m:Nat}(hm:m<=p.size)(i:Nat):Zz (kas_rev p 0 m) i=if i<m then Zz p (m-1-i) else Zz p i:=by
 rw[Xp];unfold kas_rev;rw[getElem?_mirror_all hm]
 by_cases q:i<m
 ·rw[if_pos ⟨Nat.zero_le _,q⟩,if_pos q,Xp,Nat.zero_add]
 ·rw[if_neg (by omega),if_neg q,Xp]
theorem Pm.rev{p:Array Nat}(h:Pm n p){m:Nat}(hm:m<=n):Pm n (kas_rev p 0 m):=by
 have e:=fun i=>Kb (p:=p) (m:=m) (by rw[h.sz];exact hm) i
 refine⟨by rw[kas_rev_size];exact h.sz,fun i hi=>?_,fun i j hi hj hij=>?_⟩
 ·rw[e]
  split
  ·exact h.lt _ (by omega)
  ·exact h.lt _ hi
 ·rw[e,e] at hij
  split at hij
  ·split at hij
   ·have:=h.inj _ _ (by omega) (by omega) hij;omega
   ·have:=h.inj _ _ (by omega) (by omega) hij;omega
  ·split at hij
   ·have:=h.inj _ _ (by omega) (by omega) hij;omega
   ·exact h.inj _ _ hi hj hij
theorem Dn.rev{p:Array Nat}(h:Pm n p){m:Nat}(hm:m<=n)(hd:Dn r p m):Up r (kas_rev p 0 m) m:=fun i j hij hj=>by
 have e:=fun i=>Kb (p:=p) (m:=m) (by rw[h.sz];exact hm) i
 rw[e,e,if_pos hj,if_pos (by omega)]
 exact hd _ _ (by omega) (by omega)
def DF(r:Nat->Int)(n:Nat)(x:Nat×Array Nat):Prop:=1<=x.1/\x.1<=n/\Pm n x.2/\Up r x.2 x.1
theorem Ji{p:Array Nat}(hp:Pm n p)(hr:∀i j,i<n->j<n->r i=r j->i=j){m:Nat}(h1:1<=m)(hm:m<=n)(hd:Dn r p m):WW r n (kas_tail3 m n p) (DF r n):=by
 unfold kas_tail3
 refine WG (XH (fun m' h=>?_) (ON (hp.rev hm) hr (n-m) m h1 (by omega) (Dn.rev hp hm hd)))
 exact⟨by show 1<=m';omega,h.2.1,hp.rev hm,h.2.2.1⟩
theorem OO{p:Array Nat}(hp:Pm n p)(hr:∀i j,i<n->j<n->r i=r j->i=j)(h2:2<=n)(hd:r (Zz p 1)<r (Zz p 0)):WW r n (kas_descPart 1 n p) (DF r n):=by
 unfold kas_descPart
 have d2:Dn r p 2:=fun i j hij hj=>by
  have:i=0:=by omega
  have:j=1:=by omega
  subst i j
  exact hd
 refine WG (XH (fun x h=>?_) (NK hp hr (n-(1+1)) (1+1) (by omega) (by omega) d2))
 obtain⟨rfl,hq,hm,hn,hdn⟩:=h
 rw[hq]
 show WW r n (if 0>0 then _ else kas_tail3 x.2.1 n x.1) _
 rw[if_neg (by omega)]
 exact Ji hp hr (by omega) hn hdn
theorem Jj{p:Array Nat}(hp:Pm n p)(hr:∀i j,i<n->j<n->r i=r j->i=j)(h1:1<=n):WW r n (kas_count n p) (DF r n):=by
 unfold kas_count
 refine WG (XH (fun m h=>?_) (ON hp hr (n-1) 1 (by omega) (by omega) fun i j hij hj=>by omega))
 obtain⟨hm,hn,hu,alt⟩:=h
 by_cases q:m=n
 ·rw[if_pos (by simp[q])]
  exact⟨hm,hn,hp,hu⟩
 ·rw[if_neg (by simp[q])]
  have hlt:r (Zz p m)<r (Zz p (m-1)):=by exact alt.resolve_left q
  by_cases g:m>1
  ·rw[if_pos g]
   refine⟨hp.lt 0 (by omega),hp.lt (m-1) (by omega),?_⟩
   show WW r n (if decide (r (Zz p 0)<r (Zz p (m-1)))=true then KasT.ret (m,p) else _) _
   rw[if_pos (decide_eq_true (hu 0 (m-1) (by omega) (by omega)))]
   exact⟨hm,hn,hp,hu⟩
  ·rw[if_neg g]
   have:m=1:=by omega
   subst this
   exact OO hp hr (by omega) hlt
theorem SK{p:Array Nat}(hp:Pm n p)(hr:∀i j,i<n->j<n->r i=r j->i=j){k:Nat}(hk:k<n)(hu:Up r p k):∀(f a b:Nat),a<=b->b<=k->b-a<=f->(∀i,i<a->r (Zz p i)<r (Zz p k))->(∀i,b<=i->i<k->r (Zz p k)<r (Zz p i))->
   WW r n (kas_place p k f a b) fun l=>l<=k/\(∀i,i<l->r (Zz p i)<r (Zz p k))/\∀i,l<=i->i<k->r (Zz p k)<r (Zz p i)
 | 0,a,b,hab,hb,hf,lo,hi=>⟨by omega,lo,fun i h=>hi i (by omega)⟩
 | f+1,a,b,hab,hb,hf,lo,hi=>by
  unfold kas_place
  by_cases q:a ≥ b
  ·rw[if_pos q]
   exact⟨by omega,lo,fun i h=>hi i (by omega)⟩
  ·rw[if_neg q]
   have hmid:(a+b)/2<k:=by omega
   refine⟨hp.lt k hk,hp.lt _ (by omega),?_⟩
   show WW r n (if decide (r (Zz p k)<r (Zz p ((a+b)/2)))=true then kas_place p k f a ((a+b)/2) else kas_place p k f ((a+b)/2+1) b) _
   generalize hmd:(a+b)/2=m at hmid
   by_cases c:r (Zz p k)<r (Zz p m)
   ·rw[if_pos (decide_eq_true c)]
    refine SK hp hr hk hu f a m (by omega) (by omega) (by omega) lo fun i h1 h2=>?_
    by_cases z:i=m
    ·subst z;exact c
    ·have:=hu m i (by omega) h2;omega
   ·rw[if_neg (by rw[decide_eq_false c];exact Bool.false_ne_true)]
    have ne:=hp.ne hr hk (show m<n by omega) (by omega)
    refine SK hp hr hk hu f (m+1) b (by omega) hb (by omega) (fun i h1=>?_) hi
    by_cases z:i=m
    ·subst z;omega
    ·have:=hu i m (by omega) hmid;omega
theorem MM{p:Array Nat}{k l:Nat}(hk:k<p.size)(hl:l<=k)(i:Nat):Zz (bubble p k (k-l)) i=if i=l then Zz p k else if l<i/\i<=k then Zz p (i-1) else Zz p i:=by
 rw[Xp,getElem?_bubble hk (k-l) (by omega)]
 have e:k-(k-l)=l:=by omega
 rw[e]
 by_cases q:i=l
 ·rw[if_pos q,if_pos q,Xp]
 ·rw[if_neg q,if_neg q]
  by_cases z:l<i/\i<=k
  ·rw[if_pos z,if_pos z,Xp]
  ·rw[if_neg z,if_neg z,Xp]
theorem Kc(hr:∀i j,i<n->j<n->r i=r j->i=j):∀(f:Nat)(p:Array Nat)(k:Nat),Pm n p->k+f=n->Up r p k->WW r n (kas_bin f p k) fun p'=>Pm n p'/\Up r p' n
 | 0,p,k,hp,hk,hu=>by
  have e:k=n:=by omega
  subst e
  exact⟨hp,hu⟩
 | f+1,p,k,hp,hk,hu=>by
  unfold kas_bin
  have hkn:k<n:=by omega
  refine WG (XH (fun l h=>?_) (SK hp hr hkn hu k 0 k (by omega) (by omega) (by omega) (fun i h=>by omega) fun i h1 h2=>by omega))
  obtain⟨hl,lo,hi⟩:=h
  have e:=fun i=>MM (p:=p) (k:=k) (l:=l) (by rw[hp.sz];exact hkn) hl i
  refine Kc hr f _ (k+1) ⟨by rw[bubble_size];exact hp.sz,fun i hi'=>?_,fun i j hi' hj hij=>?_⟩ (by omega) fun i j hij hj=>?_
  ·rw[e]
   split
   ·exact hp.lt _ hkn
   ·split
    ·exact hp.lt _ (by omega)
    ·exact hp.lt _ hi'
  ·rw[e,e] at hij
   split at hij
   ·split at hij
    ·omega
    ·split at hij
     ·have:=hp.inj _ _ (by omega) (by omega) hij;omega
     ·have:=hp.inj _ _ (by omega) (by omega) hij;omega
   ·split at hij
    ·split at hij
     ·have:=hp.inj _ _ (by omega) (by omega) hij;omega
     ·split at hij
      ·have:=hp.inj _ _ (by omega) (by omega) hij;omega
      ·have:=hp.inj _ _ (by omega) (by omega) hij;omega
    ·split at hij
     ·have:=hp.inj _ _ (by omega) (by omega) hij;omega
     ·split at hij
      ·have:=hp.inj _ _ (by omega) (by omega) hij;omega
      ·exact hp.inj _ _ hi' hj hij
  ·rw[e,e]
   by_cases q1:i=l
   ·rw[if_pos q1,if_neg (by omega),if_pos (by omega)]
    exact hi _ (by omega) (by omega)
   ·rw[if_neg q1]
    by_cases q2:j=l
    ·rw[if_pos q2,if_neg (by omega)]
     exact lo _ (by omega)
    ·rw[if_neg q2]
     by_cases q3:l<i/\i<=k
     ·rw[if_pos q3,if_pos (by omega)]
      exact hu _ _ (by omega) (by omega)
     ·rw[if_neg q3]
      by_cases q4:l<j/\j<=k
      ·rw[if_pos q4]
       exact hu _ _ (by omega) (by omega)
      ·rw[if_neg q4]
       exact hu _ _ hij (by omega)
theorem NL(n:Nat):Pm n (List.toArray (List.range n)):=by
 have e:∀i,i<n->Zz (List.toArray (List.range n)) i=i:=fun i hi=>by
  rw[Xp];simp[hi]
 refine⟨by simp,fun i hi=>by rw[e i hi];exact hi,fun i j hi hj h=>?_⟩
 rw[e i hi,e j hj] at h;exact h
theorem IU(hr:∀i j,i<n->j<n->r i=r j->i=j)(h1:1<=n):WW r n (kas_sort n) fun p=>Pm n p/\Up r p n:=by
 unfold kas_sort
 refine WG (XH (fun x h=>?_) (Jj (NL n) hr h1))
 obtain⟨a1,a2,a3,a4⟩:=h
 have em:max x.1 1=x.1:=by omega
 by_cases q:x.1<n
 ·rw[if_pos q,em]
  exact Kc hr (n-x.1) x.2 x.1 a3 (by omega) a4
 ·rw[if_neg q]
  have:x.1=n:=by omega
  rw[this] at a4
  exact⟨a3,a4⟩
end
section
variable {prog:Program} {w:World} {A:Around} {E:Value->Shared->Prop} {s:Shared}
theorem NM{l:Addr}{vs:List Value}{Q:List Value->Shared->Prop}(hl:IsTup s.heap l vs.toArray)
  (h:Q vs { s with heap:=(s.heap.push (seqObj "list" #[] 0)).update s.heap.objs.size (Obj.mapSeq (·++vs.toArray)) }) (hsz:vs.length<=sizeLine:=by size_fits) :
  wpAny (model prog w) A (collect (.ref l)) Q E s:=by
 obtain⟨o,ho,hc,n,hd⟩:=id hl
 unfold collect
 refine wpAny_bind (wpAny_runValue (codeAny_builtin entry_proto_collect' ?_))
 show wpAny _ _ (do again (.builtin "list.__iadd__" ⟨[<-newList [],.ref l],[]⟩)) _ _ s
 refine wpAny_bind (wpAny_newList (wpAny_pure ⟨Code.quiet_builtin _ (by decide +kernel),codeAny_builtin entry_list_iadd' ?_⟩))
 show wpAny _ _ (Builtin.List.listExtendWith (.ref s.heap.objs.size) (.ref l) (.ref s.heap.objs.size)) _ _ { s with heap:=s.heap.push (seqObj "list" #[] 0) }
 unfold Builtin.List.listExtendWith
 have ho':(s.heap.push (seqObj "list" #[] 0)).get? l=some o:=Heap.get?_push_of_some _ ho
 refine wpAny_bind (wpAny_typeOf (T:="tuple") ⟨o,ho',hc⟩ ?_)
 have ht:(Value.type "tuple"==Value.type "tuple")=true:=by rfl
 rw[if_pos (by rw[ht];simp)]
 refine wpAny_bind (listItems_at ho' hd ?_)
 refine wpAny_bind (listItems_at (xs:=#[]) (n:=0) (Heap.get?_push_size _ rfl) rfl ?_)
 rw[if_neg (by simp)]
 refine wpAny_bind (listUpdate_at (xs:=#[]) (n:=0) (Heap.get?_push_size _ rfl) rfl ?_ (Nat.zero_le _) (by show(#[]++vs.toArray).size<=sizeLine+1;simp only[Array.size_append,List.size_toArray,List.length_nil];omega))
 refine wpAny_pure ?_
 show wpAny (model prog w) A (do
   let o <-load s.heap.objs.size
   match o.data with
   | .seq xs _=>pure xs.toList
   | _=>unsupported "internal:collect") Q E { s with heap:=(s.heap.push (seqObj "list" #[] 0)).update s.heap.objs.size (Obj.mapSeq (·++vs.toArray)) }
 refine wpAny_bind (wpAny_load (get?_update_seq (Heap.get?_push_size _ rfl) _) ?_)
 show wpAny _ _ (pure ((#[]:Array Value)++vs.toArray).toList) Q E _
 rw[show((#[]:Array Value)++vs.toArray).toList=vs by simp]
 exact wpAny_pure h
theorem OP{l:Addr}{vs:List Value}{ns:List Int}{Q:Value->Shared->Prop}(hl:IsTup s.heap l vs.toArray)(hI:IntsAre vs ns)(h64:vs.length<64)
  (h:∀(out:Array Value)(ns':List Int),IntsAre out.toList ns'->ns'.Perm ns->ns'.Pairwise (·<=·)->Q (.ref (s.heap.objs.size+1)) { s with heap:=sortedAll s.heap vs out }) :
  wpAny (model prog w) A (call (.builtin "sorted") [.ref l]) Q E s:=by
 refine Calls.call_function_entry kind_sorted plain_sorted entry_sorted (args_sorted1 _) ?_
 unfold Builtin.«sorted»
 refine wpAny_bind (m:=checkCount "sorted" 1 1 _) (wpAny_pure ?_)
 refine wpAny_bind (NM hl ?_ (by rw[sizeLine_eq];omega))
 refine wpAny_bind (wpAny_newList ?_ (by rw[sizeLine_eq];omega))
 have hsz:((s.heap.push (seqObj "list" #[] 0)).update s.heap.objs.size (Obj.mapSeq (·++vs.toArray))).objs.size=s.heap.objs.size+1:=by
  rw[Heap.size_update,size_push']
 have hoL:(((s.heap.push (seqObj "list" #[] 0)).update s.heap.objs.size (Obj.mapSeq (·++vs.toArray))).push (seqObj "list" vs.toArray 0)).get? (s.heap.objs.size+1)=some (seqObj "list" vs.toArray 0):=by
  rw[<-hsz];exact Heap.get?_push_size _ rfl
 show wpAny _ _ _ _ _ { s with heap:=((s.heap.push (seqObj "list" #[] 0)).update s.heap.objs.size (Obj.mapSeq (·++vs.toArray))).push (seqObj "list" vs.toArray 0) }
 rw[hsz]
 refine wpAny_bind (wpAny_holding (wpAny_call_entry slot_list_sort ⟨_,hoL,rfl⟩ entry_list_sort (list_sort_tree hoL hI h64 fun out ns' a1 a2 a3=>⟨_,rfl,?_⟩) (args_list_sort _)))
 exact wpAny_pure ⟨_,rfl,h out ns' a1 a2 a3⟩
theorem Q7{a:Addr}{vs:List Value}{n:Nat}{r:Nat->Int}{κ:SortKind}{P:PySem.Fin->Shared->Prop}(ho:s.heap.get? a=some (seqObj "list" vs.toArray n))(h64:vs.length<64)
  (hr:∀i j,i<vs.length->j<vs.length->r i=r j->i=j)
  (hk:2<=vs.length->∀h':Heap,(∀b o,b≠a->s.heap.get? b=some o->h'.get? b=some o)->∀Q:SortKind->Shared->Prop,Q κ { s with heap:=h' }->wpAny (model prog w) A (keyKind' vs.toArray) Q (fun _ _=>False) { s with heap:=h' })
  (hc:∀h':Heap,(∀b o,b≠a->s.heap.get? b=some o->h'.get? b=some o)->∀i j,i<vs.length->j<vs.length->∀C:Bool->Shared->Prop,C (decide (r i<r j)) { s with heap:=h' }->kas_ask prog w A κ vs i j C { s with heap:=h' })
  (h:∀p:Array Nat,Pm vs.length p->Up r p vs.length->P (.done (.ret .none)) { s with heap:=sortedHeap s.heap a vs (List.toArray (p.toList.map fun i=>vs.getD i Value.none)) }) :
  wpAny (model prog w) A (Builtin.«list.sort» ⟨[.ref a],[]⟩) P E s:=by
 have ha:a<s.heap.objs.size:=Heap.lt_size ho
 rw[list_sort_plain]
 refine wpAny_bind (listItems_at ho rfl ?_)
 refine wpAny_bind (listUpdate_at ho rfl ?_ (by rw[List.size_toArray,sizeLine_eq];omega) (Nat.zero_le _))
 obtain⟨e1,ho1⟩:∃e1,(s.heap.update a (Obj.mapSeq fun _=>#[])).get? a=some (seqObj "list" #[] e1):=⟨_,get?_update_seq ho (fun _=>#[])⟩
 refine wpAny_bind (seqEpoch_at ho1 rfl ?_)
 refine wpAny_bind (wpAny_newTuple ?_ (by show vs.length<=_;rw[sizeLine_eq];omega))
 refine wpAny_bind (wpAny_newList ?_ (Nat.zero_le _))
 refine wpAny_holding ?_
 have ho6:(((s.heap.update a (Obj.mapSeq fun _=>#[])).push (seqObj "tuple" vs.toArray 0)).push (seqObj "list" #[] 0)).get? a=some (seqObj "list" #[] e1):=by
  rw[Heap.get?_push_ne _ _ _ (by rw[size_push',Heap.size_update];exact Nat.ne_of_lt (Nat.lt_succ_of_lt ha)),Heap.get?_push_ne _ _ _ (by rw[Heap.size_update];exact Nat.ne_of_lt ha)]
  exact ho1
 have keep:∀b o,b≠a->s.heap.get? b=some o->(((s.heap.update a (Obj.mapSeq fun _=>#[])).push (seqObj "tuple" vs.toArray 0)).push (seqObj "list" #[] 0)).get? b=some o:=fun b o hb q=>
  Heap.get?_push_of_some _ (Heap.get?_push_of_some _ (by rw[Heap.get?_update_ne _ _ _ _ hb];exact q))
 show wpAny (model prog w) A _ P E { s with heap:=((s.heap.update a (Obj.mapSeq fun _=>#[])).push (seqObj "tuple" vs.toArray 0)).push (seqObj "list" #[] 0) }
 dsimp only
 by_cases h2:vs.toArray.size<2
 ·rw[if_pos h2,if_pos h2]
  refine wpAny_bind (wpAny_pure ?_)
  rw[StateT.run_pure]
  refine wpAny_bind (wpAny_pure ?_)
  dsimp only
  refine wpAny_bind (seqEpoch_at ho6 rfl ?_)
  refine wpAny_bind (listUpdate_at ho6 rfl ?_ (hsz2:=by rw[Array.size_map];show(pairsOf vs).size<=_;rw[pairsOf_size,sizeLine_eq];omega))
  simp only[bne_self_eq_false,Bool.false_eq_true,if_false]
  have hp:=h (List.toArray (List.range vs.length)) (NL _) fun i j hij hj=>by rw[List.size_toArray] at h2;omega
  have e:((vs.toArray.zip vs.toArray).map (·.2))=List.toArray ((List.toArray (List.range vs.length)).toList.map fun i=>vs.getD i Value.none):=by
   apply Array.toList_inj.mp
   apply List.ext_getElem
   ·simp
   ·intro i h1 h2
    have hi:i<vs.length:=by simpa using h1
    simp[hi]
  refine wpAny_pure ?_
  show P _ { s with heap:=(((s.heap.update a (Obj.mapSeq fun _=>#[])).push (seqObj "tuple" vs.toArray 0)).push (seqObj "list" #[] 0)).update a (Obj.mapSeq fun _=>(vs.toArray.zip vs.toArray).map (·.2)) }
  rw[e];exact hp
 ·rw[if_neg h2,if_neg h2]
  have h2':2<=vs.length:=by rw[List.size_toArray] at h2;omega
  refine wpAny_bind (wpAny_mono (hk h2' _ keep (fun κ' s'=>κ'=κ/\s'={ s with heap:=((s.heap.update a (Obj.mapSeq fun _=>#[])).push (seqObj "tuple" vs.toArray 0)).push (seqObj "list" #[] 0) }) ⟨rfl,rfl⟩) ?_ fun _ _ x=>x.elim)
  rintro κ' s' ⟨rfl,rfl⟩
  refine wpAny_bind (wpAny_mono (kat_run (κ:=κ') (Q:=fun st' s'=>∃p:Array Nat,arrOf st'=p.map (kas_item (vs.toArray.zip vs.toArray))/\failedOf st'=none/\s'={ s with heap:=((s.heap.update a (Obj.mapSeq fun _=>#[])).push (seqObj "tuple" vs.toArray 0)).push (seqObj "list" #[] 0) }/\Pm vs.length p/\Up r p vs.length)
   (G:=fun p s'=>s'={ s with heap:=((s.heap.update a (Obj.mapSeq fun _=>#[])).push (seqObj "tuple" vs.toArray 0)).push (seqObj "list" #[] 0) }/\Pm vs.length p/\Up r p vs.length)
   rfl h2' h64 (fun p' st' s' a1 a2 a3 a4=>⟨p',a2,a3,a4⟩) (Ka (hc _ keep) (fun p hp=>⟨rfl,hp⟩) (IU hr (by omega)))) ?_ fun _ _ e=>e)
  rintro⟨⟨⟩,st'⟩ s' ⟨p,har,hf,rfl,hp,hup⟩
  dsimp only
  have hout:=kat_snds rfl har;rw[hout]
  refine wpAny_bind (seqEpoch_at ho6 rfl ?_)
  refine wpAny_bind (listUpdate_at ho6 rfl ?_ (Nat.zero_le _) (by rw[List.size_toArray,List.length_map,Array.length_toList,hp.sz,sizeLine_eq];omega))
  rw[hf];simp only[bne_self_eq_false,Bool.false_eq_true,if_false]
  exact wpAny_pure (h p hp hup)
end
end VL
namespace VL
open PySem PySem.W PyProof.Rows L2
theorem Jk{prog:Program}{w:World}{A:Around}{it d:Addr}{o:Obj}{es:Array DictEntry}{ep:Nat}(hh:A.handled=none)(hne:d≠it)(hd:o.data = .dict es ep) :
  Walks prog w A it [it,d] [it] es.size (fun i v=>∃e,es[i]?=some e/\v=e.key) (fun i h=>h.IsKeyIter it d i es.size ep/\h.get? d=some o) where
 sub:=fun b hb=>by
  rw[List.mem_singleton.mp hb];exact List.mem_cons_self
 frame:=fun _ _ _ st hk=>⟨st.1.at fun o e=>hk _ (by simp) o e,hk d (by simp) o st.2⟩
 item:=fun i s' Q E hi st hQ=>by
  refine W5 st.1 st.2 hd (e:=es[i]) (by simp[hi]) fun h' hit sb=>?_
  exact hQ _ h' s'.toks ⟨es[i],by simp[hi],rfl⟩ ⟨hit,sb.extBut d o hne st.2⟩ fun b o hb e=>sb.extBut b o (fun h=>hb (by simp[h])) e
 done:=fun s' Q E st hQ=>Vr hh st.1 st.2 hd fun h' eb=>hQ h' s'.toks fun b o hb e=>eb b o (fun h=>hb (by simp[h])) e
 self:=fun _ _ _ _ st hQ=>wpAny_pyIter_keyiter st.1 hQ
theorem Fl{prog:Program}{w:World}{d:Addr}{o:Obj}{es:Array DictEntry}{ep:Nat}(lo:(d==sysModules)=false)(hx:o.ExactDict)(hd:o.data = .dict es ep) :
  KdlSrc prog w "dict" d d es.size (fun i v=>∃e,es[i]?=some e/\v=e.key) (fun h=>h.get? d=some o) where
 type:=fun _ hm=>⟨o,hm,hx.1⟩
 there:=fun _ hm=>⟨Heap.lt_size hm,Heap.lt_size hm⟩
 keep:=fun _ _ hm hk=>hk d (.inl rfl) o hm
 notList:=by decide
 notTuple:=by decide
 hint:=fun _ _ _ _ hm hq=>kdl_hint_dict ⟨o,hm,hx.1⟩ hq
 iter:=fun A s hh hm=>⟨_,fun i h=>h.IsKeyIter s.heap.objs.size d i es.size ep/\h.get? d=some o,(fun _ _ hq=>TU lo hm hx hd hq),Jk hh (Nat.ne_of_lt (Heap.lt_size hm)) hd,⟨⟨_,Heap.get?_push_size _ rfl,rfl,rfl⟩,Heap.get?_push_of_some _ hm⟩⟩
def Ra(p:Int×Int):Int:=p.1*100+p.2
def Sf(l:List (Int×Int)):List (Int×Int):=l.mergeSort fun a b=>decide (Ra a<=Ra b)
theorem V8(l:List (Int×Int)):(Sf l).Perm l:=List.mergeSort_perm l _
theorem OQ(l:List (Int×Int)):(Sf l).Pairwise fun a b=>Ra a<=Ra b:=by
 have:=List.pairwise_mergeSort (le:=fun a b:Int×Int=>decide (Ra a<=Ra b)) (fun a b c h1 h2=>by simp only[decide_eq_true_eq] at *;omega) (fun a b=>by simp only[Bool.or_eq_true,decide_eq_true_eq];omega) l
 exact this.imp fun h=>of_decide_eq_true h
def Kd(p:Int×Int):Bool:=decide (0<=p.2)&&decide (p.2<100)
theorem Ke{p q:Int×Int}(hp:Kd p=true)(hq:Kd q=true)(h:Ra p=Ra q):p=q:=by
 unfold Kd at hp hq;unfold Ra at h
 simp only[Bool.and_eq_true,decide_eq_true_eq] at hp hq
 exact Prod.ext (by omega) (by omega)
theorem IV{l m:List (Int×Int)}(ok:∀p∈l,Kd p=true)(hp:m.Perm l)(hs:m.Pairwise fun a b=>Ra a<=Ra b):m=Sf l:=
 List.Perm.eq_of_pairwise (le:=fun a b=>Ra a<=Ra b) (fun a b ha hb h1 h2=>Ke (ok a (hp.mem_iff.mp ha)) (ok b ((V8 l).mem_iff.mp hb)) (by omega)) hs (OQ l) (hp.trans (V8 l).symm)
def IW:List YH->Option (Int×Int)
 | [.inl x,.inl y]=>some (x,y)
 | _=>none
theorem MN{k:List YH}{p:Int×Int}(h:IW k=some p):k=[.inl p.1,.inl p.2]:=by
 unfold IW at h
 split at h
 ·cases h;rfl
 ·cases h
def Tp:List (List YH)->Option (List (Int×Int))
 | []=>some []
 | k::r=>(IW k).bind fun p=>(Tp r).bind fun q=>some (p::q)
theorem Rb:∀{ks:List (List YH)}{ps:List (Int×Int)},Tp ks=some ps->ks=ps.map fun p=>[.inl p.1,.inl p.2]
 | [],ps,h=>by cases h;rfl
 | k::r,ps,h=>by
  unfold Tp at h
  obtain⟨p,e1,h⟩:=Zf h
  obtain⟨q,e2,h⟩:=Zf h
  cases h;rw[List.map_cons,MN e1,Rb e2]
theorem Qu:∀ps:List (Int×Int),Tp (ps.map fun p=>[.inl p.1,.inl p.2])=some ps
 | []=>rfl
 | p::r=>by
  rw[List.map_cons];unfold Tp;rw[Qu r];rfl
def Ep(p:Int×Int):PV:=.tup [.int p.1,.int p.2]
def pV(p:Int×Int):List V:=[.int p.1,.int p.2]
structure RfP(H:Hp)(bs:List Addr)(ps:List (Int×Int)):Prop where
 len:bs.length=ps.length
 at':∀(i:Nat)(b:Addr)(p:Int×Int),bs[i]?=some b->ps[i]?=some p->H b=some (.tup (pV p))
def NN(K:PySem.W.Frag):List V->Hp->VK->Prop:=fun xs H Q=>∃(d:Addr) (kvs:List (List YH×V)) (ps:List (Int×Int)),xs=[.ref d]/\Rd H d (.dT kvs)/\kvs.map (·.1)=ps.map (fun p=>[.inl p.1,.inl p.2])/\ps.all Kd=true/\ps.length<64/\
 ∀(l:Addr)(bs:List Addr),H l=none->RfP H bs (Sf ps)->Q (.ref l) (upd H l (.lst (bs.map V.ref)))
theorem IX{p:Int×Int}{its:List Value}(h:Vals (pV p) its):∃t u,its=[.int p.1 t,.int p.2 u]:=by
 unfold pV at h
 cases h with
 | cons h1 h=>
  cases h with
  | cons h2 h=>
   cases h
   obtain⟨t,rfl⟩:=h1
   obtain⟨u,rfl⟩:=h2
   exact⟨t,u,rfl⟩
def TpAt(h:Heap)(b:Addr)(p:Int×Int):Prop:=∃t u,IsTup h b #[.int p.1 t,.int p.2 u]
theorem C2{P:Program}{w:World}{H:Hp}{h:Heap}{b:Addr}{p:Int×Int}(ok:HOk P w H h)(e:H b=some (.tup (pV p))):TpAt h b p:=by
 obtain⟨_,its,r,q⟩:=(show ObjOk P w H h b (.tup (pV p)) from ok b _ e)
 obtain⟨t,u,rfl⟩:=IX r
 exact⟨t,u,q⟩
theorem TpAt.keep{h h':Heap}{b:Addr}{p:Int×Int}(x:TpAt h b p)(k:∀o,h.get? b=some o->h'.get? b=some o):TpAt h' b p:=by
 obtain⟨t,u,o,e,c⟩:=x
 exact⟨t,u,o,k o e,c⟩
section
variable {prog:Program} {w:World} {A:Around} {E:Value->Shared->Prop} {s:Shared}
theorem Fm{x y:Addr}{p q:Int×Int}{Q:Bool->Shared->Prop}(hx:TpAt s.heap x p)(hy:TpAt s.heap y q)(op:Kd p=true)(oq:Kd q=true)(h:Q (decide (Ra p<Ra q)) s) :
  wpAny (model prog w) A (keyLt' (tuples' true) (.ref x) (.ref y)) Q E s:=by
 obtain⟨t,u,ox,ex,cx,nx,dx⟩:=hx
 obtain⟨t',u',oy,ey,cy,ny,dy⟩:=hy
 unfold Kd at op oq
 simp only[Bool.and_eq_true,decide_eq_true_eq] at op oq
 refine kat_lt ex dx ey dy ?_
 show KatLex prog w A true _ Q [(.int p.1 t,.int q.1 t'),(.int p.2 u,.int q.2 u')] 0 s
 refine kat_cons (wpAny_eqBool_int (kat_go (fun e1=>?_) fun e1=>?_))
 ·refine kat_yes (kat_cons (wpAny_eqBool_int (kat_go (fun e2=>?_) fun e2=>?_)))
  ·refine kat_yes (kat_nil ?_)
   have:decide (Ra p<Ra q)=false:=decide_eq_false (by unfold Ra;simp at e1 e2;omega)
   rw[this] at h;exact h
  ·refine kat_no (kat_one _ _ ?_)
   have:decide (Ra p<Ra q)=decide (p.2<q.2):=by
    simp at e1
    exact decide_eq_decide.mpr (by unfold Ra;omega)
   rw[this] at h
   exact lt_int h
 ·refine kat_no (oneLt_int ?_)
  have:decide (Ra p<Ra q)=decide (p.1<q.1):=by
   have:p.1≠q.1:=by simpa using e1
   exact decide_eq_decide.mpr (by unfold Ra;omega)
  rw[this] at h;exact h
theorem Qv:∀{bs:List Addr}{ps:List (Int×Int)},(∀(i:Nat)(b:Addr)(p:Int×Int),bs[i]?=some b->ps[i]?=some p->TpAt s.heap b p)->bs.length=ps.length->∃fs:List Value,KatTups s.heap (bs.map Value.ref) fs/\fs.length=bs.length/\∀v∈fs,∃n t,v = .int n t
 | [],[],_,_=>⟨[],KatTups.nil,rfl,by simp⟩
 | b::bs,p::ps,h,hl=>by
  obtain⟨fs,h1,h2,h3⟩:=Qv (bs:=bs) (ps:=ps) (fun i b' p' e1 e2=>h (i+1) b' p' (by simpa using e1) (by simpa using e2)) (by simpa using hl)
  obtain⟨t,u,o,e,c,n,d⟩:=h 0 b p rfl rfl
  refine⟨.int p.1 t::fs,KatTups.cons e c d rfl h1,by simp[h2],fun v hv=>?_⟩
  rcases List.mem_cons.mp hv with rfl | hv
  ·exact⟨_,_,rfl⟩
  ·exact h3 v hv
end
section
variable {prog:Program} {w:World} {A:Around} {E:Value->Shared->Prop} {s:Shared}
theorem NO{d:Addr}{o:Obj}{es:Array DictEntry}{ep:Nat}{bs:List Addr}{ps:List (Int×Int)}{Q:Value->Shared->Prop}(hh:A.handled=none)(lo:(d==sysModules)=false)(ho:s.heap.get? d=some o)(hx:o.ExactDict)(hd:o.data = .dict es ep)
  (hb:∀i:Nat,(es[i]?).map (·.key)=(bs[i]?).map Value.ref) (hl:bs.length=ps.length) (h64:ps.length<64) (ht:∀(i:Nat)(b:Addr)(p:Int×Int),bs[i]?=some b->ps[i]?=some p->TpAt s.heap b p) (hok:∀p∈ps,Kd p=true) (hnd:ps.Nodup)
  (h:∀(D:Addr)(h1 h':Heap)(tk:Nat)(p:Array Nat)(e:Nat),(∀b o,s.heap.get? b=some o->h1.get? b=some o)->h1.objs.size<=D->(∀b o,h1.get? b=some o->h'.get? b=some o)->h'.get? D=some (seqObj "list" (List.toArray (p.toList.map fun i=>(bs.map Value.ref).getD i Value.none)) e)->
   Pm ps.length p->Up (fun i=>Ra (ps.getD i (0,0))) p ps.length->Q (.ref D) { s with heap:=h',toks:=tk }) :
  wpAny (model prog w) A (call (.builtin "sorted") [.ref d]) Q E s:=by
 have hsz:es.size=bs.length:=by
  have key:∀i,i<es.size↔i<bs.length:=fun i=>by
   have e:=hb i
   by_cases q1:i<es.size<;>by_cases q2:i<bs.length<;>simp[q1,q2] at e ⊢
  have a:=key bs.length;have b:=key es.size;omega
 refine Calls.call_function_entry kind_sorted plain_sorted entry_sorted (args_sorted1 _) ?_
 unfold Builtin.«sorted»
 refine wpAny_bind (m:=checkCount "sorted" 1 1 _) (wpAny_pure ?_)
 refine wpAny_bind (kdu_collect (A:=A.in1) (Fl lo hx hd) hh ho (by rw[hsz,hl,sizeLine_eq];omega) fun h1 tk acc hk hacc=>?_)
 have hvs:acc.toList=bs.map Value.ref:=by
  apply List.ext_getElem?
  intro i;rw[List.getElem?_map,<-hb i]
  by_cases q:i<acc.size
  ·have e1:acc.toList[i]?=some acc[i]:=by simp[q]
   obtain⟨e,e2,e3⟩:=hacc.2 i acc[i] (by simp[q])
   rw[e1,e2,e3];rfl
  ·have e1:acc.toList[i]?=none:=by simp;omega
   have e2:es[i]?=none:=by have:=hacc.1;simp;omega
   rw[e1,e2];rfl
 rw[hvs]
 refine wpAny_bind (wpAny_newList ?_ (by rw[List.length_map,hl,sizeLine_eq];omega))
 have hoL:(h1.push (seqObj "list" (bs.map Value.ref).toArray 0)).get? h1.objs.size=some (seqObj "list" (bs.map Value.ref).toArray 0):=Heap.get?_push_size _ rfl
 have tps:∀h':Heap,(∀b o,b≠h1.objs.size->(h1.push (seqObj "list" (bs.map Value.ref).toArray 0)).get? b=some o->h'.get? b=some o)->∀(i:Nat)(b:Addr)(p:Int×Int),bs[i]?=some b->ps[i]?=some p->TpAt h' b p:=fun h' k i b p e1 e2=>
  (ht i b p e1 e2).keep fun o e=>k b o (Nat.ne_of_lt (Heap.lt_size (hk b o e))) (Heap.get?_push_of_some _ (hk b o e))
 have lens:(bs.map Value.ref).length=ps.length:=by rw[List.length_map,hl]
 have getp:∀i,i<ps.length->ps[i]?=some (ps.getD i (0,0)):=fun i hi=>by simp[hi]
 have getb:∀i,i<ps.length->∃b,bs[i]?=some b/\(bs.map Value.ref).getD i Value.none = .ref b:=fun i hi=>⟨bs[i]'(by omega),by simp[show i<bs.length by omega],by simp[show i<bs.length by omega]⟩
 show wpAny _ _ _ _ _ { s with heap:=h1.push (seqObj "list" (bs.map Value.ref).toArray 0),toks:=tk }
 refine wpAny_bind (wpAny_holding (wpAny_call_entry slot_list_sort ⟨_,hoL,rfl⟩ entry_list_sort ?body (args_list_sort _)))
 case body=>
  refine Q7 (r:=fun i=>Ra (ps.getD i (0,0))) (κ:=tuples' true) hoL (by rw[lens];exact h64) (fun i j hi hj e=>?_) (fun h2 h' k Q hq=>?_) (fun h' k i j hi hj C hC=>?_) fun p hp hu=>⟨_,rfl,?_⟩
  ·rw[lens] at hi hj
   have e1:=getp i hi;have e2:=getp j hj
   have:=Ke (hok _ (List.mem_of_getElem? e1)) (hok _ (List.mem_of_getElem? e2)) e
   rw[this] at e1
   obtain⟨h1',e1'⟩:=List.getElem?_eq_some_iff.mp e1
   obtain⟨h2',e2'⟩:=List.getElem?_eq_some_iff.mp e2
   exact(List.getElem_inj hnd).mp (e1'.trans e2'.symm)
  ·obtain⟨fs,f1,f2,f3⟩:=Qv (s:={ s with heap:=h',toks:=tk }) (tps h' k) hl
   exact kat_kind (T:=.type "int") f1 (by rw[List.length_map] at h2;omega) (fun v hv=>by obtain⟨n,t,rfl⟩:=f3 v hv;exact .now) rfl hq
  ·rw[lens] at hi hj
   obtain⟨b1,e1,g1⟩:=getb i hi
   obtain⟨b2,e2,g2⟩:=getb j hj
   unfold kas_ask;rw[g1,g2]
   exact Fm (tps h' k i b1 _ e1 (getp i hi)) (tps h' k j b2 _ e2 (getp j hj)) (hok _ (List.mem_of_getElem? (getp i hi))) (hok _ (List.mem_of_getElem? (getp j hj))) hC
  ·rw[lens] at hp hu
   obtain⟨e,he⟩:=sortedHeap_at (out:=List.toArray (p.toList.map fun i=>(bs.map Value.ref).getD i Value.none)) hoL
   refine wpAny_pure ⟨_,rfl,h h1.objs.size h1 _ tk p e hk (Nat.le_refl _) (fun b o q=>?_) he hp hu⟩
   rw[sortedHeap_old (Nat.ne_of_lt (Heap.lt_size q)) (by rw[size_push'];exact Nat.lt_succ_of_lt (Heap.lt_size q))]
   exact Heap.get?_push_of_some _ q
end
theorem IY{α:Type}(f:α->Value)(l:List α)(d:α){i:Nat}(hi:i<l.length):(l.map f).getD i Value.none=f (l.getD i d):=by simp[hi]
theorem Rc:∀{l m:List Nat},l.Nodup->(∀x∈l,x∈m)->m.length<=l.length->l.Perm m
 | [],m,_,_,hl=>by
  have:m=[]:=List.length_eq_zero_iff.mp (by simpa using hl)
  subst this;exact .nil
 | x::l,m,nd,sub,hl=>by
  have nd':=List.nodup_cons.mp nd
  have hx:=sub x (by simp)
  have p1:=List.perm_cons_erase hx
  refine List.Perm.trans ?_ p1.symm
  refine .cons x (Rc nd'.2 (fun y hy=>?_) ?_)
  ·have ne:y≠x:=fun z=>nd'.1 (z▸hy)
   exact(List.mem_erase_of_ne ne).mpr (sub y (by simp[hy]))
  ·rw[List.length_erase_of_mem hx];simp only[List.length_cons] at hl;omega
theorem Er{n:Nat}{p:Array Nat}(hp:Pm n p):∀j∈p.toList,j<n:=fun j hj=>by
 obtain⟨i,hi,e⟩:=List.getElem_of_mem hj
 rw[Array.length_toList,hp.sz] at hi
 have:=hp.lt i hi
 rw[Xp] at this
 have e2:p[i]?=some j:=by rw[<-Array.getElem?_toList,<-e];simp[hp.sz,hi]
 rw[e2] at this;exact this
theorem MO{α:Type}{l:List α}{d:α}{p:Array Nat}(hp:Pm l.length p):(p.toList.map fun i=>l.getD i d).Perm l:=by
 have nd:p.toList.Nodup:=by
  refine List.pairwise_iff_getElem.mpr fun i j hi hj hij e=>?_
  rw[Array.length_toList,hp.sz] at hi hj
  have:=hp.inj i j hi hj (by
   rw[Xp,Xp];simp only[Array.getElem_toList] at e
   simp[hp.sz,hi,hj,e])
  omega
 have sub:p.toList.Perm (List.range l.length):=Rc nd (fun x hx=>List.mem_range.mpr (Er hp x hx)) (by simp[hp.sz])
 have e:(List.range l.length).map (fun i=>l.getD i d)=l:=by
  apply List.ext_getElem
  ·simp
  ·intro i h1 h2;simp[h2]
 have:=sub.map fun i=>l.getD i d
 rwa [e] at this
theorem NP{H:Hp}:∀{kvs:List (List YH×V)}{xs:List (List YH×Addr×Value)}{ps:List (Int×Int)},KT H kvs xs->kvs.map (·.1)=ps.map (fun p=>[.inl p.1,.inl p.2])->
  xs.length=ps.length/\xs.map (·.1)=ps.map (fun p=>[.inl p.1,.inl p.2])/\∀(i:Nat)(b:Addr)(p:Int×Int),(xs.map (·.2.1))[i]?=some b->ps[i]?=some p->H b=some (.tup (pV p))
 | [],[],[],_,_=>⟨rfl,rfl,fun i b p h=>by simp at h⟩
 | [],_,_::_,_,h=>by simp at h
 | _::_,_,[],_,h=>by simp at h
 | kv::kvs,x::xs,p::ps,.cons r t,h=>by
  rw[List.map_cons,List.map_cons,List.cons.injEq] at h
  obtain⟨h1,h2,h3⟩:=NP t h.2
  refine⟨by simp[h1],?_,fun i b q e1 e2=>?_⟩
  ·rw[List.map_cons,List.map_cons,h2,<-r.1,h.1]
  ·match i,e1,e2 with
   | 0,e1,e2=>
    simp at e1 e2
    subst e1 e2
    rw[r.2.1,h.1];rfl
   | i+1,e1,e2=>exact h3 i b q (by simpa using e1) (by simpa using e2)
theorem PY:∀cs:List Addr,Vals (cs.map V.ref) (cs.map Value.ref)
 | []=>.nil
 | c::cs=>.cons rfl (PY cs)
theorem OR{X:Cx}(hc:X.calm=true):X2 X (.builtin "sorted") (NN X.K):=by
 intro pins s σ H xs us Q I r h
 obtain⟨d,kvs,ps,rfl,hd,hk,hok,hl,q⟩:=h
 obtain⟨u,rfl,rx⟩:=U7 r
 cases rx
 obtain⟨z,y,xs,kt,o,es,ep,h1,h2,h3,h4,h5,h6⟩:=Nl I.hok hd
 obtain⟨k1,k2,k3⟩:=NP kt hk
 have nd:ps.Nodup:=by
  rw[k2] at h6
  exact(List.pairwise_map.mp h6).imp fun h z=>h (by rw[z])
 have okp:∀p∈ps,Kd p=true:=List.all_eq_true.mp hok
 refine NO (bs:=xs.map (·.2.1)) (ps:=ps) (I.ok.hd hc) y h1 h2 h3 (fun i=>?_) (by rw[List.length_map,k1]) hl (fun i b p e1 e2=>C2 I.hok (k3 i b p e1 e2)) okp nd fun D hp1 hp2 tk p e f1 f2 f3 f4 hp hu=>?_
 ·rw[entry_at h4,List.getElem?_map]
  cases xs[i]?<;>rfl
 ·have I1:Inv X pins σ H { s with heap:=hp1,toks:=tk }:=I.kept (t':=tk) f1
  have lx:(xs.map (·.2.1)).length=ps.length:=by rw[List.length_map,k1]
  let cs:List Addr:=p.toList.map fun i=>(xs.map (·.2.1)).getD i 0
  let qs:List (Int×Int):=p.toList.map fun i=>ps.getD i (0,0)
  have inr:∀j∈p.toList,j<ps.length:=Er hp
  have eqs:qs=Sf ps:=IV okp (MO hp) (by
   rw[List.pairwise_iff_getElem];intro i j hi hj hij
   simp only[qs,List.length_map,Array.length_toList,hp.sz] at hi hj
   have:=hu i j hij hj
   simp only[qs,List.getElem_map,Array.getElem_toList];rw[Xp,Xp] at this;simp only[hp.sz,hi,hj,Array.getElem?_eq_getElem,Option.getD_some] at this
   exact Int.le_of_lt this)
  have rf:RfP H cs (Sf ps):=by
   rw[<-eqs]
   refine⟨by simp[cs,qs],fun i b q e1 e2=>?_⟩
   simp only[cs,qs,List.getElem?_map] at e1 e2
   cases e3:p.toList[i]? with
   | none=>rw[e3] at e1;cases e1
   | some j=>
    rw[e3] at e1 e2
    simp only[Option.map_some,Option.some.injEq] at e1 e2
    have hj:=inr j (List.mem_of_getElem? e3)
    refine k3 j b q ?_ ?_
    ·rw[<-e1];simp[show j<xs.length by omega]
    ·rw[<-e2];simp[hj]
  have ev:(p.toList.map fun i=>((xs.map (·.2.1)).map Value.ref).getD i Value.none)=cs.map Value.ref:=by
   show _=(p.toList.map fun i=>(xs.map (·.2.1)).getD i 0).map Value.ref
   rw[List.map_map (l:=p.toList)]
   refine List.map_congr_left fun j hj=>?_
   have:=inr j hj
   show _=Value.ref ((xs.map (·.2.1)).getD j 0)
   rw[IY Value.ref (xs.map (·.2.1)) 0 (by omega)]
  refine⟨.ref D,upd H D (.lst (cs.map V.ref)),I1.laid (t':=tk) f3 f2 (show ObjOk X.prog X.w _ _ _ (.lst (cs.map V.ref)) from⟨?_,cs.map Value.ref,e,?_,?_⟩),rfl,q D cs (I1.hok.fresh f2) rf⟩
  ·simp only[cs,List.length_map,Array.length_toList,hp.sz]
   rw[sizeLine_eq];omega
  ·exact PY cs
  ·rw[<-ev];exact f4
def SM:List PV->Option PV
 | [.dT ks _]=>(Tp ks).bind fun ps=>if ps.all Kd=true/\ps.length<64 then some (.lst ((Sf ps).map Ep)) else none
 | _=>none
theorem IZ{K:PySem.W.Frag}{H:Hp}:∀{cs:List Addr}{qs:List (Int×Int)},RfP H cs qs->Iss K H (qs.map Ep) (cs.map V.ref) []
 | [],[],_=>by simp[Iss]
 | [],_::_,h=>by have:=h.len;simp at this
 | _::_,[],h=>by have:=h.len;simp at this
 | c::cs,q::qs,h=>by
  have h1:=h.at' 0 c q rfl rfl
  have h2:RfP H cs qs:=⟨by have:=h.len;simpa using this,fun i b p e1 e2=>h.at' (i+1) b p (by simpa using e1) (by simpa using e2)⟩
  rw[List.map_cons,List.map_cons];unfold Iss
  refine⟨_,_,[],[],rfl,?_,IZ h2,rfl⟩
  unfold Ep Is
  exact⟨c,_,rfl,h1,by unfold pV;simp[Iss,Is]⟩
theorem RfP.upd{H:Hp}{cs:List Addr}{qs:List (Int×Int)}(h:RfP H cs qs){l:Addr}(hl:H l=none)(o:HO):RfP (upd H l o) cs qs:=
 ⟨h.len,fun i b p e1 e2=>by
  have:=h.at' i b p e1 e2
  rw[upd_ne (ZC this hl)]
  exact this⟩
theorem NQ{K:PySem.W.Frag}:D3 K (NN K) SM:=fun H vs ls l fp h e Q k=>by
 unfold SM at e
 split at e
 ·rename_i ks vv
  obtain⟨ps,e1,e2⟩:=Zf e
  split at e2
  ·rename_i hc
   cases e2
   obtain⟨v,rfl,i⟩:=h.one_inv
   obtain⟨p,kvs,fq,rfl,hp,hk,hi,_⟩:=i.dT_inv
   refine⟨p,kvs,ps,rfl,hp,by rw[hk,<-Rb e1],hc.1,hc.2,fun q bs hq rf=>k _ _ [q] (Same.new hq _) (Is.lst upd_same (IZ (rf.upd hq _))) (by simp) fun r hr=>?_⟩
   rw[List.mem_singleton.mp hr]
   exact⟨hq,by rw[upd_same];exact True.intro⟩
  ·cases e2
 ·cases e
def NR(K:PySem.W.Frag):List V->Hp->VK->Prop:=fun xs H Q=>∃p ns,xs=[.ref p]/\SqT K H p (ns.map V.int)/\ns.length<64/\∀l,H l=none->Q (.ref l) (upd H l (.lst ((Sb ns).map V.int)))
theorem OS{X:Cx}:X2 X (.builtin "sorted") (NR X.K):=by
 intro pins s σ H xs us Q I r h
 obtain⟨p,ns,rfl,hq,hl,q⟩:=h
 obtain⟨u,rfl,rx⟩:=U7 r
 cases rx
 obtain⟨its,r',pl,hz⟩:=I.tuple hq
 have hlen:=r'.length
 rw[List.length_map] at hlen hz
 refine OP pl (Td r') (by omega) fun out ns' a1 a2 a3=>?_
 obtain⟨e,he⟩:=sortedAll_at s.heap its out
 have hns:=NI a2 a3;subst hns
 refine⟨.ref (s.heap.objs.size+1),_,I.laid (t':=s.toks) (fun b o=>sortedAll_old) (Nat.le_succ _) (show ObjOk X.prog X.w _ _ _ (.lst ((Sb ns).map V.int)) from⟨?_,out.toList,e,Sd a1,?_⟩),rfl,q _ (I.hok.fresh (Nat.le_succ _))⟩
 ·rw[List.length_map,(Qr ns).length_eq];exact hz
 ·rw[Array.toArray_toList];exact he
def Sg:List PV->Option PV
 | [.tup l]=>(Wq l).bind fun ns=>if ns.length<64 then some (.lst (iL (Sb ns))) else none
 | _=>none
theorem NS{K:PySem.W.Frag}:D3 K (NR K) Sg:=fun H vs ls l fp h e Q k=>by
 unfold Sg at e
 split at e
 ·obtain⟨ns,e1,e2⟩:=Zf e
  split at e2
  ·cases e2
   obtain⟨v,rfl,i⟩:=h.one_inv
   have em:=Wh e1;subst em
   obtain⟨p,xs,rfl,hp,hi⟩:=i.tup_inv
   obtain⟨rfl,rfl⟩:=hi.iL
   refine⟨p,ns,rfl,.inl (.inl hp),by assumption,fun q hq=>k _ _ [q] (Same.new hq _) (Is.lst upd_same (Iss.ofInts _)) (by simp) fun r hr=>?_⟩
   rw[List.mem_singleton.mp hr]
   exact⟨hq,by rw[upd_same];exact True.intro⟩
  ·cases e2
 ·cases e
end VL
namespace L2
open PySem PySem.Spec PyProof.Rows
abbrev WJ:=Addr->Obj->List (List YH×V)->It
end L2
namespace VL
open PySem PySem.Spec PyProof.Rows L2
variable {K:PySem.W.Frag}
instance (x:Str) (n:Int):Decidable (MulOk x n):=by unfold MulOk;infer_instance
def Jl:List PV->Option (List (Option Int))
 | []=>some []
 | .int i::r=>(Jl r).map (some i::·)
 | .non::r=>(Jl r).map (none::·)
 | _=>none
def Bj:Option Int->PV
 | some i=>.int i
 | none=>.non
def BI:Option Int->V
 | some i=>.int i
 | none=>.non
theorem SN:∀{l:List PV}{xs:List (Option Int)},Jl l=some xs->l=xs.map Bj
 | [],_,h=>by cases h;rfl
 | .int i::r,xs,h=>by
  simp only[Jl] at h
  obtain⟨ys,h1,rfl⟩:=map_some h
  rw[SN h1];rfl
 | .non::r,xs,h=>by
  simp only[Jl] at h
  obtain⟨ys,h1,rfl⟩:=map_some h
  rw[SN h1];rfl
 | .str _::_,_,h=>by cases h
 | .bl _::_,_,h=>by cases h
 | .ty _::_,_,h=>by cases h
 | .exc _::_,_,h=>by cases h
 | .exf _ _::_,_,h=>by cases h
 | .tup _::_,_,h=>by cases h
 | .lst _::_,_,h=>by cases h
 | .cst _::_,_,h=>by cases h
 | .dK _ _::_,_,h=>by cases h
 | .dT _ _::_,_,h=>by cases h
theorem Iss.oiL{H:Hp}:∀{l:List (Option Int)}{xs:List V}{fp:List Addr},Iss K H (l.map Bj) xs fp->xs=l.map BI
 | [],xs,fp,h=>by simp only[List.map_nil,Iss] at h;exact h.1
 | o::l,xs,fp,h=>by
  obtain⟨x,r,f1,f2,rfl,h1,h2,rfl⟩:=Iss.inv (show Iss K H (Bj o::l.map Bj) xs fp from h)
  rw[h2.oiL]
  cases o with
  | none=>rw[h1.non_inv.1];rfl
  | some i=>rw[h1.int_inv.1];rfl
def C3(K:PySem.W.Frag):R2:=fun x y H Q=>∃(p:Addr) (l:List (Option Int)),x = .non/\y = .ref p/\SqL K H p (l.map BI)/\Q (.bl (l.any Option.isNone)) H
theorem DG{X:Cx}:UJ X (compareOp .In) (C3 X.K):=by
 intro pins s σ H x y v u Q I rx ry h
 obtain⟨p,l,rfl,rfl,hp,q⟩:=h
 cases rx;cases ry
 obtain⟨us,rv,t,_⟩:=I.list hp
 let e:Value->Bool:=fun y=>match y with | .none=>true | _=>false
 have key:∀{l:List (Option Int)}{us:List Value},Vals (l.map BI) us->(∀y∈us,∀A:Around,SeqAt.EqAt A s y Value.none (e y))/\us.any e=l.any Option.isNone:=by
  intro l
  induction l with
  | nil=>intro us h;cases h;exact⟨fun y hy=>by simp at hy,rfl⟩
  | cons o l ih=>
   intro us h
   cases h with
   | cons h1 h2=>
    obtain⟨a,b⟩:=ih h2
    cases o with
    | none=>
     cases h1
     refine⟨fun y hy A=>?_,by simp[b,e]⟩
     rcases List.mem_cons.mp hy with rfl | hy
     ·exact SeqAt.EqAt.same _
     ·exact a y hy A
    | some i=>
     obtain⟨tk,rfl⟩:=h1
     refine⟨fun y hy A=>?_,by simp[b,e]⟩
     rcases List.mem_cons.mp hy with rfl | hy
     ·exact SeqAt.EqAt.int_none _ _
     ·exact a y hy A
 obtain⟨k1,k2⟩:=key rv
 refine SeqAt.in_listAt e t.isList (fun w hw=>k1 w (by simpa using hw) _) ⟨.bl _,H,I,rfl,?_⟩
 rw[show us.toArray.any e=us.any e by simp,k2];exact q
def Ha:PV->PV->Option PV
 | .non,.lst l=>(Jl l).map fun xs=>.bl (xs.any Option.isNone)
 | _,_=>none
theorem DH:RB K (C3 K) Ha:=fun H x y a b l fa fb ha hb e Q k=>by
 unfold Ha at e;split at e
 ·obtain⟨xs,e1,rfl⟩:=map_some e
  have:=SN e1
  subst this
  obtain⟨p,vs,fq,rfl,hp,hi,rfl⟩:=hb.lst_inv
  have:=hi.oiL
  subst this
  exact⟨p,xs,ha.non_inv.1,rfl,SqL.of hp,k _ H [] (Same.refl H) (Is.bl _) fun p hp=>by simp at hp⟩
 ·cases e
section
variable {X:Cx} {a b:Expr} {fa fb:XE} {pos:Pos}
theorem DI(ha:VE X a fa)(hb:VE X b fb)(hm:behindInMarks .In b=false:=by rfl):VT X (.Compare a [.In] [b] pos) (xB (Zg Ha fa fb)):=VV DG DH ha hb hm
end
end VL
namespace VL
open PySem PySem.Spec PyProof.Rows L2
variable {K:PySem.W.Frag}
def Hb:PV->PV->Option PV
 | .tup m,.tup n=>(Wq m).bind fun ns=>(Wq n).bind fun ms=>some (.bl (HT.lexLt ns ms))
 | _,_=>none
theorem DJ:RB K (Cz K) Hb:=fun H x y a b l fa fb ha hb e Q k=>by
 unfold Hb at e
 split at e
 ·obtain⟨ns,e1,e⟩:=Zf e
  obtain⟨ms,e2,e⟩:=Zf e
  cases e;have em:=Wh e1;have en:=Wh e2
  subst em en
  obtain⟨p,xs,rfl,hp,hi⟩:=ha.tup_inv
  obtain⟨q,ys,rfl,hq,hj⟩:=hb.tup_inv
  obtain⟨rfl,rfl⟩:=hi.iL
  obtain⟨rfl,rfl⟩:=hj.iL
  exact⟨p,q,ns,ms,rfl,rfl,.inl (.inl hp),.inl (.inl hq),k _ _ [] (Same.refl _) (Is.bl _) fun p hp=>by simp at hp⟩
 ·cases e
section
variable {X:Cx} {a b:Expr} {fa fb:XE} {pos:Pos}
theorem DK(hu:X.A.units+64<cLine)(ha:VE X a fa)(hb:VE X b fb):VE X (.Compare a [.Lt] [b] pos) (Zg Hb fa fb):=Ov (EY (by omega)) DJ ha hb (Vg _)
end
structure Fo(K:PySem.W.Frag)(mg:Str->Option Value)(x:Str)(st:Stmt)(dv:Int):Prop where
 ex:∃(f T:Addr) (t:Tok) (o:Obj) (n:Nat) (oc:Value) (od:Option Addr) (kV doc pm:Value) (an:Option Addr) (cdv ct:Value) (osl:Array (Option Value)),mg x=some (.ref f)/\
  K.lookup f=some ⟨oc,od,.func (PySem.W.fnOf x x (XN st) (YT st) (Zn st) (.ref T) kV doc pm an cdv ct),osl⟩/\PySem.W.codeIn K cdv x=true/\PySem.W.keepIn K (.ref f)=true/\K.lookup T=some o/\o.data = .seq #[.int dv t] n
theorem defD_mk{h:Heap}{mg:Str->Option Value}{x:Str}{st:Stmt}{dv:Int}{t:Tok}{f T:Addr}{o:Obj}{n:Nat}{oc:Value}{od an:Option Addr}{osl:Array (Option Value)}{kV doc pm cdv ct:Value}(X:K.In h)(G:h.Ns mainGlobals mg)
  (a:PySem.W.nsIn K mainGlobals x=some (some (.ref f))) (l:K.lookup f=some ⟨oc,od,.func (PySem.W.fnOf x x (XN st) (YT st) (Zn st) (.ref T) kV doc pm an cdv ct),osl⟩)
  (c:PySem.W.codeIn K cdv x=true) (k:PySem.W.keepIn K (.ref f)=true) (lt:K.lookup T=some o) (d:o.data = .seq #[.int dv t] n):Fo K mg x st dv:=
 ⟨f,T,t,o,n,oc,od,kV,doc,pm,an,cdv,ct,osl,PySem.W.mg_of X G a,l,c,k,lt,d⟩
structure Fp(P:Program)(w:World)(K:PySem.W.Frag)(mg:Str->Option Value)(base:Heap)(x:Str)(ps:List Str)(sp:Sp)(k:Nat)(dv:Int):Prop where
 ex:∃f fd t,mg x=some (.ref f)/\PySem.W.keepIn K (.ref f)=true/\Binds K fd ps [.int dv t]/\Sv P w K mg base Mv k f fd ps sp
section
variable {P:Program} {w:World} {mg:Str->Option Value} {base:Heap}
theorem Fq{x:Str}{st:Stmt}{N ps:List Str}{k n:Nat}{O W:List Nat}{dv:Int}(m:Nat)(f:XS)(D:Fo K mg x st dv)(S:ZI N ps (Zn st))
  (hb:∀(T:Addr)(t:Tok)(kV doc pm:Value)(an:Option Addr)(cdv ct:Value)(us:List Value),us.length+1=ps.length->∃q:Option (Array Value)->Sem (List (Str×Value)),
   bindArgs (PySem.W.fnOf x x (XN st) (YT st) (Zn st) (.ref T) kV doc pm an cdv ct) ⟨us,[]⟩=seqItems? (.ref T) >>= q/\q (some #[.int dv t])=pure (ps.zip (us++[.int dv t])))
  (hn:ps.length=n) (hm:N.length=m) (hO:∀i∈O,n<=i)
  (hbody:∀(fa:Addr)(cdv:Value)(A:Around)(outer:List Env)(s:Shared)(H:Hp)(E:XK),Room k (A.deeper (envOfC x (Zn st) s.heap.objs.size fa cdv))->Ga (QW Mv P w K mg base N x (Zn st) fa cdv A outer s H E).nox O W (YT st) f) :
  Fp P w K mg base x ps (Xt K (Xy m f) n) (k+1) dv:=by
 subst hm
 obtain⟨fa,T,t,o,n',oc,od,kV,doc,pm,an,cdv,ct,osl,hmg,lk,hcd,kp,lt,hd⟩:=D.ex
 refine⟨fa,_,t,hmg,kp,fun s us X hl=>?_,Ec lk hcd S (fun vs H Q E h=>by rw[hn];exact h.1) fun A outer s H vs Q E hr hsp=>⟨_,(hbody fa cdv A outer s H E hr).nox,OH hO hsp⟩⟩
 obtain⟨q,h1,h2⟩:=hb T t kV doc pm an cdv ct us (by simpa using hl)
 exact PySem.W.binds_K X rfl lt hd h1 h2
end
section
variable {X:Cx} {x:Str} {ps:List Str} {k:Nat} {e:Expr} {es:List Expr} {fs:List XE} {p pos:Pos} {dv:Int}
theorem Hd{D:List PV->Option PV}{n:Nat}(C:Fp X.prog X.w X.K X.mg X.base x ps (Xt X.K D n) k dv)(hr:Room k X.A)(hg:Gl X x)(ha:VA X (e::es) fs)(hn:fs.length+1=n:=by rfl)
  (hdb:(x==("__debug__" : Str))=false:=by decide) (he:starEach (e::es) X.env=(false,eval e X.env)::starEach es X.env:=by rfl) (hpl:(backTo pos (starEach es X.env)).any (·.1)=false:=by rfl) :
  VM X (.Call (.Name x p) (e::es) [] pos) (Ze (fun ls=>D (ls++[.int dv])) fs):=by
 obtain⟨f,fd,t,a,b,c,d⟩:=C.ex
 refine PE.imp (Lr d hr hg a b c (dvs:=[.int dv]) (.cons ⟨t,rfl⟩ .nil) Eg ha hdb he hpl) fun σ H Q ⟨s,l,env,e,q⟩=>?_
 obtain⟨ls,e1,e2⟩:=Zf e
 refine⟨fun _=>False,s,ls,fun _ z=>z.elim,env,e1,fun vs H1 fp s1 i1 n1=>?_⟩
 show Xt X.K D n (vs++[.int dv]) H1 Q E0
 exact⟨by rw[List.length_append,i1.len,UK e1,<-hn];rfl,ls++[.int dv],fp++[],l,i1.append (Iss.one (Is.int _)),e2,fun v H2 fq s2 i2 d2 n2=>q v H2 fq (s1.trans s2) i2 d2 fun a ha=>⟨Same.off s1 (n2 a ha).1,(n2 a ha).2⟩⟩
end
end VL
namespace PW
open PySem L2 VL
noncomputable def V9:XS:=(Zj (Zk 3 (Ze Zs [(Za 0),(Za 1)]))
  (Zj (WU (XM (xB (Zg (Yc false) (Zg YR (Za 3) (eC (.int 2))) (eC (.int 1)))) (xB (TY true (Ze Z3 [(Zg XJ (Za 3) (eC (.int 2))),(Za 2),(eC (.int 30)),(eC (.int 4))])))) (Z4 (Ze Z3 [(Zg XJ (Za 3) (eC (.int 2))),(Za 2),(eC (.int 30)),(eC (.int 4))])) ZO)
  (Zj (Zk 4 (eC (.dT [] [])))
  (Zj (Zk 5 (eP (eC (.int 30))))
  (Zj (Z0 [4] (ZZ [(eC (.int 1)),(Za 2)]) (.one 6) (Zj (Zk 7 (Ze Zs [(Za 0),(Zg ZX (Za 1) (Za 6))]))
  (Zj (Zk 8 (eP (Zg ZA (Yl [(eC (.int 1)),(eC (.int 1)),(eC (.int 2)),(eC (.int 3)),(eC (.int 4))]) (Zg YR (Zg XJ (Za 7) (Za 6)) (eC (.int 5))))))
  (Zj (sDPut 4 (Yg [(Zg YR (Za 7) (Za 6)),(Za 6)]) (Za 8))
  (Zk 5 (eP (Zg Xz (Za 5) (Za 8))))))))
  (Zj (Zk 9 (eP (Zg ZX (Za 1) (eC (.int 7)))))
  (Zj (Z0 [4] (ZL [(Za 2)]) (.one 10) (Z0 [4] (ZZ [(Zg ZX (Za 10) (eC (.int 1))),(Za 2)]) (.one 11) (Zj (Zk 8 (eP (Zg ZA (Yl [(eC (.int 0)),(eC (.int 0)),(eC (.int 1)),(eC (.int 1)),(eC (.int 2)),(eC (.int 3)),(eC (.int 4))]) (Zg YR (Ze Zs [(Za 0),(Za 9)]) (eC (.int 7))))))
  (Zj (Zk 9 (eP (Zg ZX (Za 9) (eC (.int 1)))))
  (WU (XM (xB (Rr true (Yg [(Za 10),(Za 11)]) (Za 4))) (xB (LX LG JO (eC (.int 0)) (Za 8) (Za 5)))) (Zj (sDPut 4 (Yg [(Za 10),(Za 11)]) (Za 8))
  (Zk 5 (eP (Zg Xz (Za 5) (Za 8))))) ZO)))))
  (Z4 (Ze Wl [(Za 4),(Zg XJ (Ze Zs [(Za 0),(Za 1)]) (eC (.int 7))),(Za 2)])))))))))
noncomputable def X8:List PV->Option PV:=Xy 12 V9
noncomputable def Wd:XS:=(Z4 (eP (Zg ZA (Ze Vx [(Za 0)]) (eC (.int 0)))))
noncomputable def YN:List PV->Option PV:=Xy 1 Wd
noncomputable def Vb:XS:=(Z4 (Ze YX [(Za 0),(eC (.int 0))]))
noncomputable def YZ:List PV->Option PV:=Xy 1 Vb
noncomputable def Wz:XS:=(Z4 (Ze YN [(Ze YZ [(Za 0)])]))
noncomputable def ZR:List PV->Option PV:=Xy 1 Wz
noncomputable def UW:XS:=(Zj (Zk 1 (Yl [(eP (eC (.int 0)))]))
  (Zj (Z0 [1] (ZL [(Ze ZG [(Za 0)])]) (.one 2) (Z0 [1] (ZL [(Ze ZG [(Za 0)])]) (.one 3) (WU (XM (xB (Zg (RE true) (Za 3) (Za 1))) (xB (Ze Nx [(Zu 1 [0,3] (YM (Za 1)) (.one 0) ZH (Zg Oy (Zg ZA (Zg ZA (Za 1) (Za 2)) (Za 0)) (eC (.int 0))))]))) (Y4 1 (eP (Za 3))) ZO)))
  (Z4 (eP (Zg (Yc false) (Ze ZG [(Za 1)]) (Ze ZG [(Za 0)]))))))
noncomputable def WH:List PV->Option PV:=Xy 4 UW
noncomputable def UX:XS:=(Zj (WU (Tg (xB (Ze WH [(Za 0)]))) (Z4 (eP (eC (.int 0)))) ZO)
  (Zj (Zk 1 (Ze ZR [(Za 0)]))
  (Zj (WU (O8 (Tg (xB (Ze YW [(Za 1)]))) (xB (Zg LG (Za 1) (eC (.int 1))))) (Z4 (eP (eC .non))) ZO)
  (Z4 (eP (Za 1))))))
noncomputable def Y9:List PV->Option PV:=Xy 2 UX
noncomputable def UY:XS:=(Zj (Zk 4 (Zu 1 [] (Vk (Za 0)) (.one 0) ZH (Ze XR [(Za 0)])))
  (Zj (XD 4 (Za 1) (Za 2) (Za 3))
  (Zj (XD 4 (Za 2) (Za 1) (Za 3))
  (Z4 (eP (Ze Y3 [(Zu 1 [] (YM (Za 4)) (.one 0) ZH (Ze Y3 [(Za 0)]))]))))))
noncomputable def Xq:List PV->Option PV:=Xy 5 UY
noncomputable def WA:XS:=(Zj (Zk 3 (Zu 1 [2] (ZL [(Ze ZG [(Za 0)])]) (.one 0) (xB (Zg (Yc true) (Za 0) (Za 1))) (eP (Za 0))))
  (Zj (Zk 4 (Yl []))
  (Zj (Z0 [4,6] (YM (Za 3)) (.one 5) (Zj (Zk 6 (Yl []))
  (Zj (Z0 [4,6] (YM (Za 3)) (.one 7) (Zj (Zk 8 (eP (Zg ZA (Zg ZA (Za 0) (Za 5)) (Za 7))))
  (Zj (WU (XM (xB (Zg (Yc false) (Za 5) (Za 1))) (xB (Zg (Yc true) (Za 7) (Za 1)))) (Zk 8 (eP (Zg ZX (Za 8) (Zg ZA (Zg ZA (Za 0) (Za 2)) (Za 7))))) ZO)
  (Zj (WU (XM (xB (Zg (Yc false) (Za 7) (Za 1))) (xB (Zg (Yc true) (Za 5) (Za 1)))) (Zk 8 (eP (Zg ZX (Za 8) (Zg ZA (Zg ZA (Za 0) (Za 5)) (Za 2))))) ZO)
  (Y4 6 (eP (Za 8)))))))
  (Y4 4 (eP (Ze Y3 [(Za 6)]))))))
  (Z4 (eP (Ze Y3 [(Za 4)]))))))
noncomputable def Xr:List PV->Option PV:=Xy 9 WA
noncomputable def Vc:XS:=(Zj (Zk 3 (Ml SJ (Ze ZG [(Za 0)])))
  (Zj (Z0 [3] (Vk (Za 2)) (.one 4) (Zj (Zk 5 (eP (Zg ZA (Za 1) (Za 4))))
  (Zj (Zk 6 (eP (Zg ZA (Za 3) (Zg ZA (Za 5) (eC (.int 0))))))
  (Zj (Zk 7 (eP (Zg ZA (Za 3) (Zg ZA (Za 5) (eC (.int 1))))))
  (Zk 3 (Zu 1 [6,7] (YM (Za 3)) (.one 0) ZH (eP (Oz (xB (Zg (Yc false) (Za 0) (Za 2))) (Za 1) (Za 0)))))))))
  (Z4 (Za 3))))
noncomputable def Xi:List PV->Option PV:=Xy 8 Vc
noncomputable def WB:XS:=(Z4 (eP (Zg (Yc true) (Zg ZA (Za 0) (Zg ZA (Za 1) (eC (.int 0)))) (Zg ZA (Za 0) (Zg ZA (Za 1) (eC (.int 1)))))))
noncomputable def Y5:List PV->Option PV:=Xy 2 WB
noncomputable def RJ:XS:=(Zj (Zk 3 (Yl []))
  (Zj (Z0 [3] (YM (Za 2)) (.one 4) (Zj (Zk 5 (Ze Xi [(Za 0),(Za 1),(Za 4)]))
  (Zj (Zk 6 (eP (Oz (xB (Zg Oy (Ze ZG [(Za 4)]) (eC (.int 0)))) (Zg ZX (Zg ZA (Za 4) (Ml Rk (eC (.int 1)))) (eC (.int 1))) (eC (.int 0)))))
  (Wx 3 (Zu 1 [4,5,1] (ZZ [(Za 6),(Ze ZG [(Za 1)])]) (.one 0) (xB (Ze Y5 [(Za 2),(Zg ZA (Za 3) (Za 0))])) (eP (Zg Qp (Za 1) (Yg [(Za 0)]))))))))
  (Z4 (Za 3))))
noncomputable def Ua:List PV->Option PV:=Xy 7 RJ
noncomputable def RK:XS:=(Zj (WU (xB (Zg Oy (Ze ZR [(Za 0)]) (Za 1))) OK ZO)
  (Zj (Zk 2 (Ze WE [(Za 0)]))
  (Zj (Zk 3 (Yl [(eP (Yg []))]))
  (Zj (Z0 [3] (ZZ [(eC (.int 1)),(Ze ZG [(Za 0)])]) (.one 4) (Zk 3 (Ze Ua [(Za 0),(Za 2),(Za 3)])))
  (Z4 (Za 3))))))
noncomputable def UZ:List PV->Option PV:=Xy 5 RK
noncomputable def Vd:XS:=(Zj (Zk 2 (Yl []))
  (Zj (Z0 [] (ZL [(Ze ZG [(Za 0)])]) (.one 3) (Z0 [] (ZZ [(Zg ZX (Za 3) (eC (.int 1))),(Ze ZG [(Za 0)])]) (.one 4) (Zk 2 (Zg Ql (Za 2) (Zg Q6 (Yl [(Yg [(Za 3),(Za 4)])]) (Zg ZA (Zg ZA (Za 0) (Za 3)) (Za 4)))))))
  (Zj (WU (O8 (Tg (xB (Ze W8 [(Za 1),(eC (.ty "tuple"))]))) (O8 (xB (Zg (Yc true) (Ze ZG [(Za 1)]) (Zg Xz (Ze ZG [(Za 0)]) (eC (.int 1))))) (Tg (xB (Ze Tj [(Zu 1 [] (Vk (Za 1)) (.one 0) ZH (Ze YW [(Za 0)]))]))))) (Z4 (eP (eC (.bl false)))) ZO)
  (Zj (Zk 5 (Zu 1 [] (ZL [(Ze ZG [(Za 0)])]) (.one 0) ZH (eP (Za 0))))
  (Zj (Z0 [] (Vk (Za 1)) (.one 6) (Zj (WU (O8 (xB (Zg LG (Za 6) (eC (.int 0)))) (xB (Zg CQ (Za 6) (Ze ZG [(Za 2)])))) (Z4 (eP (eC (.bl false)))) ZO)
  (Zj (S7 (.many [3,4]) (Zg ZA (Za 2) (Za 6)))
  (Zj (Zk 7 (eP (Zg ZA (Za 5) (Za 4))))
  (Zj (WU (xB (Zg (Yc false) (Zg ZA (Za 5) (Za 3)) (Za 7))) (Z4 (eP (eC (.bl false)))) ZO)
  (Zk 5 (Zu 1 [5,3,7] (YM (Za 5)) (.one 0) ZH (eP (Zg ZA (Yl [(Za 0),(Zg ZA (Za 1) (Za 2))]) (Ze Ul [(Zg (Yc false) (Za 0) (Za 3))]))))))))))
  (Z4 (eP (Zg (Yc false) (Ze XR [(Za 1)]) (Ze Sg [(Za 1)])))))))))
noncomputable def Xj:List PV->Option PV:=Xy 8 Vd
noncomputable def X0:XS:=(Zj (Zk 2 (Ze (fun ls=>UZ (ls++[.int 300])) [(Za 0)]))
  (Zj (WU (O8 (Tg (xB (Ze W8 [(Za 2),(eC (.ty "list"))]))) (O8 (xB (Zg (Yc true) (Ze ZG [(Za 2)]) (Za 1))) (Tg (xB (Ze Tj [(Zu 1 [0] (YM (Za 2)) (.one 0) ZH (Ze Xj [(Za 1),(Za 0)]))]))))) (Z4 (eP (eC (.bl false)))) ZO)
  (Z4 (eP (Ze Tj [(Zu 1 [2] (ZZ [(eC (.int 1)),(Ze ZG [(Za 2)])]) (.one 0) ZH (Zg Hb (Zg ZA (Za 1) (Zg Xz (Za 0) (eC (.int 1)))) (Zg ZA (Za 1) (Za 0))))])))))
noncomputable def Yy:List PV->Option PV:=Xy 3 X0
noncomputable def Kf:XS:=(Zj (Zk 1 (eP (Zg ZX (eC (.int 1)) (Zg YR (Ze Zs [(Za 0),(eC (.int 0))]) (eC (.int 7))))))
  (Zj (Zk 2 (Ze X8 [(Za 0),(eC (.int 1)),(Za 1)]))
  (Zj (Zk 3 (Ze X7 [(Za 2),(Za 1)]))
  (Zj (Zk 4 (Ze Y9 [(Za 3)]))
  (Zj (WU (O8 (xB (TY false (Za 4))) (XM (xB (Zg JO (Za 4) (eC (.int 60)))) (Tg (xB (Ze Yy [(Za 3),(Za 4)]))))) (Z4 (eP (eC (.bl false)))) ZO)
  (Zj (WU (xB (Zg (Yc false) (Za 1) (eC (.int 1)))) (Z4 (eP (Zg (Yc false) (Za 4) (eC (.int 1))))) ZO)
  (Zj (Zk 5 (Ze SM [(Za 2)]))
  (Zj (S7 (.many [6,7]) (Zg ZA (Za 5) (Zg YR (Ze Zs [(Za 0),(eC (.int 29))]) (Ze ZG [(Za 5)]))))
  (Zj (Zk 8 (eP (Zg X4 (Za 2) (Yg [(Za 6),(Za 7)]))))
  (Zj (WU (xB (Zg (Yc false) (Za 1) (eC (.int 2)))) (Z4 (eP (Zg (Yc false) (Za 4) (Za 8)))) ZO)
  (Zj (Zk 9 (Yl [(Ze Xq [(Za 3),(Za 6),(Za 7),(Zg Xz (Za 8) (eC (.int 1)))]),(Ze Xq [(Za 3),(Za 6),(Za 7),(eC (.int 0))]),(Ze Xr [(Za 3),(Za 6),(Za 7)])]))
  (Zj (Zk 10 (Zu 1 [] (YM (Za 9)) (.one 0) ZH (Ze Y9 [(Za 0)])))
  (Zj (WU (xB (Zg Ha (eC .non) (Za 10))) (Z4 (eP (eC (.bl false)))) ZO)
  (Z4 (eP (K7 (Zg (Yc false) (Za 4) (Zg ZX (Zg ZA (Za 10) (eC (.int 0))) (Zg ZA (Za 10) (eC (.int 2))))) (K7 (Zg (Yc false) (Za 4) (Zg ZX (Zg ZA (Za 10) (eC (.int 1))) (Zg Ox (Za 8) (Zg ZA (Za 10) (eC (.int 2)))))) (Zg (Yc false) (Ze ZR [(Za 3)]) (Za 4)))))))))))))))))))
noncomputable def D_law:List PV->Option PV:=Xy 11 Kf
def Rf(i:Nat):Stmt:=PySem.Challenge.pw_purseweb_k51_trees_counted.main.body.getD i (.Pass ⟨0,0,0,0⟩)
section
variable {P:Program} {w:World} {K:PySem.W.Frag} {mg:Str->Option Value} {base:Heap}
abbrev Qw:Stmt:=Rf 21
theorem Jm:ZI (["_law_script","_law_k"]:List Str) (["_law_script","_law_k"]:List Str) (Zn Qw):=⟨rfl,rfl,rfl,by decide +kernel,rfl,by decide +kernel,by decide +kernel⟩
theorem Jn(Df:Def K mg "_law_cell" Qw)(B:SA mg):X3 P w K mg base "_law_cell" (["_law_script","_law_k"]:List Str) (Xt K Zs 2) 1:=
 Yp (O:=[]) (k:=0) 2 Qq Df Jm (fun _ _ _ _ _ _ us hl=>match us,hl with | [_,_],_=>rfl) rfl rfl (by decide) (fun fa cdv A outer s H E hr=>
  (Zl (Z1 (VE.pure (Zr (VM.ve (LY (Jb (Zd (pv 0)) (LO (Zd (pv 1))) (LO (Xe (Zd (pv 1)) Zm))) (Ti (Zc Zm Zi)))) Zm)))))
abbrev Uv:Stmt:=Rf 23
theorem sc_l_renamed:ZI (["_law_found","_law_cell_here","_law_many","_law_names","_law_house","_law_told","_law_one","_law_other","_law_pair"]:List Str) (["_law_found","_law_cell_here","_law_many"]:List Str) (Zn Uv):=⟨rfl,rfl,rfl,by decide +kernel,rfl,by decide +kernel,by decide +kernel⟩
theorem OT(Df:Def K mg "_law_renamed" Uv)(B:SA mg):X3 P w K mg base "_law_renamed" (["_law_found","_law_cell_here","_law_many"]:List Str) (Xt K Wl 3) 1:=
 Yp (O:=[3,5]) (k:=0) 9 Va Df sc_l_renamed (fun _ _ _ _ _ _ us hl=>match us,hl with | [_,_,_],_=>rfl) rfl rfl (by decide) (fun fa cdv A outer s H E hr=>
  (Zh (Zw (i:=3) sc_l_renamed.nd rfl (Or.inl rfl) (Vi Wc))
  (Zh (YV PassesOwn.never rfl (Yt rfl B.range (Zc (Zd (pv 2)) Zi)) (Zp (i:=4) sc_l_renamed.nd rfl (Or.inl rfl)) (Zh (Jc (WZ (S3 PySem.F.plainAttrs_list PySem.F.slot_list_insert PySem.F.type_list_insert K3 (pv 3) (Y2 (Vh (Zd (pv 1)) (Xe (Zd (pv 4)) Zm)) (Y2 (Zd (pv 4)) Wo)))))
  (Zl (Zw (i:=1) sc_l_renamed.nd rfl (Or.inl rfl) (VE.pure (Wu (Zd (pv 1)) (Xe (Zd (pv 4)) Zm)))))))
  (Zh (Zw (i:=5) sc_l_renamed.nd rfl (Or.inl rfl) R9)
  (Zh (L0 (Of PassesOwn.never rfl (Oq (pv 0)) (Um (n:=2) rfl (Yk (Zp (i:=6) sc_l_renamed.nd rfl (Or.inl rfl)) (Yk (Zp (i:=7) sc_l_renamed.nd rfl (Or.inl rfl)) W0))) (Zh (Zw (i:=8) sc_l_renamed.nd rfl (Or.inl rfl) (VE.pure (X5 (Zc (Zy (Pg rfl) LI rfl B.min (by decide +kernel) (Zc (Zr (Zd (pv 3)) (Zd (pv 6))) (Zc (Zr (Zd (pv 3)) (Zd (pv 7))) Zi))) (Zc (Zy (KI rfl) G4 rfl B.max (by decide +kernel) (Zc (Zr (Zd (pv 3)) (Zd (pv 6))) (Zc (Zr (Zd (pv 3)) (Zd (pv 7))) Zi))) Zi)))))
  (Zl (RG (Rz (TQ hr) (pv 5) (Zd (pv 8)) (RF (TQ hr) (Zd (pv 0)) (X5 (Zc (Zd (pv 6)) (Zc (Zd (pv 7)) Zi)))) rfl))))))
  (Zl (T2 (pv 5))))))))
abbrev WO:Stmt:=Rf 24
theorem sc_l_read_times:ZI (["_law_rest","_law_many","_law_room","_law_most","_law_found","_law_met","_law_one","_law_other","_law_deep","_law_turn"]:List Str) (["_law_rest","_law_many","_law_room","_law_most"]:List Str) (Zn WO):=⟨rfl,rfl,rfl,by decide +kernel,rfl,by decide +kernel,by decide +kernel⟩
theorem Rt(Df:Def K mg "_law_read_times" WO)(B:SA mg):X3 P w K mg base "_law_read_times" (["_law_rest","_law_many","_law_room","_law_most"]:List Str) (Xt K Z3 4) 1:=
 Yp (O:=[4,5]) (k:=0) 10 XZ Df sc_l_read_times (fun _ _ _ _ _ _ us hl=>match us,hl with | [_,_,_,_],_=>rfl) rfl rfl (by decide) (fun fa cdv A outer s H E hr=>
  (Zh (Zw (i:=4) sc_l_read_times.nd rfl (Or.inl rfl) R9)
  (Zh (Zw (i:=5) sc_l_read_times.nd rfl (Or.inl rfl) (Vi (Vt (VE.pure Zm) Wc)))
  (Zh (YV PassesOwn.never rfl (Yt rfl B.range (Zc (Zd (pv 1)) Zi)) (Zp (i:=6) sc_l_read_times.nd rfl (Or.inl rfl)) (Zl (YV PassesOwn.never rfl (XF rfl B.range (Zc (Xe (Zd (pv 6)) Zm) (Zc (Zd (pv 1)) Zi))) (Zp (i:=7) sc_l_read_times.nd rfl (Or.inl rfl)) (Zh (Zw (i:=8) sc_l_read_times.nd rfl (Or.inl rfl) (VE.pure (Zy (Pg rfl) LI rfl B.min (by decide +kernel) (Zc (Ie (Vh (Zd (pv 0)) Zm) (Xe Zm (Vh (Wu (Zd (pv 0)) Zm) (Zd (pv 3))))) (Zc (Zd (pv 2)) Zi)))))
  (Zh (Zw (i:=0) sc_l_read_times.nd rfl (Or.inl rfl) (VE.pure (Zr (Ti (Zc (Wu (Zd (pv 0)) Zm) (Zc (Wu (Wu (Zd (pv 0)) Zm) (Zd (pv 3))) Zi))) (Vh (Zd (pv 0)) Zm))))
  (Zl (XU (Ig (Zd (pv 8)) Zm) (Zh (RG (Rz (TQ hr) (pv 4) (X5 (Zc (Zd (pv 6)) (Zc (Zd (pv 7)) Zi))) (Zd (pv 8)) rfl))
  (Zl (Zw (i:=2) sc_l_read_times.nd rfl (Or.inl rfl) (VE.pure (Tf (Zd (pv 2)) (Zd (pv 8))))))) Yo)))))))
  (Zh (YV PassesOwn.never rfl (Yt rfl B.range (Zc (Zd (pv 1)) Zi)) (Zp (i:=9) sc_l_read_times.nd rfl (Or.inl rfl)) (Zl (IC (O':=[5]) (Of PassesOwn.never rfl (Oq (pv 4)) (Um (n:=2) rfl (Yk (Zp (i:=6) sc_l_read_times.nd rfl (Or.inl rfl)) (Yk (Zp (i:=7) sc_l_read_times.nd rfl (Or.inl rfl)) W0))) (Zh (XU (VW.vt (Uq (Em hr.units (Zd (pv 6)) (Zd (pv 5))) (W7 (Qk hr.units (Zd (pv 7)) (Zd (pv 5)))))) (Zl (Vv (WZ (S3 PySem.F.plainAttrs_list PySem.F.slot_list_append PySem.F.type_list_append Vp (pv 5) (Y2 (VE.pure (Zd (pv 7))) Wo))))) Yo)
  (Zl (XU (VW.vt (Uq (Em hr.units (Zd (pv 7)) (Zd (pv 5))) (W7 (Qk hr.units (Zd (pv 6)) (Zd (pv 5)))))) (Zl (Vv (WZ (S3 PySem.F.plainAttrs_list PySem.F.slot_list_append PySem.F.type_list_append Vp (pv 5) (Y2 (VE.pure (Zd (pv 6))) Wo))))) Yo)))) (by decide) (by intro j;simp;try omega))))
  (Zl (Je (Pp ix_list (Mr (Y2 JR (Y2 (pv 4) Wo))) (YU Ph LJ rfl B.int (by decide +kernel) (Zc (T5 hr.units (Zy ZT YG rfl B.len (by decide +kernel) (Zc (Zd (pv 5)) Zi)) (Zd (pv 1))) Zi)) (fun _ _=>rfl)))))))))
abbrev Tq:Stmt:=Rf 25
theorem sc_l_timesK:ZI (["_law_script","_law_at","_law_many","_law_first","_law_found","_law_room","_law_house","_law_cell_here","_law_deep","_law_k","_law_one","_law_other"]:List Str) (["_law_script","_law_at","_law_many"]:List Str) (Zn Tq):=⟨rfl,rfl,rfl,by decide +kernel,rfl,by decide +kernel,by decide +kernel⟩
theorem NT(Df:Def K mg "_law_times" Tq)(B:SA mg)(C_l_cell:X3 P w K mg base "_law_cell" (["_law_script","_law_k"]:List Str) (Xt K Zs 2) 1)(C_l_read_times:X3 P w K mg base "_law_read_times" (["_law_rest","_law_many","_law_room","_law_most"]:List Str) (Xt K Z3 4) 1)(C_l_renamed:X3 P w K mg base "_law_renamed" (["_law_found","_law_cell_here","_law_many"]:List Str) (Xt K Wl 3) 1):X3 P w K mg base "_law_times" (["_law_script","_law_at","_law_many"]:List Str) (Xt K X8 3) 2:=
 Yp (O:=[4]) (k:=1) 12 V9 Df sc_l_timesK (fun _ _ _ _ _ _ us hl=>match us,hl with | [_,_,_],_=>rfl) rfl rfl (by decide) (fun fa cdv A outer s H E hr=>
  (Zh (Zw (i:=3) sc_l_timesK.nd rfl (Or.inl rfl) (ZD C_l_cell (hr.mono (by decide)) rfl (Zc (Zd (pv 0)) (Zc (Zd (pv 1)) Zi))))
  (Zh (XU (VW.vt (Uq (T6 hr.units (Vh (Zd (pv 3)) Zm) Zm) (W7 (G3 (VM.ve (ZD C_l_read_times (hr.mono (by decide)) rfl (Zc (Wu (Zd (pv 3)) Zm) (Zc (Zd (pv 2)) (Zc Zm (Zc Zm Zi)))))))))) (Zl (Z1 (ZD C_l_read_times (hr.mono (by decide)) rfl (Zc (Wu (Zd (pv 3)) Zm) (Zc (Zd (pv 2)) (Zc Zm (Zc Zm Zi))))))) Yo)
  (Zh (Zw (i:=4) sc_l_timesK.nd rfl (Or.inl rfl) R9)
  (Zh (Zw (i:=5) sc_l_timesK.nd rfl (Or.inl rfl) (VE.pure Zm))
  (Zh (YV PassesOwn.never rfl (XF rfl B.range (Zc Zm (Zc (Zd (pv 2)) Zi))) (Zp (i:=6) sc_l_timesK.nd rfl (Or.inl rfl)) (Zh (Zw (i:=7) sc_l_timesK.nd rfl (Or.inl rfl) (ZD C_l_cell (hr.mono (by decide)) rfl (Zc (Zd (pv 0)) (Zc (Xe (Zd (pv 1)) (Zd (pv 6))) Zi))))
  (Zh (Zw (i:=8) sc_l_timesK.nd rfl (Or.inl rfl) (VE.pure (Zr (Ti (Zc Zm (Zc Zm (Zc Zm (Zc Zm (Zc Zm Zi)))))) (Vh (Wu (Zd (pv 7)) (Zd (pv 6))) Zm))))
  (Zh (RG (Rz (TQ hr) (pv 4) (X5 (Zc (Vh (Zd (pv 7)) (Zd (pv 6))) (Zc (Zd (pv 6)) Zi))) (Zd (pv 8)) rfl))
  (Zl (Zw (i:=5) sc_l_timesK.nd rfl (Or.inl rfl) (VE.pure (Tf (Zd (pv 5)) (Zd (pv 8))))))))))
  (Zh (Zw (i:=9) sc_l_timesK.nd rfl (Or.inl rfl) (VE.pure (Xe (Zd (pv 1)) Zm)))
  (Zh (YV PassesOwn.never rfl (Yt rfl B.range (Zc (Zd (pv 2)) Zi)) (Zp (i:=10) sc_l_timesK.nd rfl (Or.inl rfl)) (Zl (YV PassesOwn.never rfl (XF rfl B.range (Zc (Xe (Zd (pv 10)) Zm) (Zc (Zd (pv 2)) Zi))) (Zp (i:=11) sc_l_timesK.nd rfl (Or.inl rfl)) (Zh (Zw (i:=8) sc_l_timesK.nd rfl (Or.inl rfl) (VE.pure (Zr (Ti (Zc Zm (Zc Zm (Zc Zm (Zc Zm (Zc Zm (Zc Zm (Zc Zm Zi)))))))) (Vh (VM.ve (ZD C_l_cell (hr.mono (by decide)) rfl (Zc (Zd (pv 0)) (Zc (Zd (pv 9)) Zi)))) Zm))))
  (Zh (Zw (i:=9) sc_l_timesK.nd rfl (Or.inl rfl) (VE.pure (Xe (Zd (pv 9)) Zm)))
  (Zl (XU (VW.vt (Uq (Jd (TQ hr) (X5 (Zc (Zd (pv 10)) (Zc (Zd (pv 11)) Zi))) (Zd (pv 4))) (W7 (IA F8 F9 (Mx _) (Mx _) Zm (Zd (pv 8)) (Zd (pv 5)))))) (Zh (RG (Rz (TQ hr) (pv 4) (X5 (Zc (Zd (pv 10)) (Zc (Zd (pv 11)) Zi))) (Zd (pv 8)) rfl))
  (Zl (Zw (i:=5) sc_l_timesK.nd rfl (Or.inl rfl) (VE.pure (Tf (Zd (pv 5)) (Zd (pv 8))))))) Yo)))))))
  (Zl (Z1 (ZD C_l_renamed (hr.mono (by decide)) rfl (Zc (Zd (pv 4)) (Zc (Wu (VM.ve (ZD C_l_cell (hr.mono (by decide)) rfl (Zc (Zd (pv 0)) (Zc (Zd (pv 1)) Zi)))) Zm) (Zc (Zd (pv 2)) Zi))))))))))))))
abbrev Tr:Stmt:=Rf 26
theorem sc_l_square:ZI (["_law_times_here","_law_many","_law_rows","_law_one","_law_other"]:List Str) (["_law_times_here","_law_many"]:List Str) (Zn Tr):=⟨rfl,rfl,rfl,by decide +kernel,rfl,by decide +kernel,by decide +kernel⟩
theorem NU(Df:Def K mg "_law_square" Tr)(B:SA mg):X3 P w K mg base "_law_square" (["_law_times_here","_law_many"]:List Str) (Xt K X7 2) 1:=
 Yp (O:=[2]) (k:=0) 5 V7 Df sc_l_square (fun _ _ _ _ _ _ us hl=>match us,hl with | [_,_],_=>rfl) rfl rfl (by decide) (fun fa cdv A outer s H E hr=>
  (Zh (UQ (["_law_house"]:List Str) (["_law_many"]:List Str) [1] (i:=2) sc_l_square.nd rfl rfl rfl (Yt rfl B.range (Zc (Zd (pv 1)) Zi)) (by kernel_rfl) (fun _ _ _ _ _=>(Zp (i:=0) (show((["_law_house"]:List Str)++(["_law_many"]:List Str)).Nodup by decide +kernel) rfl (Or.inl rfl) (.inr rfl))) (fun _ _ _ _ _=>YJ) (fun _ _ _ _ _=>(IB (Ti (Zc Zm Zi)) (Zd (pv 1)))))
  (Zh (L0 (Of PassesOwn.never rfl (Oq (pv 0)) (Um (n:=2) rfl (Yk (Zp (i:=3) sc_l_square.nd rfl (Or.inl rfl)) (Yk (Zp (i:=4) sc_l_square.nd rfl (Or.inl rfl)) W0))) (Zh (UP (Sr (RF (TQ hr) (Zd (pv 0)) (X5 (Zc (Zd (pv 3)) (Zc (Zd (pv 4)) Zi)))) (Oe (Pp ix_list (pv 2) (Zd (pv 3)) (fun _ _=>rfl)) (Zd (pv 4)) TJ)))
  (Zl (UP (Sr (RF (TQ hr) (Zd (pv 0)) (X5 (Zc (Zd (pv 3)) (Zc (Zd (pv 4)) Zi)))) (Oe (Pp ix_list (pv 2) (Zd (pv 4)) (fun _ _=>rfl)) (Zd (pv 3)) TJ)))))))
  (Zl (Z1 (VE.pure (YU Yf XQ rfl B.tuple (by decide +kernel) (Zc (Ww (["_law_row"]:List Str) ([]:List Str) [] rfl (XC (Zd (pv 2))) (by kernel_rfl) (fun _ _ _ _ _=>(Zp (i:=0) (show((["_law_row"]:List Str)++([]:List Str)).Nodup by decide +kernel) rfl (Or.inl rfl) (.inr rfl))) (fun _ _ _ _ _=>YJ) (fun _ _ _ _ _=>(YU Yf XQ rfl B.tuple (by decide +kernel) (Zc (Zd (pv 0)) Zi)))) Zi))))))))
abbrev SO:Stmt:=Rf 6
theorem MP:ZI (["row","by","place","divisor"]:List Str) (["row","by","place","divisor"]:List Str) (Zn SO):=⟨rfl,rfl,rfl,by decide +kernel,rfl,by decide +kernel,by decide +kernel⟩
theorem MQ(Df:Def K mg "reduced" SO)(B:SA mg):X3 P w K mg base "reduced" (["row","by","place","divisor"]:List Str) (Xt K XG 4) 1:=
 Yp (O:=[]) (k:=0) 4 UU Df MP (fun _ _ _ _ _ _ us hl=>match us,hl with | [_,_,_,_],_=>rfl) rfl rfl (by decide) (fun fa cdv A outer s H E hr=>
  (Zl (Z1 (VE.pure (YU Yf XQ rfl B.tuple (by decide +kernel) (Zc (Ww (["number","other"]:List Str) (["divisor","by","place","row"]:List Str) [3,1,2,0] rfl (Dv false false rfl B.zip (Zc (Zd (pv 0)) (Zc (Zd (pv 1)) Zi))) (by kernel_rfl) (fun _ _ _ _ _=>(Um (n:=2) rfl (Yk (Zp (i:=0) (show((["number","other"]:List Str)++(["divisor","by","place","row"]:List Str)).Nodup by decide +kernel) rfl (Or.inl rfl) (.inr rfl)) (Yk (Zp (i:=1) (show((["number","other"]:List Str)++(["divisor","by","place","row"]:List Str)).Nodup by decide +kernel) rfl (Or.inl rfl) (.inr rfl)) W0)))) (fun _ _ _ _ _=>YJ) (fun _ _ _ _ _=>(IQ (Tf (L8 (Zr (Zd (pv 3)) (Zd (pv 4))) (Zd (pv 0))) (L8 (Zr (Zd (pv 5)) (Zd (pv 4))) (Zd (pv 1)))) (Zd (pv 2))))) Zi))))))
abbrev Qx:Stmt:=Rf 5
theorem sc_evened:ZI (["rows","left","divisor","place","by"]:List Str) (["rows"]:List Str) (Zn Qx):=⟨rfl,rfl,rfl,by decide +kernel,rfl,by decide +kernel,by decide +kernel⟩
theorem Jo(Df:Def K mg "evened" Qx)(B:SA mg)(C_reduced:X3 P w K mg base "reduced" (["row","by","place","divisor"]:List Str) (Xt K XG 4) 1):X3 P w K mg base "evened" (["rows"]:List Str) (Xt K Vx 1) 2:=
 Yp (O:=[1]) (k:=1) 5 Se Df sc_evened (fun _ _ _ _ _ _ us hl=>match us,hl with | [_],_=>rfl) rfl rfl (by decide) (fun fa cdv A outer s H E hr=>
  (Zh (Zw (i:=1) sc_evened.nd rfl (Or.inl rfl) (SE VQ Qa rfl B.list (by decide +kernel) (Zc (Zd (pv 0)) Zi)))
  (Zh (Zw (i:=2) sc_evened.nd rfl (Or.inr rfl) (VE.pure Zm))
  (Zh (YV PassesOwn.never rfl (Yt rfl B.range (Zc (Zy ZT YG rfl B.len (by decide +kernel) (Zc (Zd (pv 0)) Zi)) Zi)) (Zp (i:=3) sc_evened.nd rfl (Or.inr rfl)) (Zh (Zw (i:=4) sc_evened.nd rfl (Or.inr rfl) (VE.pure (Zr (Zd (pv 1)) (Zd (pv 3)))))
  (Zh (UQ (["at","row"]:List Str) (["place","by","divisor"]:List Str) [3,4,2] (i:=1) sc_evened.nd rfl rfl rfl (LM true rfl B.enumerate (Zc (Zd (pv 1)) Zi)) (by kernel_rfl) (fun _ _ _ _ _=>(Um (n:=2) rfl (Yk (Zp (i:=0) (show((["at","row"]:List Str)++(["place","by","divisor"]:List Str)).Nodup by decide +kernel) rfl (Or.inl rfl) (.inr rfl)) (Yk (Zp (i:=1) (show((["at","row"]:List Str)++(["place","by","divisor"]:List Str)).Nodup by decide +kernel) rfl (Or.inl rfl) (.inr rfl)) W0)))) (fun _ _ _ _ _=>YJ) (fun _ _ _ _ _=>(VE.pure (LH (T6 hr.units (Zd (pv 0)) (Zd (pv 2))) (Zd (pv 1)) (VM.ve (ZD C_reduced (hr.mono (by decide)) rfl (Zc (Zd (pv 1)) (Zc (Zd (pv 3)) (Zc (Zd (pv 2)) (Zc (Zd (pv 4)) Zi))))))))))
  (Zl (Zw (i:=2) sc_evened.nd rfl (Or.inr rfl) (VE.pure (Zr (Zd (pv 4)) (Zd (pv 3)))))))))
  (Zl (IT (JZ (Y2 (Zd (pv 2)) (Y2 (pv 1) Wo)))))))))
abbrev Vm:Stmt:=Rf 4
theorem Qy:ZI (["square"]:List Str) (["square"]:List Str) (Zn Vm):=⟨rfl,rfl,rfl,by decide +kernel,rfl,by decide +kernel,by decide +kernel⟩
theorem Qz(Df:Def K mg "determinant" Vm)(B:SA mg)(C_evened:X3 P w K mg base "evened" (["rows"]:List Str) (Xt K Vx 1) 2):X3 P w K mg base "determinant" (["square"]:List Str) (Xt K YN 1) 3:=
 Yp (O:=[]) (k:=2) 1 Wd Df Qy (fun _ _ _ _ _ _ us hl=>match us,hl with | [_],_=>rfl) rfl rfl (by decide) (fun fa cdv A outer s H E hr=>
  (Zl (Z1 (VE.pure (Zr (VM.ve (ZD C_evened (hr.mono (by decide)) rfl (Zc (Zd (pv 0)) Zi))) Zm)))))
abbrev SQ:Stmt:=Rf 8
theorem MR:ZI (["web","house"]:List Str) (["web","house"]:List Str) (Zn SQ):=⟨rfl,rfl,rfl,by decide +kernel,rfl,by decide +kernel,by decide +kernel⟩
theorem MS(Df:Def K mg "ties_at" SQ)(B:SA mg):X3 P w K mg base "ties_at" (["web","house"]:List Str) (Xt K X6 2) 1:=
 Yp (O:=[]) (k:=0) 2 SG Df MR (fun _ _ _ _ _ _ us hl=>match us,hl with | [_,_],_=>rfl) rfl rfl (by decide) (fun fa cdv A outer s H E hr=>
  (Zl (Z1 (VE.pure (Zy (K1 rfl) Dq rfl B.sum (by decide +kernel) (Zc (Zr (Zd (pv 0)) (Zd (pv 1))) Zi))))))
abbrev QA:Stmt:=Rf 13
theorem Jp:ZI (["web","house","others"]:List Str) (["web","house","others"]:List Str) (Zn QA):=⟨rfl,rfl,rfl,by decide +kernel,rfl,by decide +kernel,by decide +kernel⟩
theorem Jq(Df:Def K mg "row_of" QA)(B:SA mg)(C_ties_at:X3 P w K mg base "ties_at" (["web","house"]:List Str) (Xt K X6 2) 1):X3 P w K mg base "row_of" (["web","house","others"]:List Str) (Xt K WN 3) 2:=
 Yp (O:=[]) (k:=1) 3 Vy Df Jp (fun _ _ _ _ _ _ us hl=>match us,hl with | [_,_,_],_=>rfl) rfl rfl (by decide) (fun fa cdv A outer s H E hr=>
  (Zl (Z1 (VE.pure (YU Yf XQ rfl B.tuple (by decide +kernel) (Zc (Ww (["other"]:List Str) (["house","web"]:List Str) [1,0] rfl (XC (Zd (pv 2))) (by kernel_rfl) (fun _ _ _ _ _=>(Zp (i:=0) (show((["other"]:List Str)++(["house","web"]:List Str)).Nodup by decide +kernel) rfl (Or.inl rfl) (.inr rfl))) (fun _ _ _ _ _=>YJ) (fun _ _ _ _ _=>(LH (T6 hr.units (Zd (pv 0)) (Zd (pv 1))) (VM.ve (ZD C_ties_at (hr.mono (by decide)) rfl (Zc (Zd (pv 2)) (Zc (Zd (pv 1)) Zi)))) (Ik (Zr (Zr (Zd (pv 2)) (Zd (pv 1))) (Zd (pv 0))))))) Zi))))))
abbrev X9:Stmt:=Rf 12
theorem sc_square_without:ZI (["web","base","others"]:List Str) (["web","base"]:List Str) (Zn X9):=⟨rfl,rfl,rfl,by decide +kernel,rfl,by decide +kernel,by decide +kernel⟩
theorem Sh(Df:Def K mg "square_without" X9)(B:SA mg)(C_row_of:X3 P w K mg base "row_of" (["web","house","others"]:List Str) (Xt K WN 3) 2):X3 P w K mg base "square_without" (["web","base"]:List Str) (Xt K YX 2) 3:=
 Yp (O:=[]) (k:=2) 3 Yv Df sc_square_without (fun _ _ _ _ _ _ us hl=>match us,hl with | [_,_],_=>rfl) rfl rfl (by decide) (fun fa cdv A outer s H E hr=>
  (Zh (Zw (i:=2) sc_square_without.nd rfl (Or.inr rfl) (T1 (["house"]:List Str) (["base"]:List Str) [1] rfl (Yt rfl B.range (Zc (Zy ZT YG rfl B.len (by decide +kernel) (Zc (Zd (pv 0)) Zi)) Zi)) (by kernel_rfl) (fun _ _ _ _ _=>(Zp (i:=0) (show((["house"]:List Str)++(["base"]:List Str)).Nodup by decide +kernel) rfl (Or.inl rfl) (.inr rfl))) (fun _ _ _ _ _=>(OF (PM hr.units (Zd (pv 0)) (Zd (pv 1))))) (fun _ _ _ _ _=>(VE.pure (Zd (pv 0))))))
  (Zl (Z1 (VE.pure (YU Yf XQ rfl B.tuple (by decide +kernel) (Zc (Ww (["house"]:List Str) (["web","others"]:List Str) [0,2] rfl (XC (Zd (pv 2))) (by kernel_rfl) (fun _ _ _ _ _=>(Zp (i:=0) (show((["house"]:List Str)++(["web","others"]:List Str)).Nodup by decide +kernel) rfl (Or.inl rfl) (.inr rfl))) (fun _ _ _ _ _=>YJ) (fun _ _ _ _ _=>(VM.ve (ZD C_row_of (hr.mono (by decide)) rfl (Zc (Zd (pv 1)) (Zc (Zd (pv 0)) (Zc (Zd (pv 2)) Zi))))))) Zi)))))))
abbrev Uw:Stmt:=Rf 11
theorem OU:ZI (["web"]:List Str) (["web"]:List Str) (Zn Uw):=⟨rfl,rfl,rfl,by decide +kernel,rfl,by decide +kernel,by decide +kernel⟩
theorem OV(Df:Def K mg "square_of" Uw)(B:SA mg)(C_square_without:X3 P w K mg base "square_without" (["web","base"]:List Str) (Xt K YX 2) 3):X3 P w K mg base "square_of" (["web"]:List Str) (Xt K YZ 1) 4:=
 Yp (O:=[]) (k:=3) 1 Vb Df OU (fun _ _ _ _ _ _ us hl=>match us,hl with | [_],_=>rfl) rfl rfl (by decide) (fun fa cdv A outer s H E hr=>
  (Zl (Z1 (ZD C_square_without (hr.mono (by decide)) rfl (Zc (Zd (pv 0)) (Zc Zm Zi))))))
abbrev Ub:Stmt:=Rf 15
theorem Q8:ZI (["web"]:List Str) (["web"]:List Str) (Zn Ub):=⟨rfl,rfl,rfl,by decide +kernel,rfl,by decide +kernel,by decide +kernel⟩
theorem Q9(Df:Def K mg "tree_count" Ub)(B:SA mg)(C_determinant:X3 P w K mg base "determinant" (["square"]:List Str) (Xt K YN 1) 3)(C_square_of:X3 P w K mg base "square_of" (["web"]:List Str) (Xt K YZ 1) 4):X3 P w K mg base "tree_count" (["web"]:List Str) (Xt K ZR 1) 5:=
 Yp (O:=[]) (k:=4) 1 Wz Df Q8 (fun _ _ _ _ _ _ us hl=>match us,hl with | [_],_=>rfl) rfl rfl (by decide) (fun fa cdv A outer s H E hr=>
  (Zl (Z1 (ZD C_determinant (hr.mono (by decide)) rfl (Zc (VM.ve (ZD C_square_of (hr.mono (by decide)) rfl (Zc (Zd (pv 0)) Zi))) Zi)))))
abbrev SR:Stmt:=Rf 27
theorem sc_l_hangs:ZI (["_law_web","_law_met","_law_turn","_law_house"]:List Str) (["_law_web"]:List Str) (Zn SR):=⟨rfl,rfl,rfl,by decide +kernel,rfl,by decide +kernel,by decide +kernel⟩
theorem MT(Df:Def K mg "_law_hangs" SR)(B:SA mg):X3 P w K mg base "_law_hangs" (["_law_web"]:List Str) (Xt K WH 1) 1:=
 Yp (O:=[1]) (k:=0) 4 UW Df sc_l_hangs (fun _ _ _ _ _ _ us hl=>match us,hl with | [_],_=>rfl) rfl rfl (by decide) (fun fa cdv A outer s H E hr=>
  (Zh (Zw (i:=1) sc_l_hangs.nd rfl (Or.inl rfl) (Vi (Vt (VE.pure Zm) Wc)))
  (Zh (YV PassesOwn.never rfl (Yt rfl B.range (Zc (Zy ZT YG rfl B.len (by decide +kernel) (Zc (Zd (pv 0)) Zi)) Zi)) (Zp (i:=2) sc_l_hangs.nd rfl (Or.inl rfl)) (Zl (YV PassesOwn.never rfl (Yt rfl B.range (Zc (Zy ZT YG rfl B.len (by decide +kernel) (Zc (Zd (pv 0)) Zi)) Zi)) (Zp (i:=3) sc_l_hangs.nd rfl (Or.inr rfl)) (Zl (XU (VW.vt (Uq (Qk hr.units (Zd (pv 3)) (Zd (pv 1))) (W7 (VU (Zy (K2 rfl) Dr rfl B.any (by decide +kernel) (Zc (Ww (["_law_other"]:List Str) (["_law_web","_law_house"]:List Str) [0,3] rfl (XC (Zd (pv 1))) (by kernel_rfl) (fun _ _ _ _ _=>(Zp (i:=0) (show((["_law_other"]:List Str)++(["_law_web","_law_house"]:List Str)).Nodup by decide +kernel) rfl (Or.inl rfl) (.inr rfl))) (fun _ _ _ _ _=>YJ) (fun _ _ _ _ _=>(CS (Zr (Zr (Zd (pv 1)) (Zd (pv 2))) (Zd (pv 0))) Zm))) Zi)))))) (Zl (Vv (WZ (S3 PySem.F.plainAttrs_list PySem.F.slot_list_append PySem.F.type_list_append Vp (pv 1) (Y2 (VE.pure (Zd (pv 3))) Wo))))) Yo)))))
  (Zl (Z1 (VE.pure (T5 hr.units (Zy ZT YG rfl B.len (by decide +kernel) (Zc (Zd (pv 1)) Zi)) (Zy ZT YG rfl B.len (by decide +kernel) (Zc (Zd (pv 0)) Zi)))))))))
abbrev SS:Stmt:=Rf 22
theorem MU:ZI (["_law_thing"]:List Str) (["_law_thing"]:List Str) (Zn SS):=⟨rfl,rfl,rfl,by decide +kernel,rfl,by decide +kernel,by decide +kernel⟩
theorem MV(Df:Def K mg "_law_whole" SS)(B:SA mg):X3 P w K mg base "_law_whole" (["_law_thing"]:List Str) (Xt K YW 1) 1:=
 Yp (O:=[]) (k:=0) 1 SH Df MU (fun _ _ _ _ _ _ us hl=>match us,hl with | [_],_=>rfl) rfl rfl (by decide) (fun fa cdv A outer s H E hr=>
  (Zl (Z1 (VE.pure (Mz (Zy W6 RA rfl B.isinstance (by decide +kernel) (Zc (Zd (pv 0)) (Zc (LK rfl B.int (by decide +kernel)) Zi))) (Ih (Dm (Zy W6 RA rfl B.isinstance (by decide +kernel) (Zc (Zd (pv 0)) (Zc (LK rfl B.bool (by decide +kernel)) Zi))))))))))
abbrev SU:Stmt:=Rf 32
theorem sc_l_count:ZI (["_law_web","_law_found"]:List Str) (["_law_web"]:List Str) (Zn SU):=⟨rfl,rfl,rfl,by decide +kernel,rfl,by decide +kernel,by decide +kernel⟩
theorem MW(Df:Def K mg "_law_count" SU)(B:SA mg)(C_l_hangs:X3 P w K mg base "_law_hangs" (["_law_web"]:List Str) (Xt K WH 1) 1)(C_tree_count:X3 P w K mg base "tree_count" (["web"]:List Str) (Xt K ZR 1) 5)(C_l_whole:X3 P w K mg base "_law_whole" (["_law_thing"]:List Str) (Xt K YW 1) 1):X3 P w K mg base "_law_count" (["_law_web"]:List Str) (Xt K Y9 1) 6:=
 Yp (O:=[]) (k:=5) 2 UX Df sc_l_count (fun _ _ _ _ _ _ us hl=>match us,hl with | [_],_=>rfl) rfl rfl (by decide) (fun fa cdv A outer s H E hr=>
  (Zh (XU (Th (VU (VM.ve (ZD C_l_hangs (hr.mono (by decide)) rfl (Zc (Zd (pv 0)) Zi))))) (Zl (Z1 (VE.pure Zm))) Yo)
  (Zh (Zw (i:=1) sc_l_count.nd rfl (Or.inl rfl) (ZD C_tree_count (hr.mono (by decide)) rfl (Zc (Zd (pv 0)) Zi)))
  (Zh (XU (VW.vt (R6 (Th (VU (VM.ve (ZD C_l_whole (hr.mono (by decide)) rfl (Zc (Zd (pv 1)) Zi))))) (R5 (Eh (Zd (pv 1)) Zm)))) (Zl (Z1 (VE.pure Ib))) Yo)
  (Zl (Z1 (VE.pure (Zd (pv 1)))))))))
abbrev SV:Stmt:=Rf 28
theorem sc_l_fewer:ZI (["_law_web","_law_one","_law_other","_law_deep","_law_rows"]:List Str) (["_law_web","_law_one","_law_other","_law_deep"]:List Str) (Zn SV):=⟨rfl,rfl,rfl,by decide +kernel,rfl,by decide +kernel,by decide +kernel⟩
theorem MX(Df:Def K mg "_law_fewer" SV)(B:SA mg):X3 P w K mg base "_law_fewer" (["_law_web","_law_one","_law_other","_law_deep"]:List Str) (Xt K Xq 4) 1:=
 Yp (O:=[4]) (k:=0) 5 UY Df sc_l_fewer (fun _ _ _ _ _ _ us hl=>match us,hl with | [_,_,_,_],_=>rfl) rfl rfl (by decide) (fun fa cdv A outer s H E hr=>
  (Zh (UQ (["_law_row"]:List Str) ([]:List Str) [] (i:=4) sc_l_fewer.nd rfl rfl rfl (OC (Zd (pv 0))) (by kernel_rfl) (fun _ _ _ _ _=>(Zp (i:=0) (show((["_law_row"]:List Str)++([]:List Str)).Nodup by decide +kernel) rfl (Or.inl rfl) (.inr rfl))) (fun _ _ _ _ _=>YJ) (fun _ _ _ _ _=>(SE VQ Qa rfl B.list (by decide +kernel) (Zc (Zd (pv 0)) Zi))))
  (Zh (UP (Sr (Zd (pv 3)) (Oe (Pp ix_list (pv 4) (Zd (pv 1)) (fun _ _=>rfl)) (Zd (pv 2)) TJ)))
  (Zh (UP (Sr (Zd (pv 3)) (Oe (Pp ix_list (pv 4) (Zd (pv 2)) (fun _ _=>rfl)) (Zd (pv 1)) TJ)))
  (Zl (Z1 (VE.pure (YU Yf XQ rfl B.tuple (by decide +kernel) (Zc (Ww (["_law_row"]:List Str) ([]:List Str) [] rfl (XC (Zd (pv 4))) (by kernel_rfl) (fun _ _ _ _ _=>(Zp (i:=0) (show((["_law_row"]:List Str)++([]:List Str)).Nodup by decide +kernel) rfl (Or.inl rfl) (.inr rfl))) (fun _ _ _ _ _=>YJ) (fun _ _ _ _ _=>(YU Yf XQ rfl B.tuple (by decide +kernel) (Zc (Zd (pv 0)) Zi)))) Zi)))))))))
abbrev Uc:Stmt:=Rf 29
theorem sc_l_made_one:ZI (["_law_web","_law_one","_law_other","_law_left","_law_rows","_law_house","_law_row","_law_there","_law_deep"]:List Str) (["_law_web","_law_one","_law_other"]:List Str) (Zn Uc):=⟨rfl,rfl,rfl,by decide +kernel,rfl,by decide +kernel,by decide +kernel⟩
theorem Pa(Df:Def K mg "_law_made_one" Uc)(B:SA mg):X3 P w K mg base "_law_made_one" (["_law_web","_law_one","_law_other"]:List Str) (Xt K Xr 3) 1:=
 Yp (O:=[4,6]) (k:=0) 9 WA Df sc_l_made_one (fun _ _ _ _ _ _ us hl=>match us,hl with | [_,_,_],_=>rfl) rfl rfl (by decide) (fun fa cdv A outer s H E hr=>
  (Zh (UQ (["_law_house"]:List Str) (["_law_other"]:List Str) [2] (i:=3) sc_l_made_one.nd rfl rfl rfl (Yt rfl B.range (Zc (Zy ZT YG rfl B.len (by decide +kernel) (Zc (Zd (pv 0)) Zi)) Zi)) (by kernel_rfl) (fun _ _ _ _ _=>(Zp (i:=0) (show((["_law_house"]:List Str)++(["_law_other"]:List Str)).Nodup by decide +kernel) rfl (Or.inl rfl) (.inr rfl))) (fun _ _ _ _ _=>(OF (PM hr.units (Zd (pv 0)) (Zd (pv 1))))) (fun _ _ _ _ _=>(VE.pure (Zd (pv 0)))))
  (Zh (Zw (i:=4) sc_l_made_one.nd rfl (Or.inl rfl) (Vi Wc))
  (Zh (YV PassesOwn.never rfl (XC (Zd (pv 3))) (Zp (i:=5) sc_l_made_one.nd rfl (Or.inl rfl)) (Zh (Zw (i:=6) sc_l_made_one.nd rfl (Or.inl rfl) (Vi Wc))
  (Zh (YV PassesOwn.never rfl (XC (Zd (pv 3))) (Zp (i:=7) sc_l_made_one.nd rfl (Or.inl rfl)) (Zh (Zw (i:=8) sc_l_made_one.nd rfl (Or.inl rfl) (VE.pure (Zr (Zr (Zd (pv 0)) (Zd (pv 5))) (Zd (pv 7)))))
  (Zh (XU (VW.vt (Uq (T6 hr.units (Zd (pv 5)) (Zd (pv 1))) (W7 (PM hr.units (Zd (pv 7)) (Zd (pv 1)))))) (Zl (Zw (i:=8) sc_l_made_one.nd rfl (Or.inl rfl) (VE.pure (Xe (Zd (pv 8)) (Zr (Zr (Zd (pv 0)) (Zd (pv 2))) (Zd (pv 7))))))) Yo)
  (Zh (XU (VW.vt (Uq (T6 hr.units (Zd (pv 7)) (Zd (pv 1))) (W7 (PM hr.units (Zd (pv 5)) (Zd (pv 1)))))) (Zl (Zw (i:=8) sc_l_made_one.nd rfl (Or.inl rfl) (VE.pure (Xe (Zd (pv 8)) (Zr (Zr (Zd (pv 0)) (Zd (pv 5))) (Zd (pv 2))))))) Yo)
  (Zl (Vv (WZ (S3 PySem.F.plainAttrs_list PySem.F.slot_list_append PySem.F.type_list_append Vp (pv 6) (Y2 (VE.pure (Zd (pv 8))) Wo)))))))))
  (Zl (Vv (WZ (S3 PySem.F.plainAttrs_list PySem.F.slot_list_append PySem.F.type_list_append Vp (pv 4) (Y2 (VE.pure (YU Yf XQ rfl B.tuple (by decide +kernel) (Zc (Zd (pv 6)) Zi))) Wo))))))))
  (Zl (Z1 (VE.pure (YU Yf XQ rfl B.tuple (by decide +kernel) (Zc (Zd (pv 4)) Zi)))))))))
abbrev SW:Stmt:=Rf 9
theorem sc_ties_of:ZI (["web","ties","a","row","b"]:List Str) (["web"]:List Str) (Zn SW):=⟨rfl,rfl,rfl,by decide +kernel,rfl,by decide +kernel,by decide +kernel⟩
theorem MY(Df:Def K mg "ties_of" SW)(B:SA mg):X3 P w K mg base "ties_of" (["web"]:List Str) (Xt K WE 1) 1:=
 Yp (O:=[1]) (k:=0) 5 UT Df sc_ties_of (fun _ _ _ _ _ _ us hl=>match us,hl with | [_],_=>rfl) rfl rfl (by decide) (fun fa cdv A outer s H E hr=>
  (Zh (Zw (i:=1) sc_ties_of.nd rfl (Or.inl rfl) (Vi Wc))
  (Zh (YV PassesOwn.never rfl (LM false rfl B.enumerate (Zc (Zd (pv 0)) Zi)) (Um (n:=2) rfl (Yk (Zp (i:=2) sc_ties_of.nd rfl (Or.inr rfl)) (Yk (Zp (i:=3) sc_ties_of.nd rfl (Or.inl rfl)) W0))) (Zl (YV PassesOwn.never rfl (XF rfl B.range (Zc (Xe (Zd (pv 2)) Zm) (Zc (Zy ZT YG rfl B.len (by decide +kernel) (Zc (Zd (pv 0)) Zi)) Zi))) (Zp (i:=4) sc_ties_of.nd rfl (Or.inr rfl)) (Zl (PL (WZ (S3 PySem.F.plainAttrs_list PySem.F.slot_list_extend PySem.F.type_list_extend Pr (pv 1) (Y2 (T1 (["nth"]:List Str) (["a","b"]:List Str) [2,4] rfl (Yt rfl B.range (Zc (Zr (Zd (pv 3)) (Zd (pv 4))) Zi)) (by kernel_rfl) (fun _ _ _ _ _=>(Zp (i:=0) (show((["nth"]:List Str)++(["a","b"]:List Str)).Nodup by decide +kernel) rfl (Or.inl rfl) (.inr rfl))) (fun _ _ _ _ _=>YJ) (fun _ _ _ _ _=>(VE.pure (X5 (Zc (Zd (pv 1)) (Zc (Zd (pv 2)) (Zc (Zd (pv 0)) Zi))))))) Wo))))))))
  (Zl (T2 (pv 1))))))
abbrev Ux:Stmt:=Rf 18
theorem sc_pieces_of:ZI (["web","ties","grove","pieces","tie","ends","kept","gone"]:List Str) (["web","ties","grove"]:List Str) (Zn Ux):=⟨rfl,rfl,rfl,by decide +kernel,rfl,by decide +kernel,by decide +kernel⟩
theorem OW(Df:Def K mg "pieces_of" Ux)(B:SA mg):X3 P w K mg base "pieces_of" (["web","ties","grove"]:List Str) (Xt K Xi 3) 1:=
 Yp (O:=[3]) (k:=0) 8 Vc Df sc_pieces_of (fun _ _ _ _ _ _ us hl=>match us,hl with | [_,_,_],_=>rfl) rfl rfl (by decide) (fun fa cdv A outer s H E hr=>
  (Zh (Zw (i:=3) sc_pieces_of.nd rfl (Or.inl rfl) (OM rfl rfl B.list rfl B.range (Zy ZT YG rfl B.len (by decide +kernel) (Zc (Zd (pv 0)) Zi))))
  (Zh (YV PassesOwn.never rfl (OC (Zd (pv 2))) (Zp (i:=4) sc_pieces_of.nd rfl (Or.inl rfl)) (Zh (Zw (i:=5) sc_pieces_of.nd rfl (Or.inl rfl) (VE.pure (Zr (Zd (pv 1)) (Zd (pv 4)))))
  (Zh (Zw (i:=6) sc_pieces_of.nd rfl (Or.inr rfl) (VE.pure (Zr (Zd (pv 3)) (Zr (Zd (pv 5)) Zm))))
  (Zh (Zw (i:=7) sc_pieces_of.nd rfl (Or.inr rfl) (VE.pure (Zr (Zd (pv 3)) (Zr (Zd (pv 5)) Zm))))
  (Zl (UQ (["piece"]:List Str) (["kept","gone"]:List Str) [6,7] (i:=3) sc_pieces_of.nd rfl rfl rfl (XC (Zd (pv 3))) (by kernel_rfl) (fun _ _ _ _ _=>(Zp (i:=0) (show((["piece"]:List Str)++(["kept","gone"]:List Str)).Nodup by decide +kernel) rfl (Or.inl rfl) (.inr rfl))) (fun _ _ _ _ _=>YJ) (fun _ _ _ _ _=>(VE.pure (LH (T6 hr.units (Zd (pv 0)) (Zd (pv 2))) (Zd (pv 1)) (Zd (pv 0)))))))))))
  (Zl (T2 (pv 3))))))
abbrev Ud:Stmt:=Rf 19
theorem Pb:ZI (["pieces","ends"]:List Str) (["pieces","ends"]:List Str) (Zn Ud):=⟨rfl,rfl,rfl,by decide +kernel,rfl,by decide +kernel,by decide +kernel⟩
theorem Pc(Df:Def K mg "is_between" Ud)(B:SA mg):X3 P w K mg base "is_between" (["pieces","ends"]:List Str) (Xt K Y5 2) 1:=
 Yp (O:=[]) (k:=0) 2 WB Df Pb (fun _ _ _ _ _ _ us hl=>match us,hl with | [_,_],_=>rfl) rfl rfl (by decide) (fun fa cdv A outer s H E hr=>
  (Zl (Z1 (VE.pure (C1 hr.units (Zr (Zd (pv 0)) (Zr (Zd (pv 1)) Zm)) (Zr (Zd (pv 0)) (Zr (Zd (pv 1)) Zm)))))))
abbrev OX:Stmt:=Rf 17
theorem sc_grown:ZI (["web","ties","groves","found","grove","pieces","behind"]:List Str) (["web","ties","groves"]:List Str) (Zn OX):=⟨rfl,rfl,rfl,by decide +kernel,rfl,by decide +kernel,by decide +kernel⟩
theorem He(Df:Def K mg "grown" OX)(B:SA mg)(C_pieces_of:X3 P w K mg base "pieces_of" (["web","ties","grove"]:List Str) (Xt K Xi 3) 1)(C_is_between:X3 P w K mg base "is_between" (["pieces","ends"]:List Str) (Xt K Y5 2) 1):X3 P w K mg base "grown" (["web","ties","groves"]:List Str) (Xt K Ua 3) 2:=
 Yp (O:=[3]) (k:=1) 7 RJ Df sc_grown (fun _ _ _ _ _ _ us hl=>match us,hl with | [_,_,_],_=>rfl) rfl rfl (by decide) (fun fa cdv A outer s H E hr=>
  (Zh (Zw (i:=3) sc_grown.nd rfl (Or.inl rfl) (Vi Wc))
  (Zh (YV PassesOwn.never rfl (XC (Zd (pv 2))) (Zp (i:=4) sc_grown.nd rfl (Or.inr rfl)) (Zh (Zw (i:=5) sc_grown.nd rfl (Or.inr rfl) (ZD C_pieces_of (hr.mono (by decide)) rfl (Zc (Zd (pv 0)) (Zc (Zd (pv 1)) (Zc (Zd (pv 4)) Zi)))))
  (Zh (Zw (i:=6) sc_grown.nd rfl (Or.inl rfl) (VE.pure (LH (Ig (Zy ZT YG rfl B.len (by decide +kernel) (Zc (Zd (pv 4)) Zi)) Zm) (Xe (Zr (Zd (pv 4)) (Ik Zm)) Zm) Zm)))
  (Zl (PL (WZ (S3 PySem.F.plainAttrs_list PySem.F.slot_list_extend PySem.F.type_list_extend Pr (pv 3) (Y2 (T1 (["tie"]:List Str) (["grove","pieces","ties"]:List Str) [4,5,1] rfl (XF rfl B.range (Zc (Zd (pv 6)) (Zc (Zy ZT YG rfl B.len (by decide +kernel) (Zc (Zd (pv 1)) Zi)) Zi))) (by kernel_rfl) (fun _ _ _ _ _=>(Zp (i:=0) (show((["tie"]:List Str)++(["grove","pieces","ties"]:List Str)).Nodup by decide +kernel) rfl (Or.inl rfl) (.inr rfl))) (fun _ _ _ _ _=>(OF (VU (VM.ve (ZD C_is_between (hr.mono (by decide)) rfl (Zc (Zd (pv 2)) (Zc (Zr (Zd (pv 3)) (Zd (pv 0))) Zi))))))) (fun _ _ _ _ _=>(VE.pure (S6 Fg Fh (Zd (pv 1)) (X5 (Zc (Zd (pv 0)) Zi)))))) Wo))))))))
  (Zl (T2 (pv 3))))))
abbrev OY:Stmt:=Rf 16
theorem sc_trees:ZI (["web","most","ties","groves","size"]:List Str) (["web","most"]:List Str) (Zn OY):=⟨rfl,rfl,rfl,by decide +kernel,rfl,by decide +kernel,by decide +kernel⟩
theorem Hf(Df:Fo K mg "trees" OY 300)(B:SA mg)(C_tree_count:X3 P w K mg base "tree_count" (["web"]:List Str) (Xt K ZR 1) 5)(C_ties_of:X3 P w K mg base "ties_of" (["web"]:List Str) (Xt K WE 1) 1)(C_grown:X3 P w K mg base "grown" (["web","ties","groves"]:List Str) (Xt K Ua 3) 2):Fp P w K mg base "trees" (["web","most"]:List Str) (Xt K UZ 2) 6 300:=
 Fq (O:=[3]) (k:=5) 5 RK Df sc_trees (fun _ _ _ _ _ _ _ _ us hl=>match us,hl with | [_],_=>⟨_,rfl,rfl⟩) rfl rfl (by decide) (fun fa cdv A outer s H E hr=>
  (Zh (XU (Ig (VM.ve (ZD C_tree_count (hr.mono (by decide)) rfl (Zc (Zd (pv 0)) Zi))) (Zd (pv 1))) (Zl (IL (W:=[]))) Yo)
  (Zh (Zw (i:=2) sc_trees.nd rfl (Or.inl rfl) (ZD C_ties_of (hr.mono (by decide)) rfl (Zc (Zd (pv 0)) Zi)))
  (Zh (Zw (i:=3) sc_trees.nd rfl (Or.inl rfl) (Vi (Vt (VE.pure (X5 Zi)) Wc)))
  (Zh (YV PassesOwn.never rfl (XF rfl B.range (Zc Zm (Zc (Zy ZT YG rfl B.len (by decide +kernel) (Zc (Zd (pv 0)) Zi)) Zi))) (Zp (i:=4) sc_trees.nd rfl (Or.inl rfl)) (Zl (Zw (i:=3) sc_trees.nd rfl (Or.inl rfl) (ZD C_grown (hr.mono (by decide)) rfl (Zc (Zd (pv 0)) (Zc (Zd (pv 2)) (Zc (Zd (pv 3)) Zi)))))))
  (Zl (T2 (pv 3))))))))
abbrev Uy:Stmt:=Rf 30
theorem sc_l_is_tree:ZI (["_law_web","_law_tree","_law_ties","_law_one","_law_other","_law_marks","_law_number","_law_gone"]:List Str) (["_law_web","_law_tree"]:List Str) (Zn Uy):=⟨rfl,rfl,rfl,by decide +kernel,rfl,by decide +kernel,by decide +kernel⟩
theorem OZ(Df:Def K mg "_law_is_tree" Uy)(B:SA mg)(C_l_whole:X3 P w K mg base "_law_whole" (["_law_thing"]:List Str) (Xt K YW 1) 1):X3 P w K mg base "_law_is_tree" (["_law_web","_law_tree"]:List Str) (Xt K Xj 2) 2:=
 Yp (O:=[]) (k:=1) 8 Vd Df sc_l_is_tree (fun _ _ _ _ _ _ us hl=>match us,hl with | [_,_],_=>rfl) rfl rfl (by decide) (fun fa cdv A outer s H E hr=>
  (Zh (Zw (i:=2) sc_l_is_tree.nd rfl (Or.inl rfl) (Vi Wc))
  (Zh (YV PassesOwn.never rfl (Yt rfl B.range (Zc (Zy ZT YG rfl B.len (by decide +kernel) (Zc (Zd (pv 0)) Zi)) Zi)) (Zp (i:=3) sc_l_is_tree.nd rfl (Or.inr rfl)) (Zl (YV PassesOwn.never rfl (XF rfl B.range (Zc (Xe (Zd (pv 3)) Zm) (Zc (Zy ZT YG rfl B.len (by decide +kernel) (Zc (Zd (pv 0)) Zi)) Zi))) (Zp (i:=4) sc_l_is_tree.nd rfl (Or.inl rfl)) (Zl (Zw (i:=2) sc_l_is_tree.nd rfl (Or.inl rfl) (LY (Zd (pv 2)) (VM.ve (IB (Ti (Zc (X5 (Zc (Zd (pv 3)) (Zc (Zd (pv 4)) Zi))) Zi)) (Zr (Zr (Zd (pv 0)) (Zd (pv 3))) (Zd (pv 4)))))))))))
  (Zh (XU (VW.vt (R6 (Th (VU (Zy W6 RA rfl B.isinstance (by decide +kernel) (Zc (Zd (pv 1)) (Zc (LK rfl B.tuple (by decide +kernel)) Zi))))) (R6 (PM hr.units (Zy ZT YG rfl B.len (by decide +kernel) (Zc (Zd (pv 1)) Zi)) (Tf (Zy ZT YG rfl B.len (by decide +kernel) (Zc (Zd (pv 0)) Zi)) Zm)) (R5 (Th (VU (Zy (Sz rfl) MB rfl B.all (by decide +kernel) (Zc (Ww (["_law_number"]:List Str) ([]:List Str) [] rfl (OC (Zd (pv 1))) (by kernel_rfl) (fun _ _ _ _ _=>(Zp (i:=0) (show((["_law_number"]:List Str)++([]:List Str)).Nodup by decide +kernel) rfl (Or.inl rfl) (.inr rfl))) (fun _ _ _ _ _=>YJ) (fun _ _ _ _ _=>(VM.ve (ZD C_l_whole (hr.mono (by decide)) rfl (Zc (Zd (pv 0)) Zi))))) Zi)))))))) (Zl (Z1 (VE.pure PD))) Yo)
  (Zh (Zw (i:=5) sc_l_is_tree.nd rfl (Or.inr rfl) (T1 (["_law_house"]:List Str) ([]:List Str) [] rfl (Yt rfl B.range (Zc (Zy ZT YG rfl B.len (by decide +kernel) (Zc (Zd (pv 0)) Zi)) Zi)) (by kernel_rfl) (fun _ _ _ _ _=>(Zp (i:=0) (show((["_law_house"]:List Str)++([]:List Str)).Nodup by decide +kernel) rfl (Or.inl rfl) (.inr rfl))) (fun _ _ _ _ _=>YJ) (fun _ _ _ _ _=>(VE.pure (Zd (pv 0))))))
  (Zh (YV PassesOwn.never rfl (OC (Zd (pv 1))) (Zp (i:=6) sc_l_is_tree.nd rfl (Or.inl rfl)) (Zh (XU (VW.vt (R6 (Eh (Zd (pv 6)) Zm) (R5 (CV (Zd (pv 6)) (Zy ZT YG rfl B.len (by decide +kernel) (Zc (Zd (pv 2)) Zi)))))) (Zl (Z1 (VE.pure PD))) Yo)
  (Zh (LR (T:=(.many [3,4])) (Sr (Zr (Zd (pv 2)) (Zd (pv 6))) (Um (n:=2) rfl (Yk (Zp (i:=3) sc_l_is_tree.nd rfl (Or.inr rfl)) (Yk (Zp (i:=4) sc_l_is_tree.nd rfl (Or.inl rfl)) W0)))))
  (Zh (Zw (i:=7) sc_l_is_tree.nd rfl (Or.inr rfl) (VE.pure (Zr (Zd (pv 5)) (Zd (pv 4)))))
  (Zh (XU (T6 hr.units (Zr (Zd (pv 5)) (Zd (pv 3))) (Zd (pv 7))) (Zl (Z1 (VE.pure PD))) Yo)
  (Zl (Zw (i:=5) sc_l_is_tree.nd rfl (Or.inr rfl) (T1 (["_law_mark"]:List Str) (["_law_marks","_law_one","_law_gone"]:List Str) [5,3,7] rfl (XC (Zd (pv 5))) (by kernel_rfl) (fun _ _ _ _ _=>(Zp (i:=0) (show((["_law_mark"]:List Str)++(["_law_marks","_law_one","_law_gone"]:List Str)).Nodup by decide +kernel) rfl (Or.inl rfl) (.inr rfl))) (fun _ _ _ _ _=>YJ) (fun _ _ _ _ _=>(VE.pure (Zr (Ti (Zc (Zd (pv 0)) (Zc (Zr (Zd (pv 1)) (Zd (pv 2))) Zi))) (YU Ph LJ rfl B.int (by decide +kernel) (Zc (T5 hr.units (Zd (pv 0)) (Zd (pv 3))) Zi)))))))))))))
  (Zl (Z1 (VE.pure (T5 hr.units (VM.ve (SE VQ Qa rfl B.list (by decide +kernel) (Zc (Zd (pv 1)) Zi))) (VM.ve (Nw OS NS rfl B.sorted (by decide +kernel) (Zc (Zd (pv 1)) Zi)))))))))))))
abbrev WQ:Stmt:=Rf 31
theorem sc_l_told_right:ZI (["_law_web","_law_due","_law_some"]:List Str) (["_law_web","_law_due"]:List Str) (Zn WQ):=⟨rfl,rfl,rfl,by decide +kernel,rfl,by decide +kernel,by decide +kernel⟩
theorem Ru(Df:Def K mg "_law_told_right" WQ)(B:SA mg)(C_trees:Fp P w K mg base "trees" (["web","most"]:List Str) (Xt K UZ 2) 6 300)(C_l_is_tree:X3 P w K mg base "_law_is_tree" (["_law_web","_law_tree"]:List Str) (Xt K Xj 2) 2):X3 P w K mg base "_law_told_right" (["_law_web","_law_due"]:List Str) (Xt K Yy 2) 7:=
 Yp (O:=[]) (k:=6) 3 X0 Df sc_l_told_right (fun _ _ _ _ _ _ us hl=>match us,hl with | [_,_],_=>rfl) rfl rfl (by decide) (fun fa cdv A outer s H E hr=>
  (Zh (Zw (i:=2) sc_l_told_right.nd rfl (Or.inr rfl) (Hd C_trees (hr.mono (by decide)) rfl (Zc (Zd (pv 0)) Zi)))
  (Zh (XU (VW.vt (R6 (Th (VU (Zy W6 RA rfl B.isinstance (by decide +kernel) (Zc (Zd (pv 2)) (Zc (LK rfl B.list (by decide +kernel)) Zi))))) (R6 (PM hr.units (Zy ZT YG rfl B.len (by decide +kernel) (Zc (Zd (pv 2)) Zi)) (Zd (pv 1))) (R5 (Th (VU (Zy (Sz rfl) MB rfl B.all (by decide +kernel) (Zc (Ww (["_law_tree"]:List Str) (["_law_web"]:List Str) [0] rfl (XC (Zd (pv 2))) (by kernel_rfl) (fun _ _ _ _ _=>(Zp (i:=0) (show((["_law_tree"]:List Str)++(["_law_web"]:List Str)).Nodup by decide +kernel) rfl (Or.inl rfl) (.inr rfl))) (fun _ _ _ _ _=>YJ) (fun _ _ _ _ _=>(VM.ve (ZD C_l_is_tree (hr.mono (by decide)) rfl (Zc (Zd (pv 1)) (Zc (Zd (pv 0)) Zi)))))) Zi)))))))) (Zl (Z1 (VE.pure PD))) Yo)
  (Zl (Z1 (VE.pure (Zy (Sz rfl) MB rfl B.all (by decide +kernel) (Zc (Ww (["_law_k"]:List Str) (["_law_some"]:List Str) [2] rfl (XF rfl B.range (Zc Zm (Zc (Zy ZT YG rfl B.len (by decide +kernel) (Zc (Zd (pv 2)) Zi)) Zi))) (by kernel_rfl) (fun _ _ _ _ _=>(Zp (i:=0) (show((["_law_k"]:List Str)++(["_law_some"]:List Str)).Nodup by decide +kernel) rfl (Or.inl rfl) (.inr rfl))) (fun _ _ _ _ _=>YJ) (fun _ _ _ _ _=>(DK hr.units (Zr (Zd (pv 1)) (Tf (Zd (pv 0)) Zm)) (Zr (Zd (pv 1)) (Zd (pv 0)))))) Zi))))))))
abbrev Hg:Stmt:=Rf 33
theorem sc_law:ZI (["_law_script","_law_many","_law_times_here","_law_web","_law_found","_law_pairs","_law_one","_law_other","_law_deep","_law_some","_law_counts"]:List Str) (["_law_script"]:List Str) (Zn Hg):=⟨rfl,rfl,rfl,by decide +kernel,rfl,by decide +kernel,by decide +kernel⟩
theorem DL{ff:Addr}{fd:FuncData}(Fn:Fun K "law" "law" Hg ff fd)(B:SA mg)(C_l_cell:X3 P w K mg base "_law_cell" (["_law_script","_law_k"]:List Str) (Xt K Zs 2) 1)(C_l_timesK:X3 P w K mg base "_law_times" (["_law_script","_law_at","_law_many"]:List Str) (Xt K X8 3) 2)(C_l_square:X3 P w K mg base "_law_square" (["_law_times_here","_law_many"]:List Str) (Xt K X7 2) 1)(C_l_count:X3 P w K mg base "_law_count" (["_law_web"]:List Str) (Xt K Y9 1) 6)(C_l_told_right:X3 P w K mg base "_law_told_right" (["_law_web","_law_due"]:List Str) (Xt K Yy 2) 7)(C_l_made_one:X3 P w K mg base "_law_made_one" (["_law_web","_law_one","_law_other"]:List Str) (Xt K Xr 3) 1)(C_l_fewer:X3 P w K mg base "_law_fewer" (["_law_web","_law_one","_law_other","_law_deep"]:List Str) (Xt K Xq 4) 1)(C_tree_count:X3 P w K mg base "tree_count" (["web"]:List Str) (Xt K ZR 1) 5):Sv P w K mg base Mv 8 ff fd (["_law_script"]:List Str) (Xt K D_law 1):=
 Dx (O:=[]) (k:=7) 11 Kf Fn sc_law rfl rfl (by decide) (fun fa cdv A outer s H E hr=>
  (Zh (Zw (i:=1) sc_law.nd rfl (Or.inl rfl) (VE.pure (Xe Zm (Vh (VM.ve (ZD C_l_cell (hr.mono (by decide)) rfl (Zc (Zd (pv 0)) (Zc Zm Zi)))) Zm))))
  (Zh (Zw (i:=2) sc_law.nd rfl (Or.inl rfl) (ZD C_l_timesK (hr.mono (by decide)) rfl (Zc (Zd (pv 0)) (Zc Zm (Zc (Zd (pv 1)) Zi)))))
  (Zh (Zw (i:=3) sc_law.nd rfl (Or.inl rfl) (ZD C_l_square (hr.mono (by decide)) rfl (Zc (Zd (pv 2)) (Zc (Zd (pv 1)) Zi))))
  (Zh (Zw (i:=4) sc_law.nd rfl (Or.inl rfl) (ZD C_l_count (hr.mono (by decide)) rfl (Zc (Zd (pv 3)) Zi)))
  (Zh (XU (VW.vt (R6 (Dp (Zd (pv 4))) (R5 (VW.vt (Uq (CU (Zd (pv 4)) Zm) (W7 (Th (VU (VM.ve (ZD C_l_told_right (hr.mono (by decide)) rfl (Zc (Zd (pv 3)) (Zc (Zd (pv 4)) Zi)))))))))))) (Zl (Z1 (VE.pure PD))) Yo)
  (Zh (XU (T6 hr.units (Zd (pv 1)) Zm) (Zl (Z1 (VE.pure (T5 hr.units (Zd (pv 4)) Zm)))) Yo)
  (Zh (Zw (i:=5) sc_law.nd rfl (Or.inl rfl) (Nw (OR rfl) NQ rfl B.sorted (by decide +kernel) (Zc (Zd (pv 2)) Zi)))
  (Zh (LR (T:=(.many [6,7])) (Sr (Zr (Zd (pv 5)) (Vh (VM.ve (ZD C_l_cell (hr.mono (by decide)) rfl (Zc (Zd (pv 0)) (Zc Zm Zi)))) (Zy ZT YG rfl B.len (by decide +kernel) (Zc (Zd (pv 5)) Zi)))) (Um (n:=2) rfl (Yk (Zp (i:=6) sc_law.nd rfl (Or.inl rfl)) (Yk (Zp (i:=7) sc_law.nd rfl (Or.inl rfl)) W0)))))
  (Zh (Zw (i:=8) sc_law.nd rfl (Or.inl rfl) (VE.pure (RF (TQ hr) (Zd (pv 2)) (X5 (Zc (Zd (pv 6)) (Zc (Zd (pv 7)) Zi))))))
  (Zh (XU (T6 hr.units (Zd (pv 1)) Zm) (Zl (Z1 (VE.pure (T5 hr.units (Zd (pv 4)) (Zd (pv 8)))))) Yo)
  (Zh (Zw (i:=9) sc_law.nd rfl (Or.inl rfl) (Vi (Vt (ZD C_l_fewer (hr.mono (by decide)) rfl (Zc (Zd (pv 3)) (Zc (Zd (pv 6)) (Zc (Zd (pv 7)) (Zc (Tf (Zd (pv 8)) Zm) Zi))))) (Vt (ZD C_l_fewer (hr.mono (by decide)) rfl (Zc (Zd (pv 3)) (Zc (Zd (pv 6)) (Zc (Zd (pv 7)) (Zc Zm Zi))))) (Vt (ZD C_l_made_one (hr.mono (by decide)) rfl (Zc (Zd (pv 3)) (Zc (Zd (pv 6)) (Zc (Zd (pv 7)) Zi)))) Wc)))))
  (Zh (UQ (["_law_part"]:List Str) ([]:List Str) [] (i:=10) sc_law.nd rfl rfl rfl (XC (Zd (pv 9))) (by kernel_rfl) (fun _ _ _ _ _=>(Zp (i:=0) (show((["_law_part"]:List Str)++([]:List Str)).Nodup by decide +kernel) rfl (Or.inl rfl) (.inr rfl))) (fun _ _ _ _ _=>YJ) (fun _ _ _ _ _=>(ZD C_l_count (hr.mono (by decide)) rfl (Zc (Zd (pv 0)) Zi))))
  (Zh (XU (DI Ib (Zd (pv 10))) (Zl (Z1 (VE.pure PD))) Yo)
  (Zl (Z1 (VE.pure (Mz (T5 hr.units (Zd (pv 4)) (Xe (Zr (Zd (pv 10)) Zm) (Zr (Zd (pv 10)) Zm))) (Mz (T5 hr.units (Zd (pv 4)) (Xe (Zr (Zd (pv 10)) Zm) (Ie (Zd (pv 8)) (Zr (Zd (pv 10)) Zm)))) (Ih (T5 hr.units (VM.ve (ZD C_tree_count (hr.mono (by decide)) rfl (Zc (Zd (pv 3)) Zi))) (Zd (pv 4)))))))))))))))))))))))
end
end PW
namespace PW
open L2 VL
theorem Hh(l:List PV)(lo hi:Option Int):(Ro l lo hi).length<=l.length:=by
 unfold Ro;rw[List.length_take,List.length_drop];omega
theorem Jr(ns:List Int)(k:Nat):VH (Ro (iL ns) (some (k:Int)) (some ((k:Int)+1))++[PV.int 0]) 0=some (.int (YC ns k)):=by
 have e1:((k:Int)+1)=((k+1:Nat):Int):=by omega
 rw[e1]
 refine W4 (j:=0) ?_
 unfold Ro;rw[HT.sIx_nat,HT.sIx_nat,List.length_map]
 by_cases h:k<ns.length
 ·rw[Nat.min_eq_left (by omega),Nat.min_eq_left (by omega),show k+1-k=1 by omega]
  rw[List.drop_eq_getElem_cons (by rw[List.length_map];exact h)]
  simp[YC,List.getD_eq_getElem?_getD,List.getElem?_eq_getElem h]
 ·rw[Nat.min_eq_right (by omega),List.drop_eq_nil_of_le (by rw[List.length_map];omega)]
  simp[YC,List.getD_eq_getElem?_getD,List.getElem?_eq_none (Nat.not_lt.mp h)]
theorem WC{ns:List Int}(h:ns.length<=63)(k:Nat):Zs [.cst (iL ns),.int (k:Int)]=some (.int (YC ns k)):=by
 have hl:=Hh (iL ns) (some (k:Int)) (some ((k:Int)+1))
 rw[List.length_map] at hl
 have hp:ZJ (Ro (iL ns) (some (k:Int)) (some ((k:Int)+1)))=true:=Ja _ _ (Xn ns)
 have c:(Ro (iL ns) (some (k:Int)) (some ((k:Int)+1))).length+1<=10000:=by omega
 simp[Zs,Qq,Xy,Xg,CY,Dw,Ql,hp,c,Jr]
theorem QB{W:List (List Int)}{h:Nat}(hh:h<W.length):X6 [wP W,.int (h:Int)]=some (.int (Zt W h).sum):=by
 simp[X6,SG,Xy,Xg,RH hh]
theorem NV(i:Int):YW [.int i]=some (.bl true):=by
 simp[YW,SH,Xy,Xg]
def Wa(W:List (List Int))(a b:Nat):List (List Int):=(List.range (ZM W a b).toNat).map fun(t:Nat)=>[(a:Int),(b:Int),(t:Int)]
def Uz(W:List (List Int))(a:Nat):List (List Int):=(List.range (W.length-(a+1))).flatMap fun j=>Wa W a (a+1+j)
def WR(W:List (List Int)):List (List Int):=(List.range W.length).flatMap (Uz W)
theorem WI{α:Type}(f:Nat->List α)(i:Nat):(List.range (i+1)).flatMap f=(List.range i).flatMap f++f i:=by rw[List.range_succ,List.flatMap_append];simp
theorem MZ{W:List (List Int)}(ok:WebOk W){a b:Nat}(ha:a<W.length)(hb:b<W.length):(Wa W a b).length<=9:=by
 have:=ok.hi a b ha hb
 unfold Wa;simp;omega
theorem Js{W:List (List Int)}(ok:WebOk W){a b:Nat}(ha:a<W.length)(hb:b<W.length)(t:Option PV):Zu 1 [2,4] (ZL [Zg ZA (Za 3) (Za 4)]) (.one 0) ZH (eP (Yg [Za 1,Za 2,Za 0])) [some (wP W),t,some (.int (a:Int)),some (pP (Zt W a)),some (.int (b:Int))]=some (.lst ((Wa W a b).map pP)):=by
 have hr:=ok.sq a ha;have b1:=ok.lo a b ha hb;have b2:=ok.hi a b ha hb
 rw[ZQ (List.range (ZM W a b).toNat) (fun(i:Nat)=>.int (i:Int)) (fun(t:Nat)=>pP [(a:Int),(b:Int),(t:Int)]) ?_ (by simp;omega) (fun i hi=>⟨_,rfl,rfl,by simp[Yn]⟩)]
 ·simp[Wa]
 ·exact Ya (by simp[Vl (show b<(Zt W a).length by omega)];show ZM W a b=max (ZM W a b) 0;omega) (by omega)
theorem M0{W:List (List Int)}(ok:WebOk W){a:Nat}(ha:a<W.length)(acc:List (List Int))(hacc:acc.length<=1000)(b0:Option PV) :
  ∃b',Xc (.one 4) (Wx 1 (Zu 1 [2,4] (ZL [Zg ZA (Za 3) (Za 4)]) (.one 0) ZH (eP (Yg [Za 1,Za 2,Za 0])))) (Xf ((a:Int)+1) (W.length-(a+1))) [some (wP W),some (.lst (acc.map pP)),some (.int (a:Int)),some (pP (Zt W a)),b0]
   = some (.nx [some (wP W),some (.lst ((acc++Uz W a).map pP)),some (.int (a:Int)),some (pP (Zt W a)),b'])/\(Uz W a).length<=63:=by
 have hf:=ok.few
 obtain⟨s',h1,b',h2,h3⟩:=ZK (T:=.one 4) (fb:=Wx 1 (Zu 1 [2,4] (ZL [Zg ZA (Za 3) (Za 4)]) (.one 0) ZH (eP (Yg [Za 1,Za 2,Za 0])))) (ls:=Xf ((a:Int)+1) (W.length-(a+1))) (s:=[some (wP W),some (.lst (acc.map pP)),some (.int (a:Int)),some (pP (Zt W a)),b0])
  (fun j st=>∃b',st=[some (wP W),some (.lst ((acc++(List.range j).flatMap fun j=>Wa W a (a+1+j)).map pP)),some (.int (a:Int)),some (pP (Zt W a)),b']/\((List.range j).flatMap fun j=>Wa W a (a+1+j)).length<=9*j)
  ⟨b0,by simp,by simp⟩ (fun j l st hl hJ=>by
   obtain⟨hj,rfl⟩:=Wj hl
   obtain⟨b',rfl,hlen⟩:=hJ
   have hb:a+1+j<W.length:=by omega
   have e1:(a:Int)+1+(j:Int)=((a+1+j:Nat):Int):=by omega
   rw[e1]
   have hc:=Js ok ha hb (some (.lst ((acc++(List.range j).flatMap fun j=>Wa W a (a+1+j)).map pP)))
   have hl2:=MZ ok ha hb
   have hg:(acc.length+((List.range j).flatMap fun j=>Wa W a (a+1+j)).length)+(Wa W a (a+1+j)).length<=10000:=by omega
   refine⟨_,_,rfl,?_,some (.int ((a+1+j:Nat):Int)),rfl,?_⟩
   ·refine(Qo hc rfl (by rw[List.length_map,List.length_map,List.length_append];exact hg)).trans ?_
    simp[WI]
   ·rw[WI,List.length_append];omega)
 rw[Wk] at h2 h3
 refine⟨b',?_,?_⟩
 ·rw[h1,h2];rfl
 ·have:Uz W a=(List.range (W.length-(a+1))).flatMap fun j=>Wa W a (a+1+j):=rfl
  rw[this];omega
theorem QC{W:List (List Int)}(ok:WebOk W):WE [wP W]=some (.lst ((WR W).map pP))/\(WR W).length<=441:=by
 have hf:=ok.few
 have enumW:Vu (W.map pP)=(List.range W.length).map fun(i:Nat)=>.tup [.int (i:Int),pP (Zt W i)]:=by
  rw[S9,List.length_map]
  apply List.map_congr_left
  intro i hi;rw[II W i (List.mem_range.mp hi)]
 obtain⟨s',h1,x,y,z,h2,h3⟩:=ZK (T:=.many [2,3]) (fb:=Z0 [1] (ZZ [Zg ZX (Za 2) (eC (.int 1)),Ze ZG [Za 0]]) (.one 4) (Wx 1 (Zu 1 [2,4] (ZL [Zg ZA (Za 3) (Za 4)]) (.one 0) ZH (eP (Yg [Za 1,Za 2,Za 0]))))) (ls:=Vu (W.map pP)) (s:=[some (wP W),some (.lst []),none,none,none])
  (fun i st=>∃x y z,st=[some (wP W),some (.lst (((List.range i).flatMap (Uz W)).map pP)),x,y,z]/\((List.range i).flatMap (Uz W)).length<=63*i)
  ⟨none,none,none,by simp,by simp⟩ (fun i l st hl hJ=>by
   obtain⟨x,y,z,rfl,hlen⟩:=hJ
   have hi:i<W.length:=by
    have:=(List.getElem?_eq_some_iff.mp hl).1
    rw[UL,List.length_map] at this;exact this
   rw[enumW,List.getElem?_map,List.getElem?_range hi] at hl;cases hl
   obtain⟨b',e1,e2⟩:=M0 ok hi ((List.range i).flatMap (Uz W)) (by omega) z
   refine⟨_,_,rfl,?_,some (.int (i:Int)),some (pP (Zt W i)),b',rfl,?_⟩
   ·have hr:ZZ [Zg ZX (Za 2) (eC (.int 1)),Ze ZG [Za 0]] (ZE [1] [some (wP W),some (.lst (((List.range i).flatMap (Uz W)).map pP)),some (.int (i:Int)),some (pP (Zt W i)),z])=some (Xf ((i:Int)+1) (W.length-(i+1))):=by
     rw[Y8 (i:=(i:Int)+1) (j:=(W.length:Int)) (by simp[ZE]) (by simp[ZE]) ⟨by omega,by omega⟩ ⟨by omega,by omega⟩]
     congr 2;omega
    show Z0 _ _ _ _ [some (wP W),_,some (.int (i:Int)),some (pP (Zt W i)),z]=_
    rw[ZU,hr];simp only[Option.bind_some];rw[e1,WI]
   ·rw[WI,List.length_append];omega)
 rw[UL,List.length_map] at h2 h3
 refine⟨?_,by have:WR W=(List.range W.length).flatMap (Uz W):=rfl;rw[this];omega⟩
 have hs:Xy 5 UT [wP W]=some (.lst ((WR W).map pP)):=by
  unfold UT;simp only[Xy,Xg,List.map_cons,List.map_nil,List.length_cons,List.length_nil,Yh,Zv,IE,Fb,Option.map_some,Option.bind_some];rw[ZU];simp only[Jg]
  have:(ZE [1] (([some (wP W)]++List.replicate (5-(0+1)) none:ZY).set 1 (some (.lst []))))=[some (wP W),none,none,none,none]:=rfl
  rw[this];simp only[T7,List.getElem?_cons_zero,Option.join_some,Option.bind_some,DE,Option.map_some]
  show((Xc _ _ (Vu (W.map pP)) [some (wP W),some (.lst []),none,none,none]).bind _).bind Xh=_
  rw[h1,h2];rfl
 exact hs
def tk(e:Xm):List YH:=[.inl (e.1:Int),.inl (e.2.1:Int)]
def dP(ts:List Xm):PV:=.dT (ts.map tk) (ts.map fun e=>.int e.2.2)
theorem Jt(ts:List Xm):ZJ (ts.map fun e=>PV.int e.2.2)=true:=SF fun _ _=>rfl
theorem NW(a b:Int):Qi (.tup [.int a,.int b])=some [.inl a,.inl b]:=rfl
theorem M1{e:Xm}{a b:Nat}(h:tk e=[.inl (a:Int),.inl (b:Int)]):e.1=a/\e.2.1=b:=Ou h
theorem NX(ts:List Xm):(ts.map tk).zip (ts.map fun e=>PV.int e.2.2)=ts.map fun e=>(tk e,PV.int e.2.2):=by
 induction ts with
 | nil=>rfl
 | cons e r ih=>rw[List.map_cons,List.map_cons,List.zip_cons_cons,ih];rfl
theorem Fs{n:Nat}{ts:List Xm}(ok:DictOk n ts){a b:Nat}{t:Int}(h:(a,b,t)∈ts):WV (ts.map tk) (ts.map fun e=>PV.int e.2.2) [.inl (a:Int),.inl (b:Int)]=some (.int t):=by
 unfold WV;rw[NX];have nd:=ok.nd
 clear ok
 induction ts with
 | nil=>simp at h
 | cons e r ih=>
  rw[List.map_cons,List.find?_cons];rw[List.map_cons,List.nodup_cons] at nd
  rcases List.mem_cons.mp h with q | q
  ·subst q
   have:decide (tk (a,b,t)=[Sum.inl (a:Int),Sum.inl (b:Int)])=true:=decide_eq_true rfl
   simp only[this,Option.map_some]
  ·have:decide (tk e=[Sum.inl (a:Int),Sum.inl (b:Int)])=false:=decide_eq_false fun z=>by
    obtain⟨h1,h2⟩:=M1 z
    exact nd.1 (List.mem_map.mpr ⟨_,q,by simp[h1,h2]⟩)
   simp only[this]
   exact ih q nd.2
theorem QD{n:Nat}{ts:List Xm}(ok:DictOk n ts){a b:Nat}{t:Int}(h:(a,b,t)∈ts):X4 (dP ts) (.tup [.int (a:Int),.int (b:Int)])=some (.int t):=by
 show(Qi (.tup [.int (a:Int),.int (b:Int)])).bind (fun k=>WV (ts.map tk) (ts.map fun e=>PV.int e.2.2) k)=_
 rw[NW];exact Fs ok h
theorem key_mem{ts:List Xm}{a b:Nat}:[Sum.inl (a:Int),Sum.inl (b:Int)]∈ts.map tk↔∃t,(a,b,t)∈ts:=by
 rw[List.mem_map];constructor
 ·rintro⟨e,he,z⟩
  obtain⟨h1,h2⟩:=M1 z
  exact⟨e.2.2,by rw[<-h1,<-h2];exact he⟩
 ·rintro⟨t,ht⟩;exact⟨_,ht,rfl⟩
def NY(ts:List Xm)(a b:Nat):Prop:=∃t,(a,b,t)∈ts
def Ext(ts ts':List Xm):Prop:=∀c d,NY ts c d->NY ts' c d
theorem Ext.refl(ts:List Xm):Ext ts ts:=fun _ _ h=>h
theorem Ext.trans{a b c:List Xm}(h:Ext a b)(g:Ext b c):Ext a c:=fun x y z=>g x y (h x y z)
theorem U0{n:Nat}{ts:List Xm}{a b:Nat}{t:Int}(ok:DictOk n ts)(hab:a<b)(hb:b<n)(h1:1<=t)(h9:t<=9)(hl:ts.length<=10000) :
  ∃ts',G8 (dP ts) (.tup [.int (a:Int),.int (b:Int)]) (.int t)=some (dP ts')/\DictOk n ts'/\ts'.length<=ts.length+1/\NY ts' a b/\Ext ts ts':=by
 have c:(ZJ (ts.map fun e=>PV.int e.2.2)&&ZN (.int t)&&decide ((ts.map tk).length<=10000))=true:=by
  rw[Jt,List.length_map,decide_eq_true hl];rfl
 have e0:G8 (dP ts) (.tup [.int (a:Int),.int (b:Int)]) (.int t)=some (.dT (Us (ts.map tk) [.inl (a:Int),.inl (b:Int)]) (Ut (ts.map tk) (ts.map fun e=>PV.int e.2.2) [.inl (a:Int),.inl (b:Int)] (.int t))):=by
  show(gd _).bind _=_
  rw[Sa c,NW];rfl
 rw[e0]
 obtain⟨ts',p1,p2,p3⟩:=Dk ok hab hb h1 h9
 by_cases hm:∃t',(a,b,t')∈ts
 ·refine⟨ts.map fun e=>if(e.1,e.2.1)=(a,b) then(e.1,e.2.1,t) else e,?_,⟨?_,?_⟩,by simp,?_,?_⟩
  ·unfold Us Ut dP
   rw[if_pos (key_mem.mpr hm),if_pos (key_mem.mpr hm),NX,List.map_map,List.map_map,List.map_map]
   congr 2
   ·apply List.map_congr_left
    intro e _
    show tk e=tk (if(e.1,e.2.1)=(a,b) then(e.1,e.2.1,t) else e)
    split<;>rfl
   ·apply List.map_congr_left
    intro e _
    show(if tk e=[Sum.inl (a:Int),Sum.inl (b:Int)] then PV.int t else PV.int e.2.2)=PV.int (if(e.1,e.2.1)=(a,b) then((e.1,e.2.1,t):Xm) else e).2.2
    by_cases q:(e.1,e.2.1)=(a,b)
    ·rw[if_pos q,if_pos (by have:=Prod.mk.inj q;show [Sum.inl (e.1:Int),Sum.inl (e.2.1:Int)]=_;rw[this.1,this.2])]
    ·rw[if_neg q,if_neg (fun z=>q (by obtain⟨h1,h2⟩:=M1 z;rw[h1,h2]))]
  ·intro e he
   obtain⟨e',he',rfl⟩:=List.mem_map.mp he
   have:=ok.ok e' he'
   split
   ·exact⟨this.1,this.2.1,h1,h9⟩
   ·exact this
  ·rw[List.map_map]
   have e:((fun e:Xm=>(e.1,e.2.1)) ∘ fun e:Xm=>if(e.1,e.2.1)=(a,b) then(e.1,e.2.1,t) else e)=fun e:Xm=>(e.1,e.2.1):=by
    funext e
    show((if(e.1,e.2.1)=(a,b) then((e.1,e.2.1,t):Xm) else e).1,(if(e.1,e.2.1)=(a,b) then((e.1,e.2.1,t):Xm) else e).2.1)=_
    split<;>rfl
   rw[e];exact ok.nd
  ·obtain⟨t',ht'⟩:=hm
   exact⟨t,List.mem_map.mpr ⟨(a,b,t'),ht',if_pos rfl⟩⟩
  ·rintro c d ⟨u,hu⟩
   by_cases q:(c,d)=(a,b)
   ·exact⟨t,List.mem_map.mpr ⟨(c,d,u),hu,if_pos q⟩⟩
   ·exact⟨u,List.mem_map.mpr ⟨(c,d,u),hu,if_neg q⟩⟩
 ·have hn:∀t',(a,b,t')∉ts:=fun t' h=>hm ⟨t',h⟩
  refine⟨ts++[(a,b,t)],?_,⟨?_,?_⟩,by simp,⟨t,by simp⟩,fun c d ⟨u,hu⟩=>⟨u,List.mem_append_left _ hu⟩⟩
  ·unfold Us Ut dP
   rw[if_neg (fun z=>hm (key_mem.mp z)),if_neg (fun z=>hm (key_mem.mp z)),List.map_append,List.map_append];rfl
  ·intro e he
   rcases List.mem_append.mp he with q | q
   ·exact ok.ok e q
   ·rw[List.mem_singleton.mp q];exact⟨hab,hb,h1,h9⟩
  ·rw[List.map_append]
   refine Ol ok.nd ?_
   rw[List.mem_map]
   rintro⟨e,he,q⟩
   have:=Prod.mk.inj q
   obtain⟨a',b',t'⟩:=e
   simp only at this
   rw[this.1,this.2] at he
   exact hn t' he
theorem Vz{i:Nat}{fk fv:XE}{s:ZY}{d k v d':PV}(hv:fv s=some v)(hk:fk s=some k)(hd:(s[i]?).join=some d)(hp:G8 d k v=some d'):VL.sDPut i fk fv s=some (.nx (s.set i (some d'))):=by
 unfold VL.sDPut;rw[hv,hk];simp only[Option.bind_some,hd,hp,Option.map_some]
theorem O0(ts:List Xm):PN (dP ts)=some (ts.map fun e=>.tup [.int (e.1:Int),.int (e.2.1:Int)]):=by
 show some ((ts.map tk).map G9)=_
 rw[List.map_map];rfl
def Cl(ts:List Xm)(P:Nat->Prop):Prop:=∀a b,NY ts a b->(P a↔P b)
def Hang(n:Nat)(ts:List Xm):Prop:=∀P:Nat->Prop,Cl ts P->∀i j,i<n->j<n->(P i↔P j)
def Ts(W:List (List Int)):Prop:=∀P:Nat->Prop,(∀a b,a<W.length->b<W.length->0<ZM W a b->(P a↔P b))->∀i j,i<W.length->j<W.length->(P i↔P j)
theorem Si{n:Nat}{M:List (List Int)}{e:Xm}(ok:MatOk n M)(h:e.1<e.2.1/\e.2.1<n/\1<=e.2.2/\e.2.2<=9)(i j:Nat):ZM (YF M e) i j=if e.2.1=i/\e.1=j then e.2.2 else if e.1=i/\e.2.1=j then e.2.2 else ZM M i j:=by
 obtain⟨a,b,t⟩:=e
 simp only at h ⊢
 obtain⟨l1,r1⟩:=Xd (t:=t) (b:=b) ok.len ok.row (show a<n by omega)
 show ZM (Xu (Xu M a b t) b a t) i j=_
 rw[Vs l1 r1 (by omega) (by omega),Vs ok.len ok.row (by omega) (by omega)]
theorem Ft{n:Nat}{ts:List Xm}(ok:DictOk n ts){a b:Nat}(h:NY ts a b):a<n/\b<n/\0<ZM (K6 n ts) a b:=by
 have keep:∀(l:List Xm)(M:List (List Int)),(∀e∈l,e.1<e.2.1/\e.2.1<n/\1<=e.2.2/\e.2.2<=9)->MatOk n M->0<ZM M a b->0<ZM (l.foldl YF M) a b:=by
  intro l
  induction l with
  | nil=>exact fun M _ _ h=>h
  | cons e r ih=>
   intro M hl hM hp
   have he:=hl e (by simp)
   refine ih _ (fun e' h'=>hl e' (by simp[h'])) (hM.step he) ?_
   rw[Si hM he]
   split
   ·omega
   ·split
    ·omega
    ·exact hp
 have gen:∀(l:List Xm)(M:List (List Int)),(∀e∈l,e.1<e.2.1/\e.2.1<n/\1<=e.2.2/\e.2.2<=9)->MatOk n M->NY l a b->0<ZM (l.foldl YF M) a b:=by
  intro l
  induction l with
  | nil=>rintro M _ _ ⟨t,ht⟩;simp at ht
  | cons e r ih=>
   rintro M hl hM ⟨t,ht⟩
   have he:=hl e (by simp)
   rcases List.mem_cons.mp ht with q | q
   ·refine keep r _ (fun e' h'=>hl e' (by simp[h'])) (hM.step he) ?_
    rw[Si hM he];subst q
    simp only at he
    split
    ·show 0<t;omega
    ·rw[if_pos ⟨rfl,rfl⟩];show 0<t;omega
   ·exact ih _ (fun e' h'=>hl e' (by simp[h'])) (hM.step he) ⟨t,q⟩
 obtain⟨t,ht⟩:=id h
 have:=ok.ok _ ht
 simp only at this
 exact⟨by omega,by omega,gen ts _ ok.ok (MatOk.zero n) h⟩
theorem Hang.conn{n:Nat}{ts:List Xm}(h:Hang n ts)(ok:DictOk n ts):Ts (K6 n ts):=by
 intro P hP i j hi hj
 have hl:=(R3 ok).len
 refine h P (fun a b hab=>?_) i j (by omega) (by omega)
 obtain⟨ha,hb,hp⟩:=Ft ok hab
 exact hP a b (by omega) (by omega) hp
theorem QE:∀{l m:List Int},l.Nodup->(∀x∈l,x∈m)->l.length<=m.length
 | [],m,_,_=>Nat.zero_le _
 | x::r,m,nd,h=>by
  have hx:x∈m:=h x (by simp)
  have nd':=List.nodup_cons.mp nd
  have:=QE (l:=r) (m:=m.erase x) nd'.2 fun y hy=>(List.mem_erase_of_ne (show y≠x from fun z=>nd'.1 (by rw[<-z];exact hy))).mpr (h y (by simp[hy]))
  rw[List.length_erase_of_mem hx] at this;have hp:=List.length_pos_of_mem hx
  rw[List.length_cons];omega
theorem C4{n:Nat}{l:List Int}(nd:l.Nodup)(h:∀x∈l,∃k:Nat,k<n/\x=(k:Int))(hl:l.length=n){j:Nat}(hj:j<n):(j:Int)∈l:=by
 by_cases q:(j:Int)∈l
 ·exact q
 ·have:=QE (l:=(j:Int)::l) (m:=(List.range n).map fun(k:Nat)=>(k:Int)) (List.nodup_cons.mpr ⟨q,nd⟩) (fun x hx=>by
   rcases List.mem_cons.mp hx with rfl | hx
   ·exact List.mem_map.mpr ⟨j,List.mem_range.mpr hj,rfl⟩
   ·obtain⟨k,hk,rfl⟩:=h x hx
    exact List.mem_map.mpr ⟨k,List.mem_range.mpr hk,rfl⟩)
  rw[List.length_cons,List.length_map,List.length_range] at this;omega
def rL(M:List (List Int)):List PV:=M.map fun r=>.lst (iL r)
theorem O1{M:List (List Int)}{a:Nat}(h:a<M.length):(rL M)[a]?=some (.lst (iL (Zt M a))):=by
 unfold rL
 rw[List.getElem?_map,R1 h];rfl
theorem O2{M:List (List Int)}{a b:Nat}{t:Int}:(rL M).set a (.lst ((iL (Zt M a)).set b (.int t)))=rL (Xu M a b t):=by
 unfold rL Xu;rw[List.map_set]
 show _=(List.map (fun r=>PV.lst (iL r)) M).set a (PV.lst (((Zt M a).set b t).map PV.int))
 rw[List.map_set]
theorem Ju{n:Nat}{ts:List Xm}(ok:DictOk n ts)(hn:n<=7):X7 [dP ts,.int (n:Int)]=some (wP (K6 n ts)):=by
 have hc:Zu 1 [1] (ZL [Za 1]) (.one 0) ZH (Zg Q6 (Yl [eC (.int 0)]) (Za 1)) [some (dP ts),some (.int (n:Int)),none,none,none]=some (.lst (rL (List.replicate n (List.replicate n 0)))):=by
  rw[ZQ (List.range n) (fun(i:Nat)=>.int (i:Int)) (fun _=>.lst (iL (List.replicate n 0))) (Ya (by simp) (by omega)) (by simp;omega) (fun i _=>⟨_,rfl,rfl,?_⟩)]
  ·unfold rL
   rw[List.map_const',List.length_range,List.map_replicate]
  ·have e:Q6 (.lst [.int 0]) (.int (n:Int))=some (.lst (iL (List.replicate n 0))):=by
    show(if ZJ [PV.int 0]=true/\(-1000000:Int)<=(n:Int)/\(n:Int)<=1000000/\[PV.int 0].length*((n:Int)).toNat<=10000 then some (PV.lst (List.replicate ((n:Int)).toNat [PV.int 0]).flatten) else none)=_
    rw[if_pos ⟨rfl,by omega,by omega,by simp;omega⟩,Int.toNat_natCast,Nt]
    simp
   simp[Yn,e]
 have mat:∀i,MatOk n ((ts.take i).foldl YF (List.replicate n (List.replicate n 0))):=fun i=>R3 (ts:=ts.take i) ⟨fun e he=>ok.ok e (List.mem_of_mem_take he),by rw[List.map_take];exact ok.nd.sublist (List.take_sublist _ _)⟩
 obtain⟨s',h1,x,y,h2⟩:=ZK (T:=.many [3,4]) (fb:=Zj (XD 2 (Za 3) (Za 4) (Zg X4 (Za 0) (Yg [Za 3,Za 4]))) (XD 2 (Za 4) (Za 3) (Zg X4 (Za 0) (Yg [Za 3,Za 4])))) (ls:=ts.map fun e=>.tup [.int (e.1:Int),.int (e.2.1:Int)]) (s:=[some (dP ts),some (.int (n:Int)),some (.lst (rL (List.replicate n (List.replicate n 0)))),none,none])
  (fun i st=>∃x y,st=[some (dP ts),some (.int (n:Int)),some (.lst (rL ((ts.take i).foldl YF (List.replicate n (List.replicate n 0))))),x,y]) ⟨none,none,rfl⟩ (fun i l st hl hJ=>by
   obtain⟨x,y,rfl⟩:=hJ
   rw[List.getElem?_map] at hl
   cases he:ts[i]? with
   | none=>rw[he] at hl;cases hl
   | some e=>
    rw[he] at hl;cases hl
    obtain⟨a,b,t⟩:=e
    have hmem:(a,b,t)∈ts:=List.mem_of_getElem? he
    obtain⟨hab,hbn,t1,t9⟩:=ok.ok _ hmem
    simp only at hab hbn t1 t9
    have mi:=mat i;have hg:=QD ok hmem
    refine⟨_,_,rfl,?_,some (.int (a:Int)),some (.int (b:Int)),rfl⟩
    show Zj _ _ [some (dP ts),some (.int (n:Int)),some (.lst (rL ((ts.take i).foldl YF (List.replicate n (List.replicate n 0))))),some (.int (a:Int)),some (.int (b:Int))]=_
    have sh:=Xd (t:=t) (b:=b) mi.len mi.row (show a<n by omega)
    have lenM:(rL ((ts.take i).foldl YF (List.replicate n (List.replicate n 0)))).length=n:=by unfold rL;rw[List.length_map];exact mi.len
    have lenM2:(rL (Xu ((ts.take i).foldl YF (List.replicate n (List.replicate n 0))) a b t)).length=n:=by unfold rL;rw[List.length_map];exact sh.1
    rw[Yh,V5 (l:=.int t) (a:=(a:Int)) (b:=(b:Int)) (j:=a) (c:=b) (m:=rL ((ts.take i).foldl YF (List.replicate n (List.replicate n 0)))) (n:=iL (Zt ((ts.take i).foldl YF (List.replicate n (List.replicate n 0))) a)) (by simp[hg]) rfl rfl rfl (W9 (by rw[lenM];omega)) (O1 (by rw[mi.len];omega)) (Xn _) rfl (W9 (by rw[List.length_map,mi.row a (by omega)];omega))]
    simp only[Option.bind_some,O2]
    show XD _ _ _ _ [some (dP ts),some (.int (n:Int)),some (.lst (rL (Xu ((ts.take i).foldl YF (List.replicate n (List.replicate n 0))) a b t))),some (.int (a:Int)),some (.int (b:Int))]=_
    rw[V5 (l:=.int t) (a:=(b:Int)) (b:=(a:Int)) (j:=b) (c:=a) (m:=rL (Xu ((ts.take i).foldl YF (List.replicate n (List.replicate n 0))) a b t)) (n:=iL (Zt (Xu ((ts.take i).foldl YF (List.replicate n (List.replicate n 0))) a b t) b)) (by simp[hg]) rfl rfl rfl (W9 (by rw[lenM2];omega)) (O1 (by rw[sh.1];omega)) (Xn _) rfl (W9 (by rw[List.length_map,sh.2 b (by omega)];omega)),O2]
    have e5:(ts.take (i+1)).foldl YF (List.replicate n (List.replicate n 0))=YF ((ts.take i).foldl YF (List.replicate n (List.replicate n 0))) (a,b,t):=Mw _ _ he
    rw[e5];rfl)
 rw[List.length_map,List.take_length] at h2
 have hsq:(ts.foldl YF (List.replicate n (List.replicate n 0)))=K6 n ts:=rfl
 rw[hsq] at h2
 have hc2:Zu 1 [] (YM (Za 2)) (.one 0) ZH (Ze Y3 [Za 0]) [some (dP ts),some (.int (n:Int)),some (.lst (rL (K6 n ts))),x,y]=some (.lst ((K6 n ts).map pP)):=by
  rw[ZQ (K6 n ts) (fun r=>.lst (iL r)) pP (by simp[rL]) (by rw[(R3 ok).len];omega) (fun r _=>⟨_,rfl,rfl,by simp[Yn]⟩)]
 show Xy 5 V7 [dP ts,.int (n:Int)]=_
 unfold V7;simp only[Xy,Xg,List.map_cons,List.map_nil,List.length_cons,List.length_nil,Yh,Zv]
 show(((Zu 1 [1] (ZL [Za 1]) (.one 0) ZH (Zg Q6 (Yl [eC (.int 0)]) (Za 1)) [some (dP ts),some (.int (n:Int)),none,none,none]).map _).bind _).bind Xh=_
 rw[hc];simp only[Option.map_some,Option.bind_some]
 show((Qm 0 _ _ [some (dP ts),some (.int (n:Int)),some (.lst (rL (List.replicate n (List.replicate n 0)))),none,none]).bind _).bind Xh=_
 unfold Qm
 show(((PN (dP ts)).bind fun ls=>Xc _ _ ls [some (dP ts),some (.int (n:Int)),some (.lst (rL (List.replicate n (List.replicate n 0)))),none,none]).bind _).bind Xh=_
 rw[O0];simp only[Option.bind_some];rw[h1,h2];simp[hc2]
theorem DM(l:List Int)(k:Nat)(x:Int):(iL l).take k++PV.int x::(iL l).drop k=iL (l.take k++x::l.drop k):=by
 show(l.map PV.int).take k++PV.int x::(l.map PV.int).drop k=(l.take k++x::l.drop k).map PV.int
 rw[List.map_append,List.map_cons,List.map_take,List.map_drop]
theorem QF{n:Nat}{ts:List Xm}(ok:DictOk n ts)(hn:n<=7)(hl:ts.length<=1000)(c:Int):∃ts',Wl [dP ts,.int c,.int (n:Int)]=some (dP ts')/\DictOk n ts'/\ts'.length<=ts.length/\(Hang n ts->Hang n ts'):=by
 obtain⟨s1,h1,c1,x1,l1,e1,nk⟩:=ZK (T:=.one 4) (fb:=Zj (UO 3 (Zg YR (Za 1) (Zg ZX (Za 4) (eC (.int 1)))) (Za 4)) (Zk 1 (eP (Zg XJ (Za 1) (Zg ZX (Za 4) (eC (.int 1))))))) (ls:=Xv n) (s:=[some (dP ts),some (.int c),some (.int (n:Int)),some (.lst []),none,none,none,none,none])
  (fun i st=>∃(c':Int) (x:Option PV) (l:List Int),st=[some (dP ts),some (.int c'),some (.int (n:Int)),some (.lst (iL l)),x,none,none,none,none]/\NamesOk i l) ⟨c,none,[],rfl,NamesOk.nil⟩ (fun i l st hl hJ=>by
   obtain⟨hi,rfl⟩:=XY hl
   obtain⟨c',x,nl,rfl,nk⟩:=hJ
   have hd:0<(i:Int)+1:=by omega
   have hm0:=Int.emod_nonneg c' (show(i:Int)+1≠0 by omega)
   have hm1:=Int.emod_lt_of_pos c' hd
   refine⟨_,_,rfl,?_,c'/((i:Int)+1),some (.int (i:Int)),nl.take (c'%((i:Int)+1)).toNat++(i:Int)::nl.drop (c'%((i:Int)+1)).toNat,rfl,nk.ins _⟩
   show Zj _ _ [some (dP ts),some (.int c'),some (.int (n:Int)),some (.lst (iL nl)),some (.int (i:Int)),none,none,none,none]=_
   rw[Yh,ML (k:=c'%((i:Int)+1)) (l:=.int (i:Int)) (m:=iL nl) (by simp[hd]) rfl rfl (Xn nl) rfl hm0 (by omega) (by rw[List.length_map,nk.len];omega),DM]
   have hcd:TF c' ((i:Int)+1):=V6 hd (by omega)
   simp[hcd])
 have nkn:=nk;rw[Vw] at nkn
 obtain⟨s2,h2,x6,x7,x8,ts',e2,ok',hle,hall⟩:=ZK (T:=.many [6,7]) (fb:=Zj (Zk 8 (eP (Yg [Ze Uk [Zg ZA (Za 3) (Za 6),Zg ZA (Za 3) (Za 7)],Ze PF [Zg ZA (Za 3) (Za 6),Zg ZA (Za 3) (Za 7)]]))) (VL.sDPut 5 (Za 8) (Zg X4 (Za 0) (Yg [Za 6,Za 7])))) (ls:=ts.map fun e=>.tup [.int (e.1:Int),.int (e.2.1:Int)])
  (s:=[some (dP ts),some (.int c1),some (.int (n:Int)),some (.lst (iL l1)),x1,some (dP []),none,none,none])
  (fun i st=>∃(x6 x7 x8:Option PV) (ts':List Xm),st=[some (dP ts),some (.int c1),some (.int (n:Int)),some (.lst (iL l1)),x1,some (dP ts'),x6,x7,x8]/\DictOk n ts'/\ts'.length<=i/\∀(j:Nat)(e:Xm),j<i->ts[j]?=some e->NY ts' (YC l1 e.1).toNat (YC l1 e.2.1).toNat\/NY ts' (YC l1 e.2.1).toNat (YC l1 e.1).toNat) ⟨none,none,none,[],rfl,DictOk.nil n,Nat.le_refl _,fun j e hj _=>by omega⟩ (fun i l st hl' hJ=>by
   obtain⟨x6,x7,x8,ts',rfl,ok',hle,hall⟩:=hJ
   rw[List.getElem?_map] at hl'
   cases he:ts[i]? with
   | none=>rw[he] at hl';cases hl'
   | some e=>
    rw[he] at hl'
    cases hl'
    obtain⟨a,b,t⟩:=e
    have hil:=(List.getElem?_eq_some_iff.mp he).1
    have hmem:(a,b,t)∈ts:=List.mem_of_getElem? he
    obtain⟨hab,hbn,t1,t9⟩:=ok.ok _ hmem
    simp only at hab hbn t1 t9
    have hg:=QD ok hmem;rw[Vw] at nk
    have na:=nk.at (x:=a) (by omega)
    have nb:=nk.at (x:=b) (by omega)
    have ne:=nk.ne (x:=a) (y:=b) (by omega) (by omega) (by omega)
    -- the pair
    obtain⟨p,q,ep,eq,hpq,hqn⟩:∃p q:Nat,(if YC l1 b<YC l1 a then YC l1 b else YC l1 a)=(p:Int)/\(if YC l1 b>YC l1 a then YC l1 b else YC l1 a)=(q:Int)/\p<q/\q<n:=by
     refine⟨(if YC l1 b<YC l1 a then YC l1 b else YC l1 a).toNat,(if YC l1 b>YC l1 a then YC l1 b else YC l1 a).toNat,?_,?_,?_,?_⟩<;>split<;>(try split)<;>omega
    obtain⟨ts2,pe,ok2,hle2,hh2,hx2⟩:=U0 (t:=t) ok' hpq hqn t1 t9 (by omega)
    have ia:=Vl (l:=l1) (k:=a) (by rw[nk.len];omega)
    have ib:=Vl (l:=l1) (k:=b) (by rw[nk.len];omega)
    refine⟨_,_,rfl,?_,some (.int (a:Int)),some (.int (b:Int)),some (.tup [.int (p:Int),.int (q:Int)]),ts2,rfl,ok2,by omega,fun j e hj hje=>by
     by_cases hji:j<i
     ·exact(hall j e hji hje).imp (hx2 _ _) (hx2 _ _)
     ·have hj':j=i:=by omega
      subst hj'
      rw[he] at hje;cases hje
      show NY ts2 (YC l1 a).toNat (YC l1 b).toNat\/NY ts2 (YC l1 b).toNat (YC l1 a).toNat
      by_cases hlt:YC l1 b<YC l1 a
      ·rw[if_pos hlt] at ep
       rw[if_neg (by omega)] at eq
       exact .inr (by rw[ep,eq];exact hh2)
      ·rw[if_neg hlt] at ep
       rw[if_pos (by omega)] at eq
       exact .inl (by rw[ep,eq];exact hh2)⟩
    show Zj _ _ [some (dP ts),some (.int c1),some (.int (n:Int)),some (.lst (iL l1)),x1,some (dP ts'),some (.int (a:Int)),some (.int (b:Int)),x8]=_
    have hset:Zk 8 (eP (Yg [Ze Uk [Zg ZA (Za 3) (Za 6),Zg ZA (Za 3) (Za 7)],Ze PF [Zg ZA (Za 3) (Za 6),Zg ZA (Za 3) (Za 7)]])) [some (dP ts),some (.int c1),some (.int (n:Int)),some (.lst (iL l1)),x1,some (dP ts'),some (.int (a:Int)),some (.int (b:Int)),x8]=some (.nx [some (dP ts),some (.int c1),some (.int (n:Int)),some (.lst (iL l1)),x1,some (dP ts'),some (.int (a:Int)),some (.int (b:Int)),some (.tup [.int (p:Int),.int (q:Int)])]):=by
     simp[ia,ib,ep,eq]
    rw[Yh,hset];simp only[Option.bind_some]
    rw[Vz (v:=.int t) (k:=.tup [.int (p:Int),.int (q:Int)]) (d:=dP ts') (by simp[hg]) rfl rfl pe]
    rfl)
 rw[List.length_map] at hle hall
 refine⟨ts',?_,ok',hle,fun hg P hP i j hi hj=>?_⟩
 rotate_left
 ·have sur:∀k,k<n->∃x,x<n/\(YC l1 x).toNat=k:=fun k hk=>by
   have hm:=C4 nkn.nd (fun x hx=>⟨x.toNat,by have:=nkn.lo x hx;have:=nkn.hi x hx;omega,by have:=nkn.lo x hx;omega⟩) nkn.len hk
   obtain⟨x,hx,ex⟩:=List.getElem_of_mem hm
   refine⟨x,by rw[<-nkn.len];exact hx,?_⟩
   unfold YC
   rw[List.getD_eq_getElem?_getD,List.getElem?_eq_getElem hx,ex];rfl
  obtain⟨x,hx,rfl⟩:=sur i hi
  obtain⟨y,hy,rfl⟩:=sur j hj
  refine hg (fun k=>P (YC l1 k).toNat) (fun a b hab=>?_) x y hx hy
  obtain⟨t,ht⟩:=hab
  obtain⟨k,hk,ek⟩:=List.getElem_of_mem ht
  rcases hall k (a,b,t) hk (by rw[List.getElem?_eq_getElem hk,ek]) with q | q
  ·exact hP _ _ q
  ·exact(hP _ _ q).symm
 show Xy 9 Va [dP ts,.int c,.int (n:Int)]=_
 unfold Va;simp only[Xy,Xg,List.map_cons,List.map_nil,List.length_cons,List.length_nil,Yh,Zv]
 have hr:ZL [Za 2] (ZE [3,5] [some (dP ts),some (.int c),some (.int (n:Int)),some (.lst []),none,none,none,none,none])=some (Xv n):=Ya (by simp[ZE]) (by omega)
 show((Z0 [3,5] (ZL [Za 2]) (.one 4) _ [some (dP ts),some (.int c),some (.int (n:Int)),some (.lst []),none,none,none,none,none]).bind _).bind Xh=_
 rw[ZU,hr];simp only[Option.bind_some]
 rw[show(Xc (.one 4) (Zj (UO 3 (Zg YR (Za 1) (Zg ZX (Za 4) (eC (.int 1)))) (Za 4)) (Zk 1 (eP (Zg XJ (Za 1) (Zg ZX (Za 4) (eC (.int 1))))))) (Xv n) [some (dP ts),some (.int c),some (.int (n:Int)),some (.lst []),none,none,none,none,none])=some (.nx s1) from h1,e1]
 show((Qm 0 _ _ [some (dP ts),some (.int c1),some (.int (n:Int)),some (.lst (iL l1)),x1,some (dP []),none,none,none]).bind _).bind Xh=_
 unfold Qm
 show(((PN (dP ts)).bind fun ls=>Xc _ _ ls [some (dP ts),some (.int c1),some (.int (n:Int)),some (.lst (iL l1)),x1,some (dP []),none,none,none]).bind _).bind Xh=_
 rw[O0];simp only[Option.bind_some];rw[h2,e2];rfl
theorem Hi{r m:Int}(h1:1<=m)(h9:m<=9):0<=r%2*(1+r/2%m)/\r%2*(1+r/2%m)<=9:=by
 have a1:=Int.emod_nonneg (r/2) (show m≠0 by omega)
 have a2:=Int.emod_lt_of_pos (r/2) (show 0<m by omega)
 have a3:r%2=0\/r%2=1:=by omega
 rcases a3 with e | e<;>rw[e]<;>omega
theorem BJ{x y:PV}(c:Int):VH [x,y] (c%2)=some (if c%2=0 then x else y):=by
 have h:c%2=0\/c%2=1:=by omega
 rcases h with h | h<;>rw[h]<;>rfl
theorem Hj(neg:Bool)(a:Int)(l:List Int):RE neg (.int a) (.lst (iL l))=some (.bl (if neg then !decide (a∈l) else decide (a∈l))):=by
 unfold RE
 have c:((iL l).all fun z=>Wv 8 z (.int a))=true:=by
  rw[List.all_map,List.all_eq_true]
  intro x _;rfl
 show(some (iL l)).bind _=_
 simp only[Option.bind_some,if_pos c]
 have:decide (PV.int a∈iL l)=decide (a∈l):=decide_eq_decide.mpr (by
  rw[List.mem_map];constructor
  ·rintro⟨x,hx,e⟩;cases e;exact hx
  ·intro h;exact⟨a,h,rfl⟩)
 rw[this]
noncomputable def Es:XS:=(Zj (Zk 8 (eP (Ze Uk [(Zg Ox (Zg YR (Za 0) (eC (.int 2))) (Zg ZX (eC (.int 1)) (Zg YR (Zg XJ (Za 0) (eC (.int 2))) (Za 3)))),(Za 2)])))
  (Zj (Zk 0 (eP (Zg ZA (Yl [(Zg XJ (Za 0) (eC (.int 2))),(Zg XJ (Zg XJ (Za 0) (eC (.int 2))) (Za 3))]) (Zg YR (Za 0) (eC (.int 2))))))
  (WU (xB (Zg Oy (Za 8) (eC (.int 0)))) (Zj (VL.sDPut 4 (Yg [(Za 6),(Za 7)]) (Za 8))
  (Zk 2 (eP (Zg Xz (Za 2) (Za 8))))) ZO)))
def Wr(n:Nat)(most:Int)(ts:List Xm)(Zx room:Int)(x6 x7 x8:Option Int)(x9:Option Int)(met:List Int):ZY:=
 [some (.int Zx),some (.int (n:Int)),some (.int room),some (.int most),some (dP ts),some (.lst (iL met)),x6.map PV.int,x7.map PV.int,x8.map PV.int,x9.map PV.int]
theorem DN{n:Nat}{most:Int}{ts:List Xm}{Zx room:Int}{a b:Nat}{x8 x9:Option Int}{met:List Int}(h1:1<=most)(h9:most<=9)(ok:DictOk n ts)(hl:ts.length<=1000)(hab:a<b)(hb:b<n) :
  ∃ts' rest' room' x8',Es (Wr n most ts Zx room (some (a:Int)) (some (b:Int)) x8 x9 met)=some (.nx (Wr n most ts' rest' room' (some (a:Int)) (some (b:Int)) (some x8') x9 met))/\DictOk n ts'/\ts'.length<=ts.length+1:=by
 obtain⟨d0,d9⟩:=Hi (r:=Zx) h1 h9
 have cm:CMul (Zx%2) (1+Zx/2%most):=IK (by omega) (by omega)
 have cd:TF Zx 2:=V6 (by omega) (by omega)
 have cd2:TF (Zx/2) most:=V6 (by omega) (by omega)
 have hm:0<most:=by omega
 generalize hdp:(if room<Zx%2*(1+Zx/2%most) then room else Zx%2*(1+Zx/2%most))=dp
 have hdp9:dp<=9:=by rw[<-hdp];split<;>omega
 generalize hrs:(if Zx%2=0 then Zx/2 else Zx/2/most)=rs
 have hif:(if Zx%2=0 then PV.int (Zx/2) else PV.int (Zx/2/most))=PV.int rs:=by rw[<-hrs];split<;>rfl
 have first:(Zj (Zk 8 (eP (Ze Uk [(Zg Ox (Zg YR (Za 0) (eC (.int 2))) (Zg ZX (eC (.int 1)) (Zg YR (Zg XJ (Za 0) (eC (.int 2))) (Za 3)))),(Za 2)]))) (Zk 0 (eP (Zg ZA (Yl [(Zg XJ (Za 0) (eC (.int 2))),(Zg XJ (Zg XJ (Za 0) (eC (.int 2))) (Za 3))]) (Zg YR (Za 0) (eC (.int 2)))))))
   (Wr n most ts Zx room (some (a:Int)) (some (b:Int)) x8 x9 met)=some (.nx (Wr n most ts rs room (some (a:Int)) (some (b:Int)) (some dp) x9 met)):=by
  simp[Wr,cm,cd,cd2,hm,BJ,hif,hdp]
 have split3:∀(f g h:XS)(s s1:ZY),Zj f g s=some (.nx s1)->Zj f (Zj g h) s=h s1:=fun f g h s s1 e=>by
  simp only[Yh] at e ⊢
  cases q:f s with
  | none=>rw[q] at e;cases e
  | some o=>
   rw[q] at e
   cases o with
   | nx s2=>
    simp only[Option.bind_some] at e ⊢
    rw[e];rfl
   | _=>cases e
 by_cases hpos:0<dp
 ·obtain⟨ts2,pe,ok2,hle2,_,_⟩:=U0 (t:=dp) ok hab hb (by omega) hdp9 (by omega)
  refine⟨ts2,rs,room-dp,dp,?_,ok2,hle2⟩
  unfold Es;rw[split3 _ _ _ _ _ first]
  have hput:=Vz (i:=4) (fk:=Yg [Za 6,Za 7]) (fv:=Za 8) (s:=Wr n most ts rs room (some (a:Int)) (some (b:Int)) (some dp) x9 met) (v:=.int dp) (k:=.tup [.int (a:Int),.int (b:Int)]) (d:=dP ts) rfl (by simp[Wr]) rfl pe
  have ht:xB (Zg Oy (Za 8) (eC (.int 0))) (Wr n most ts rs room (some (a:Int)) (some (b:Int)) (some dp) x9 met)=some true:=by simp[Wr,hpos]
  rw[Yj,ht];simp only[Option.bind_some,if_true];rw[Yh,hput];simp[Wr]
 ·refine⟨ts,rs,room,dp,?_,ok,by omega⟩
  unfold Es;rw[split3 _ _ _ _ _ first]
  have ht:xB (Zg Oy (Za 8) (eC (.int 0))) (Wr n most ts rs room (some (a:Int)) (some (b:Int)) (some dp) x9 met)=some false:=by simp[Wr,hpos]
  rw[Yj,ht]
  simp
theorem Hk{n:Nat}{most:Int}{a:Nat}{ts:List Xm}{Zx room:Int}{x7 x8 x9:Option Int}{met:List Int}(h1:1<=most)(h9:most<=9)(ok:DictOk n ts)(hl:ts.length<=100)(ha:a<n)(hn:n<=7) :
  ∃ts' rest' room' y7 y8,Xc (.one 7) Es (Xf ((a:Int)+1) (n-(a+1))) (Wr n most ts Zx room (some (a:Int)) x7 x8 x9 met)=some (.nx (Wr n most ts' rest' room' (some (a:Int)) y7 y8 x9 met))/\DictOk n ts'/\ts'.length<=ts.length+7:=by
 obtain⟨s',h,ts',rest',room',y7,y8,e,ok',hle⟩:=ZK (T:=.one 7) (fb:=Es) (ls:=Xf ((a:Int)+1) (n-(a+1))) (s:=Wr n most ts Zx room (some (a:Int)) x7 x8 x9 met)
  (fun j st=>∃ts' rest' room' y7 y8,st=Wr n most ts' rest' room' (some (a:Int)) y7 y8 x9 met/\DictOk n ts'/\ts'.length<=ts.length+j) ⟨ts,Zx,room,x7,x8,rfl,ok,by omega⟩ (fun j l st hl' hJ=>by
   obtain⟨hj,rfl⟩:=Wj hl'
   obtain⟨ts',rest',room',y7,y8,rfl,ok',hle⟩:=hJ
   have e1:(a:Int)+1+(j:Int)=((a+1+j:Nat):Int):=by omega
   rw[e1]
   obtain⟨ts2,r2,m2,z8,e2,ok2,hle2⟩:=DN (Zx:=rest') (room:=room') (x8:=y8) (x9:=x9) (met:=met) h1 h9 ok' (by omega) (show a<a+1+j by omega) (by omega)
   exact⟨_,_,rfl,e2,ts2,r2,m2,some ((a+1+j:Nat):Int),some z8,rfl,ok2,by omega⟩)
 rw[Wk] at hle
 exact⟨ts',rest',room',y7,y8,by rw[h,e],ok',by omega⟩
theorem Hl{n:Nat}{most:Int}{Zx room:Int}{met:List Int}(h1:1<=most)(h9:most<=9)(hn:n<=7) :
  ∃ts' rest' room' y6 y7 y8,Xc (.one 6) (Z0 [4,5] (ZZ [Zg ZX (Za 6) (eC (.int 1)),Za 1]) (.one 7) Es) (Xv n) (Wr n most [] Zx room none none none none met)=some (.nx (Wr n most ts' rest' room' y6 y7 y8 none met))/\DictOk n ts'/\ts'.length<=49:=by
 obtain⟨s',h,ts',rest',room',y6,y7,y8,e,ok',hle⟩:=ZK (T:=.one 6) (fb:=Z0 [4,5] (ZZ [Zg ZX (Za 6) (eC (.int 1)),Za 1]) (.one 7) Es) (ls:=Xv n) (s:=Wr n most [] Zx room none none none none met)
  (fun i st=>∃ts' rest' room' y6 y7 y8,st=Wr n most ts' rest' room' y6 y7 y8 none met/\DictOk n ts'/\ts'.length<=7*i) ⟨[],Zx,room,none,none,none,rfl,DictOk.nil n,by simp⟩ (fun i l st hl' hJ=>by
   obtain⟨hi,rfl⟩:=XY hl'
   obtain⟨ts',rest',room',y6,y7,y8,rfl,ok',hle⟩:=hJ
   obtain⟨ts2,r2,m2,z7,z8,e2,ok2,hle2⟩:=Hk (Zx:=rest') (room:=room') (x7:=y7) (x8:=y8) (x9:=none) (met:=met) h1 h9 ok' (by omega) hi hn
   refine⟨_,_,rfl,?_,ts2,r2,m2,some (i:Int),z7,z8,rfl,ok2,by omega⟩
   have hr:ZZ [Zg ZX (Za 6) (eC (.int 1)),Za 1] (ZE [4,5] (Wr n most ts' rest' room' (some (i:Int)) y7 y8 none met))=some (Xf ((i:Int)+1) (n-(i+1))):=by
    rw[Y8 (i:=(i:Int)+1) (j:=(n:Int)) (by simp[ZE,Wr]) (by simp[ZE,Wr]) ⟨by omega,by omega⟩ ⟨by omega,by omega⟩]
    congr 2;omega
   show Z0 _ _ _ _ (Wr n most ts' rest' room' (some (i:Int)) y7 y8 none met)=_
   rw[ZU,hr]
   exact e2)
 rw[Vw] at hle
 exact⟨ts',rest',room',y6,y7,y8,by rw[h,e],ok',by omega⟩
noncomputable def M3:XS:=(Zj (WU (XM (xB (Zg (RE false) (Za 6) (Za 5))) (xB (Zg (RE true) (Za 7) (Za 5)))) (Y4 5 (eP (Za 7))) ZO)
  (WU (XM (xB (Zg (RE false) (Za 7) (Za 5))) (xB (Zg (RE true) (Za 6) (Za 5)))) (Y4 5 (eP (Za 6))) ZO))
structure MetOk(n:Nat)(ts:List Xm)(met:List Int):Prop where
 nd:met.Nodup
 ok:∀m∈met,∃k:Nat,k<n/\m=(k:Int)/\∀P:Nat->Prop,Cl ts P->(P k↔P 0)
theorem MetOk.add{n:Nat}{ts:List Xm}{met:List Int}{a b:Nat}(h:MetOk n ts met)(hab:NY ts a b\/NY ts b a)(hb:b<n)(ha:(a:Int)∈met)(hnb:(b:Int)∉met):MetOk n ts (met++[(b:Int)]):=by
 refine⟨?_,fun m hm=>?_⟩
 ·rw[List.nodup_append]
  refine⟨h.nd,by simp,fun x hx y hy z=>?_⟩
  rw[List.mem_singleton.mp hy] at z
  exact hnb (z▸hx)
 ·rcases List.mem_append.mp hm with hm | hm
  ·exact h.ok m hm
  ·refine⟨b,hb,List.mem_singleton.mp hm,fun P hP=>?_⟩
   obtain⟨k,hk,e,q⟩:=h.ok _ ha
   have:a=k:=by omega
   subst this
   rcases hab with z | z
   ·exact(hP _ _ z).symm.trans (q P hP)
   ·exact(hP _ _ z).trans (q P hP)
theorem MetOk.hang{n:Nat}{ts:List Xm}{met:List Int}(h:MetOk n ts met)(hl:met.length=n):Hang n ts:=by
 have all:∀P,Cl ts P->∀i,i<n->(P i↔P 0):=fun P hP i hi=>by
  have hm:=C4 h.nd (fun x hx=>by obtain⟨k,hk,e,_⟩:=h.ok x hx;exact⟨k,hk,e⟩) hl hi
  obtain⟨k,hk,e,q⟩:=h.ok _ hm
  have:i=k:=by omega
  subst this
  exact q P hP
 exact fun P hP i j hi hj=>(all P hP i hi).trans (all P hP j hj).symm
theorem NZ{n:Nat}{most:Int}{ts:List Xm}{Zx room:Int}{a b:Int}{x8 x9:Option Int}{met:List Int}(hl:met.length<=5000)(f g:Nat)(va vb:Int)(hf:∀met,(Wr n most ts Zx room (some a) (some b) x8 x9 met)[f]?=some (some (.int va)))(hg:∀met,(Wr n most ts Zx room (some a) (some b) x8 x9 met)[g]?=some (some (.int vb))) :
  ∃met',WU (XM (xB (Zg (RE false) (Za f) (Za 5))) (xB (Zg (RE true) (Za g) (Za 5)))) (Y4 5 (eP (Za g))) ZO (Wr n most ts Zx room (some a) (some b) x8 x9 met)=some (.nx (Wr n most ts Zx room (some a) (some b) x8 x9 met'))/\met'.length<=met.length+1/\(met'=met\/(va∈met/\vb∉met/\met'=met++[vb])):=by
 have h5:(Wr n most ts Zx room (some a) (some b) x8 x9 met)[5]?=some (some (.lst (iL met))):=rfl
 have t:XM (xB (Zg (RE false) (Za f) (Za 5))) (xB (Zg (RE true) (Za g) (Za 5))) (Wr n most ts Zx room (some a) (some b) x8 x9 met)=some (decide (va∈met)&&!decide (vb∈met)):=by
  simp only[WL,XX,Z2,T7,hf,hg,h5,Option.join_some,Option.bind_some,Hj,DA]
  by_cases h:va∈met<;>simp[h]
 rw[Yj,t];simp only[Option.bind_some]
 split
 ·rename_i hc
  refine⟨met++[vb],?_,by simp,.inr ⟨by simp at hc;exact hc.1,by simp at hc;exact hc.2,rfl⟩⟩
  rw[V4 (l:=.int vb) (m:=iL met) (by simp only[Xa,T7,hg,Option.join_some,Option.bind_some,Jf,if_true]) rfl (by rw[List.length_map];omega)]
  simp[Wr]
 ·exact⟨met,rfl,by omega,.inl rfl⟩
theorem Fu{n:Nat}{most:Int}{ts:List Xm}{Zx room:Int}{a b:Int}{x8 x9:Option Int}{met:List Int}(hl:met.length<=4000) :
  ∃met',M3 (Wr n most ts Zx room (some a) (some b) x8 x9 met)=some (.nx (Wr n most ts Zx room (some a) (some b) x8 x9 met'))/\met'.length<=met.length+2/\(∀a' b':Nat,a=a'->b=b'->NY ts a' b'->a'<n->b'<n->MetOk n ts met->MetOk n ts met'):=by
 obtain⟨m1,e1,l1,o1⟩:=NZ (n:=n) (most:=most) (ts:=ts) (Zx:=Zx) (room:=room) (a:=a) (b:=b) (x8:=x8) (x9:=x9) (met:=met) (by omega) 6 7 a b (fun _=>rfl) (fun _=>rfl)
 obtain⟨m2,e2,l2,o2⟩:=NZ (n:=n) (most:=most) (ts:=ts) (Zx:=Zx) (room:=room) (a:=a) (b:=b) (x8:=x8) (x9:=x9) (met:=m1) (by omega) 7 6 b a (fun _=>rfl) (fun _=>rfl)
 refine⟨m2,?_,by omega,fun a' b' ha hb hab han hbn mk=>?_⟩
 rotate_left
 ·subst ha hb
  have k1:MetOk n ts m1:=by
   rcases o1 with rfl | ⟨u,v,rfl⟩
   ·exact mk
   ·exact mk.add (.inl hab) hbn u v
  rcases o2 with rfl | ⟨u,v,rfl⟩
  ·exact k1
  ·exact k1.add (.inr hab) han u v
 unfold M3;rw[Yh,e1];exact e2
theorem Jw{n:Nat}{most:Int}{ts:List Xm}{Zx room:Int}{x6 x7 x8 x9:Option Int}{met:List Int}:MI [4,5] (.nx (Wr n most ts Zx room x6 x7 x8 x9 met)) = .nx (Wr n most ts Zx room x6 x7 x8 x9 met):=by
 cases x6<;>cases x7<;>cases x8<;>cases x9<;>rfl
theorem Hm{n:Nat}{most:Int}{ts:List Xm}{Zx room:Int}{x6 x7 x8 x9:Option Int}{met:List Int}(hl:met.length<=2000)(ht:ts.length<=49)(ok:DictOk n ts)(mk:MetOk n ts met) :
  ∃y6 y7 met',To [4,5] 4 (.many [6,7]) M3 (Wr n most ts Zx room x6 x7 x8 x9 met)=some (.nx (Wr n most ts Zx room y6 y7 x8 x9 met'))/\met'.length<=met.length+98/\MetOk n ts met':=by
 obtain⟨s',h,y6,y7,met',e,hle,mk'⟩:=ZK (T:=.many [6,7]) (fb:=M3) (ls:=ts.map fun e=>.tup [.int (e.1:Int),.int (e.2.1:Int)]) (s:=Wr n most ts Zx room x6 x7 x8 x9 met)
  (fun j st=>∃y6 y7 met',st=Wr n most ts Zx room y6 y7 x8 x9 met'/\met'.length<=met.length+2*j/\MetOk n ts met') ⟨x6,x7,met,rfl,by omega,mk⟩ (fun j l st hl' hJ=>by
   obtain⟨y6,y7,met',rfl,hle,mk'⟩:=hJ
   rw[List.getElem?_map] at hl'
   cases he:ts[j]? with
   | none=>rw[he] at hl';cases hl'
   | some e=>
    rw[he] at hl'
    cases hl'
    have hj:=(List.getElem?_eq_some_iff.mp he).1
    have hmem:=List.mem_of_getElem? he
    have hoe:=ok.ok e hmem
    obtain⟨m2,e2,l2,o2⟩:=Fu (n:=n) (most:=most) (ts:=ts) (Zx:=Zx) (room:=room) (a:=(e.1:Int)) (b:=(e.2.1:Int)) (x8:=x8) (x9:=x9) (met:=met') (by omega)
    exact⟨_,_,rfl,e2,some (e.1:Int),some (e.2.1:Int),m2,rfl,by omega,o2 e.1 e.2.1 rfl rfl ⟨e.2.2,hmem⟩ (by omega) (by omega) mk'⟩)
 rw[List.length_map] at hle
 refine⟨y6,y7,met',?_,by omega,mk'⟩
 unfold To
 show((PN (dP ts)).bind fun ls=>(Xc _ _ ls _).map (MI [4,5]))=_
 rw[O0];simp only[Option.bind_some];rw[h,e,Option.map_some,Jw]
theorem Fv{n:Nat}{most:Int}{ts:List Xm}{Zx room:Int}{x6 x7 x8:Option Int}(ht:ts.length<=49)(hn:n<=7)(ok:DictOk n ts)(hn1:1<=n) :
  ∃y6 y7 y9 met',Xc (.one 9) (To [4,5] 4 (.many [6,7]) M3) (Xv n) (Wr n most ts Zx room x6 x7 x8 none [0])=some (.nx (Wr n most ts Zx room y6 y7 x8 y9 met'))/\MetOk n ts met':=by
 obtain⟨s',h,y6,y7,y9,met',e,hle,mk⟩:=ZK (T:=.one 9) (fb:=To [4,5] 4 (.many [6,7]) M3) (ls:=Xv n) (s:=Wr n most ts Zx room x6 x7 x8 none [0])
  (fun i st=>∃y6 y7 y9 met',st=Wr n most ts Zx room y6 y7 x8 y9 met'/\met'.length<=1+98*i/\MetOk n ts met') ⟨x6,x7,none,[0],rfl,by simp,⟨by simp,fun m hm=>⟨0,by omega,List.mem_singleton.mp hm,fun P _=>Iff.rfl⟩⟩⟩ (fun i l st hl' hJ=>by
   obtain⟨hi,rfl⟩:=XY hl'
   obtain⟨y6,y7,y9,met',rfl,hle,mk⟩:=hJ
   obtain⟨z6,z7,m2,e2,l2,mk2⟩:=Hm (n:=n) (most:=most) (ts:=ts) (Zx:=Zx) (room:=room) (x6:=y6) (x7:=y7) (x8:=x8) (x9:=some (i:Int)) (met:=met') (by omega) ht ok mk
   exact⟨_,_,rfl,e2,z6,z7,some (i:Int),m2,rfl,by omega,mk2⟩)
 exact⟨y6,y7,y9,met',by rw[h,e],mk⟩
theorem Tb{n:Nat}{most Zx room:Int}(h1:1<=most)(h9:most<=9)(hn:n<=7)(hn1:1<=n):∃r,Z3 [.int Zx,.int (n:Int),.int room,.int most]=some r/\(r = .non\/∃ts,r=dP ts/\DictOk n ts/\ts.length<=49/\Hang n ts):=by
 obtain⟨ts,rest',room',y6,y7,y8,e1,ok,hle⟩:=Hl (n:=n) (Zx:=Zx) (room:=room) (met:=[0]) h1 h9 hn
 obtain⟨z6,z7,z9,met,e2,mk⟩:=Fv (n:=n) (most:=most) (ts:=ts) (Zx:=rest') (room:=room') (x6:=y6) (x7:=y7) (x8:=y8) hle hn ok hn1
 refine⟨if met.length=n then dP ts else .non,?_,?_⟩
 ·show Xy 10 XZ [.int Zx,.int (n:Int),.int room,.int most]=_
  have r1:ZL [Za 1] (ZE [4,5] (Wr n most [] Zx room none none none none [0]))=some (Xv n):=Ya (by simp[ZE,Wr]) (by omega)
  have r2:ZL [Za 1] (ZE [4,5] (Wr n most ts rest' room' y6 y7 y8 none [0]))=some (Xv n):=Ya (by simp[ZE,Wr]) (by omega)
  unfold XZ;simp only[Xy,Xg,List.map_cons,List.map_nil,List.length_cons,List.length_nil,Yh,Zv]
  show((Z0 [4,5] (ZL [Za 1]) (.one 6) (Z0 [4,5] (ZZ [Zg ZX (Za 6) (eC (.int 1)),Za 1]) (.one 7) Es) (Wr n most [] Zx room none none none none [0])).bind _).bind Xh=_
  rw[ZU,r1];simp only[Option.bind_some];rw[e1];simp only[Option.bind_some]
  show((Z0 [4,5] (ZL [Za 1]) (.one 9) (To [4,5] 4 (.many [6,7]) M3) (Wr n most ts rest' room' y6 y7 y8 none [0])).bind _).bind Xh=_
  rw[ZU,r2];simp only[Option.bind_some];rw[e2];simp only[Option.bind_some];unfold OI
  by_cases h:met.length=n
  ·simp[Wr,h]
  ·have h':¬((met.length:Int)=(n:Int)):=by omega
   simp[Wr,h,h']
 ·by_cases h:met.length=n
  ·rw[if_pos h];exact .inr ⟨ts,rfl,ok,hle,mk.hang h⟩
  ·rw[if_neg h];exact .inl rfl
theorem DO(c:Int):∃v:Int,1<=v/\v<=9/\VH [PV.int 1,PV.int 1,PV.int 1,PV.int 2,PV.int 3,PV.int 9] (c%6)=some (.int v):=by
 have h:c%6=0\/c%6=1\/c%6=2\/c%6=3\/c%6=4\/c%6=5:=by omega
 rcases h with h | h | h | h | h | h<;>rw[h]
 ·exact⟨1,by decide,by decide,rfl⟩
 ·exact⟨1,by decide,by decide,rfl⟩
 ·exact⟨1,by decide,by decide,rfl⟩
 ·exact⟨2,by decide,by decide,rfl⟩
 ·exact⟨3,by decide,by decide,rfl⟩
 ·exact⟨9,by decide,by decide,rfl⟩
theorem DP(c:Int):∃v:Int,0<=v/\v<=9/\VH [PV.int 0,PV.int 0,PV.int 0,PV.int 1,PV.int 1,PV.int 2,PV.int 4,PV.int 9] (c%8)=some (.int v):=by
 have h:c%8=0\/c%8=1\/c%8=2\/c%8=3\/c%8=4\/c%8=5\/c%8=6\/c%8=7:=by omega
 rcases h with h | h | h | h | h | h | h | h<;>rw[h]
 ·exact⟨0,by decide,by decide,rfl⟩
 ·exact⟨0,by decide,by decide,rfl⟩
 ·exact⟨0,by decide,by decide,rfl⟩
 ·exact⟨1,by decide,by decide,rfl⟩
 ·exact⟨1,by decide,by decide,rfl⟩
 ·exact⟨2,by decide,by decide,rfl⟩
 ·exact⟨4,by decide,by decide,rfl⟩
 ·exact⟨9,by decide,by decide,rfl⟩
theorem Hn(ts:List Xm)(a b:Int):∃c,Bi (dP ts) (.tup [.int a,.int b])=some c:=⟨_,rfl⟩
def Z6(ns:List Int)(Zz n:Nat)(first:Int)(ts:List Xm)(room:Int)(x6 x7 x8 x9 x10 x11:Option Int):ZY:=
 [some (.cst (iL ns)),some (.int (Zz:Int)),some (.int (n:Int)),some (.int first),some (dP ts),some (.int room),x6.map PV.int,x7.map PV.int,x8.map PV.int,x9.map PV.int,x10.map PV.int,x11.map PV.int]
noncomputable def Ho:XS:=(Zj (Zk 7 (Ze Zs [(Za 0),(Zg ZX (Za 1) (Za 6))]))
  (Zj (Zk 8 (eP (Ze Uk [(Zg ZA (Yl [(eC (.int 1)),(eC (.int 1)),(eC (.int 1)),(eC (.int 2)),(eC (.int 3)),(eC (.int 9))]) (Zg YR (Zg XJ (Za 7) (Za 6)) (eC (.int 6)))),(Zg Xz (Za 5) (Zg Xz (Zg Xz (Za 2) (eC (.int 1))) (Za 6)))])))
  (Zj (VL.sDPut 4 (Yg [(Zg YR (Za 7) (Za 6)),(Za 6)]) (Za 8))
  (Zk 5 (eP (Zg Xz (Za 5) (Za 8)))))))
theorem Jx{f g h k:XS}{s s1 s2 s3:ZY}(e1:f s=some (.nx s1))(e2:g s1=some (.nx s2))(e3:h s2=some (.nx s3)):Zj f (Zj g (Zj h k)) s=k s3:=by
 simp only[Yh,e1,e2,e3,Option.bind_some]
theorem Yi{f g:XS}{s s1:ZY}(e1:f s=some (.nx s1)):Zj f g s=g s1:=by
 simp only[Yh,e1,Option.bind_some]
theorem M4{ns:List Int}{Zz n:Nat}{first:Int}{ts:List Xm}{room:Int}{x7 x8 x9 x10 x11:Option Int}{h:Nat}(hns:ns.length<=63)(ok:DictOk n ts)(hl:ts.length<=1000)(h1:1<=h)(hh:h<n)(hn:n<=7)(hr:(n:Int)-(h:Int)<=room) :
  ∃ts' room' y7 y8,Ho (Z6 ns Zz n first ts room (some (h:Int)) x7 x8 x9 x10 x11)=some (.nx (Z6 ns Zz n first ts' room' (some (h:Int)) (some y7) (some y8) x9 x10 x11))/\DictOk n ts'/\ts'.length<=ts.length+1/\(n:Int)-((h:Int)+1)<=room'/\Ext ts ts'/\∃c,c<h/\NY ts' c h:=by
 generalize hc:YC ns (Zz+h)=c
 have e1:Zk 7 (Ze Zs [(Za 0),(Zg ZX (Za 1) (Za 6))]) (Z6 ns Zz n first ts room (some (h:Int)) x7 x8 x9 x10 x11)=some (.nx (Z6 ns Zz n first ts room (some (h:Int)) (some c) x8 x9 x10 x11)):=by
  have z:(Zz:Int)+(h:Int)=((Zz+h:Nat):Int):=by omega
  have q:=WC hns (Zz+h)
  rw[hc] at q
  have q:Zs [PV.cst (ns.map PV.int),PV.int ((Zz:Int)+(h:Int))]=some (PV.int c):=by rw[z];exact q
  simp[Z6,q]
 obtain⟨v,v1,v9,ev⟩:=DO (c/(h:Int))
 have cd:TF c (h:Int):=V6 (by omega) (by omega)
 have hp:(0:Int)<(h:Int):=by omega
 generalize hd:(if room-((n:Int)-1-(h:Int))<v then room-((n:Int)-1-(h:Int)) else v)=dp
 have d1:1<=dp:=by rw[<-hd];split<;>omega
 have d9:dp<=9:=by rw[<-hd];split<;>omega
 have dr:dp<=room-((n:Int)-1-(h:Int)):=by rw[<-hd];split<;>omega
 have e2:Zk 8 (eP (Ze Uk [(Zg ZA (Yl [(eC (.int 1)),(eC (.int 1)),(eC (.int 1)),(eC (.int 2)),(eC (.int 3)),(eC (.int 9))]) (Zg YR (Zg XJ (Za 7) (Za 6)) (eC (.int 6)))),(Zg Xz (Za 5) (Zg Xz (Zg Xz (Za 2) (eC (.int 1))) (Za 6)))])) (Z6 ns Zz n first ts room (some (h:Int)) (some c) x8 x9 x10 x11)=some (.nx (Z6 ns Zz n first ts room (some (h:Int)) (some c) (some dp) x9 x10 x11)):=by
  simp[Z6,cd,ev,hd]
 have m0:=Int.emod_nonneg c (show(h:Int)≠0 by omega)
 have m1:=Int.emod_lt_of_pos c hp
 obtain⟨ts2,pe,ok2,hle2,hh2,hx2⟩:=U0 (a:=(c%(h:Int)).toNat) (b:=h) (t:=dp) ok (by omega) hh d1 d9 (by omega)
 have hcast:(((c%(h:Int)).toNat:Nat):Int)=c%(h:Int):=by omega
 rw[hcast] at pe
 have e3:VL.sDPut 4 (Yg [(Zg YR (Za 7) (Za 6)),(Za 6)]) (Za 8) (Z6 ns Zz n first ts room (some (h:Int)) (some c) (some dp) x9 x10 x11)=some (.nx (Z6 ns Zz n first ts2 room (some (h:Int)) (some c) (some dp) x9 x10 x11)):=by
  rw[Vz (v:=.int dp) (k:=.tup [.int (c%(h:Int)),.int (h:Int)]) (d:=dP ts) rfl (by simp[Z6,show 0<h by omega]) rfl pe]
  rfl
 refine⟨ts2,room-dp,c,dp,?_,ok2,hle2,by omega,hx2,(c%(h:Int)).toNat,by omega,hh2⟩
 unfold Ho;rw[Jx e1 e2 e3];simp[Z6]
noncomputable def Jy:XS:=(Zj (Zk 8 (eP (Zg ZA (Yl [(eC (.int 0)),(eC (.int 0)),(eC (.int 0)),(eC (.int 1)),(eC (.int 1)),(eC (.int 2)),(eC (.int 4)),(eC (.int 9))]) (Zg YR (Ze Zs [(Za 0),(Za 9)]) (eC (.int 8))))))
  (Zj (Zk 9 (eP (Zg ZX (Za 9) (eC (.int 1)))))
  (WU (XM (xB (Rr true (Yg [(Za 10),(Za 11)]) (Za 4))) (xB (LX LG JO (eC (.int 0)) (Za 8) (Za 5)))) (Zj (VL.sDPut 4 (Yg [(Za 10),(Za 11)]) (Za 8))
  (Zk 5 (eP (Zg Xz (Za 5) (Za 8))))) ZO)))
theorem Hq{f g h:XS}{s s1 s2:ZY}(e1:f s=some (.nx s1))(e2:g s1=some (.nx s2)):Zj f (Zj g h) s=h s2:=by
 simp only[Yh,e1,e2,Option.bind_some]
theorem M5{ns:List Int}{Zz n:Nat}{first:Int}{ts:List Xm}{room:Int}{x6 x7 x8:Option Int}{k a b:Nat}(hns:ns.length<=63)(ok:DictOk n ts)(hl:ts.length<=1000)(hab:a<b)(hb:b<n) :
  ∃ts' room' y8,Jy (Z6 ns Zz n first ts room x6 x7 x8 (some (k:Int)) (some (a:Int)) (some (b:Int)))=some (.nx (Z6 ns Zz n first ts' room' x6 x7 (some y8) (some ((k+1:Nat):Int)) (some (a:Int)) (some (b:Int))))/\DictOk n ts'/\ts'.length<=ts.length+1/\Ext ts ts':=by
 obtain⟨v,v0,v9,ev⟩:=DP (YC ns k)
 have e1:Zk 8 (eP (Zg ZA (Yl [(eC (.int 0)),(eC (.int 0)),(eC (.int 0)),(eC (.int 1)),(eC (.int 1)),(eC (.int 2)),(eC (.int 4)),(eC (.int 9))]) (Zg YR (Ze Zs [(Za 0),(Za 9)]) (eC (.int 8))))) (Z6 ns Zz n first ts room x6 x7 x8 (some (k:Int)) (some (a:Int)) (some (b:Int)))=some (.nx (Z6 ns Zz n first ts room x6 x7 (some v) (some (k:Int)) (some (a:Int)) (some (b:Int)))):=by
  have q:Zs [PV.cst (ns.map PV.int),PV.int (k:Int)]=some (PV.int (YC ns k)):=WC hns k
  simp[Z6,q,ev]
 have e2:Zk 9 (eP (Zg ZX (Za 9) (eC (.int 1)))) (Z6 ns Zz n first ts room x6 x7 (some v) (some (k:Int)) (some (a:Int)) (some (b:Int)))=some (.nx (Z6 ns Zz n first ts room x6 x7 (some v) (some ((k+1:Nat):Int)) (some (a:Int)) (some (b:Int)))):=by
  simp[Z6]
 obtain⟨cc,ec⟩:=Hn ts (a:Int) (b:Int)
 unfold Jy;rw[Hq e1 e2]
 have tst:∃q:Bool,XM (xB (Rr true (Yg [(Za 10),(Za 11)]) (Za 4))) (xB (LX LG JO (eC (.int 0)) (Za 8) (Za 5))) (Z6 ns Zz n first ts room x6 x7 (some v) (some ((k+1:Nat):Int)) (some (a:Int)) (some (b:Int)))=some q/\(q=true->0<v):=by
  have t1:xB (Rr true (Yg [(Za 10),(Za 11)]) (Za 4)) (Z6 ns Zz n first ts room x6 x7 (some v) (some ((k+1:Nat):Int)) (some (a:Int)) (some (b:Int)))=some !cc:=by
   simp[Z6,Rr,ec]
  have t2:xB (LX LG JO (eC (.int 0)) (Za 8) (Za 5)) (Z6 ns Zz n first ts room x6 x7 (some v) (some ((k+1:Nat):Int)) (some (a:Int)) (some (b:Int)))=some (decide (0<v)&&decide (v<=room)):=by
   by_cases hv:0<v
   ·simp[Z6,LX,hv]
   ·simp[Z6,LX,hv]
  rw[WL,t1,t2]
  cases cc with
  | true=>exact⟨false,rfl,fun z=>by cases z⟩
  | false=>exact⟨_,rfl,fun z=>by
    rw[Bool.and_eq_true] at z
    exact of_decide_eq_true z.1⟩
 obtain⟨q,eq,hq⟩:=tst
 rw[Yj,eq];simp only[Option.bind_some]
 cases q with
 | false=>exact⟨ts,room,v,rfl,ok,by omega,Ext.refl ts⟩
 | true=>
  have hv:=hq rfl
  obtain⟨ts2,pe,ok2,hle2,_,hx2⟩:=U0 (t:=v) ok hab hb (by omega) v9 (by omega)
  refine⟨ts2,room-v,v,?_,ok2,hle2,hx2⟩
  rw[if_pos rfl]
  have e3:VL.sDPut 4 (Yg [(Za 10),(Za 11)]) (Za 8) (Z6 ns Zz n first ts room x6 x7 (some v) (some ((k+1:Nat):Int)) (some (a:Int)) (some (b:Int)))=some (.nx (Z6 ns Zz n first ts2 room x6 x7 (some v) (some ((k+1:Nat):Int)) (some (a:Int)) (some (b:Int)))):=by
   rw[Vz (v:=.int v) (k:=.tup [.int (a:Int),.int (b:Int)]) (d:=dP ts) rfl (by simp[Z6]) rfl pe]
   rfl
  rw[Yi e3];simp[Z6]
theorem times_eq{ns:List Int}{Zz n:Nat}(hns:ns.length<=63)(h1:1<=n)(hn:n<=7):∃ts,Jh [.cst (iL ns),.int (Zz:Int),.int (n:Int)]=some (dP ts)/\DictOk n ts/\Hang n ts:=by
 generalize hf:YC ns Zz=first
 have hcell:Zs [PV.cst (ns.map PV.int),PV.int (Zz:Int)]=some (PV.int first):=by rw[<-hf];exact WC hns Zz
 obtain⟨r,er,alt⟩:=Tb (n:=n) (most:=9) (Zx:=first/2) (room:=30) (by omega) (by omega) hn h1
 have cd2:TF first 2:=V6 (by omega) (by omega)
 -- the first test
 have hstart:Zk 3 (Ze Zs [(Za 0),(Za 1)]) [some (.cst (iL ns)),some (.int (Zz:Int)),some (.int (n:Int)),none,none,none,none,none,none,none,none,none]=some (.nx [some (.cst (iL ns)),some (.int (Zz:Int)),some (.int (n:Int)),some (.int first),none,none,none,none,none,none,none,none]):=by
  simp[hcell]
 have htest:XM (xB (Zg (Yc false) (Zg YR (Za 3) (eC (.int 2))) (eC (.int 1)))) (xB (TY true (Ze Z3 [(Zg XJ (Za 3) (eC (.int 2))),(Za 2),(eC (.int 30)),(eC (.int 9))]))) [some (.cst (iL ns)),some (.int (Zz:Int)),some (.int (n:Int)),some (.int first),none,none,none,none,none,none,none,none]=some (decide (first%2=1)&&!VY r):=by
  have eb:G0 true r=some (.bl (!VY r)):=by cases r<;>rfl
  by_cases h:first%2=1
  ·simp[h,cd2,er,eb]
  ·simp[h]
 show ∃ts,Xy 12 SI [.cst (iL ns),.int (Zz:Int),.int (n:Int)]=some (dP ts)/\DictOk n ts/\Hang n ts
 unfold SI;simp only[Xy,Xg,List.map_cons,List.map_nil,List.length_cons,List.length_nil]
 show ∃ts,(Zj (Zk 3 (Ze Zs [(Za 0),(Za 1)])) _ [some (.cst (iL ns)),some (.int (Zz:Int)),some (.int (n:Int)),none,none,none,none,none,none,none,none,none]).bind Xh=some (dP ts)/\DictOk n ts/\Hang n ts
 rw[Yi hstart,Yh,Yj,htest];simp only[Option.bind_some]
 by_cases hc:(decide (first%2=1)&&!VY r)=true
 ·rw[if_pos hc]
  rw[Bool.and_eq_true] at hc
  rcases alt with rfl | ⟨ts,rfl,ok,_,hg⟩
  ·exact absurd hc.2 (by decide)
  ·exact⟨ts,by simp[cd2,er],ok,hg⟩
 ·rw[if_neg hc]
  simp only[PR,Option.bind_some]
  -- the dict,the room
  have e45:∀g:XS,Zj (Zk 4 (eC (.dT [] []))) (Zj (Zk 5 (eP (eC (.int 30)))) g) [some (.cst (iL ns)),some (.int (Zz:Int)),some (.int (n:Int)),some (.int first),none,none,none,none,none,none,none,none]=g (Z6 ns Zz n first [] 30 none none none none none none):=fun g=>by
   rw[Hq (s1:=[some (.cst (iL ns)),some (.int (Zz:Int)),some (.int (n:Int)),some (.int first),some (dP []),none,none,none,none,none,none,none]) (s2:=Z6 ns Zz n first [] 30 none none none none none none) (by simp;rfl) (by simp[Z6])]
  rw[e45]
  -- the first loop
  obtain⟨s1,l1,ts1,room1,y6,y7,y8,es1,ok1,hle1,_,tree⟩:=ZK (T:=.one 6) (fb:=Ho) (ls:=Xf 1 (n-1)) (s:=Z6 ns Zz n first [] 30 none none none none none none)
   (fun i st=>∃ts room y6 y7 y8,st=Z6 ns Zz n first ts room y6 y7 y8 none none none/\DictOk n ts/\ts.length<=i/\(n:Int)-((i:Int)+1)<=room/\∀h,1<=h->h<=i->∃c,c<h/\NY ts c h) ⟨[],30,none,none,none,rfl,DictOk.nil n,Nat.le_refl _,by omega,fun h h1 h2=>by omega⟩ (fun i l st hl' hJ=>by
    obtain⟨hi,rfl⟩:=Wj hl'
    obtain⟨ts,room,y6,y7,y8,rfl,ok,hle,hroom,tree⟩:=hJ
    have z:(1:Int)+(i:Int)=((i+1:Nat):Int):=by omega
    rw[z]
    obtain⟨ts2,room2,z7,z8,e2,ok2,hle2,hr2,hx2,hc2⟩:=M4 (Zz:=Zz) (first:=first) (room:=room) (x7:=y7) (x8:=y8) (x9:=none) (x10:=none) (x11:=none) (h:=i+1) hns ok (by omega) (by omega) (by omega) hn (by omega)
    exact⟨_,_,rfl,e2,ts2,room2,some ((i+1:Nat):Int),some z7,some z8,rfl,ok2,by omega,by omega,fun h h1 h2=>by
     by_cases q:h<=i
     ·obtain⟨c,a,b⟩:=tree h h1 q
      exact⟨c,a,hx2 _ _ b⟩
     ·have:h=i+1:=by omega
      subst this
      exact hc2⟩)
  rw[Wk] at hle1 tree
  have r1:ZZ [eC (.int 1),Za 2] (ZE [4] (Z6 ns Zz n first [] 30 none none none none none none))=some (Xf 1 (n-1)):=by
   rw[Y8 (i:=1) (j:=(n:Int)) rfl (by simp[ZE,Z6]) ⟨by omega,by omega⟩ ⟨by omega,by omega⟩]
   congr 2;omega
  have f1:Z0 [4] (ZZ [eC (.int 1),Za 2]) (.one 6) Ho (Z6 ns Zz n first [] 30 none none none none none none)=some (.nx (Z6 ns Zz n first ts1 room1 y6 y7 y8 none none none)):=by
   rw[ZU,r1]
   exact l1.trans (by rw[es1])
  have e9:Zk 9 (eP (Zg ZX (Za 1) (eC (.int 7)))) (Z6 ns Zz n first ts1 room1 y6 y7 y8 none none none)=some (.nx (Z6 ns Zz n first ts1 room1 y6 y7 y8 (some ((Zz+7:Nat):Int)) none none)):=by simp[Z6]
  -- the second loops
  have inner:∀(a:Nat)(ts:List Xm)(room:Int)(x8:Option Int)(k:Nat)(x11:Option Int),a<n->DictOk n ts->ts.length<=500->∃ts' room' y8 k' y11,Xc (.one 11) Jy (Xf ((a:Int)+1) (n-(a+1))) (Z6 ns Zz n first ts room y6 y7 x8 (some (k:Int)) (some (a:Int)) x11)=some (.nx (Z6 ns Zz n first ts' room' y6 y7 y8 (some ((k':Nat):Int)) (some (a:Int)) y11))/\DictOk n ts'/\ts'.length<=ts.length+7/\Ext ts ts':=by
   intro a ts room x8 k x11 ha ok hl
   obtain⟨s',h,ts',room',z8,k',z11,e,ok',hle,hx⟩:=ZK (T:=.one 11) (fb:=Jy) (ls:=Xf ((a:Int)+1) (n-(a+1))) (s:=Z6 ns Zz n first ts room y6 y7 x8 (some (k:Int)) (some (a:Int)) x11)
    (fun j st=>∃ts' room' z8 k' z11,st=Z6 ns Zz n first ts' room' y6 y7 z8 (some ((k':Nat):Int)) (some (a:Int)) z11/\DictOk n ts'/\ts'.length<=ts.length+j/\Ext ts ts') ⟨ts,room,x8,k,x11,rfl,ok,by omega,Ext.refl ts⟩ (fun j l st hl' hJ=>by
     obtain⟨hj,rfl⟩:=Wj hl'
     obtain⟨ts',room',z8,k',z11,rfl,ok',hle,hx⟩:=hJ
     have z:(a:Int)+1+(j:Int)=((a+1+j:Nat):Int):=by omega
     rw[z]
     obtain⟨ts2,room2,w8,e2,ok2,hle2,hx2⟩:=M5 (Zz:=Zz) (first:=first) (room:=room') (x6:=y6) (x7:=y7) (x8:=z8) (k:=k') hns ok' (by omega) (show a<a+1+j by omega) (by omega)
     exact⟨_,_,rfl,e2,ts2,room2,some w8,k'+1,some ((a+1+j:Nat):Int),rfl,ok2,by omega,hx.trans hx2⟩)
   rw[Wk] at hle
   exact⟨ts',room',z8,k',z11,by rw[h,e],ok',by omega,hx⟩
  obtain⟨s2,l2,ts2,room2,w8,w9,w10,w11,es2,ok2,hle2,hx2⟩:=ZK (T:=.one 10) (fb:=Z0 [4] (ZZ [Zg ZX (Za 10) (eC (.int 1)),Za 2]) (.one 11) Jy) (ls:=Xv n) (s:=Z6 ns Zz n first ts1 room1 y6 y7 y8 (some ((Zz+7:Nat):Int)) none none)
   (fun i st=>∃ts room w8 k w10 w11,st=Z6 ns Zz n first ts room y6 y7 w8 (some ((k:Nat):Int)) w10 w11/\DictOk n ts/\ts.length<=7+7*i/\Ext ts1 ts) ⟨ts1,room1,y8,Zz+7,none,none,rfl,ok1,by omega,Ext.refl ts1⟩ (fun i l st hl' hJ=>by
    obtain⟨hi,rfl⟩:=XY hl'
    obtain⟨ts,room,w8,k,w10,w11,rfl,ok,hle,hx⟩:=hJ
    obtain⟨ts',room',z8,k',z11,e2,ok',hle',hx'⟩:=inner i ts room w8 k w11 hi ok (by omega)
    refine⟨_,_,rfl,?_,ts',room',z8,k',some (i:Int),z11,rfl,ok',by omega,hx.trans hx'⟩
    have hr:ZZ [Zg ZX (Za 10) (eC (.int 1)),Za 2] (ZE [4] (Z6 ns Zz n first ts room y6 y7 w8 (some (k:Int)) (some (i:Int)) w11))=some (Xf ((i:Int)+1) (n-(i+1))):=by
     rw[Y8 (i:=(i:Int)+1) (j:=(n:Int)) (by simp[ZE,Z6]) (by simp[ZE,Z6]) ⟨by omega,by omega⟩ ⟨by omega,by omega⟩]
     congr 2;omega
    show Z0 _ _ _ _ (Z6 ns Zz n first ts room y6 y7 w8 (some (k:Int)) (some (i:Int)) w11)=_
    rw[ZU,hr]
    exact e2)
  rw[Vw] at hle2
  have r2:ZL [Za 2] (ZE [4] (Z6 ns Zz n first ts1 room1 y6 y7 y8 (some ((Zz+7:Nat):Int)) none none))=some (Xv n):=Ya (by simp[ZE,Z6]) (by omega)
  have f2:Z0 [4] (ZL [Za 2]) (.one 10) (Z0 [4] (ZZ [Zg ZX (Za 10) (eC (.int 1)),Za 2]) (.one 11) Jy) (Z6 ns Zz n first ts1 room1 y6 y7 y8 (some ((Zz+7:Nat):Int)) none none)=some (.nx (Z6 ns Zz n first ts2 room2 y6 y7 w8 (some ((w9:Nat):Int)) w10 w11)):=by
   rw[ZU,r2]
   exact l2.trans (by rw[es2])
  have hg:Hang n ts2:=by
   have all:∀P,Cl ts2 P->∀i,i<n->(P i↔P 0):=by
    intro P hP i
    induction i using Nat.strongRecOn with
    | _ i ih=>
     intro hi
     by_cases h0:i=0
     ·subst h0;exact Iff.rfl
     ·obtain⟨c,hc,hb⟩:=tree i (by omega) (by omega)
      exact(hP _ _ (hx2 _ _ hb)).symm.trans (ih c hc (by omega))
   exact fun P hP i j hi hj=>(all P hP i hi).trans (all P hP j hj).symm
  obtain⟨ts',eR,okR,_,hgR⟩:=QF ok2 hn (by omega) (first/7)
  have cd7:TF first 7:=V6 (by omega) (by omega)
  refine⟨ts',?_,okR,hgR hg⟩
  refine Eq.trans (congrArg (fun o=>Option.bind o Xh) (Jx (f:=Z0 [4] (ZZ [eC (.int 1),Za 2]) (.one 6) Ho) f1 e9 f2)) ?_
  simp[Z6,hcell,cd7,eR]
theorem U1{W:List (List Int)}(ok:WebOk W){i:Nat}(hi:i<W.length):(Zt W i).sum=((List.range W.length).map fun j=>ZM W i j).sum:=by
 rw[<-LD (Zt W i),ok.sq i hi];rfl
theorem LC{l:List Int}{h i:Nat}{v:Int}(hi:i<l.length):YC (l.set h v) i=if i=h then v else YC l i:=by
 unfold YC;rw[List.getD_eq_getElem?_getD,List.getD_eq_getElem?_getD,List.getElem?_set]
 by_cases e:h=i
 ·subst e
  rw[if_pos rfl,if_pos rfl,if_pos hi];rfl
 ·rw[if_neg e,if_neg (Ne.symm e)]
section
variable {s:ZY} {f g:XE} {a b:Int} {C:Int->Int->Prop} [∀i j,Decidable (C i j)] {op:Int->Int->Int}
theorem vC(h1:f s=some (.int a))(h2:g s=some (.int b))(c:C a b):Zg (HZ C op) f g s=some (.int (op a b)):=by
 rw[Z2,h1,h2];simp only[Option.bind_some,Dz,if_pos c]
theorem vI(h1:f s=some (.int a))(h2:g s=some (.int b)):Zg (gI op) f g s=some (.int (op a b)):=by
 rw[Z2,h1,h2];rfl
theorem vP(h1:f s=some (.int a)):eP f s=some (.int a):=by
 rw[Xa,h1];rfl
theorem VB{v:PV}(h1:f s=some v):Z4 f s=some (.rt v):=by
 rw[IF,h1];rfl
end
def nL(l:List Nat):List Int:=l.map fun(i:Nat)=>(i:Int)
theorem DQ{y:Nat}{l:List Nat}:(y:Int)∈nL l↔y∈l:=by
 unfold nL;rw[List.mem_map]
 exact⟨fun⟨a,h,e⟩=>by rw[show y=a by omega];exact h,fun h=>⟨y,h,rfl⟩⟩
theorem Hr(y:Nat)(l:List Nat):RE true (.int (y:Int)) (.lst (iL (nL l)))=some (.bl (!decide (y∈l))):=by
 rw[Hj]
 have:=DQ (y:=y) (l:=l)
 simp[this]
end PW
namespace PW
def sN:Nat->(Nat->Int)->Int
 | 0,_=>0
 | n+1,f=>sN n f+f n
theorem Zq{f g:Nat->Int}:∀{n:Nat},(∀i,i<n->f i=g i)->sN n f=sN n g
 | 0,_=>rfl
 | n+1,h=>by
  show sN n f+f n=sN n g+g n
  rw[Zq fun i hi=>h i (by omega),h n (by omega)]
theorem Sj{f:Nat->Int}{n:Nat}(h:∀i,i<n->f i=0):sN n f=0:=by
 rw[Zq (g:=fun _=>0) h]
 clear h
 induction n with
 | zero=>rfl
 | succ n ih=>show sN n _+0=0;rw[ih];rfl
theorem Y6(f g:Nat->Int):∀n,sN n (fun i=>f i+g i)=sN n f+sN n g
 | 0=>rfl
 | n+1=>by
  show sN n _+(f n+g n)=(sN n f+f n)+(sN n g+g n)
  rw[Y6 f g n];omega
theorem Y7(c:Int)(f:Nat->Int):∀n,sN n (fun i=>c*f i)=c*sN n f
 | 0=>by show(0:Int)=c*0;simp
 | n+1=>by
  show sN n _+c*f n=c*(sN n f+f n)
  rw[Y7 c f n,Int.mul_add]
theorem O3(f:Nat->Nat->Int)(m:Nat):∀n,sN n (fun i=>sN m (f i))=sN m (fun j=>sN n fun i=>f i j)
 | 0=>by
  show(0:Int)=sN m fun _=>0
  rw[Sj (fun _ _=>rfl)]
 | n+1=>by
  show sN n (fun i=>sN m (f i))+sN m (f n)=sN m (fun j=>(sN n fun i=>f i j)+f n j)
  rw[Y6,O3 f m n]
theorem YL{f:Nat->Int}{k:Nat}:∀{n:Nat},k<n->(∀i,i<n->i≠k->f i=0)->sN n f=f k
 | 0,h,_=>by omega
 | n+1,h,z=>by
  show sN n f+f n=f k
  by_cases q:k=n
  ·subst q
   rw[Sj fun i hi=>z i (by omega) (by omega)];omega
  ·rw[YL (n:=n) (by omega) fun i hi=>z i (by omega),z n (by omega) (by omega)];omega
theorem Hs{f:Nat->Int}{k:Nat}:∀{n:Nat},k+1<n->(∀i,i<n->i≠k->i≠k+1->f i=0)->sN n f=f k+f (k+1)
 | 0,h,_=>by omega
 | n+1,h,z=>by
  show sN n f+f n=_
  by_cases q:k+1=n
  ·subst q
   rw[YL (k:=k) (by omega) fun i hi hk=>z i (by omega) hk (by omega)]
  ·rw[Hs (n:=n) (by omega) fun i hi=>z i (by omega),z n (by omega) (by omega) (by omega)];omega
theorem Ue(f:Nat->Int)(n:Nat):((List.range n).map f).sum=sN n f:=by
 induction n with
 | zero=>rfl
 | succ n ih=>rw[List.range_succ,List.map_append,List.sum_append,ih];simp[sN]
abbrev Mt:=Nat->Nat->Int
def Rv(i:Nat)(A:Mt):Mt:=fun r c=>A (if r<i then r else r+1) (c+1)
def sg:Nat->Int
 | 0=>1
 | n+1=>- sg n
def Z7:Nat->Mt->Int
 | 0,_=>1
 | n+1,A=>sN (n+1) fun i=>sg i*A i 0*Z7 n (Rv i A)
theorem Wm(n:Nat)(A:Mt):Z7 (n+1) A=sN (n+1) fun i=>sg i*A i 0*Z7 n (Rv i A):=rfl
theorem Yb:∀{n:Nat}{A B:Mt},(∀r c,r<n->c<n->A r c=B r c)->Z7 n A=Z7 n B
 | 0,_,_,_=>rfl
 | n+1,A,B,h=>by
  rw[Wm,Wm]
  refine Zq fun i hi=>?_
  rw[h i 0 hi (by omega),Yb (n:=n) (A:=Rv i A) (B:=Rv i B) fun r c hr hc=>?_];unfold Rv
  exact h _ _ (by split<;>omega) (by omega)
theorem Kg:∀{n:Nat}{A B C:Mt}{k:Nat}{x y:Int},k<n->(∀r c,r<n->c<n->r≠k->A r c=C r c/\B r c=C r c)->(∀c,c<n->C k c=x*A k c+y*B k c)->Z7 n C=x*Z7 n A+y*Z7 n B
 | 0,_,_,_,k,_,_,h,_,_=>by omega
 | n+1,A,B,C,k,x,y,hk,h1,h2=>by
  rw[Wm,Wm,Wm,<-Y7,<-Y7,<-Y6]
  refine Zq fun i hi=>?_
  by_cases q:i=k
  ·subst q
   have e1:Z7 n (Rv i A)=Z7 n (Rv i C):=Yb fun r c hr hc=>by
    unfold Rv
    exact(h1 _ _ (by split<;>omega) (by omega) (by split<;>omega)).1
   have e2:Z7 n (Rv i B)=Z7 n (Rv i C):=Yb fun r c hr hc=>by
    unfold Rv
    exact(h1 _ _ (by split<;>omega) (by omega) (by split<;>omega)).2
   rw[e1,e2,h2 0 (by omega),Int.mul_add,Int.add_mul];simp only[Int.mul_assoc,Int.mul_left_comm]
  ·obtain⟨a1,a2⟩:=h1 i 0 hi (by omega) q
   have e:Z7 n (Rv i C)=x*Z7 n (Rv i A)+y*Z7 n (Rv i B):=Kg (k:=if k<i then k else k-1) (by split<;>omega) (fun r c hr hc hrk=>by
    unfold Rv
    exact h1 _ _ (by split<;>omega) (by omega) (by split at hrk<;>split<;>omega)) (fun c hc=>by
    have e:(if(if k<i then k else k-1)<i then(if k<i then k else k-1) else(if k<i then k else k-1)+1)=k:=by split<;>(try split)<;>omega
    unfold Rv;rw[e]
    exact h2 (c+1) (by omega))
   rw[a1,a2,e,Int.mul_add];simp only[Int.mul_assoc,Int.mul_left_comm]
theorem RL:∀{n:Nat}{A:Mt}{k:Nat},k+1<n->(∀c,c<n->A k c=A (k+1) c)->Z7 n A=0
 | 0,_,k,h,_=>by omega
 | n+1,A,k,hk,he=>by
  rw[Wm,Hs hk]
  ·have e:Z7 n (Rv k A)=Z7 n (Rv (k+1) A):=Yb fun r c hr hc=>by
    unfold Rv
    by_cases q:r<k
    ·rw[if_pos q,if_pos (by omega)]
    ·rw[if_neg q]
     by_cases q2:r=k
     ·subst q2
      rw[if_pos (by omega)]
      exact(he (c+1) (by omega)).symm
     ·rw[if_neg (by omega)]
   rw[e,he 0 (by omega)]
   show sg k*_*_ + - sg k*_*_=0
   rw[Int.neg_mul,Int.neg_mul];omega
  ·intro i hi h1 h2
   rw[RL (n:=n) (A:=Rv i A) (k:=if k+1<i then k else k-1) (by split<;>omega) fun c hc=>?_,Int.mul_zero]
   have e1:(if(if k+1<i then k else k-1)<i then(if k+1<i then k else k-1) else(if k+1<i then k else k-1)+1)=k:=by split<;>(try split)<;>omega
   have e2:(if(if k+1<i then k else k-1)+1<i then(if k+1<i then k else k-1)+1 else(if k+1<i then k else k-1)+1+1)=k+1:=by split<;>(try split)<;>omega
   unfold Rv;rw[e1,e2]
   exact he (c+1) (by omega)
def put(k:Nat)(v:Nat->Int)(A:Mt):Mt:=fun r=>if r=k then v else A r
theorem ZV(k:Nat)(v:Nat->Int)(A:Mt):put k v A k=v:=by unfold put;rw[if_pos rfl]
theorem Xw{k r:Nat}(v:Nat->Int)(A:Mt)(h:r≠k):put k v A r=A r:=by unfold put;rw[if_neg h]
theorem We{n k:Nat}{A:Mt}{u v:Nat->Int}{x y:Int}(hk:k<n):Z7 n (put k (fun c=>x*u c+y*v c) A)=x*Z7 n (put k u A)+y*Z7 n (put k v A):=
 Kg hk (fun r c _ _ h=>by rw[Xw _ _ h,Xw _ _ h,Xw _ _ h];exact⟨rfl,rfl⟩) (fun c _=>by rw[ZV,ZV,ZV])
def Bk(k:Nat)(A:Mt):Mt:=put k (A (k+1)) (put (k+1) (A k) A)
theorem Fw{n k:Nat}{A:Mt}(hk:k+1<n):Z7 n (Bk k A) = - Z7 n A:=by
 have two:∀u v:Nat->Int,Z7 n (put k (fun c=>1*u c+1*v c) (put (k+1) (fun c=>1*u c+1*v c) A))=0:=fun u v=>RL hk fun c _=>by
  rw[ZV,Xw _ _ (by omega),ZV]
 have same:∀u:Nat->Int,Z7 n (put k u (put (k+1) u A))=0:=fun u=>RL hk fun c _=>by
  rw[ZV,Xw _ _ (by omega),ZV]
 have comm:∀u v:Nat->Int,put k u (put (k+1) v A)=put (k+1) v (put k u A):=fun u v=>by
  funext r
  unfold put
  by_cases q:r=k
  ·rw[if_pos q,if_neg (by omega),if_pos q]
  ·rw[if_neg q]
   by_cases q2:r=k+1
   ·rw[if_pos q2,if_pos q2]
   ·rw[if_neg q2,if_neg q2,if_neg q]
 have h:=two (A k) (A (k+1))
 rw[We (by omega),comm,We hk,comm,We hk,<-comm,<-comm,<-comm,<-comm,same,same] at h
 have e:put k (A k) (put (k+1) (A (k+1)) A)=A:=by
  funext r
  unfold put
  by_cases q:r=k
  ·rw[if_pos q,q]
  ·rw[if_neg q]
   by_cases q2:r=k+1
   ·rw[if_pos q2,q2]
   ·rw[if_neg q2]
 rw[e] at h;unfold Bk;omega
theorem UA:∀(d:Nat){n i:Nat}{A:Mt},i+1+d<n->(∀c,c<n->A i c=A (i+1+d) c)->Z7 n A=0
 | 0,n,i,A,h,e=>RL h e
 | d+1,n,i,A,h,e=>by
  have h1:Z7 n (Bk (i+1+d) A)=0:=UA d (n:=n) (i:=i) (by omega) fun c hc=>by
   unfold Bk;rw[Xw _ _ (by omega),Xw _ _ (by omega),ZV]
   exact e c hc
  rw[Fw (by omega)] at h1;omega
theorem UB{n i j:Nat}{A:Mt}(hi:i<n)(hj:j<n)(hij:i≠j)(e:∀c,c<n->A i c=A j c):Z7 n A=0:=by
 rcases Nat.lt_or_gt_of_ne hij with h | h
 ·exact UA (j-i-1) (i:=i) (by omega) fun c hc=>by rw[show i+1+(j-i-1)=j by omega];exact e c hc
 ·exact UA (i-j-1) (i:=j) (by omega) fun c hc=>by rw[show j+1+(i-j-1)=i by omega];exact(e c hc).symm
theorem QG:∀{n:Nat}{A:Mt},(∀c,c<n->A n c=0)->Z7 (n+1) A=A n n*Z7 n A
 | 0,A,_=>by
  show 0+1*A 0 0*1=A 0 0*1
  omega
 | n+1,A,h=>by
  rw[Wm (n+1)]
  show sN (n+1) _+sg (n+1)*A (n+1) 0*_=_
  rw[h 0 (by omega),Int.mul_zero,Int.zero_mul,Int.add_zero,Wm n,<-Y7]
  refine Zq fun i hi=>?_
  rw[QG (n:=n) (A:=Rv i A) fun c hc=>?_]
  ·have e:Rv i A n n=A (n+1) (n+1):=by unfold Rv;rw[if_neg (by omega)]
   rw[e];simp only[Int.mul_assoc,Int.mul_left_comm]
  ·unfold Rv;rw[if_neg (by omega)];exact h (c+1) (by omega)
theorem QH{n j:Nat}{A:Mt}{a:Nat->Int}{v:Nat->Nat->Int}(hj:j<n):∀m,Z7 n (put j (fun c=>sN m fun k=>a k*v k c) A)=sN m fun k=>a k*Z7 n (put j (v k) A)
 | 0=>by
  have:Z7 n (put j (fun c=>0*(0:Int)+0*(0:Int)) A)=0*Z7 n (put j (fun _=>0) A)+0*Z7 n (put j (fun _=>0) A):=We (u:=fun _=>0) (v:=fun _=>0) hj
  simp only[Int.zero_mul,Int.add_zero] at this;exact this
 | m+1=>by
  have:=We (n:=n) (A:=A) (u:=fun c=>sN m fun k=>a k*v k c) (v:=v m) (x:=1) (y:=a m) hj
  simp only[Int.one_mul] at this
  show Z7 n (put j (fun c=>(sN m fun k=>a k*v k c)+a m*v m c) A)=_
  rw[this,QH hj m];rfl
theorem Fx{n j:Nat}{A:Mt}{a:Nat->Int}(hj:j<n):Z7 n (put j (fun c=>sN n fun k=>a k*A k c) A)=a j*Z7 n A:=by
 rw[QH hj n,YL (k:=j) hj]
 ·have:put j (A j) A=A:=by funext r;unfold put;split<;>simp_all
  rw[this]
 ·intro i hi hij
  rw[UB (i:=i) (j:=j) hi hj hij fun c _=>by rw[Xw _ _ hij,ZV],Int.mul_zero]
def Fy(n:Nat)(A:Mt)(i j:Nat):Int:=Z7 n (put j (fun c=>if c=i then 1 else 0) A)
theorem Fz{n:Nat}{A:Mt}{j:Nat}(hj:j<n)(v:Nat->Int):sN n (fun i=>v i*Fy n A i j)=Z7 n (put j v A):=by
 unfold Fy;rw[<-QH (v:=fun i c=>if c=i then 1 else 0) hj n]
 refine Yb fun r c hr hc=>?_
 unfold put
 split
 ·show sN n (fun k=>v k*if c=k then 1 else 0)=v c
  rw[YL (k:=c) hc]
  ·simp
  ·intro i hi hic
   rw[if_neg (fun z=>hic z.symm),Int.mul_zero]
 ·rfl
theorem FA{n:Nat}{A:Mt}{k j:Nat}(hk:k<n)(hj:j<n):sN n (fun i=>A k i*Fy n A i j)=if k=j then Z7 n A else 0:=by
 rw[Fz hj]
 split
 ·rename_i h
  subst h
  have:put k (A k) A=A:=by funext r;unfold put;split<;>simp_all
  rw[this]
 ·rename_i h
  exact UB (i:=k) (j:=j) hk hj h fun c _=>by rw[Xw _ _ h,ZV]
theorem Tt{f:Nat->Int}{q:Nat}:∀{m:Nat},q<=m->(∀k,q<=k->k<m->f k=0)->sN m f=sN q f
 | 0,h,_=>by rw[show q=0 by omega]
 | m+1,h,z=>by
  by_cases e:q=m+1
  ·rw[e]
  ·show sN m f+f m=_
   rw[Tt (m:=m) (by omega) (fun k h1 h2=>z k h1 (by omega)),z m (by omega) (by omega)];omega
theorem Kh{f:Nat->Int}{q i:Nat}:∀{m:Nat},q<=i->i<m->(∀k,q<=k->k<m->k≠i->f k=0)->sN m f=sN q f+f i
 | 0,_,h,_=>by omega
 | m+1,hq,hi,z=>by
  show sN m f+f m=_
  by_cases e:i=m
  ·subst e
   rw[Tt (q:=q) (by omega) fun k h1 h2=>z k h1 (by omega) (by omega)]
  ·rw[Kh (m:=m) hq (by omega) (fun k h1 h2=>z k h1 (by omega)),z m (by omega) (by omega) (fun q=>e q.symm)];omega
def Tc(m:Nat)(X:Mt):Nat->Mt×Int
 | 0=>(X,1)
 | p+1=>(fun i j=>if i=p then(Tc m X p).1 i j else((Tc m X p).1 p p*(Tc m X p).1 i j-(Tc m X p).1 i p*(Tc m X p).1 p j).fdiv (Tc m X p).2,(Tc m X p).1 p p)
structure D4(m:Nat)(A X:Mt):Prop where
 sym:∀i j,i<m->j<m->A i j=A j i
 inj:∀p,p<=m->∀z:Nat->Int,(∀j,j<p->sN p (fun k=>z k*A k j)=0)->∀k,k<p->z k=0
 ext:∀i j,i<m->j<m->X i j=A i j
structure BK(m p:Nat)(X:Mt)(E:Mt)(d:Int)(i:Nat)(a:Nat->Int):Prop where
 off:∀k,k<m->p<=k->k≠i->a k=0
 on:p<=i->a i=d
 val:∀j,j<=m->E i j=sN m (fun k=>a k*X k j)
 uni:∀j,j<p->E i j=if i=j then d else 0
structure DR(m:Nat)(A X:Mt)(p:Nat)(E:Mt)(d:Int):Prop where
 de:d=Z7 p A
 nz:d≠0
 row:∀i,i<m->∃a,BK m p X E d i a
theorem QI{m:Nat}{A X:Mt}{p:Nat}{E:Mt}{d:Int}(ok:D4 m A X)(hp:p<m)(I:DR m A X p E d) :
  DR m A X (p+1) (fun i j=>if i=p then E i j else(E p p*E i j-E i p*E p j).fdiv d) (E p p)/\∀i j,i<m->j<=m->i≠p->∃q,E p p*E i j-E i p*E p j=d*q:=by
 obtain⟨ap,Rp⟩:=I.row p hp
 have hd:=I.nz
 -- the pivot's row
 have rowp:∀j,j<m->E p j=sN (p+1) (fun k=>ap k*A k j):=fun j hj=>by
  rw[Rp.val j (by omega),Tt (q:=p+1) (by omega) fun k h1 h2=>by rw[Rp.off k h2 (by omega) (by omega),Int.zero_mul]]
  exact Zq fun k hk=>by rw[ok.ext k j (by omega) hj]
 have pd:E p p=Z7 (p+1) A:=by
  have h1:=Fx (n:=p+1) (j:=p) (A:=A) (a:=ap) (by omega)
  have h2:=QG (n:=p) (A:=put p (fun c=>sN (p+1) fun k=>ap k*A k c) A) fun c hc=>by
   rw[ZV]
   show sN (p+1) (fun k=>ap k*A k c)=0
   rw[<-rowp c (by omega),Rp.uni c hc,if_neg (by omega)]
  have h3:Z7 p (put p (fun c=>sN (p+1) fun k=>ap k*A k c) A)=Z7 p A:=Yb fun r c hr hc=>by rw[Xw _ _ (by omega)]
  rw[ZV,h3,h1,Rp.on (Nat.le_refl p),<-I.de] at h2
  have h4:d*Z7 (p+1) A=E p p*d:=by
   rw[h2]
   show sN (p+1) (fun k=>ap k*A k p)*d=_
   rw[<-rowp p hp]
  have h5:d*(Z7 (p+1) A)=d*E p p:=by rw[h4,Int.mul_comm]
  exact(Int.eq_of_mul_eq_mul_left hd h5).symm
 have pz:E p p≠0:=fun z=>by
  have:=ok.inj (p+1) (by omega) ap (fun j hj=>by
   rw[<-rowp j (by omega)]
   by_cases q:j=p
   ·rw[q];exact z
   ·rw[Rp.uni j (by omega),if_neg (by omega)]) p (by omega)
  rw[Rp.on (Nat.le_refl p)] at this
  exact hd this
 -- the other rows
 have other:∀i,i<m->i≠p->∃b:Nat->Int,(∀k,k<m->p+1<=k->k≠i->b k=0)/\(p+1<=i->b i=E p p)/\(∀l,l<p+1->sN m (fun k=>b k*A k l)=if i=l then E p p else 0)/\∀j,j<=m->E p p*E i j-E i p*E p j=d*sN m (fun k=>b k*X k j):=by
  intro i hi hip
  obtain⟨b,b1,b2,b3⟩:∃b:Nat->Int,(∀k,k<m->p+1<=k->k≠i->b k=0)/\(p+1<=i->b i=E p p)/\(∀l,l<p+1->sN m (fun k=>b k*A k l)=if i=l then E p p else 0):=by
   have cm:∀j l,j<p+1->l<p+1->sN (p+1) (fun k=>Fy (p+1) A k j*A k l)=if l=j then E p p else 0:=fun j l hj hl=>by
    rw[pd,<-FA (A:=A) hl hj]
    exact Zq fun k hk=>by rw[ok.sym l k (by omega) (by omega),Int.mul_comm]
   by_cases q:i<p
   ·obtain⟨b,hb⟩:∃b:Nat->Int,∀k,b k=if k<p+1 then Fy (p+1) A k i else 0:=⟨_,fun _=>rfl⟩
    refine⟨b,fun k hk h1 _=>by rw[hb,if_neg (by omega)],fun h=>by omega,fun l hl=>?_⟩
    rw[Tt (q:=p+1) (by omega) fun k h1 h2=>by rw[hb,if_neg (by omega),Int.zero_mul]]
    rw[Zq (g:=fun k=>Fy (p+1) A k i*A k l) fun k hk=>by rw[hb,if_pos hk],cm i l (by omega) hl]
    by_cases e:i=l
    ·rw[if_pos e,if_pos e.symm]
    ·rw[if_neg e,if_neg (fun z=>e z.symm)]
   ·obtain⟨b,hb⟩:∃b:Nat->Int,∀k,b k=if k<p+1 then-sN (p+1) (fun j=>A i j*Fy (p+1) A k j) else if k=i then E p p else 0:=⟨_,fun _=>rfl⟩
    have hbi:b i=E p p:=by rw[hb,if_neg (by omega),if_pos rfl]
    refine⟨b,fun k hk h1 h2=>by rw[hb,if_neg (by omega),if_neg h2],fun h=>hbi,fun l hl=>?_⟩
    rw[Kh (q:=p+1) (i:=i) (by omega) hi fun k h1 h2 h3=>by rw[hb,if_neg (by omega),if_neg h3,Int.zero_mul]]
    rw[hbi,if_neg (show ¬i=l by omega)]
    have e1:sN (p+1) (fun k=>b k*A k l)=sN (p+1) (fun k=>(-1)*sN (p+1) (fun j=>A i j*(Fy (p+1) A k j*A k l))):=Zq fun k hk=>by
     rw[hb,if_pos hk,Int.neg_mul,Int.mul_comm _ (A k l),<-Y7,Int.neg_mul,Int.one_mul]
     congr 1
     exact Zq fun j _=>by rw[Int.mul_comm (A k l),Int.mul_assoc]
    rw[e1,Y7,O3]
    have e2:(sN (p+1) fun j=>sN (p+1) fun k=>A i j*(Fy (p+1) A k j*A k l))=A i l*E p p:=by
     rw[Zq (g:=fun j=>A i j*(if l=j then E p p else 0)) fun j hj=>by rw[Y7,cm j l hj hl]]
     rw[YL (k:=l) hl fun j _ hjl=>by rw[if_neg (fun z=>hjl z.symm),Int.mul_zero],if_pos rfl]
    rw[e2,Int.mul_comm (E p p)];omega
  refine⟨b,b1,b2,b3,?_⟩
  obtain⟨ai,Ri⟩:=I.row i hi
  have hw:∀k,k<m->E p p*ai k-E i p*ap k-d*b k=0:=by
   have hi2:∀k,k<m->p+1<=k->E p p*ai k-E i p*ap k-d*b k=0:=fun k hk h1=>by
    have zp:=Rp.off k hk (by omega) (by omega)
    by_cases q:k=i
    ·subst q
     rw[Ri.on (by omega),zp,b2 h1,Int.mul_comm d];omega
    ·rw[Ri.off k hk (by omega) q,zp,b1 k hk h1 q];omega
   intro k hk
   by_cases q:k<p+1
   ·refine ok.inj (p+1) (by omega) (fun k=>E p p*ai k-E i p*ap k-d*b k) (fun l hl=>?_) k q
    rw[<-Tt (q:=p+1) (m:=m) (by omega) fun k h1 h2=>by rw[hi2 k h2 h1,Int.zero_mul]]
    have e1:sN m (fun k=>(E p p*ai k-E i p*ap k-d*b k)*A k l)=E p p*sN m (fun k=>ai k*A k l)+((- E i p)*sN m (fun k=>ap k*A k l)+(- d)*sN m (fun k=>b k*A k l)):=by
     rw[<-Y7,<-Y7,<-Y7,<-Y6,<-Y6]
     exact Zq fun k _=>by
      rw[Int.sub_mul,Int.sub_mul];simp only[Int.mul_assoc,Int.neg_mul];omega
    have eX:∀a:Nat->Int,sN m (fun k=>a k*X k l)=sN m (fun k=>a k*A k l):=fun a=>Zq fun k hk=>by rw[ok.ext k l hk (by omega)]
    rw[e1,b3 l hl,<-eX,<-eX,<-Ri.val l (by omega),<-Rp.val l (by omega)]
    by_cases q2:l=p
    ·subst q2
     rw[if_neg hip,Int.mul_comm (E l l),Int.neg_mul];omega
    ·rw[Ri.uni l (by omega),Rp.uni l (by omega),if_neg (show ¬p=l by omega)]
     by_cases q3:i=l
     ·rw[if_pos q3,if_pos q3,Int.neg_mul d,Int.mul_comm d];omega
     ·rw[if_neg q3,if_neg q3];omega
   ·exact hi2 k hk (by omega)
  intro j hj;rw[Ri.val j hj,Rp.val j hj,<-Y7,<-Y7,<-Y7]
  have:sN m (fun k=>E p p*(ai k*X k j))=sN m (fun k=>d*(b k*X k j))+sN m (fun k=>E i p*(ap k*X k j)):=by
   rw[<-Y6]
   refine Zq fun k hk=>?_
   have:=hw k hk
   rw[<-Int.mul_assoc,<-Int.mul_assoc,<-Int.mul_assoc,<-Int.add_mul]
   congr 1
   omega
  omega
 refine⟨⟨pd,pz,fun i hi=>?_⟩,fun i j hi hj hip=>?_⟩
 ·by_cases hip:i=p
  ·subst hip
   refine⟨ap,fun k hk h1 h2=>Rp.off k hk (by omega) h2,fun h=>by omega,fun j hj=>by rw[if_pos rfl];exact Rp.val j hj,fun j hj=>?_⟩
   rw[if_pos rfl]
   by_cases q:i=j
   ·subst q;rw[if_pos rfl]
   ·rw[if_neg q,Rp.uni j (by omega),if_neg q]
  ·obtain⟨b,b1,b2,b3,b4⟩:=other i hi hip
   have hv:∀j,j<=m->(E p p*E i j-E i p*E p j).fdiv d=sN m (fun k=>b k*X k j):=fun j hj=>by rw[b4 j hj,Int.mul_fdiv_cancel_left _ hd]
   refine⟨b,b1,b2,fun j hj=>by rw[if_neg hip];exact hv j hj,fun j hj=>?_⟩
   rw[if_neg hip,hv j (by omega),<-b3 j hj]
   exact Zq fun k hk=>by rw[ok.ext k j hk (by omega)]
 ·obtain⟨b,b1,b2,b3,b4⟩:=other i hi hip
  exact⟨_,b4 j hj⟩
theorem U2{m:Nat}{A X:Mt}(ok:D4 m A X):∀{p:Nat},p<=m->DR m A X p (Tc m X p).1 (Tc m X p).2
 | 0,_=>⟨rfl,(show(1:Int)≠0 by decide),fun i hi=>⟨fun k=>if k=i then 1 else 0,fun k _ _ h=>if_neg h,fun _=>if_pos rfl,fun j hj=>by
   rw[YL (k:=i) hi fun k _ hk=>by rw[if_neg hk,Int.zero_mul],if_pos rfl,Int.one_mul];rfl,fun j hj=>by omega⟩⟩
 | p+1,h=>(QI ok (by omega) (U2 ok (p:=p) (by omega))).1
open L2 VL
theorem Ht{z:Int}(h:z.natAbs<2^1000):z.natAbs.log2<1000:=by
 by_cases h0:z.natAbs=0
 ·rw[h0];decide +kernel
 ·exact(Nat.log2_lt h0).mpr h
theorem Ki{a b:Int}(h:a.natAbs<2^1000)(h':b.natAbs<2^1000):CMulW a b:=⟨by have:=Ht h;omega,by have:=Ht h';omega⟩
theorem FC{a b:Int}(h0:b≠0)(h:b.natAbs<2^1000):PX a b:=⟨h0,by have:=Ht h;omega⟩
def Mb:Nat->Nat
 | 0=>2^7
 | p+1=>2*Mb p*Mb p
def Nb:Nat->Nat
 | 0=>2^208
 | p+1=>2*Mb p*Nb p
theorem BL{p:Nat}(h:p<=6):Mb p<2^1000:=by
 have:p=0\/p=1\/p=2\/p=3\/p=4\/p=5\/p=6:=by omega
 rcases this with rfl | rfl | rfl | rfl | rfl | rfl | rfl<;>decide +kernel
theorem BM{p:Nat}(h:p<=6):Nb p<2^1000:=by
 have:p=0\/p=1\/p=2\/p=3\/p=4\/p=5\/p=6:=by omega
 rcases this with rfl | rfl | rfl | rfl | rfl | rfl | rfl<;>decide +kernel
theorem Kj{a b c d:Int}{M N:Nat}(ha:a.natAbs<=M)(hb:b.natAbs<=N)(hc:c.natAbs<=M)(hd:d.natAbs<=N):(a*b-c*d).natAbs<=2*M*N:=by
 have h1:(a*b).natAbs<=M*N:=by rw[Int.natAbs_mul];exact Nat.mul_le_mul ha hb
 have h2:(c*d).natAbs<=M*N:=by rw[Int.natAbs_mul];exact Nat.mul_le_mul hc hd
 have h3:(a*b-c*d).natAbs<=(a*b).natAbs+(c*d).natAbs:=by omega
 have h4:2*M*N=M*N+M*N:=by rw[Nat.mul_assoc];omega
 omega
theorem N0{x d q:Int}(hd:d≠0)(e:x=d*q):(x.fdiv d).natAbs<=x.natAbs:=by
 rw[e,Int.mul_fdiv_cancel_left _ hd,Int.natAbs_mul]
 have:1<=d.natAbs:=by omega
 calc q.natAbs=1*q.natAbs:=by omega
  _<=d.natAbs*q.natAbs:=Nat.mul_le_mul_right _ this
theorem FD(p:Nat):Mb p<=Mb (p+1):=by
 have h:∀p,1<=Mb p:=fun p=>by
  induction p with
  | zero=>decide
  | succ p ih=>show 1<=2*Mb p*Mb p;exact Nat.mul_le_mul (show 1<=2*Mb p by omega) ih
 show Mb p<=2*Mb p*Mb p
 calc Mb p=1*Mb p:=by omega
  _<=2*Mb p*Mb p:=Nat.mul_le_mul_right _ (by have:=h p;omega)
theorem FE(p:Nat):Nb p<=Nb (p+1):=by
 have h:∀p,1<=Mb p:=fun p=>by
  induction p with
  | zero=>decide
  | succ p ih=>show 1<=2*Mb p*Mb p;exact Nat.mul_le_mul (show 1<=2*Mb p by omega) ih
 show Nb p<=2*Mb p*Nb p
 calc Nb p=1*Nb p:=by omega
  _<=2*Mb p*Nb p:=Nat.mul_le_mul_right _ (by have:=h p;omega)
theorem PZ{m:Nat}{A X:Mt}(ok:D4 m A X)(h0:∀i j,i<m->j<m->(X i j).natAbs<=2^7)(h1:∀i,i<m->(X i m).natAbs<=2^208):∀{p:Nat},p<=m->(∀i j,i<m->j<m->((Tc m X p).1 i j).natAbs<=Mb p)/\∀i,i<m->((Tc m X p).1 i m).natAbs<=Nb p
 | 0,_=>⟨h0,h1⟩
 | p+1,hp=>by
  obtain⟨b1,b2⟩:=PZ ok h0 h1 (p:=p) (by omega)
  have I:=U2 ok (p:=p) (by omega)
  have ex:=(QI ok (by omega) I).2
  refine⟨fun i j hi hj=>?_,fun i hi=>?_⟩
  ·show(if i=p then(Tc m X p).1 i j else _).natAbs<=_
   split
   ·exact Nat.le_trans (b1 i j hi hj) (FD p)
   ·rename_i hip
    obtain⟨q,e⟩:=ex i j hi (by omega) hip
    exact Nat.le_trans (N0 I.nz e) (Kj (b1 p p (by omega) (by omega)) (b1 i j hi hj) (b1 i p hi (by omega)) (b1 p j (by omega) hj))
  ·show(if i=p then(Tc m X p).1 i m else _).natAbs<=_
   split
   ·exact Nat.le_trans (b2 i hi) (FE p)
   ·rename_i hip
    obtain⟨q,e⟩:=ex i m hi (by omega) hip
    exact Nat.le_trans (N0 I.nz e) (Kj (b1 p p (by omega) (by omega)) (b2 i hi) (b1 i p hi (by omega)) (b2 p (by omega)))
def Yd(w:Nat)(f:Nat->Int):List Int:=(List.range w).map f
theorem UC(w:Nat)(f:Nat->Int):(Yd w f).length=w:=by simp[Yd]
theorem QJ{w:Nat}{f:Nat->Int}{j:Nat}(h:j<w):YC (Yd w f) j=f j:=Q3 h
theorem FF{l:List Int}:(Option.bind ((Option.bind (some (PV.lst (iL l))) fun x=>(Rl [] s).map (x::·)).bind Y3) fun l=>if ZN l=true then some l else none)=some (pP l):=by
 show(if ZN (pP l)=true then some (pP l) else none)=_
 rw[if_pos (by simp)]
theorem M6{w p:Nat}{f g:Nat->Int}{d:Int}(hw:w<=100)(hp:p<w)(hf:∀j,j<w->(f j).natAbs<2^1000)(hg:∀j,j<w->(g j).natAbs<2^1000)(hd:d≠0)(hdb:d.natAbs<2^1000) :
  XG [pP (Yd w f),pP (Yd w g),.int (p:Int),.int d]=some (pP (Yd w fun j=>(g p*f j-f p*g j).fdiv d)):=by
 have hz:Q5 (iL (Yd w f)) (iL (Yd w g))=(List.range w).map fun(j:Nat)=>.tup [.int (f j),.int (g j)]:=by
  rw[MK _ _ (by simp[UC]),List.length_map,UC]
  apply List.map_congr_left
  intro i hi;have hi:=List.mem_range.mp hi
  rw[L5 _ i (by rw[UC];exact hi),L5 _ i (by rw[UC];exact hi),QJ hi,QJ hi]
 have hx:Ir false false [Za 0,Za 1] [some (pP (Yd w f)),some (pP (Yd w g)),some (.int (p:Int)),some (.int d)]=some ((List.range w).map fun(j:Nat)=>.tup [.int (f j),.int (g j)]):=by
  show some (Q5 (iL (Yd w f)) (iL (Yd w g)))=_
  rw[hz]
 have hc:Zu 2 [3,1,2,0] (Ir false false [(Za 0),(Za 1)]) (.many [0,1]) ZH (Zg IP (Zg Xz (Zg NJ (Zg ZA (Za 3) (Za 4)) (Za 0)) (Zg NJ (Zg ZA (Za 5) (Za 4)) (Za 1))) (Za 2)) [some (pP (Yd w f)),some (pP (Yd w g)),some (.int (p:Int)),some (.int d)]=some (.lst (iL (Yd w fun j=>(g p*f j-f p*g j).fdiv d))):=by
  rw[ZQ (List.range w) (fun(j:Nat)=>.tup [.int (f j),.int (g j)]) (fun j=>.int ((g p*f j-f p*g j).fdiv d)) hx (by simp;omega) (fun j hj=>⟨[some (.int (f j)),some (.int (g j)),some (.int d),some (pP (Yd w g)),some (.int (p:Int)),some (pP (Yd w f))],rfl,rfl,?_⟩)]
  ·simp[Yd]
  ·have hj:=List.mem_range.mp hj
   have i1:=Vl (l:=Yd w g) (k:=p) (by rw[UC];exact hp)
   have i2:=Vl (l:=Yd w f) (k:=p) (by rw[UC];exact hp)
   rw[QJ hp] at i1 i2
   exact(vC (C:=PX) (op:=Int.fdiv) (vI (vC (C:=CMulW) (op:=(· * ·)) (a:=g p) (b:=f j) i1 rfl (Ki (hg p hp) (hf j hj))) (vC (C:=CMulW) (op:=(· * ·)) (a:=f p) (b:=g j) i2 rfl (Ki (hf p hp) (hg j hj)))) rfl (FC hd hdb))
 show Xy 4 UU _=_
 unfold UU
 show(Z4 _ [some (pP (Yd w f)),some (pP (Yd w g)),some (.int (p:Int)),some (.int d)]).bind Xh=_
 rw[VB (v:=pP (Yd w fun j=>(g p*f j-f p*g j).fdiv d)) (by rw[Xa,Yu,ZP,hc];exact FF)]
 rfl
def Wb(m w:Nat)(E:Mt):List (List Int):=(List.range m).map fun i=>Yd w (E i)
theorem Kk(m w:Nat)(E:Mt):(Wb m w E).length=m:=by simp[Wb]
theorem FG{m w:Nat}{E:Mt}{i:Nat}(h:i<m):Zt (Wb m w E) i=Yd w (E i):=by
 unfold Zt Wb
 rw[List.getD_eq_getElem?_getD,List.getElem?_map,List.getElem?_range h];rfl
def tL(M:List (List Int)):List PV:=M.map pP
theorem QK(m w:Nat)(E:Mt):tL (Wb m w E)=(List.range m).map fun i=>pP (Yd w (E i)):=by
 unfold tL Wb;rw[List.map_map];rfl
theorem M7(m w:Nat)(E:Mt):(tL (Wb m w E)).length=m:=by simp[tL,Kk]
theorem Hu{m w:Nat}{E:Mt}{i:Nat}(h:i<m):(tL (Wb m w E))[i]?=some (pP (Yd w (E i))):=by
 rw[QK,List.getElem?_map,List.getElem?_range h];rfl
theorem Kl(M:List (List Int)):ZJ (tL M)=true:=T8 M
theorem Jz{m w:Nat}{A X:Mt}(hm:m<=6)(hw:m<=w)(hw1:w<=m+1)(ok:D4 m A X)(h0:∀i j,i<m->j<m->(X i j).natAbs<=2^7)(h1:∀i,i<m->(X i m).natAbs<=2^208){R:PV}(hR:R = .lst (tL (Wb m w X))\/R = .tup (tL (Wb m w X))) :
  Vx [R]=some (.tup [.int (Tc m X m).2,.lst (tL (Wb m w (Tc m X m).1))]):=by
 have bd:∀{p:Nat},p<=m->∀i j,i<m->j<m+1->((Tc m X p).1 i j).natAbs<2^1000:=fun{p} hp i j hi hj=>by
  obtain⟨b1,b2⟩:=PZ ok h0 h1 hp
  by_cases q:j<m
  ·exact Nat.lt_of_le_of_lt (b1 i j hi q) (BL (by omega))
  ·rw[show j=m by omega];exact Nat.lt_of_le_of_lt (b2 i hi) (BM (by omega))
 have db:∀{p:Nat},p<=m->(Tc m X p).2.natAbs<2^1000:=fun{p} hp=>by
  cases p with
  | zero=>show(1:Int).natAbs<_;decide +kernel
  | succ p=>exact bd (p:=p) (by omega) p p (by omega) (by omega)
 let st:Nat->Option PV->Option PV->ZY:=fun p x3 x4=>[some R,some (.lst (tL (Wb m w (Tc m X p).1))),some (.int (Tc m X p).2),x3,x4]
 have e1:Zk 1 (Ze XR [(Za 0)]) [some R,none,none,none,none]=some (.nx [some R,some (.lst (tL (Wb m w X))),none,none,none]):=by
  have:Ze XR [(Za 0)] [some R,none,none,none,none]=some (.lst (tL (Wb m w X))):=by
   show XR [R]=_
   rcases hR with rfl | rfl
   ·rw[IH,if_pos (Kl _)]
   ·rw[NH,if_pos (Kl _)]
  rw[Zv,this];rfl
 have e2:Zk 2 (eP (eC (.int 1))) [some R,some (.lst (tL (Wb m w X))),none,none,none]=some (.nx (st 0 none none)):=by
  rw[Zv,vP (a:=1) rfl];rfl
 let fb:XS:=(Zj (Zk 4 (eP (Zg ZA (Za 1) (Za 3))))
  (Zj (Zk 1 (Zu 2 [3,4,2] (Ta true [(Za 1)]) (.many [0,1]) ZH (eP (Oz (xB (Zg (Yc false) (Za 0) (Za 2))) (Za 1) (Ze XG [(Za 1),(Za 3),(Za 2),(Za 4)])))))
  (Zk 2 (eP (Zg ZA (Za 4) (Za 3))))))
 obtain⟨s',f1,x3,x4,hs⟩:=ZK (T:=.one 3) (fb:=fb) (ls:=Xv m) (s:=st 0 none none) (fun p s=>∃x3 x4,s=st p x3 x4) ⟨none,none,rfl⟩ (by
  rintro p l s hl ⟨x3,x4,rfl⟩
  obtain⟨hp,rfl⟩:=XY hl
  generalize hE:(Tc m X p).1=E
  generalize hd:(Tc m X p).2=d
  have I:=U2 ok (p:=p) (by omega)
  have bE:∀i j,i<m->j<w->(E i j).natAbs<2^1000:=by rw[<-hE];exact fun i j hi hj=>bd (by omega) i j hi (by omega)
  have bD:d.natAbs<2^1000:=by rw[<-hd];exact db (by omega)
  rw[hE,hd] at I
  let E':Mt:=fun i j=>if i=p then E i j else(E p p*E i j-E i p*E p j).fdiv d
  have hs1:(Tc m X (p+1)).1=E':=by
   show(fun i j=>if i=p then(Tc m X p).1 i j else((Tc m X p).1 p p*(Tc m X p).1 i j-(Tc m X p).1 i p*(Tc m X p).1 p j).fdiv (Tc m X p).2)=E'
   rw[hE,hd]
  have hs2:(Tc m X (p+1)).2=E p p:=by rw[<-hE];rfl
  have q0:st p (some (.int (p:Int))) x4=[some R,some (.lst (tL (Wb m w E))),some (.int d),some (.int (p:Int)),x4]:=by rw[<-hE,<-hd]
  have q1:Zk 4 (eP (Zg ZA (Za 1) (Za 3))) [some R,some (.lst (tL (Wb m w E))),some (.int d),some (.int (p:Int)),x4]=some (.nx [some R,some (.lst (tL (Wb m w E))),some (.int d),some (.int (p:Int)),some (pP (Yd w (E p)))]):=by
   have:VH (tL (Wb m w E)) (p:Int)=some (pP (Yd w (E p))):=W4 (Hu hp)
   have:eP (Zg ZA (Za 1) (Za 3)) [some R,some (.lst (tL (Wb m w E))),some (.int d),some (.int (p:Int)),x4]=some (pP (Yd w (E p))):=by
    show(Option.bind (VH (tL (Wb m w E)) (p:Int)) fun l=>if ZN l=true then some l else none)=_
    rw[this]
    show(if ZN (pP (Yd w (E p)))=true then _ else _)=_
    rw[if_pos (by simp)]
   rw[Zv,this];rfl
  have q2:Zk 1 (Zu 2 [3,4,2] (Ta true [(Za 1)]) (.many [0,1]) ZH (eP (Oz (xB (Zg (Yc false) (Za 0) (Za 2))) (Za 1) (Ze XG [(Za 1),(Za 3),(Za 2),(Za 4)])))) [some R,some (.lst (tL (Wb m w E))),some (.int d),some (.int (p:Int)),some (pP (Yd w (E p)))]=some (.nx [some R,some (.lst (tL (Wb m w E'))),some (.int d),some (.int (p:Int)),some (pP (Yd w (E p)))]):=by
   have hx:Ta true [Za 1] [some R,some (.lst (tL (Wb m w E))),some (.int d),some (.int (p:Int)),some (pP (Yd w (E p)))]=some ((List.range m).map fun(i:Nat)=>.tup [.int (i:Int),pP (Yd w (E i))]):=by
    show some (Vu (tL (Wb m w E)))=_
    rw[S9,M7]
    congr 1
    apply List.map_congr_left
    intro i hi;have hi:=List.mem_range.mp hi
    rw[List.getD_eq_getElem?_getD,Hu hi];rfl
   have hc:Zu 2 [3,4,2] (Ta true [(Za 1)]) (.many [0,1]) ZH (eP (Oz (xB (Zg (Yc false) (Za 0) (Za 2))) (Za 1) (Ze XG [(Za 1),(Za 3),(Za 2),(Za 4)]))) [some R,some (.lst (tL (Wb m w E))),some (.int d),some (.int (p:Int)),some (pP (Yd w (E p)))]=some (.lst (tL (Wb m w E'))):=by
    rw[ZQ (List.range m) (fun(i:Nat)=>.tup [.int (i:Int),pP (Yd w (E i))]) (fun i=>pP (Yd w (E' i))) hx (by simp;omega) (fun i hi=>⟨[some (.int (i:Int)),some (pP (Yd w (E i))),some (.int (p:Int)),some (pP (Yd w (E p))),some (.int d)],rfl,rfl,?_⟩),QK]
    have hi:=List.mem_range.mp hi
    have ev:Oz (xB (Zg (Yc false) (Za 0) (Za 2))) (Za 1) (Ze XG [(Za 1),(Za 3),(Za 2),(Za 4)]) [some (.int (i:Int)),some (pP (Yd w (E i))),some (.int (p:Int)),some (pP (Yd w (E p))),some (.int d)]=some (pP (Yd w (E' i))):=by
     by_cases q:i=p
     ·have t:xB (Zg (Yc false) (Za 0) (Za 2)) [some (.int (i:Int)),some (pP (Yd w (E i))),some (.int (p:Int)),some (pP (Yd w (E p))),some (.int d)]=some true:=by simp[q]
      rw[V3,t]
      have:E' i=E i:=by funext j;show(if i=p then _ else _)=_;rw[if_pos q]
      rw[this];rfl
     ·have q':¬(i:Int)=(p:Int):=by omega
      have t:xB (Zg (Yc false) (Za 0) (Za 2)) [some (.int (i:Int)),some (pP (Yd w (E i))),some (.int (p:Int)),some (pP (Yd w (E p))),some (.int d)]=some false:=by simp[q']
      rw[V3,t]
      have:E' i=fun j=>(E p p*E i j-E i p*E p j).fdiv d:=by funext j;show(if i=p then _ else _)=_;rw[if_neg q]
      rw[this]
      exact M6 (f:=E i) (g:=E p) (by omega) (by omega) (fun j hj=>bE i j hi hj) (fun j hj=>bE p j hp hj) I.nz bD
    rw[Xa,ev]
    show(if ZN (pP (Yd w (E' i)))=true then _ else _)=_
    rw[if_pos (by simp)]
   rw[Zv,hc];rfl
  have q3:Zk 2 (eP (Zg ZA (Za 4) (Za 3))) [some R,some (.lst (tL (Wb m w E'))),some (.int d),some (.int (p:Int)),some (pP (Yd w (E p)))]=some (.nx [some R,some (.lst (tL (Wb m w E'))),some (.int (E p p)),some (.int (p:Int)),some (pP (Yd w (E p)))]):=by
   have:=Vl (l:=Yd w (E p)) (k:=p) (by rw[UC];omega)
   rw[QJ (by omega)] at this
   rw[Zv,vP (a:=E p p) this];rfl
  refine⟨st p (some (.int (p:Int))) x4,st (p+1) (some (.int (p:Int))) (some (pP (Yd w (E p)))),rfl,?_,_,_,rfl⟩
  rw[q0]
  show Zj _ _ _=_
  rw[Yi q1,Yi q2,q3]
  show _=some (Out.nx [some R,some (.lst (tL (Wb m w (Tc m X (p+1)).1))),some (.int (Tc m X (p+1)).2),_,_])
  rw[hs1,hs2])
 subst hs;rw[Vw] at f1
 have e3:Z0 [1] (ZL [(Ze ZG [(Za 0)])]) (.one 3) fb (st 0 none none)=some (.nx (st m x3 x4)):=by
  show(ZL [(Ze ZG [(Za 0)])] (ZE [1] (st 0 none none))).bind _=_
  have:Ze ZG [(Za 0)] (ZE [1] (st 0 none none))=some (.int (m:Int)):=by
   rcases hR with rfl | rfl
   ·show some (PV.int ((tL (Wb m w X)).length:Int))=_
    rw[M7]
   ·show some (PV.int ((tL (Wb m w X)).length:Int))=_
    rw[M7]
  rw[Ya (n:=m) this (by omega)];exact f1
 show Xy 5 Se _=_
 unfold Se
 show(Zj _ _ [some R,none,none,none,none]).bind Xh=_
 rw[Yi e1,Yi e2,Yi e3];rfl
def Yz(b i:Nat):Nat:=if i<b then i else i+1
def Gd(b h:Nat):Nat:=if h<b then h else h-1
theorem Hv(b i:Nat):Yz b i≠b:=by unfold Yz;split<;>omega
theorem Xk{b i m:Nat}(h:i<m):Yz b i<m+1:=by unfold Yz;split<;>omega
theorem Km(b i:Nat):Gd b (Yz b i)=i:=by unfold Gd Yz;split<;>(try split)<;>omega
theorem Kn{b h:Nat}(q:h≠b):Yz b (Gd b h)=h:=by unfold Gd Yz;split<;>(try split)<;>omega
theorem UD{n b:Nat}(hn:n<=7)(hb:b<n):(List.range n).filter (fun h=>!decide (h=b))=(List.range (n-1)).map (Yz b):=by
 have:∀n,n<8->∀b,b<8->b<n->(List.range n).filter (fun h=>!decide (h=b))=(List.range (n-1)).map (Yz b):=by decide
 exact this n (by omega) b (by omega) hb
theorem M8{f:Nat->Int}{b:Nat}(h0:f b=0):∀{m:Nat},b<m+1->sN (m+1) f=sN m (fun i=>f (Yz b i))
 | 0,h=>by
  have:b=0:=by omega
  subst this
  show 0+f 0=0
  rw[h0];rfl
 | m+1,h=>by
  by_cases q:b=m+1
  ·subst q
   show sN (m+1) f+f (m+1)=_
   rw[h0,Int.add_zero]
   exact Zq fun i hi=>by unfold Yz;rw[if_pos hi]
  ·show sN (m+1) f+f (m+1)=sN m (fun i=>f (Yz b i))+f (Yz b m)
   rw[M8 h0 (m:=m) (by omega),show Yz b m=m+1 by unfold Yz;rw[if_neg (by omega)]]
theorem UE{f:Nat->Int}:∀{n:Nat},(∀i,i<n->0<=f i)->sN n f<=0->∀i,i<n->f i=0
 | 0,_,_,i,h=>by omega
 | n+1,h,s,i,hi=>by
  have s:sN n f+f n<=0:=s
  have h1:0<=sN n f:=by
   have:∀k,k<=n->0<=sN k f:=by
    intro k
    induction k with
    | zero=>intro _;exact Int.le_refl 0
    | succ k ih=>intro hk;have:=ih (by omega);have:=h k (by omega);show 0<=sN k f+f k;omega
   exact this n (Nat.le_refl n)
  have h2:=h n (by omega)
  by_cases q:i=n
  ·subst q;omega
  ·exact UE (n:=n) (fun i hi=>h i (by omega)) (by omega) i (by omega)
theorem QL(Y:Nat->Int):∀{n:Nat},0<n->∃h,h<n/\∀g,g<n->Y h<=Y g
 | 0,h=>by omega
 | 1,_=>⟨0,by omega,fun g hg=>by rw[show g=0 by omega];exact Int.le_refl _⟩
 | n+2,_=>by
  obtain⟨h,h1,h2⟩:=QL Y (n:=n+1) (by omega)
  by_cases q:Y h<=Y (n+1)
  ·exact⟨h,by omega,fun g hg=>by
    by_cases e:g=n+1
    ·rw[e];exact q
    ·exact h2 g (by omega)⟩
  ·exact⟨n+1,by omega,fun g hg=>by
    by_cases e:g=n+1
    ·rw[e];exact Int.le_refl _
    ·have:=h2 g (by omega);omega⟩
def gN(W:List (List Int))(Y:Nat->Int)(h:Nat):Int:=sN W.length (fun g=>ZM W h g*(Y g-Y h))
theorem Hw{W:List (List Int)}(ok:WebOk W)(cn:Ts W){Y:Nat->Int}{b:Nat}(hb:b<W.length)(hyp:∀h,h<W.length->h≠b->Y h<Y b->gN W Y h<=0):∀h,h<W.length->Y b<=Y h:=by
 intro h hh
 refine Int.not_lt.mp fun hlt=>?_
 obtain⟨h0,l0,m0⟩:=QL Y (n:=W.length) (by omega)
 have lt0:Y h0<Y b:=by have:=m0 h hh;omega
 have step:∀a c,a<W.length->c<W.length->0<ZM W a c->Y a=Y h0->Y c=Y h0:=fun a c ha hc hp ea=>by
  have s:=hyp a ha (fun z=>by rw[z] at ea;omega) (by omega)
  have t:=UE (f:=fun g=>ZM W a g*(Y g-Y a)) (fun g hg=>Int.mul_nonneg (ok.lo a g ha hg) (by have:=m0 g hg;omega)) s c hc
  have:Y c-Y a=0:=by
   rcases Int.mul_eq_zero.mp t with z | z
   ·omega
   ·exact z
  omega
 have:=(cn (fun x=>Y x=Y h0) (fun a c ha hc hp=>⟨step a c ha hc hp,step c a hc ha (by rw[ok.sym c a hc ha];exact hp)⟩) h0 b l0 hb).mp rfl
 omega
theorem Hy{W:List (List Int)}(c:Int)(Y:Nat->Int)(h:Nat):gN W (fun x=>c*Y x) h=c*gN W Y h:=by
 unfold gN;rw[<-Y7]
 exact Zq fun g _=>by
  show ZM W h g*(c*Y g-c*Y h)=_
  rw[<-Int.mul_sub,Int.mul_left_comm]
def YS(W:List (List Int))(b:Nat):Mt:=fun i j=>if Yz b j=Yz b i then(Zt W (Yz b i)).sum else-ZM W (Yz b i) (Yz b j)
def Rw(W:List (List Int))(b:Nat)(c:Nat->Int):Mt:=fun i j=>if j<W.length-1 then YS W b i j else c (Yz b i)
theorem M9{W:List (List Int)}(ok:WebOk W){b:Nat}(hb:b<W.length){Y:Nat->Int}(h0:Y b=0){k:Nat}(hk:k<W.length-1):gN W Y (Yz b k) = - sN (W.length-1) (fun i=>YS W b k i*Y (Yz b i)):=by
 have hp:=ok.pos
 obtain⟨m,hm⟩:∃m,W.length=m+1:=⟨W.length-1,by omega⟩
 have hm1:W.length-1=m:=by omega
 rw[hm1] at hk ⊢
 generalize hh:Yz b k=h
 have hhn:h<W.length:=by rw[hm,<-hh];exact Xk hk
 have e1:sN m (fun i=>YS W b k i*Y (Yz b i))=sN (m+1) (fun g=>(if g=h then(Zt W h).sum else-ZM W h g)*Y g):=by
  rw[M8 (b:=b) (f:=fun g=>(if g=h then(Zt W h).sum else-ZM W h g)*Y g) (by rw[h0,Int.mul_zero]) (by omega)]
  exact Zq fun i _=>by unfold YS;rw[hh]
 have e2:sN (m+1) (fun g=>(if g=h then(Zt W h).sum else-ZM W h g)*Y g)=(-1)*sN (m+1) (fun g=>ZM W h g*Y g)+(Zt W h).sum*Y h:=by
  have:sN (m+1) (fun g=>if g=h then(Zt W h).sum*Y h else 0)=(Zt W h).sum*Y h:=by
   rw[YL (k:=h) (by omega) fun i _ hi=>if_neg hi,if_pos rfl]
  rw[<-this,<-Y7,<-Y6]
  refine Zq fun g hg=>?_
  by_cases q:g=h
  ·subst q
   rw[if_pos rfl,if_pos rfl,ok.dia g hhn];omega
  ·rw[if_neg q,if_neg q,Int.neg_mul,Int.neg_mul,Int.one_mul];omega
 have e3:(Zt W h).sum=sN (m+1) (fun g=>ZM W h g):=by rw[U1 ok hhn,Ue,hm]
 have e4:gN W Y h=sN (m+1) (fun g=>ZM W h g*Y g)+(- Y h)*sN (m+1) (fun g=>ZM W h g):=by
  unfold gN;rw[hm,<-Y7,<-Y6]
  exact Zq fun g _=>by rw[Int.mul_sub,Int.mul_comm (- Y h),Int.mul_neg];omega
 rw[e4,e1,e2,e3,Int.mul_comm (sN (m+1) fun g=>ZM W h g) (Y h),Int.neg_mul];omega
theorem Hz{W:List (List Int)}(ok:WebOk W)(cn:Ts W){b:Nat}(hb:b<W.length)(c:Nat->Int):D4 (W.length-1) (YS W b) (Rw W b c):=by
 have hp:=ok.pos
 obtain⟨m,hm⟩:∃m,W.length=m+1:=⟨W.length-1,by omega⟩
 have hm1:W.length-1=m:=by omega
 have sym:∀i j,i<m->j<m->YS W b i j=YS W b j i:=fun i j hi hj=>by
  unfold YS
  by_cases q:Yz b j=Yz b i
  ·rw[if_pos q,if_pos q.symm,q]
  ·rw[if_neg q,if_neg (fun z=>q z.symm),ok.sym _ _ (by rw[hm];exact Xk hi) (by rw[hm];exact Xk hj)]
 rw[hm1]
 refine⟨sym,fun p hp' z hz k hk=>?_,fun i j hi hj=>by unfold Rw;rw[hm1,if_pos hj]⟩
 obtain⟨Z,hZ⟩:∃Z:Nat->Int,∀h,Z h=if h=b then 0 else if Gd b h<p then z (Gd b h) else 0:=⟨_,fun _=>rfl⟩
 have Zb:Z b=0:=by rw[hZ,if_pos rfl]
 have Zo:∀i,Z (Yz b i)=if i<p then z i else 0:=fun i=>by rw[hZ,if_neg (Hv b i),Km]
 have flat:∀j,j<p->gN W Z (Yz b j)=0:=fun j hj=>by
  rw[M9 ok hb Zb (by omega),hm1]
  have e:sN m (fun i=>YS W b j i*Z (Yz b i))=sN p (fun k=>z k*YS W b k j):=by
   rw[Tt (q:=p) hp' fun k h1 h2=>by rw[Zo,if_neg (by omega),Int.mul_zero]]
   exact Zq fun k hk=>by rw[Zo,if_pos hk,sym j k (by omega) (by omega),Int.mul_comm]
  rw[e,hz j hj];rfl
 have off:∀h,h<W.length->Z h≠0->gN W Z h=0:=fun h hh ne=>by
  have hb':h≠b:=fun z=>ne (by rw[z];exact Zb)
  have hi:Gd b h<p:=by
   refine Nat.not_le.mp fun q=>ne ?_
   rw[hZ,if_neg hb',if_neg (by omega)]
  have:=flat _ hi
  rw[Kn hb'] at this;exact this
 have up:=Hw ok cn (Y:=Z) hb (fun h hh _ hlt=>by rw[off h hh (by rw[Zb] at hlt;omega)];exact Int.le_refl _)
 have dn:=Hw ok cn (Y:=fun x=>(-1)*Z x) hb (fun h hh _ hlt=>by
  simp only[Zb] at hlt
  rw[Hy,off h hh (by omega)];decide)
 have h1:=up (Yz b k) (by rw[hm];exact Xk (by omega))
 have h2:=dn (Yz b k) (by rw[hm];exact Xk (by omega))
 simp only[Zb,Zo,if_pos hk] at h1 h2
 omega
theorem SX{W:List (List Int)}{h m:Nat}{f:Nat->Nat}(ok:WebOk W)(hh:h<W.length)(hm:m<=6)(hf:∀i,i<m->f i<W.length) :
  WN [wP W,.int (h:Int),.lst (iL (nL ((List.range m).map f)))]=some (pP (Yd m fun j=>if f j=h then(Zt W h).sum else-ZM W h (f j))):=by
 have hc:Zu 1 [1,0] (YM (Za 2)) (.one 0) ZH (Oz (xB (Zg (Yc false) (Za 0) (Za 1))) (Ze X6 [(Za 2),(Za 1)]) (Ml Rk (Zg ZA (Zg ZA (Za 2) (Za 1)) (Za 0)))) [some (wP W),some (.int (h:Int)),some (.lst (iL (nL ((List.range m).map f))))]=some (.lst (iL (Yd m fun j=>if f j=h then(Zt W h).sum else-ZM W h (f j)))):=by
  rw[ZQ (List.range m) (fun(j:Nat)=>.int ((f j:Nat):Int)) (fun j=>.int (if f j=h then(Zt W h).sum else-ZM W h (f j))) (by simp[nL]) (by simp;omega) (fun j hj=>⟨[some (.int ((f j:Nat):Int)),some (.int (h:Int)),some (wP W)],rfl,rfl,?_⟩)]
  ·simp[Yd]
  ·have hj:=List.mem_range.mp hj
   have hfj:=hf j hj
   by_cases q:f j=h
   ·have t:xB (Zg (Yc false) (Za 0) (Za 1)) [some (.int ((f j:Nat):Int)),some (.int (h:Int)),some (wP W)]=some true:=by simp[q]
    rw[if_pos q];rw[V3,t]
    exact QB hh
   ·have q':¬((f j:Nat):Int)=(h:Int):=by omega
    have t:xB (Zg (Yc false) (Za 0) (Za 1)) [some (.int ((f j:Nat):Int)),some (.int (h:Int)),some (wP W)]=some false:=by simp[q']
    rw[if_neg q];rw[V3,t]
    have:=Vl (l:=Zt W h) (k:=f j) (by rw[ok.sq h hh];exact hfj)
    simp[RH hh,this,Rk];rfl
 show Xy 3 Vy _=_
 unfold Vy
 show(Z4 _ [some (wP W),some (.int (h:Int)),some (.lst (iL (nL ((List.range m).map f))))]).bind Xh=_
 rw[VB (v:=pP (Yd m fun j=>if f j=h then(Zt W h).sum else-ZM W h (f j))) (by rw[Xa,Yu,ZP,hc];exact FF)]
 rfl
theorem Ve{W:List (List Int)}{b:Nat}(ok:WebOk W)(hb:b<W.length) :
  YX [wP W,.int (b:Int)]=some (wP (Wb (W.length-1) (W.length-1) (YS W b))):=by
 have hp:=ok.pos;have hf:=ok.few
 obtain⟨m,hm⟩:∃m,W.length=m+1:=⟨W.length-1,by omega⟩
 have hm1:W.length-1=m:=by omega
 rw[hm1]
 let os:=(List.range m).map (Yz b)
 have fo:∀i,i<m->Yz b i<W.length:=fun i hi=>by rw[hm];exact Xk hi
 have e1:Zk 2 (Zu 1 [1] (ZL [(Ze ZG [(Za 0)])]) (.one 0) (xB (Zg (Yc true) (Za 0) (Za 1))) (eP (Za 0))) [some (wP W),some (.int (b:Int)),none]=some (.nx [some (wP W),some (.int (b:Int)),some (.lst (iL (nL os)))]):=by
  have hc:Zu 1 [1] (ZL [(Ze ZG [(Za 0)])]) (.one 0) (xB (Zg (Yc true) (Za 0) (Za 1))) (eP (Za 0)) [some (wP W),some (.int (b:Int)),none]=some (.lst (iL (nL os))):=by
   rw[Wy (List.range W.length) (fun(i:Nat)=>.int (i:Int)) (fun(i:Nat)=>.int (i:Int)) (fun h=>!decide (h=b)) (Ya (n:=W.length) (by simp) (by omega)) (by simp;omega) fun y hy=>⟨[some (.int (y:Int)),some (.int (b:Int))],rfl,?_,fun _=>by simp⟩]
   ·rw[UD hf hb,hm1]
    simp[nL,os]
   ·by_cases q:y=b
    ·simp[q]
    ·have q':¬(y:Int)=(b:Int):=by omega
     simp[q,q']
  rw[Zv,hc];rfl
 have hc:Zu 1 [0,2] (YM (Za 2)) (.one 0) ZH (Ze WN [(Za 1),(Za 0),(Za 2)]) [some (wP W),some (.int (b:Int)),some (.lst (iL (nL os)))]=some (.lst (tL (Wb m m (YS W b)))):=by
  rw[ZQ (List.range m) (fun(i:Nat)=>.int ((Yz b i:Nat):Int)) (fun i=>pP (Yd m (YS W b i))) (by simp[nL,os]) (by simp;omega) (fun i hi=>⟨[some (.int ((Yz b i:Nat):Int)),some (wP W),some (.lst (iL (nL os)))],rfl,rfl,?_⟩),QK]
  exact SX (f:=Yz b) ok (fo i (List.mem_range.mp hi)) (by omega) fo
 show Xy 3 Yv _=_
 unfold Yv
 show(Zj _ _ [some (wP W),some (.int (b:Int)),none]).bind Xh=_
 rw[Yi e1,VB (v:=wP (Wb m m (YS W b))) (by
  rw[Xa,Yu,ZP,hc]
  show(if ZN (wP (Wb m m (YS W b)))=true then some (wP (Wb m m (YS W b))) else none)=_
  rw[if_pos (by rw[US];exact T8 _)])]
 rfl
theorem Ko{f:Nat->Int}:∀{n:Nat},(∀i,i<n->0<=f i/\f i<=9)->0<=sN n f/\sN n f<=9*n
 | 0,_=>⟨Int.le_refl _,by show(0:Int)<=_;omega⟩
 | n+1,h=>by
  obtain⟨a,b⟩:=Ko (n:=n) fun i hi=>h i (by omega)
  have:=h n (by omega)
  refine⟨?_,?_⟩
  ·show 0<=sN n f+f n;omega
  ·show sN n f+f n<=_;omega
theorem P0{W:List (List Int)}(ok:WebOk W){b:Nat}{c:Nat->Int}{i j:Nat}(hi:i<W.length-1)(hj:j<W.length-1):(Rw W b c i j).natAbs<=2^7:=by
 have hp:=ok.pos;have hf:=ok.few
 have h1:Yz b i<W.length:=by have:=Xk (b:=b) hi;omega
 have h2:Yz b j<W.length:=by have:=Xk (b:=b) hj;omega
 unfold Rw YS;rw[if_pos hj]
 split
 ·rw[U1 ok h1,Ue]
  obtain⟨a,b⟩:=Ko (f:=fun j=>ZM W (Yz b i) j) (n:=W.length) fun j hj=>⟨ok.lo _ j h1 hj,ok.hi _ j h1 hj⟩
  omega
 ·have:=ok.lo _ _ h1 h2
  have:=ok.hi _ _ h1 h2
  omega
end PW
namespace PW
theorem put_self(k:Nat)(A:Mt):put k (A k) A=A:=by funext r;unfold put;split<;>simp_all
theorem Ug{n k:Nat}{A:Mt}{u v:Nat->Int}(hk:k<n):Z7 n (put k (fun c=>u c+v c) A)=Z7 n (put k u A)+Z7 n (put k v A):=by
 have:=We (n:=n) (A:=A) (u:=u) (v:=v) (x:=1) (y:=1) hk
 simpa using this
theorem Kp{n k:Nat}{A:Mt}{u:Nat->Int}(hk:k<n):Z7 n (put k (fun c=>- u c) A) = - Z7 n (put k u A):=by
 have:=We (n:=n) (A:=A) (u:=u) (v:=u) (x:=-1) (y:=0) hk
 simpa using this
theorem O4{n k:Nat}{A:Mt}{u v:Nat->Int}(hk:k<n):Z7 n (put k (fun c=>u c-v c) A)=Z7 n (put k u A)-Z7 n (put k v A):=by
 have:=We (n:=n) (A:=A) (u:=u) (v:=v) (x:=1) (y:=-1) hk
 have e:(fun c=>1*u c + -1*v c)=fun c=>u c-v c:=by funext c;omega
 rw[e] at this;omega
theorem HA{n k:Nat}{A:Mt}(hk:k<n)(h:∀c,c<n->A k c=0):Z7 n A=0:=by
 have:=We (n:=n) (A:=A) (u:=A k) (v:=A k) (x:=0) (y:=0) hk
 rw[Yb (B:=A) (n:=n) fun r c hr hc=>?_] at this
 ·simpa using this
 ·unfold put
  split
  ·rename_i q;subst q;rw[h c hc];simp
  ·rfl
theorem SY{n k j:Nat}{A:Mt}{u:Nat->Int}(hk:k<n)(hj:j<n)(hkj:j≠k)(h:∀c,c<n->u c=A j c):Z7 n (put k u A)=0:=
 UB hk hj (Ne.symm hkj) fun c hc=>by rw[ZV,Xw _ _ hkj];exact h c hc
theorem Xl{k j:Nat}(h:k≠j)(u v:Nat->Int)(A:Mt):put k u (put j v A)=put j v (put k u A):=by
 funext r
 unfold put
 by_cases q:r=k
 ·subst q;simp[h]
 ·simp[q]
theorem HB{n k j:Nat}{A:Mt}{u v:Nat->Int}(hk:k<n)(hj:j<n)(h:k≠j):Z7 n (put k u (put j v A)) = - Z7 n (put k v (put j u A)):=by
 have same:∀w:Nat->Int,Z7 n (put k w (put j w A))=0:=fun w=>UB hk hj h fun c _=>by rw[ZV,Xw _ _ (Ne.symm h),ZV]
 have z:=same (fun c=>u c+v c)
 rw[Ug hk,Xl h,Ug hj,Xl h,Ug hj,<-Xl h,<-Xl h,<-Xl h,<-Xl h,same,same] at z;omega
theorem N1{n q:Nat}{A B:Mt}{k:Nat->Int}(hq:q<n)(h0:∀c,c<n->B q c=A q c)(h:∀r c,r<n->c<n->r≠q->B r c=A r c+k r*A q c):Z7 n B=Z7 n A:=by
 have go:∀t,t<=n->Z7 n (fun r=>if r<t then B r else A r)=Z7 n A:=by
  intro t
  induction t with
  | zero=>intro _;exact Yb fun r c _ _=>by simp
  | succ t ih=>
   intro ht;rw[<-ih (by omega)]
   by_cases e:t=q
   ·subst e
    refine Yb fun r c hr hc=>?_
    by_cases z:r<t
    ·rw[if_pos (by omega),if_pos z]
    ·by_cases z2:r=t
     ·subst z2;rw[if_pos (by omega),if_neg (by omega)];exact h0 c hc
     ·rw[if_neg (by omega),if_neg z]
   ·have e1:Z7 n (fun r=>if r<t+1 then B r else A r)=Z7 n (put t (fun c=>(1:Int)*A t c+k t*A q c) (fun r=>if r<t then B r else A r)):=by
     refine Yb fun r c hr hc=>?_
     unfold put
     by_cases z2:r=t
     ·subst z2
      rw[if_pos rfl];rw[if_pos (by omega),h r c hr hc e,Int.one_mul]
     ·rw[if_neg z2]
      show(if r<t+1 then B r else A r) c=(if r<t then B r else A r) c
      by_cases z:r<t
      ·rw[if_pos (by omega),if_pos z]
      ·rw[if_neg (by omega),if_neg z]
    rw[e1,We (by omega)]
    have e2:put t (A t) (fun r=>if r<t then B r else A r)=fun r=>if r<t then B r else A r:=by
     have:=put_self t (fun r=>if r<t then B r else A r)
     simp only[Nat.lt_irrefl,if_false] at this;exact this
    rw[e2,SY (j:=q) (by omega) hq (Ne.symm e) (fun c hc=>by
     split
     ·rw[h0 c hc]
     ·rfl)]
    omega
 rw[<-go n (Nat.le_refl n)]
 exact Yb fun r c hr _=>by rw[if_pos hr]
abbrev ZF:=Nat×Nat
def Z8(a b:Nat):Int:=if a=b then 1 else 0
theorem Z9(a:Nat):Z8 a a=1:=if_pos rfl
theorem Z5{a b:Nat}(h:a≠b):Z8 a b=0:=if_neg h
def dl(e:ZF)(y:Nat):Int:=Z8 e.1 y-Z8 e.2 y
def mrg(P:Nat->Nat)(a b:Nat):Nat->Nat:=fun x=>if P x=P b then P a else P x
theorem ZS(P:Nat->Nat)(a b x y:Nat):mrg P a b x=mrg P a b y↔P x=P y\/((P x=P a\/P x=P b)/\(P y=P a\/P y=P b)):=by
 unfold mrg
 split<;>split<;>omega
def YQ:List ZF->(Nat->Nat)->Nat->Nat
 | [],_,0=>1
 | [],_,_+1=>0
 | e::E,P,0=>YQ E P 0
 | e::E,P,s+1=>(if P e.1=P e.2 then 0 else YQ E (mrg P e.1 e.2) s)+YQ E P (s+1)
def Eqv(n:Nat)(P Q:Nat->Nat):Prop:=∀x y,x<n->y<n->(P x=P y↔Q x=Q y)
theorem Eqv.mrg{n:Nat}{P Q:Nat->Nat}(h:Eqv n P Q){a b:Nat}(ha:a<n)(hb:b<n):Eqv n (mrg P a b) (PW.mrg Q a b):=fun x y hx hy=>by
 rw[ZS,ZS,h x y hx hy,h x a hx ha,h x b hx hb,h y a hy ha,h y b hy hb]
def InN(n:Nat)(E:List ZF):Prop:=∀e∈E,e.1<n/\e.2<n
theorem Xb{n:Nat}:∀{E:List ZF}{P Q:Nat->Nat}{s:Nat},InN n E->Eqv n P Q->YQ E P s=YQ E Q s
 | [],P,Q,0,_,_=>rfl
 | [],P,Q,s+1,_,_=>rfl
 | e::E,P,Q,0,hE,h=>Xb (E:=E) (fun f hf=>hE f (by simp[hf])) h
 | e::E,P,Q,s+1,hE,h=>by
  have he:=hE e (by simp)
  have hE':InN n E:=fun f hf=>hE f (by simp[hf])
  show(if P e.1=P e.2 then 0 else _)+_=(if Q e.1=Q e.2 then 0 else _)+_
  rw[Xb hE' (h.mrg he.1 he.2),Xb hE' h]
  by_cases q:P e.1=P e.2
  ·rw[if_pos q,if_pos ((h _ _ he.1 he.2).mp q)]
  ·rw[if_neg q,if_neg fun z=>q ((h _ _ he.1 he.2).mpr z)]
def Sk(P:Nat->Nat)(E:List ZF)(x y:Nat):Int:=(E.map fun e=>(Z8 (P e.1) x-Z8 (P e.2) x)*dl e y).sum
def Ym(P:Nat->Nat)(E:List ZF):Mt:=fun r c=>if P (r+1)=r+1 then Sk P E (r+1) (c+1) else Z8 (r+1) (c+1)-Z8 (P (r+1)) (c+1)
structure RepOk(m:Nat)(P:Nat->Nat):Prop where
 le:∀x,x<=m->P x<=m
 rep:∀x,x<=m->P (P x)=P x
 root:P 0=0
theorem XI(P:Nat->Nat)(e:ZF)(E:List ZF)(x y:Nat):Sk P (e::E) x y=(Z8 (P e.1) x-Z8 (P e.2) x)*dl e y+Sk P E x y:=by
 unfold Sk;rw[List.map_cons,List.sum_cons]
theorem JA(P:Nat->Nat)(a b:Nat)(E:List ZF)(x y:Nat):Sk P ((a,b)::E) x y=Sk P ((b,a)::E) x y:=by
 rw[XI,XI]
 congr 1
 unfold dl
 simp only
 rw[<-Int.neg_mul_neg]
 congr 1<;>omega
theorem JB(P:Nat->Nat)(a b:Nat)(E:List ZF):Ym P ((a,b)::E)=Ym P ((b,a)::E):=by
 funext r c
 unfold Ym;rw[JA]
theorem QM{P:Nat->Nat}{a b:Nat}{E:List ZF}{x y:Nat}(h:P a≠P b):Sk (mrg P a b) E x y=if x=P a then Sk P E (P a) y+Sk P E (P b) y else if x=P b then 0 else Sk P E x y:=by
 have key:∀u:Nat,Z8 (mrg P a b u) x=if x=P a then Z8 (P u) (P a)+Z8 (P u) (P b) else if x=P b then 0 else Z8 (P u) x:=fun u=>by
  unfold mrg Z8
  split<;>split<;>(try split)<;>(try split)<;>omega
 unfold Sk
 induction E with
 | nil=>simp
 | cons e E ih=>
  rw[List.map_cons,List.sum_cons,ih,key,key];simp only[List.map_cons,List.sum_cons]
  by_cases q:x=P a
  ·simp only[if_pos q]
   have:(Z8 (P e.1) (P a)+Z8 (P e.1) (P b)-(Z8 (P e.2) (P a)+Z8 (P e.2) (P b)))*dl e y=(Z8 (P e.1) (P a)-Z8 (P e.2) (P a))*dl e y+(Z8 (P e.1) (P b)-Z8 (P e.2) (P b))*dl e y:=by
    rw[<-Int.add_mul];congr 1;omega
   rw[this];omega
  ·simp only[if_neg q]
   by_cases q2:x=P b
   ·simp only[if_pos q2];simp
   ·simp only[if_neg q2]
theorem RepOk.mrg{m:Nat}{P:Nat->Nat}(ok:RepOk m P){a b:Nat}(ha:a<=m)(hb:b<=m)(hq:P b≠0)(hne:P a≠P b):RepOk m (mrg P a b):=by
 have pa:=ok.rep a ha;have pb:=ok.rep b hb;have la:=ok.le a ha
 refine⟨fun x hx=>?_,fun x hx=>?_,?_⟩
 ·unfold PW.mrg
  split
  ·exact la
  ·exact ok.le x hx
 ·have px:=ok.rep x hx
  unfold PW.mrg
  by_cases q:P x=P b
  ·rw[if_pos q,pa,if_neg hne]
  ·rw[if_neg q,px,if_neg q]
 ·unfold PW.mrg
  rw[ok.root,if_neg (Ne.symm hq)]
theorem O5{P:Nat->Nat}{E:List ZF}{x:Nat}(h0:x≠0)(h:P x≠x)(c:Nat):Ym P E (x-1) c=Z8 x (c+1)-Z8 (P x) (c+1):=by
 unfold Ym;rw[show x-1+1=x by omega,if_neg h]
theorem Wf{P:Nat->Nat}{E:List ZF}{x:Nat}(h0:x≠0)(h:P x=x)(c:Nat):Ym P E (x-1) c=Sk P E x (c+1):=by
 unfold Ym;rw[show x-1+1=x by omega,if_pos h]
theorem FH(c:Nat):Z8 0 (c+1)=0:=Z5 (by omega)
theorem P4{m:Nat}{P:Nat->Nat}{E:List ZF}(ok:RepOk m P){k a:Nat}{u:Nat->Int}(hk:k<m)(ha:a<=m)(hka:k+1≠a\/P a=a) :
  Z7 m (put k (fun c=>u c+Z8 a (c+1)) (Ym P E))=Z7 m (put k (fun c=>u c+Z8 (P a) (c+1)) (Ym P E)):=by
 by_cases q:P a=a
 ·rw[q]
 ·have hka:k+1≠a:=hka.resolve_right q
  have a0:a≠0:=fun z=>q (by rw[z];exact ok.root)
  have e:(fun c=>u c+Z8 a (c+1))=fun c=>(u c+Z8 (P a) (c+1))+(Z8 a (c+1)-Z8 (P a) (c+1)):=by funext c;omega
  rw[e,Ug hk,SY (j:=a-1) (A:=Ym P E) hk (by omega) (by omega) fun c _=>(O5 a0 q c).symm];omega
theorem QN{m:Nat}{P:Nat->Nat}{E:List ZF}(ok:RepOk m P){k a:Nat}{u:Nat->Int}(hk:k<m)(ha:a<=m)(hka:k+1≠a\/P a=a) :
  Z7 m (put k (fun c=>u c-Z8 a (c+1)) (Ym P E))=Z7 m (put k (fun c=>u c-Z8 (P a) (c+1)) (Ym P E)):=by
 by_cases q:P a=a
 ·rw[q]
 ·have hka:k+1≠a:=hka.resolve_right q
  have a0:a≠0:=fun z=>q (by rw[z];exact ok.root)
  have e:(fun c=>u c-Z8 a (c+1))=fun c=>(u c-Z8 (P a) (c+1))-(Z8 a (c+1)-Z8 (P a) (c+1)):=by funext c;omega
  rw[e,O4 hk,SY (j:=a-1) (A:=Ym P E) hk (by omega) (by omega) fun c _=>(O5 a0 q c).symm];omega
theorem P5{m:Nat}{P:Nat->Nat}{E:List ZF}{a b:Nat}(ok:RepOk m P)(ha:a<=m)(hb:b<=m)(hp:P a=0)(hq:P b≠0) :
  Z7 m (Ym P ((a,b)::E))=Z7 m (Ym P E)+Z7 m (Ym (mrg P a b) E):=by
 have lb:=ok.le b hb;have rb:=ok.rep b hb
 generalize hqq:P b=q at hq lb rb
 have e1:Z7 m (Ym P ((a,b)::E))=Z7 m (put (q-1) (fun c=>Ym P E (q-1) c+(Z8 b (c+1)-Z8 a (c+1))) (Ym P E)):=by
  refine Yb fun r c hr hc=>?_
  unfold put
  by_cases z:r=q-1
  ·rw[if_pos z,z,Wf hq rb,Wf hq rb,XI]
   simp only[dl,hp,hqq];rw[Z5 (Ne.symm hq),Z9];omega
  ·rw[if_neg z]
   unfold Ym
   split
   ·rw[XI]
    simp only[hp,hqq];rw[Z5 (by omega),Z5 (by omega)]
    simp
   ·rfl
 rw[e1,Ug (by omega)];rw[show put (q-1) (fun c=>Ym P E (q-1) c) (Ym P E)=Ym P E from put_self _ _]
 congr 1
 have ka:q-1+1≠a\/P a=a:=by
  by_cases z:q-1+1=a
  ·exact absurd (show P a=q by rw[<-z,show q-1+1=q by omega];exact rb) (by omega)
  ·exact .inl z
 have kb:q-1+1≠b\/P b=b:=by
  by_cases z:q-1+1=b
  ·exact .inr (by rw[hqq];omega)
  ·exact .inl z
 rw[QN (u:=fun c=>Z8 b (c+1)) ok (by omega) ha ka,hp]
 have e2:(fun c=>Z8 b (c+1)-Z8 0 (c+1))=fun c=>0+Z8 b (c+1):=by funext c;rw[FH];omega
 rw[e2,P4 (u:=fun _=>0) ok (by omega) hb kb,hqq]
 symm
 refine N1 (q:=q-1) (k:=fun r=>if P (r+1)=q/\r+1≠q then 1 else 0) (by omega) (fun c hc=>?_) (fun r c hr hc hrq=>?_)
 ·rw[ZV]
  rw[O5 (P:=mrg P a b) hq (by unfold PW.mrg;rw[rb,hqq,if_pos rfl,hp];exact Ne.symm hq)]
  have:mrg P a b q=0:=by unfold PW.mrg;rw[rb,hqq,if_pos rfl,hp]
  rw[this,FH];omega
 ·rw[Xw _ _ hrq,ZV]
  have hx:r+1≠q:=by omega
  unfold Ym
  have mx:mrg P a b (r+1)=if P (r+1)=q then 0 else P (r+1):=by unfold PW.mrg;rw[hqq,hp]
  by_cases z:P (r+1)=q
  ·have k1:(if P (r+1)=q/\r+1≠q then(1:Int) else 0)=1:=if_pos ⟨z,hx⟩
   rw[k1,mx,if_pos z,if_neg (by omega),z,if_neg (by omega),FH];omega
  ·have k0:(if P (r+1)=q/\r+1≠q then(1:Int) else 0)=0:=if_neg fun y=>z y.1
   rw[k0,mx,if_neg z]
   split
   ·rw[QM (by rw[hp,hqq];omega),hp,hqq,if_neg (by omega),if_neg hx];omega
   ·omega
theorem FI{m i j:Nat}{M:Mt}{d:Nat->Int}(hi:i<m)(hj:j<m)(h:i≠j) :
  Z7 m (put i (fun c=>M i c+d c) (put j (fun c=>M j c-d c) M))=Z7 m M+Z7 m (put i d M)-Z7 m (put j d M):=by
 rw[Ug hi,Xl h,O4 hj,Xl h d,O4 hj]
 have s1:put j (fun c=>M j c) (put i (fun c=>M i c) M)=M:=by
  rw[show put i (fun c=>M i c) M=M from put_self _ _];exact put_self _ _
 have s2:put j d (put i (fun c=>M i c) M)=put j d M:=by
  rw[show put i (fun c=>M i c) M=M from put_self _ _]
 have s3:put j (fun c=>M j c) (put i d M)=put i d M:=by
  rw[<-Xl h,show put j (fun c=>M j c) M=M from put_self _ _]
 have s4:Z7 m (put j d (put i d M))=0:=UB (i:=j) (j:=i) hj hi (Ne.symm h) fun c _=>by rw[ZV,Xw _ _ h,ZV]
 rw[s1,s2,s3,s4];omega
theorem HC{m:Nat}{P:Nat->Nat}{E:List ZF}{a b:Nat}(ok:RepOk m P)(ha:a<=m)(hb:b<=m)(hp:P a≠0)(hq:P b≠0)(hne:P a≠P b) :
  Z7 m (Ym P ((a,b)::E))=Z7 m (Ym P E)+Z7 m (Ym (mrg P a b) E):=by
 have la:=ok.le a ha;have ra:=ok.rep a ha;have lb:=ok.le b hb;have rb:=ok.rep b hb
 generalize hpp:P a=p at hp la ra hne
 generalize hqq:P b=q at hq lb rb hne
 have hpq:p-1≠q-1:=by omega
 let M:=Ym P E
 let d:Nat->Int:=fun c=>Z8 a (c+1)-Z8 b (c+1)
 let d':Nat->Int:=fun c=>Z8 p (c+1)-Z8 q (c+1)
 have e1:Z7 m (Ym P ((a,b)::E))=Z7 m (put (p-1) (fun c=>M (p-1) c+d c) (put (q-1) (fun c=>M (q-1) c-d c) M)):=by
  refine Yb fun r c hr hc=>?_
  unfold put
  by_cases z:r=p-1
  ·rw[if_pos z,z,Wf hp ra]
   show _=Ym P E (p-1) c+d c
   rw[Wf hp ra,XI];simp only[dl,hpp,hqq];rw[Z5 (Ne.symm hne),Z9]
   show(1-0)*(Z8 a (c+1)-Z8 b (c+1))+_=_+(Z8 a (c+1)-Z8 b (c+1))
   omega
  ·rw[if_neg z]
   by_cases z2:r=q-1
   ·rw[if_pos z2,z2,Wf hq rb]
    show _=Ym P E (q-1) c-d c
    rw[Wf hq rb,XI];simp only[dl,hpp,hqq];rw[Z5 hne,Z9]
    show(0-1)*(Z8 a (c+1)-Z8 b (c+1))+_=_-(Z8 a (c+1)-Z8 b (c+1))
    omega
   ·rw[if_neg z2]
    show Ym P ((a,b)::E) r c=Ym P E r c
    unfold Ym
    split
    ·rw[XI]
     simp only[hpp,hqq];rw[Z5 (by omega),Z5 (by omega)]
     simp
    ·rfl
 have ka:∀{k:Nat},k+1=p\/k+1=q->k+1≠a\/P a=a:=fun{k} hk=>by
  by_cases z:k+1=a
  ·rcases hk with hk | hk
   ·exact .inr (by rw[hpp];omega)
   ·exact absurd (show P a=q by rw[<-z,hk];exact rb) (by omega)
  ·exact .inl z
 have kb:∀{k:Nat},k+1=p\/k+1=q->k+1≠b\/P b=b:=fun{k} hk=>by
  by_cases z:k+1=b
  ·rcases hk with hk | hk
   ·exact absurd (show P b=p by rw[<-z,hk];exact ra) (by omega)
   ·exact .inr (by rw[hqq];omega)
  ·exact .inl z
 have dd:∀k,k<m->(k+1=p\/k+1=q)->Z7 m (put k d M)=Z7 m (put k d' M):=fun k hk hk2=>by
  have f1:Z7 m (put k (fun c=>Z8 a (c+1)-Z8 b (c+1)) M)=Z7 m (put k (fun c=>Z8 a (c+1)-Z8 q (c+1)) M):=by
   rw[<-hqq];exact QN (u:=fun c=>Z8 a (c+1)) ok hk hb (kb hk2)
  have f2:(fun c=>Z8 a (c+1)-Z8 q (c+1))=fun c=>- Z8 q (c+1)+Z8 a (c+1):=by funext c;omega
  have f3:Z7 m (put k (fun c=>- Z8 q (c+1)+Z8 a (c+1)) M)=Z7 m (put k (fun c=>- Z8 q (c+1)+Z8 p (c+1)) M):=by
   rw[<-hpp];exact P4 (u:=fun c=>- Z8 q (c+1)) ok hk ha (ka hk2)
  show Z7 m (put k (fun c=>Z8 a (c+1)-Z8 b (c+1)) M)=Z7 m (put k (fun c=>Z8 p (c+1)-Z8 q (c+1)) M)
  rw[f1,f2,f3]
  congr 2
  funext c;omega
 -- what the tie adds
 have e2:Z7 m (put (p-1) (fun c=>M (p-1) c+d c) (put (q-1) (fun c=>M (q-1) c-d c) M))=Z7 m M+Z7 m (put (p-1) d M)-Z7 m (put (q-1) d M):=by
  exact FI (by omega) (by omega) hpq
 -- the pieces made one
 have e3:Z7 m (Ym (mrg P a b) E)=Z7 m (put (q-1) (fun c=>- d' c) (put (p-1) (fun c=>M (p-1) c+M (q-1) c) M)):=by
  refine N1 (q:=q-1) (k:=fun r=>if P (r+1)=q/\r+1≠q then 1 else 0) (by omega) (fun c hc=>?_) (fun r c hr hc hrq=>?_)
  ·rw[ZV]
   have:mrg P a b q=p:=by unfold PW.mrg;rw[rb,hqq,if_pos rfl,hpp]
   rw[O5 (P:=mrg P a b) hq (by rw[this];exact hne),this]
   show _ = -(Z8 p (c+1)-Z8 q (c+1))
   omega
  ·rw[Xw _ _ hrq,ZV]
   have hx:r+1≠q:=by omega
   have mx:mrg P a b (r+1)=if P (r+1)=q then p else P (r+1):=by unfold PW.mrg;rw[hqq,hpp]
   by_cases zp:r=p-1
   ·have hrp:r+1=p:=by omega
    have k0:(if P (r+1)=q/\r+1≠q then(1:Int) else 0)=0:=if_neg fun y=>hne (by rw[<-y.1,hrp];exact ra.symm)
    rw[k0,zp,ZV,Wf hp (by unfold PW.mrg;rw[ra,hqq,if_neg hne]),QM (by rw[hpp,hqq];exact hne),hpp,hqq,if_pos rfl]
    show _=Ym P E (p-1) c+Ym P E (q-1) c+_
    rw[Wf hp ra,Wf hq rb];omega
   ·rw[Xw _ _ zp]
    show Ym (mrg P a b) E r c=Ym P E r c+_
    unfold Ym
    by_cases z:P (r+1)=q
    ·have k1:(if P (r+1)=q/\r+1≠q then(1:Int) else 0)=1:=if_pos ⟨z,hx⟩
     rw[k1,mx,if_pos z,if_neg (by omega),z,if_neg (by omega)]
     show _=_+1 * -(Z8 p (c+1)-Z8 q (c+1))
     omega
    ·have k0:(if P (r+1)=q/\r+1≠q then(1:Int) else 0)=0:=if_neg fun y=>z y.1
     rw[k0,mx,if_neg z]
     split
     ·rw[QM (by rw[hpp,hqq];exact hne),hpp,hqq,if_neg (by omega),if_neg hx];omega
     ·omega
 have e4:Z7 m (put (q-1) (fun c=>- d' c) (put (p-1) (fun c=>M (p-1) c+M (q-1) c) M))=Z7 m (put (p-1) d' M)-Z7 m (put (q-1) d' M):=by
  rw[Xl (Ne.symm hpq),Ug (by omega)]
  have s1:put (p-1) (fun c=>M (p-1) c) (put (q-1) (fun c=>- d' c) M)=put (q-1) (fun c=>- d' c) M:=by
   rw[Xl hpq,show put (p-1) (fun c=>M (p-1) c) M=M from put_self _ _]
  have s2:Z7 m (put (p-1) (fun c=>M (q-1) c) (put (q-1) (fun c=>- d' c) M))=Z7 m (put (p-1) d' M):=by
   rw[HB (by omega) (by omega) hpq,show put (q-1) (fun c=>M (q-1) c) M=M from put_self _ _,Kp (by omega)];omega
  rw[s1,s2,Kp (by omega)];omega
 rw[e1,e2,e3,e4,dd (p-1) (by omega) (.inl (by omega)),dd (q-1) (by omega) (.inr (by omega))]
 show Z7 m M+_-_=Z7 m M+_
 omega
theorem HD{e ux uy uc ud xc xd yc yd:Prop}:((e\/(ux/\uy))\/(((xc\/(ux/\uc))\/(xd\/(ux/\ud)))/\((yc\/(uy/\uc))\/(yd\/(uy/\ud)))))↔(e\/(ux/\uy)\/(((xc\/xd)\/(ux/\(uc\/ud)))/\((yc\/yd)\/(uy/\(uc\/ud))))):=by grind
theorem JC{e ux uy vx vy m:Prop}:(e\/(ux/\uy)\/((vx\/(ux/\m))/\(vy\/(uy/\m))))↔(e\/(vx/\vy)\/((ux\/(vx/\m))/\(uy\/(vy/\m)))):=by grind
theorem N2(P:Nat->Nat)(a b c d x y:Nat):mrg (mrg P a b) c d x=mrg (mrg P a b) c d y↔(P x=P y\/((P x=P a\/P x=P b)/\(P y=P a\/P y=P b))\/(((P x=P c\/P x=P d)\/((P x=P a\/P x=P b)/\((P c=P a\/P c=P b)\/(P d=P a\/P d=P b))))/\((P y=P c\/P y=P d)\/((P y=P a\/P y=P b)/\((P c=P a\/P c=P b)\/(P d=P a\/P d=P b)))))):=by
 rw[ZS (mrg P a b),ZS P a b x y,ZS P a b x c,ZS P a b x d,ZS P a b y c,ZS P a b y d];exact HD
theorem P6(P:Nat->Nat)(a b c d x y:Nat):mrg (mrg P a b) c d x=mrg (mrg P a b) c d y↔mrg (mrg P c d) a b x=mrg (mrg P c d) a b y:=by
 rw[N2,N2]
 have m:((P c=P a\/P c=P b)\/(P d=P a\/P d=P b))↔((P a=P c\/P a=P d)\/(P b=P c\/P b=P d)):=by
  constructor
  ·rintro((h | h) | (h | h))
   ·exact .inl (.inl h.symm)
   ·exact .inr (.inl h.symm)
   ·exact .inl (.inr h.symm)
   ·exact .inr (.inr h.symm)
  ·rintro((h | h) | (h | h))
   ·exact .inl (.inl h.symm)
   ·exact .inr (.inl h.symm)
   ·exact .inl (.inr h.symm)
   ·exact .inr (.inr h.symm)
 rw[m];exact JC
def Wn(m:Nat)(P:Nat->Nat):Int:=sN (m+1) fun x=>Z8 (P x) x
theorem DS{f g:Nat->Int}{q:Nat}:∀{n:Nat},q<n->(∀x,x<n->x≠q->f x=g x)->sN n f=sN n g+(f q-g q):=by
 intro n hq h
 have e:=Y6 (fun x=>g x) (fun x=>f x-g x) n
 have e2:sN n f=sN n fun x=>g x+(f x-g x):=Zq fun x _=>by omega
 rw[e2,e,YL (f:=fun x=>f x-g x) hq (fun x hx hxq=>by rw[h x hx hxq];omega)]
theorem VC{m:Nat}{P:Nat->Nat}(ok:RepOk m P){a b:Nat}(ha:a<=m)(hb:b<=m)(hne:P a≠P b):Wn m (mrg P a b)=Wn m P-1:=by
 have ra:=ok.rep a ha;have rb:=ok.rep b hb;have lb:=ok.le b hb;unfold Wn;rw[DS (q:=P b) (f:=fun x=>Z8 (mrg P a b x) x) (g:=fun x=>Z8 (P x) x) (by omega) fun x hx hxq=>?_]
 ·have e1:mrg P a b (P b)=P a:=by unfold mrg;rw[rb,if_pos rfl]
  show _+(Z8 (mrg P a b (P b)) (P b)-Z8 (P (P b)) (P b))=_
  rw[e1,Z5 hne,rb,Z9];omega
 ·show Z8 (mrg P a b x) x=Z8 (P x) x
  unfold mrg
  split
  ·rename_i q
   unfold Z8
   have:P a≠x:=fun z=>by rw[<-z,ra] at q;exact hne q
   rw[if_neg this,if_neg (by omega)]
  ·rfl
theorem HE{f:Nat->Int}:∀{n:Nat},(∀x,x<n->0<=f x)->0<=sN n f
 | 0,_=>Int.le_refl 0
 | n+1,h=>by
  have h1:=HE (n:=n) fun x hx=>h x (by omega)
  have h2:=h n (by omega)
  show 0<=sN n f+f n
  omega
theorem HF{f:Nat->Int}{k:Nat}:∀{n:Nat},k<n->(∀x,x<n->0<=f x)->f k<=sN n f
 | 0,hk,_=>by omega
 | n+1,hk,h=>by
  have h1:=HE (n:=n) fun x hx=>h x (by omega)
  have h2:=h n (by omega)
  show f k<=sN n f+f n
  by_cases q:k=n
  ·rw[q];omega
  ·have:=HF (n:=n) (k:=k) (by omega) fun x hx=>h x (by omega)
   omega
theorem La(a b:Nat):0<=Z8 a b:=by unfold Z8;split<;>omega
theorem QO{m:Nat}{P:Nat->Nat}(ok:RepOk m P):1<=Wn m P:=by
 have:=HF (f:=fun x=>Z8 (P x) x) (k:=0) (n:=m+1) (by omega) fun x _=>La _ _
 simp only[ok.root,Z9] at this;exact this
theorem N3:∀{n:Nat}{A:Mt},(∀r c,r<n->c<n->A r c=Z8 r c)->Z7 n A=1
 | 0,_,_=>rfl
 | n+1,A,h=>by
  rw[QG (fun c hc=>by rw[h n c (by omega) (by omega)];exact Z5 (by omega)),h n n (by omega) (by omega),Z9,N3 (n:=n) fun r c hr hc=>h r c (by omega) (by omega)]
  rfl
theorem S0{f:Nat->Int}{j k:Nat}:∀{n:Nat},j<k->k<n->(∀x,x<n->0<=f x)->f j+f k<=sN n f
 | 0,_,hk,_=>by omega
 | n+1,hj,hk,h=>by
  have h2:=h n (by omega)
  show f j+f k<=sN n f+f n
  by_cases q:k=n
  ·have:=HF (f:=f) (n:=n) (k:=j) (by omega) fun x hx=>h x (by omega)
   rw[q];omega
  ·have:=S0 (n:=n) hj (by omega) fun x hx=>h x (by omega)
   omega
theorem UG{m:Nat}:∀{E:List ZF}{P:Nat->Nat}{s:Nat},InN (m+1) E->RepOk m P->Wn m P=(s:Int)+1->Z7 m (Ym P E)=(YQ E P s:Int)
 | [],P,0,_,ok,hr=>by
  have all0:∀x,x<=m->x≠0->P x=0:=fun x hx h0=>by
   have:=S0 (f:=fun x=>Z8 (P x) x) (j:=0) (k:=P x) (n:=m+1)
   by_cases q:P x=0
   ·exact q
   ·have t:=this (by omega) (by have:=ok.le x hx;omega) fun x _=>La _ _
    simp only[ok.root,ok.rep x hx,Z9] at t;unfold Wn at hr;simp only[Int.natCast_zero] at hr;omega
  show Z7 m (Ym P [])=1
  refine N3 fun r c hr hc=>?_
  unfold Ym
  have:=all0 (r+1) (by omega) (by omega)
  rw[this,if_neg (by omega),FH];unfold Z8
  by_cases q:r=c
  ·rw[if_pos (by omega),if_pos q];omega
  ·rw[if_neg (by omega),if_neg q];omega
 | [],P,s+1,_,ok,hr=>by
  show Z7 m (Ym P [])=0
  have:∃x,x<=m/\x≠0/\P x=x:=by
   apply Classical.byContradiction
   intro hn
   have e:Wn m P=1:=by
    unfold Wn;rw[YL (k:=0) (by omega) fun x hx h0=>Z5 fun z=>hn ⟨x,by omega,h0,z⟩,ok.root,Z9]
   omega
  obtain⟨x,hx,h0,hp⟩:=this
  exact HA (k:=x-1) (by omega) fun c _=>by rw[Wf h0 hp];rfl
 | e::E,P,s,hE,ok,hr=>by
  obtain⟨a,b⟩:=e
  have he:=hE (a,b) (by simp)
  have ha:a<=m:=by have:=he.1;simp only at this;omega
  have hb:b<=m:=by have:=he.2;simp only at this;omega
  have hE':InN (m+1) E:=fun f hf=>hE f (by simp[hf])
  have ih:=UG hE' ok hr
  by_cases q:P a=P b
  ·have e1:Ym P ((a,b)::E)=Ym P E:=by
    funext r c
    unfold Ym;rw[XI];simp only[q]
    split
    ·rw[Int.sub_self,Int.zero_mul,Int.zero_add]
    ·rfl
   rw[e1,ih]
   cases s with
   | zero=>rfl
   | succ s=>
    show _=(((if P a=P b then 0 else _)+YQ E P (s+1):Nat):Int)
    rw[if_pos q,Nat.zero_add]
  ·have step:Z7 m (Ym P ((a,b)::E))=Z7 m (Ym P E)+Z7 m (Ym (if P b=0 then mrg P b a else mrg P a b) E)/\RepOk m (if P b=0 then mrg P b a else mrg P a b)/\Wn m (if P b=0 then mrg P b a else mrg P a b)=Wn m P-1:=by
    by_cases qb:P b=0
    ·rw[if_pos qb]
     refine⟨?_,ok.mrg hb ha (by omega) (by omega),VC ok hb ha (by omega)⟩
     rw[JB]
     exact P5 ok hb ha qb (by omega)
    ·rw[if_neg qb]
     refine⟨?_,ok.mrg ha hb qb q,VC ok ha hb q⟩
     by_cases qa:P a=0
     ·exact P5 ok ha hb qa qb
     ·exact HC ok ha hb qa qb q
   obtain⟨s1,s2,s3⟩:=step
   have pos:=QO s2
   obtain⟨t,rfl⟩:∃t,s=t+1:=⟨s-1,by omega⟩
   have ih2:=UG (s:=t) hE' s2 (by rw[s3];omega)
   have eq:YQ E (if P b=0 then mrg P b a else mrg P a b) t=YQ E (mrg P a b) t:=by
    refine Xb hE' fun x y hx hy=>?_
    split
    ·rw[ZS,ZS];omega
    ·exact Iff.rfl
   rw[s1,ih,ih2,eq]
   show _=(((if P a=P b then 0 else YQ E (mrg P a b) t)+YQ E P (t+1):Nat):Int)
   rw[if_neg q];omega
 termination_by E=>E.length
theorem HG{n:Nat}{e f:ZF}{E:List ZF}{P:Nat->Nat}{s:Nat}(he:e.1<n/\e.2<n)(hf:f.1<n/\f.2<n)(hE:InN n E):YQ (e::f::E) P s=YQ (f::e::E) P s:=by
 match s with
 | 0=>rfl
 | 1=>
  show(if P e.1=P e.2 then 0 else YQ (f::E) (mrg P e.1 e.2) 0)+YQ (f::E) P 1=(if P f.1=P f.2 then 0 else YQ (e::E) (mrg P f.1 f.2) 0)+YQ (e::E) P 1
  show(if P e.1=P e.2 then 0 else YQ E (mrg P e.1 e.2) 0)+((if P f.1=P f.2 then 0 else YQ E (mrg P f.1 f.2) 0)+YQ E P 1)=(if P f.1=P f.2 then 0 else YQ E (mrg P f.1 f.2) 0)+((if P e.1=P e.2 then 0 else YQ E (mrg P e.1 e.2) 0)+YQ E P 1)
  omega
 | s+2=>
  show(if P e.1=P e.2 then 0 else((if mrg P e.1 e.2 f.1=mrg P e.1 e.2 f.2 then 0 else YQ E (mrg (mrg P e.1 e.2) f.1 f.2) s)+YQ E (mrg P e.1 e.2) (s+1)))+((if P f.1=P f.2 then 0 else YQ E (mrg P f.1 f.2) (s+1))+YQ E P (s+2)) =
   (if P f.1=P f.2 then 0 else((if mrg P f.1 f.2 e.1=mrg P f.1 f.2 e.2 then 0 else YQ E (mrg (mrg P f.1 f.2) e.1 e.2) s)+YQ E (mrg P f.1 f.2) (s+1)))+((if P e.1=P e.2 then 0 else YQ E (mrg P e.1 e.2) (s+1))+YQ E P (s+2))
  have eq:YQ E (mrg (mrg P e.1 e.2) f.1 f.2) s=YQ E (mrg (mrg P f.1 f.2) e.1 e.2) s:=Xb hE fun x y _ _=>P6 _ _ _ _ _ _ _
  have ce:=ZS P e.1 e.2 f.1 f.2;have cf:=ZS P f.1 f.2 e.1 e.2;rw[eq]
  by_cases q1:P e.1=P e.2<;>by_cases q2:P f.1=P f.2
  ·simp only[if_pos q1,if_pos q2]
  ·simp only[if_pos q1,if_neg q2]
   rw[if_pos (cf.mpr (.inl q1))];omega
  ·simp only[if_neg q1,if_pos q2]
   rw[if_pos (ce.mpr (.inl q2))];omega
  ·simp only[if_neg q1,if_neg q2]
   by_cases q3:mrg P e.1 e.2 f.1=mrg P e.1 e.2 f.2
   ·rw[if_pos q3,if_pos (cf.mpr (by have:=ce.mp q3;omega))];omega
   ·rw[if_neg q3,if_neg (fun z=>q3 (ce.mpr (by have:=cf.mp z;omega)))];omega
theorem InN.perm{n:Nat}{E F:List ZF}(h:InN n E)(p:E.Perm F):InN n F:=fun e he=>h e (p.mem_iff.mpr he)
theorem N4{n:Nat}{E F:List ZF}(p:E.Perm F):∀{P:Nat->Nat}{s:Nat},InN n E->YQ E P s=YQ F P s:=by
 induction p with
 | nil=>intro P s _;rfl
 | cons e p ih=>
  intro P s h
  have h':InN n _:=fun f hf=>h f (List.mem_cons_of_mem _ hf)
  cases s with
  | zero=>exact ih h'
  | succ s=>
   show(if P e.1=P e.2 then 0 else _)+_=(if P e.1=P e.2 then 0 else _)+_
   rw[ih h',ih h']
 | swap e f E=>
  intro P s h
  exact HG (h f (by simp)) (h e (by simp)) fun g hg=>h g (by simp[hg])
 | trans p1 p2 ih1 ih2=>
  intro P s h;rw[ih1 h,ih2 (h.perm p1)]
theorem RM{n n':Nat}(φ:Nat->Nat):∀{E:List ZF}{P Q:Nat->Nat}{s:Nat},InN n E->(∀x,x<n->φ x<n')->(∀x y,x<n->y<n->(P x=P y↔Q (φ x)=Q (φ y)))->YQ E P s=YQ (E.map fun e=>(φ e.1,φ e.2)) Q s
 | [],_,_,0,_,_,_=>rfl
 | [],_,_,_+1,_,_,_=>rfl
 | e::E,P,Q,0,hE,hφ,h=>RM φ (E:=E) (fun f hf=>hE f (by simp[hf])) hφ h
 | e::E,P,Q,s+1,hE,hφ,h=>by
  have he:=hE e (by simp)
  have hE':InN n E:=fun f hf=>hE f (by simp[hf])
  show(if P e.1=P e.2 then 0 else _)+_=(if Q (φ e.1)=Q (φ e.2) then 0 else _)+_
  rw[RM φ (Q:=Q) hE' hφ h,RM φ (P:=mrg P e.1 e.2) (Q:=mrg Q (φ e.1) (φ e.2)) hE' hφ fun x y hx hy=>by
   rw[ZS,ZS,h x y hx hy,h x _ hx he.1,h x _ hx he.2,h y _ hy he.1,h y _ hy he.2]]
  by_cases q:P e.1=P e.2
  ·rw[if_pos q,if_pos ((h _ _ he.1 he.2).mp q)]
  ·rw[if_neg q,if_neg fun z=>q ((h _ _ he.1 he.2).mpr z)]
theorem UH{E:List ZF}{e:ZF}{P:Nat->Nat}{s:Nat}(h:P e.1=P e.2):YQ (e::E) P s=YQ E P s:=by
 cases s with
 | zero=>rfl
 | succ s=>
  show(if P e.1=P e.2 then 0 else _)+_=_
  rw[if_pos h,Nat.zero_add]
theorem Sl{E:List ZF}{e:ZF}{P:Nat->Nat}{s:Nat}(h:P e.1≠P e.2):YQ (e::E) P (s+1)=YQ E (mrg P e.1 e.2) s+YQ E P (s+1):=by
 show(if P e.1=P e.2 then 0 else _)+_=_
 rw[if_neg h]
def Yq(T:List ZF)(t:Nat):ZF:=T.getD t (0,0)
def WX(T:List ZF):(Nat->Nat)->List Nat->Nat->Nat
 | P,[]=>P
 | P,t::g=>WX T (mrg P (Yq T t).1 (Yq T t).2) g
theorem U3(T:List ZF):∀(g:List Nat)(P:Nat->Nat)(t:Nat),WX T P (g++[t])=mrg (WX T P g) (Yq T t).1 (Yq T t).2
 | [],P,t=>rfl
 | x::g,P,t=>U3 T g _ t
def YO(g:List Nat):Nat:=match g.getLast? with | some t=>t+1 | none=>0
theorem Vf(g:List Nat)(t:Nat):YO (g++[t])=t+1:=by unfold YO;simp
def Sm(T:List ZF)(g:List Nat):List Nat:=(List.range' (YO g) (T.length-YO g)).filter fun t=>!decide (WX T id g (Yq T t).1=WX T id g (Yq T t).2)
def YB(T:List ZF)(gs:List (List Nat)):List (List Nat):=gs.flatMap fun g=>(Sm T g).map fun t=>g++[t]
theorem N5{k n:Nat}(h:k<n):List.range' k (n-k)=k::List.range' (k+1) (n-(k+1)):=by
 rw[show n-k=(n-(k+1))+1 by omega,List.range'_succ]
theorem JD{T:List ZF}{k:Nat}(h:k<T.length):T.drop k=Yq T k::T.drop (k+1):=by
 unfold Yq
 rw[List.drop_eq_getElem_cons h,List.getD_eq_getElem?_getD,List.getElem?_eq_getElem h];rfl
theorem QP(T:List ZF)(P:Nat->Nat)(r:Nat):∀(d k:Nat),T.length-k=d->YQ (T.drop k) P (r+1) =
  (((List.range' k (T.length-k)).filter fun t=>!decide (P (Yq T t).1=P (Yq T t).2)).map fun t=>YQ (T.drop (t+1)) (mrg P (Yq T t).1 (Yq T t).2) r).sum
 | 0,k,h=>by
  rw[List.drop_eq_nil_of_le (by omega),h];rfl
 | d+1,k,h=>by
  rw[JD (by omega),N5 (by omega)]
  have ih:=QP T P r d (k+1) (by omega)
  by_cases q:P (Yq T k).1=P (Yq T k).2
  ·rw[UH q,ih,List.filter_cons_of_neg (by simp[q])]
  ·rw[Sl q,ih,List.filter_cons_of_pos (by simp[q]),List.map_cons,List.sum_cons]
theorem N6{α β:Type}(f:β->Nat)(g:α->List β):∀l:List α,((l.flatMap g).map f).sum=(l.map fun a=>((g a).map f).sum).sum
 | []=>rfl
 | a::l=>by rw[List.flatMap_cons,List.map_append,List.sum_append,N6 f g l,List.map_cons,List.sum_cons]
def JE(T:List ZF)(r:Nat)(g:List Nat):Nat:=YQ (T.drop (YO g)) (WX T id g) r
theorem JF(T:List ZF)(gs:List (List Nat))(r:Nat):((YB T gs).map (JE T r)).sum=(gs.map (JE T (r+1))).sum:=by
 unfold YB;rw[N6]
 congr 1
 apply List.map_congr_left
 intro g _;unfold JE Sm;rw[QP T _ r _ _ rfl,List.map_map]
 congr 1
 apply List.map_congr_left
 intro t _
 show YQ (T.drop (YO (g++[t]))) (WX T id (g++[t])) r=_
 rw[Vf,U3]
def Yr(T:List ZF):Nat->List (List Nat)
 | 0=>[[]]
 | s+1=>YB T (Yr T s)
theorem QQ(T:List ZF):∀s r,((Yr T s).map (JE T r)).sum=YQ T id (s+r)
 | 0,r=>by
  show YQ (T.drop 0) id r+0=_
  rw[List.drop_zero,Nat.zero_add,Nat.add_zero]
 | s+1,r=>by
  show((YB T (Yr T s)).map (JE T r)).sum=_
  rw[JF,QQ T s (r+1)]
  congr 1;omega
theorem Sn:∀(E:List ZF)(P:Nat->Nat),YQ E P 0=1
 | [],_=>rfl
 | e::E,P=>Sn E P
theorem N7{α:Type}{f:α->Nat}:∀{l:List α},(∀a∈l,f a=1)->(l.map f).sum=l.length
 | [],_=>rfl
 | a::l,h=>by rw[List.map_cons,List.sum_cons,h a (by simp),N7 fun b hb=>h b (by simp[hb]),List.length_cons];omega
theorem QR(T:List ZF)(s:Nat):(Yr T s).length=YQ T id s:=by
 have:=QQ T s 0
 rw[N7 (f:=JE T 0) fun g _=>Sn _ _] at this;exact this
structure Gv(T:List ZF)(g:List Nat):Prop where
 lt:∀t∈g,t<T.length
 ris:g.Pairwise (· < ·)
 btw:∀i t,g[i]?=some t->WX T id (g.take i) (Yq T t).1≠WX T id (g.take i) (Yq T t).2
theorem JG{g:List Nat}(h:g.Pairwise (· < ·)){t x:Nat}(ht:YO g<=t)(hx:x∈g):x<t:=by
 rcases List.eq_nil_or_concat g with rfl | ⟨l,b,rfl⟩
 ·simp at hx
 ·rw[List.concat_eq_append] at *
  rw[Vf] at ht
  rcases List.mem_append.mp hx with q | q
  ·have:=(List.pairwise_append.mp h).2.2 x q b (by simp)
   omega
  ·simp at q;omega
theorem Gv.snoc{T:List ZF}{g:List Nat}(h:Gv T g){t:Nat}(ht:t∈Sm T g):Gv T (g++[t]):=by
 unfold Sm at ht;rw[List.mem_filter,List.mem_range'_1] at ht
 obtain⟨⟨h1,h2⟩,h3⟩:=ht
 refine⟨fun x hx=>?_,?_,fun i x hx=>?_⟩
 ·rcases List.mem_append.mp hx with q | q
  ·exact h.lt x q
  ·simp at q;omega
 ·rw[List.pairwise_append]
  exact⟨h.ris,by simp,fun x hx y hy=>by simp at hy;rw[hy];exact JG h.ris h1 hx⟩
 ·by_cases q:i<g.length
  ·rw[List.getElem?_append_left q] at hx
   rw[List.take_append_of_le_length (by omega)]
   exact h.btw i x hx
  ·have:i=g.length:=by
    have:=(List.getElem?_eq_some_iff.mp hx).1
    simp at this;omega
   subst this;rw[List.getElem?_append_right (Nat.le_refl _)] at hx
   simp at hx
   subst hx;rw[List.take_left']
   ·simpa using h3
   ·rfl
theorem U4(T:List ZF):∀s,∀g∈Yr T s,Gv T g/\g.length=s
 | 0,g,hg=>by
  have:g=[]:=by simpa [Yr] using hg
  subst this
  exact⟨⟨fun t ht=>by simp at ht,.nil,fun i t h=>by simp at h⟩,rfl⟩
 | s+1,g,hg=>by
  have hg:g∈YB T (Yr T s):=hg
  unfold YB at hg
  obtain⟨h,hh,hg⟩:=List.mem_flatMap.mp hg
  obtain⟨t,ht,rfl⟩:=List.mem_map.mp hg
  obtain⟨a,b⟩:=U4 T s h hh
  exact⟨a.snoc ht,by rw[List.length_append,b];rfl⟩
def N8:List Nat->List Nat->Prop
 | a::g,b::h=>a<b\/(a=b/\N8 g h)
 | _,_=>False
theorem P7:∀{g h:List Nat}{x y:Nat},g.length=h.length->N8 g h->N8 (g++[x]) (h++[y])
 | [],[],_,_,_,q=>q.elim
 | a::g,b::h,x,y,hl,q=>by
  rcases q with q | ⟨q,r⟩
  ·exact .inl q
  ·exact .inr ⟨q,P7 (by simpa using hl) r⟩
theorem P8:∀(g:List Nat){x y:Nat},x<y->N8 (g++[x]) (g++[y])
 | [],x,y,h=>.inl h
 | a::g,x,y,h=>.inr ⟨rfl,P8 g h⟩
theorem Rg(T:List ZF):∀s,(Yr T s).Pairwise N8
 | 0=>by show([[]]:List (List Nat)).Pairwise N8;simp
 | s+1=>by
  show(YB T (Yr T s)).Pairwise N8
  have ih:=Rg T s;have gv:=U4 T s;unfold YB
  generalize Yr T s=gs at ih gv
  induction gs with
  | nil=>simp
  | cons g gs ihg=>
   rw[List.flatMap_cons,List.pairwise_append];have ih':=List.pairwise_cons.mp ih
   refine⟨?_,ihg ih'.2 fun h hh=>gv h (by simp[hh]),fun x hx y hy=>?_⟩
   ·rw[List.pairwise_map]
    unfold Sm
    exact(List.pairwise_lt_range' (s:=YO g) (n:=T.length-YO g)).filter _ |>.imp fun q=>P8 g q
   ·obtain⟨t,_,rfl⟩:=List.mem_map.mp hx
    obtain⟨h,hh,hy⟩:=List.mem_flatMap.mp hy
    obtain⟨u,_,rfl⟩:=List.mem_map.mp hy
    exact P7 (by rw[(gv g (by simp)).2,(gv h (by simp[hh])).2]) (ih'.1 h hh)
theorem QS{m:Nat}{χ:Nat->Bool}:∀{E:List ZF}{P:Nat->Nat}{s:Nat},InN (m+1) E->RepOk m P->Wn m P=(s:Int)+1->(∀e∈E,χ e.1=χ e.2)->(∀x y,x<=m->y<=m->P x=P y->χ x=χ y)->YQ E P s≠0->∀x,x<=m->χ x=χ 0
 | [],P,0,_,ok,hr,_,hP,_=>fun x hx=>by
  refine hP x 0 hx (by omega) ?_
  rw[ok.root]
  by_cases q:P x=0
  ·exact q
  ·have t:=S0 (f:=fun x=>Z8 (P x) x) (j:=0) (k:=P x) (n:=m+1) (by omega) (by have:=ok.le x hx;omega) fun x _=>La _ _
   simp only[ok.root,ok.rep x hx,Z9] at t;unfold Wn at hr;simp only[Int.natCast_zero] at hr;omega
 | [],P,s+1,_,_,_,_,_,h=>absurd rfl h
 | e::E,P,s,hE,ok,hr,hχ,hP,h=>by
  obtain⟨a,b⟩:=e
  have he:=hE (a,b) (by simp)
  have ha:a<=m:=by have:=he.1;simp only at this;omega
  have hb:b<=m:=by have:=he.2;simp only at this;omega
  have hE':InN (m+1) E:=fun f hf=>hE f (by simp[hf])
  have hχ':∀e∈E,χ e.1=χ e.2:=fun e he=>hχ e (by simp[he])
  by_cases z:YQ E P s=0
  ·cases s with
   | zero=>exact absurd z h
   | succ s=>
    have hab:=hχ (a,b) (by simp)
    have h':(if P a=P b then 0 else YQ E (mrg P a b) s)+YQ E P (s+1)≠0:=h
    rw[z,Nat.add_zero] at h'
    by_cases q:P a=P b
    ·rw[if_pos q] at h';exact absurd rfl h'
    ·rw[if_neg q] at h'
     let Q:=if P b=0 then mrg P b a else mrg P a b
     have eqv:Eqv (m+1) (mrg P a b) Q:=fun x y _ _=>by
      show _↔(if P b=0 then mrg P b a else mrg P a b) x=(if P b=0 then mrg P b a else mrg P a b) y
      split
      ·rw[ZS,ZS];omega
      ·exact Iff.rfl
     have okQ:RepOk m Q/\Wn m Q=Wn m P-1:=by
      show RepOk m (if P b=0 then mrg P b a else mrg P a b)/\Wn m (if P b=0 then mrg P b a else mrg P a b)=_
      split
      ·exact⟨ok.mrg hb ha (by omega) (by omega),VC ok hb ha (by omega)⟩
      ·exact⟨ok.mrg ha hb (by assumption) q,VC ok ha hb q⟩
     refine QS (s:=s) hE' okQ.1 (by rw[okQ.2];omega) hχ' (fun x y hx hy e=>?_) (by rw[<-Xb hE' eqv];exact h')
     have e':=(eqv x y (by omega) (by omega)).mpr e
     rw[ZS] at e'
     simp only at hab
     rcases e' with e' | ⟨e1 | e1,e2 | e2⟩
     ·exact hP x y hx hy e'
     ·rw[hP x a hx ha e1,hP y a hy ha e2]
     ·rw[hP x a hx ha e1,hP y b hy hb e2,hab]
     ·rw[hP x b hx hb e1,hP y a hy ha e2,hab]
     ·rw[hP x b hx hb e1,hP y b hy hb e2]
  ·exact QS (s:=s) hE' ok hr hχ' hP z
 termination_by E=>E.length
theorem RepOk.id(m:Nat):RepOk m id:=⟨fun _ h=>h,fun _ _=>rfl,rfl⟩
theorem RN(m:Nat):Wn m id=(m:Int)+1:=by
 unfold Wn
 have:∀n:Nat,sN n (fun x=>Z8 (id x) x)=(n:Int):=by
  intro n
  induction n with
  | zero=>rfl
  | succ n ih=>show sN n _+Z8 n n=_;rw[ih,Z9];omega
 rw[this];omega
def Lb(n:Nat):List ZF:=(List.range n).flatMap fun a=>(List.range (n-(a+1))).map fun j=>(a,a+1+j)
theorem mem_prs{n a b:Nat}:(a,b)∈Lb n↔a<b/\b<n:=by
 unfold Lb;simp only[List.mem_flatMap,List.mem_range,List.mem_map,Prod.mk.injEq];constructor
 ·rintro⟨x,hx,j,hj,rfl,rfl⟩;omega
 ·rintro⟨h1,h2⟩
  exact⟨a,by omega,b-(a+1),by omega,rfl,by omega⟩
structure Wt(n:Nat)(w:Nat->Nat->Int):Prop where
 nn:∀a b,a<n->b<n->0<=w a b
 sy:∀a b,a<n->b<n->w a b=w b a
 dg:∀a,a<n->w a a=0
def Ys(n:Nat)(w:Nat->Nat->Int):List ZF:=(Lb n).flatMap fun p=>List.replicate (w p.1 p.2).toNat p
theorem VD(n:Nat)(w:Nat->Nat->Int):InN n (Ys n w):=fun e he=>by
 unfold Ys at he
 obtain⟨p,hp,he⟩:=List.mem_flatMap.mp he
 rw[List.mem_replicate] at he;rw[he.2]
 have:=mem_prs.mp (show(p.1,p.2)∈Lb n from hp)
 omega
theorem FJ(f:ZF->Int):∀n,((Lb n).map f).sum=sN n fun a=>sN n fun b=>if a<b then f (a,b) else 0:=by
 intro n;unfold Lb
 have flat:∀(l:List Nat)(g:Nat->List ZF),((l.flatMap g).map f).sum=(l.map fun a=>((g a).map f).sum).sum:=by
  intro l g
  induction l with
  | nil=>rfl
  | cons a l ih=>rw[List.flatMap_cons,List.map_append,List.sum_append,ih,List.map_cons,List.sum_cons]
 rw[flat,Ue]
 refine Zq fun a ha=>?_
 rw[List.map_map,Ue]
 -- the tail of the row
 have tail:∀k,sN (a+1+k) (fun b=>if a<b then f (a,b) else 0)=sN k fun j=>f (a,a+1+j):=by
  intro k
  induction k with
  | zero=>exact Sj fun i hi=>if_neg (by omega)
  | succ k ih=>
   show sN (a+1+k) _+(if a<a+1+k then f (a,a+1+k) else 0)=sN k _+f (a,a+1+k)
   rw[ih,if_pos (by omega)]
 have:=tail (n-(a+1))
 rw[show a+1+(n-(a+1))=n by omega] at this
 rw[this];rfl
theorem Kq(f:ZF->Int)(p:ZF):∀k:Nat,((List.replicate k p).map f).sum=(k:Int)*f p
 | 0=>by simp
 | k+1=>by rw[List.replicate_succ,List.map_cons,List.sum_cons,Kq f p k,Int.natCast_succ,Int.add_mul];omega
theorem P9{n:Nat}{w:Nat->Nat->Int}(ok:Wt n w)(f:ZF->Int):((Ys n w).map f).sum=sN n fun a=>sN n fun b=>if a<b then w a b*f (a,b) else 0:=by
 unfold Ys
 have flat:∀(l:List ZF)(g:ZF->List ZF),((l.flatMap g).map f).sum=(l.map fun a=>((g a).map f).sum).sum:=by
  intro l g
  induction l with
  | nil=>rfl
  | cons a l ih=>rw[List.flatMap_cons,List.map_append,List.sum_append,ih,List.map_cons,List.sum_cons]
 rw[flat,FJ (fun p=>((List.replicate (w p.1 p.2).toNat p).map f).sum)]
 refine Zq fun a ha=>Zq fun b hb=>?_
 split
 ·rw[Kq]
  show((w a b).toNat:Int)*_=_
  rw[Int.toNat_of_nonneg (ok.nn a b ha hb)]
 ·rfl
theorem HH{n:Nat}{w:Nat->Nat->Int}(ok:Wt n w){x y:Nat}(hx:x<n)(hy:y<n):Sk id (Ys n w) x y=if x=y then sN n (w x) else-w x y:=by
 unfold Sk;rw[P9 ok (fun e=>(Z8 (id e.1) x-Z8 (id e.2) x)*dl e y)];simp only[id,dl]
 by_cases q:x=y
 ·subst q
  rw[if_pos rfl]
  have e:∀a,a<n->sN n (fun b=>if a<b then w a b*((Z8 a x-Z8 b x)*(Z8 a x-Z8 b x)) else 0)=(if a=x then sN n (fun b=>if x<b then w x b else 0) else 0)+(if a<x then w x a else 0):=fun a ha=>by
   by_cases qa:a=x
   ·subst qa
    rw[if_pos rfl,if_neg (by omega),Int.add_zero]
    refine Zq fun b hb=>?_
    split
    ·rw[Z9,Z5 (by omega)];simp
    ·rfl
   ·rw[if_neg qa]
    rw[YL (k:=x) hx fun b hb hbx=>?_]
    ·split
     ·rw[Z5 qa,Z9,ok.sy a x ha hx];simp
     ·simp
    ·split
     ·rw[Z5 qa,Z5 hbx];simp
     ·rfl
  rw[Zq e,Y6,YL (k:=x) hx fun a ha hax=>if_neg hax,if_pos rfl,<-Y6]
  refine Zq fun b hb=>?_
  by_cases q1:x<b
  ·rw[if_pos q1,if_neg (by omega)];omega
  ·rw[if_neg q1]
   by_cases q2:b<x
   ·rw[if_pos q2];omega
   ·have:b=x:=by omega
    subst this
    rw[if_neg q2,ok.dg b hb];rfl
 ·rw[if_neg q]
  have e:∀a,a<n->sN n (fun b=>if a<b then w a b*((Z8 a x-Z8 b x)*(Z8 a y-Z8 b y)) else 0)=(if a=x then(if x<y then-w x y else 0) else 0)+(if a=y then(if y<x then-w x y else 0) else 0):=fun a ha=>by
   by_cases qa:a=x
   ·subst qa
    rw[if_pos rfl,if_neg q,Int.add_zero,YL (k:=y) hy fun b hb hby=>?_]
    ·split
     ·rw[Z9,Z5 (Ne.symm q),Z5 q,Z9];simp
     ·rfl
    ·split
     ·rw[Z9,Z5 q,Z5 hby];simp
     ·rfl
   ·rw[if_neg qa,Int.zero_add]
    by_cases qy:a=y
    ·subst qy
     rw[if_pos rfl,YL (k:=x) hx fun b hb hbx=>?_]
     ·split
      ·rw[Z5 qa,Z9,Z9,Z5 q,ok.sy a x ha hx];simp
      ·rfl
     ·split
      ·rw[Z5 qa,Z5 hbx];simp
      ·rfl
    ·rw[if_neg qy]
     refine Sj fun b hb=>?_
     split
     ·rw[Z5 qa,Z5 qy]
      by_cases z:b=x
      ·subst z;rw[Z5 q];simp
      ·rw[Z5 z];simp
     ·rfl
  rw[Zq e,Y6,YL (k:=x) hx fun a ha hax=>if_neg hax,if_pos rfl,YL (k:=y) hy fun a ha hay=>if_neg hay,if_pos rfl]
  split<;>split<;>omega
theorem FK{m:Nat}{w:Nat->Nat->Int}(ok:Wt (m+1) w):Z7 m (fun r c=>if r=c then sN (m+1) (w (r+1)) else-w (r+1) (c+1))=(YQ (Ys (m+1) w) id m:Int):=by
 rw[<-UG (VD (m+1) w) (RepOk.id m) (RN m)]
 refine Yb fun r c hr hc=>?_
 refine Eq.trans ?_ (if_pos (show id (r+1)=r+1 from rfl)).symm
 rw[HH ok (by omega) (by omega)]
 by_cases q:r=c
 ·rw[if_pos q,if_pos (by omega)]
 ·rw[if_neg q,if_neg (by omega)]
theorem FL{e:ZF}{F:List ZF}{P:Nat->Nat}{s:Nat}(h:P e.1≠P e.2):∀d:Nat,YQ (List.replicate d e++F) P (s+1)=d*YQ F (mrg P e.1 e.2) s+YQ F P (s+1):=by
 have loops:∀d:Nat,YQ (List.replicate d e++F) (mrg P e.1 e.2) s=YQ F (mrg P e.1 e.2) s:=by
  intro d
  induction d with
  | zero=>rfl
  | succ d ih=>rw[List.replicate_succ,List.cons_append,UH ((ZS _ _ _ _ _).mpr (by omega)),ih]
 intro d
 induction d with
 | zero=>simp
 | succ d ih=>rw[List.replicate_succ,List.cons_append,Sl h,loops,ih,Nat.add_mul];omega
def Xx(w:Nat->Nat->Int)(a b:Nat)(d:Int):Nat->Nat->Int:=fun x y=>if(x=a/\y=b)\/(x=b/\y=a) then d else w x y
theorem QT{E F:List ZF}(h:∀p,E.count p=F.count p):E.Perm F:=List.perm_iff_count.mpr h
theorem QU{α:Type}(p:ZF)(g:α->List ZF):∀l:List α,(l.flatMap g).count p=(l.map fun a=>(g a).count p).sum
 | []=>rfl
 | a::l=>by rw[List.flatMap_cons,List.count_append,QU p g l,List.map_cons,List.sum_cons]
theorem DT:∀n,n<=7->(Lb n).Nodup:=by decide +kernel
theorem Oa{f:ZF->Nat}{p:ZF}:∀{l:List ZF},l.Nodup->(∀q∈l,q≠p->f q=0)->(l.map f).sum=if p∈l then f p else 0
 | [],_,_=>by simp
 | q::l,nd,h=>by
  have nd':=List.nodup_cons.mp nd
  rw[List.map_cons,List.sum_cons,Oa nd'.2 fun r hr=>h r (by simp[hr])]
  by_cases e:q=p
  ·subst e
   rw[if_neg nd'.1,if_pos (by simp)];omega
  ·rw[h q (by simp) e,Nat.zero_add]
   by_cases z:p∈l
   ·rw[if_pos z,if_pos (by simp[z])]
   ·rw[if_neg z,if_neg (by simp[z];exact fun y=>e y.symm)]
theorem UI{n:Nat}(hn:n<=7)(w:Nat->Nat->Int)(p:ZF):(Ys n w).count p=if p∈Lb n then(w p.1 p.2).toNat else 0:=by
 unfold Ys;rw[QU,Oa (p:=p) (DT n hn) fun q _ hq=>?_]
 ·split
  ·rw[List.count_replicate_self]
  ·rfl
 ·rw[List.count_replicate,if_neg (by simpa using hq)]
theorem JH{n:Nat}(hn:n<=7){w:Nat->Nat->Int}{a b:Nat}(hab:a<b)(hb:b<n){d:Int}(hd:0<=d):(Ys n (Xx w a b d)).Perm (List.replicate d.toNat (a,b)++Ys n (Xx w a b 0)):=by
 refine QT fun p=>?_
 rw[List.count_append,UI hn,UI hn,List.count_replicate]
 by_cases q:p=(a,b)
 ·subst q
  rw[if_pos (mem_prs.mpr ⟨hab,hb⟩),if_pos (by simp),if_pos (mem_prs.mpr ⟨hab,hb⟩)];unfold Xx
  simp
 ·have c0:(if((a,b)==p)=true then d.toNat else 0)=0:=if_neg (by simp;exact fun z=>q z.symm)
  rw[c0,Nat.zero_add]
  by_cases z:p∈Lb n
  ·rw[if_pos z,if_pos z]
   have:=mem_prs.mp (show(p.1,p.2)∈Lb n from z)
   have ne:¬((p.1=a/\p.2=b)\/(p.1=b/\p.2=a)):=fun y=>by
    rcases y with y | y
    ·exact q (Prod.ext y.1 y.2)
    ·omega
   unfold Xx;rw[if_neg ne,if_neg ne]
  ·rw[if_neg z,if_neg z]
def Pd(e:ZF):ZF:=if e.1<e.2 then e else(e.2,e.1)
theorem RO{n:Nat}:∀{E:List ZF}{P:Nat->Nat}{s:Nat},InN n E->YQ E P s=YQ (E.map Pd) P s
 | [],_,0,_=>rfl
 | [],_,_+1,_=>rfl
 | e::E,P,0,h=>RO (E:=E) fun f hf=>h f (by simp[hf])
 | e::E,P,s+1,h=>by
  have hE:InN n E:=fun f hf=>h f (by simp[hf])
  have he:=h e (by simp)
  have hE':InN n (E.map Pd):=fun f hf=>by
   obtain⟨g,hg,rfl⟩:=List.mem_map.mp hf
   have:=hE g hg
   unfold Pd
   split
   ·exact this
   ·exact⟨this.2,this.1⟩
  rw[List.map_cons]
  show(if P e.1=P e.2 then 0 else YQ E (mrg P e.1 e.2) s)+YQ E P (s+1)=(if P (Pd e).1=P (Pd e).2 then 0 else YQ (E.map Pd) (mrg P (Pd e).1 (Pd e).2) s)+YQ (E.map Pd) P (s+1)
  rw[RO hE,RO (P:=P) hE]
  congr 1
  have hc:Pd e=e\/Pd e=(e.2,e.1):=by
   unfold Pd
   split
   ·exact .inl rfl
   ·exact .inr rfl
  rcases hc with hc | hc
  ·rw[hc]
  ·rw[hc]
   show _=if P e.2=P e.1 then 0 else YQ _ (mrg P e.2 e.1) s
   by_cases q:P e.1=P e.2
   ·rw[if_pos q,if_pos q.symm]
   ·rw[if_neg q,if_neg (Ne.symm q)]
    exact Xb hE' fun x y _ _=>by rw[ZS,ZS];omega
def VJ(a b:Nat)(x:Nat):Nat:=if x=b then a else if x<b then x else x-1
def Rx(b:Nat)(x:Nat):Nat:=if x<b then x else x+1
def WT(w:Nat->Nat->Int)(a b:Nat):Nat->Nat->Int:=fun x y=>w (Rx b x) (Rx b y)+(if x=a/\y≠a then w b (Rx b y) else 0)+(if y=a/\x≠a then w (Rx b x) b else 0)
theorem Lc(b x:Nat):Rx b x≠b:=by unfold Rx;split<;>omega
theorem DU{a b x u:Nat}(hab:a<b):VJ a b x=u↔x=Rx b u\/(x=b/\u=a):=by
 unfold VJ Rx
 split<;>split<;>(try split)<;>omega
theorem FN{m:Nat}{w:Nat->Nat->Int}(ok:Wt (m+1) w){a b:Nat}(hab:a<b)(hb:b<m+1):Wt m (WT w a b):=by
 have lt:∀x,x<m->Rx b x<m+1:=fun x hx=>by unfold Rx;split<;>omega
 refine⟨fun x y hx hy=>?_,fun x y hx hy=>?_,fun x hx=>?_⟩
 ·have h1:=ok.nn _ _ (lt x hx) (lt y hy)
  have h2:=ok.nn _ _ hb (lt y hy)
  have h3:=ok.nn _ _ (lt x hx) hb
  unfold WT
  split<;>split<;>omega
 ·have h1:=ok.sy _ _ (lt x hx) (lt y hy)
  have h2:=ok.sy _ _ hb (lt y hy)
  have h3:=ok.sy _ _ (lt x hx) hb
  unfold WT;rw[h1,h2,h3]
  by_cases q1:x=a<;>by_cases q2:y=a<;>simp[q1,q2]
 ·unfold WT
  rw[ok.dg _ (lt x hx)]
  by_cases q:x=a<;>simp[q]
theorem Tu{n k:Nat}{f:Nat->Int}(hk:k<n):sN n (fun x=>Z8 x k*f x)=f k:=by
 rw[YL (k:=k) hk fun x hx hxk=>by rw[Z5 hxk,Int.zero_mul],Z9,Int.one_mul]
theorem FO{n:Nat}{g:Nat->Nat->Int}(h:∀x,x<n->g x x=0):(sN n fun x=>sN n fun y=>if x<y then g x y+g y x else 0)=sN n fun x=>sN n fun y=>g x y:=by
 have e1:(sN n fun x=>sN n fun y=>if x<y then g x y+g y x else 0)=sN n fun x=>sN n fun y=>(if x<y then g x y else 0)+(if x<y then g y x else 0):=Zq fun x _=>Zq fun y _=>by split<;>omega
 have e2:(sN n fun x=>sN n fun y=>(if x<y then g x y else 0)+(if x<y then g y x else 0))=(sN n fun x=>sN n fun y=>if x<y then g x y else 0)+sN n fun x=>sN n fun y=>if x<y then g y x else 0:=by
  rw[<-Y6]
  exact Zq fun x _=>Y6 _ _ _
 have e3:(sN n fun x=>sN n fun y=>if x<y then g y x else 0)=sN n fun x=>sN n fun y=>if y<x then g x y else 0:=by
  rw[O3 (fun x y=>if x<y then g y x else 0) n n]
 rw[e1,e2,e3,<-Y6]
 refine Zq fun x hx=>?_
 rw[<-Y6]
 refine Zq fun y hy=>?_
 by_cases q:x=y
 ·subst q;simp[h x hx]
 ·split<;>split<;>omega
theorem Ob(g:ZF->ZF)(p:ZF):∀l:List ZF,(((l.map g).count p:Nat):Int)=(l.map fun e=>if g e=p then 1 else 0).sum
 | []=>rfl
 | e::l=>by
  rw[List.map_cons,List.count_cons,List.map_cons,List.sum_cons,Int.natCast_add,Ob g p l]
  by_cases q:g e=p
  ·simp[q];omega
  ·simp[q]
theorem FP{a b x u:Nat}(hab:a<b):(if VJ a b x=u then(1:Int) else 0)=Z8 x (Rx b u)+if u=a then Z8 x b else 0:=by
 have h:=DU (a:=a) (b:=b) (x:=x) (u:=u) hab
 have:=Lc b u
 unfold Z8
 by_cases q1:x=Rx b u
 ·rw[if_pos (h.mpr (.inl q1)),if_pos q1]
  split
  ·rw[if_neg (by omega)];rfl
  ·rfl
 ·rw[if_neg q1]
  by_cases q2:x=b/\u=a
  ·rw[if_pos (h.mpr (.inr q2)),if_pos q2.2,if_pos q2.1];rfl
  ·rw[if_neg (fun z=>by rcases h.mp z with z | z;exact q1 z;exact q2 z)]
   split
   ·rw[if_neg (fun z=>q2 ⟨z,by assumption⟩)];rfl
   ·rfl
theorem HI{n a b u:Nat}(hab:a<b)(hb:b<n)(hu:Rx b u<n)(f:Nat->Int):sN n (fun x=>(if VJ a b x=u then 1 else 0)*f x)=f (Rx b u)+if u=a then f b else 0:=by
 have e:sN n (fun x=>(if VJ a b x=u then 1 else 0)*f x)=sN n fun x=>Z8 x (Rx b u)*f x+(if u=a then Z8 x b*f x else 0):=Zq fun x _=>by
  rw[FP hab,Int.add_mul]
  split<;>simp
 rw[e,Y6,Tu hu]
 split
 ·rw[Tu hb]
 ·rw[Sj fun _ _=>rfl]
theorem DV{X Y u v:Nat}(h:u<v):Pd (X,Y)=(u,v)↔(X=u/\Y=v)\/(X=v/\Y=u):=by
 unfold Pd
 simp only
 split
 ·rw[Prod.mk.injEq];omega
 ·rw[Prod.mk.injEq];omega
theorem JI{m:Nat}{w:Nat->Nat->Int}(ok:Wt (m+1) w){a b:Nat}(hab:a<b)(hb:b<m+1){u v:Nat}(huv:u<v)(hv:v<m) :
  ((((Ys (m+1) w).map fun e=>Pd (VJ a b e.1,VJ a b e.2)).count (u,v):Nat):Int)=WT w a b u v:=by
 have lt:∀x,x<m->Rx b x<m+1:=fun x hx=>by unfold Rx;split<;>omega
 rw[Ob,P9 ok]
 let F:Nat->Nat->Int:=fun x u=>if VJ a b x=u then 1 else 0
 have e1:∀x y,(if Pd (VJ a b x,VJ a b y)=(u,v) then(1:Int) else 0)=F x u*F y v+F y u*F x v:=fun x y=>by
  show _=(if VJ a b x=u then(1:Int) else 0)*(if VJ a b y=v then 1 else 0)+(if VJ a b y=u then 1 else 0)*(if VJ a b x=v then 1 else 0)
  generalize VJ a b x=X
  generalize VJ a b y=Y
  have ne:=DV (X:=X) (Y:=Y) huv
  by_cases q1:X=u/\Y=v
  ·rw[if_pos (ne.mpr (.inl q1)),if_pos q1.1,if_pos q1.2,if_neg (show ¬Y=u by omega)];simp
  ·by_cases q2:Y=u/\X=v
   ·rw[if_pos (ne.mpr (.inr ⟨q2.2,q2.1⟩)),if_pos q2.1,if_pos q2.2,if_neg (show ¬X=u by omega)];simp
   ·rw[if_neg (fun z=>by rcases ne.mp z with z | z;exact q1 z;exact q2 ⟨z.2,z.1⟩)]
    by_cases q3:X=u
    ·rw[if_pos q3,if_neg (show ¬Y=v from fun z=>q1 ⟨q3,z⟩),if_neg (show ¬X=v by omega)];simp
    ·rw[if_neg q3]
     by_cases q4:Y=u
     ·rw[if_pos q4,if_neg (show ¬X=v from fun z=>q2 ⟨q4,z⟩)];simp
     ·rw[if_neg q4];simp
 have e2:(sN (m+1) fun x=>sN (m+1) fun y=>if x<y then w x y*(if Pd (VJ a b x,VJ a b y)=(u,v) then(1:Int) else 0) else 0)=sN (m+1) fun x=>sN (m+1) fun y=>if x<y then(w x y*(F x u*F y v))+(w y x*(F y u*F x v)) else 0:=Zq fun x hx=>Zq fun y hy=>by
  rw[e1,ok.sy y x hy hx,Int.mul_add]
 show(sN (m+1) fun x=>sN (m+1) fun y=>if x<y then w x y*(if Pd (VJ a b x,VJ a b y)=(u,v) then(1:Int) else 0) else 0)=_
 rw[e2,FO (g:=fun x y=>w x y*(F x u*F y v)) fun x hx=>by rw[ok.dg x hx];simp]
 have e3:(sN (m+1) fun x=>sN (m+1) fun y=>w x y*(F x u*F y v))=sN (m+1) fun x=>(if VJ a b x=u then 1 else 0)*(w x (Rx b v)+if v=a then w x b else 0):=Zq fun x hx=>by
  rw[<-HI hab hb (lt v hv) (w x),<-Y7]
  refine Zq fun y _=>?_
  show w x y*((if VJ a b x=u then 1 else 0)*(if VJ a b y=v then 1 else 0))=(if VJ a b x=u then 1 else 0)*((if VJ a b y=v then 1 else 0)*w x y)
  by_cases q1:VJ a b x=u<;>by_cases q2:VJ a b y=v<;>simp[q1,q2]
 rw[e3,HI hab hb (lt u (by omega)) fun x=>w x (Rx b v)+if v=a then w x b else 0];unfold WT
 by_cases q1:u=a
 ·have:v≠a:=by omega
  simp[q1,this]
 ·by_cases q2:v=a
  ·simp[q1,q2]
  ·simp[q1,q2]
theorem FQ{m:Nat}(hm:m<=6){w:Nat->Nat->Int}(ok:Wt (m+1) w){a b:Nat}(hab:a<b)(hb:b<m+1)(h0:w a b=0)(s:Nat) :
  YQ (Ys (m+1) w) (mrg id a b) s=YQ (Ys m (WT w a b)) id s:=by
 have lt:∀x,x<m+1->VJ a b x<m:=fun x hx=>by unfold VJ;split<;>(try split)<;>omega
 have inn:=VD (m+1) w
 rw[RM (n':=m) (Q:=id) (VJ a b) inn lt fun x y hx hy=>?_]
 ·have in2:InN m ((Ys (m+1) w).map fun e=>(VJ a b e.1,VJ a b e.2)):=fun f hf=>by
   obtain⟨e,he,rfl⟩:=List.mem_map.mp hf
   exact⟨lt _ (inn e he).1,lt _ (inn e he).2⟩
  rw[RO in2,List.map_map]
  have per:((Ys (m+1) w).map fun e=>Pd (VJ a b e.1,VJ a b e.2)).Perm (Ys m (WT w a b)):=QT fun p=>by
   rw[UI (by omega)]
   obtain⟨u,v⟩:=p
   split
   ·rename_i hp
    obtain⟨huv,hv⟩:=mem_prs.mp hp
    have:=JI ok hab hb huv hv
    show _=(WT w a b u v).toNat
    omega
   ·rename_i hp
    rw[List.count_eq_zero];intro hmem
    obtain⟨e,he,e2⟩:=List.mem_map.mp hmem
    have hin:=inn e he;unfold Ys at he
    obtain⟨q,hq,he⟩:=List.mem_flatMap.mp he
    rw[List.mem_replicate] at he
    obtain⟨hne,rfl⟩:=he
    have hlt:=mem_prs.mp (show(e.1,e.2)∈Lb (m+1) from hq)
    have nab:¬(e.1=a/\e.2=b):=fun z=>hne (by rw[z.1,z.2,h0];rfl)
    have ne:VJ a b e.1≠VJ a b e.2:=fun z=>by
     unfold VJ at z
     split at z<;>split at z<;>(try split at z)<;>(try split at z)<;>omega
    have l1:=lt _ hin.1;have l2:=lt _ hin.2
    apply hp
    rw[<-e2];unfold Pd
    split
    ·rename_i z;exact mem_prs.mpr ⟨z,l2⟩
    ·exact mem_prs.mpr ⟨by simp only at *;omega,l1⟩
  exact N4 per (n:=m) fun f hf=>by
   obtain⟨e,he,rfl⟩:=List.mem_map.mp hf
   have l1:=lt _ (inn e he).1
   have l2:=lt _ (inn e he).2
   unfold Pd
   split
   ·exact⟨l1,l2⟩
   ·exact⟨l2,l1⟩
 ·show mrg id a b x=mrg id a b y↔VJ a b x=VJ a b y
  rw[ZS];simp only[id];unfold VJ
  split<;>split<;>(try split)<;>(try split)<;>omega
theorem HJ{m:Nat}(h1:1<=m)(hm:m<=6){w:Nat->Nat->Int}(ok:Wt (m+1) w){a b:Nat}(hab:a<b)(hb:b<m+1){d:Int}(hd:0<=d) :
  YQ (Ys (m+1) (Xx w a b d)) id m=d.toNat*YQ (Ys m (WT w a b)) id (m-1)+YQ (Ys (m+1) (Xx w a b 0)) id m:=by
 have ok0:Wt (m+1) (Xx w a b 0):=by
  refine⟨fun x y hx hy=>?_,fun x y hx hy=>?_,fun x hx=>?_⟩
  ·unfold Xx;split
   ·omega
   ·exact ok.nn x y hx hy
  ·unfold Xx
   by_cases q:(x=a/\y=b)\/(x=b/\y=a)
   ·rw[if_pos q,if_pos (by omega)]
   ·rw[if_neg q,if_neg (by omega),ok.sy x y hx hy]
  ·unfold Xx
   rw[if_neg (by omega),ok.dg x hx]
 have e:WT (Xx w a b 0) a b=WT w a b:=by
  funext x y
  have n1:=Lc b x;have n2:=Lc b y;unfold WT Xx;rw[if_neg (by omega)]
  congr 1
  ·congr 1
   split
   ·rename_i z
    have:Rx b y≠a:=fun z2=>z.2 (by unfold Rx at z2;split at z2<;>omega)
    rw[if_neg (by omega)]
   ·rfl
  ·split
   ·rename_i z
    have:Rx b x≠a:=fun z2=>z.2 (by unfold Rx at z2;split at z2<;>omega)
    rw[if_neg (by omega)]
   ·rfl
 rw[N4 (JH (w:=w) (by omega) hab hb hd) (VD _ _)]
 obtain⟨s,rfl⟩:∃s,m=s+1:=⟨m-1,by omega⟩
 rw[FL (e:=(a,b)) (P:=id) (show id a≠id b from by simp only[id];omega),FQ hm ok0 hab hb (by unfold Xx;simp),e]
 rfl
def Ge(m:Nat)(E:List ZF)(P:Nat->Nat):Prop:=∀χ:Nat->Bool,(∀e∈E,χ e.1=χ e.2)->(∀x y,x<=m->y<=m->P x=P y->χ x=χ y)->∀x,x<=m->χ x=χ 0
theorem HK{m:Nat}{P:Nat->Nat}(ok:RepOk m P){a b:Nat}(ha:a<=m)(hb:b<=m)(q:P a≠P b):∃Q,Eqv (m+1) (mrg P a b) Q/\RepOk m Q/\Wn m Q=Wn m P-1:=by
 refine⟨if P b=0 then mrg P b a else mrg P a b,fun x y _ _=>?_,?_⟩
 ·split
  ·rw[ZS,ZS];omega
  ·exact Iff.rfl
 ·split
  ·exact⟨ok.mrg hb ha (by omega) (by omega),VC ok hb ha (by omega)⟩
  ·exact⟨ok.mrg ha hb (by assumption) q,VC ok ha hb q⟩
theorem Kr{m:Nat}{E:List ZF}{P Q:Nat->Nat}(e:Eqv (m+1) P Q)(h:Ge m E P):Ge m E Q:=fun χ h1 h2=>h χ h1 fun x y hx hy z=>h2 x y hx hy ((e x y (by omega) (by omega)).mp z)
theorem Ks{m:Nat}{E:List ZF}{P:Nat->Nat}{a b:Nat}(ha:a<=m)(hb:b<=m)(h:Ge m ((a,b)::E) P):Ge m E (mrg P a b):=fun χ h1 h2=>by
 refine h χ (fun e he=>?_) fun x y hx hy z=>h2 x y hx hy ((ZS _ _ _ _ _).mpr (.inl z))
 rcases List.mem_cons.mp he with rfl | he
 ·exact h2 a b ha hb ((ZS _ _ _ _ _).mpr (.inr (by omega)))
 ·exact h1 e he
theorem FR{m:Nat}{P:Nat->Nat}(ok:RepOk m P)(h:∀x,x<=m->P x=P 0):Wn m P=1:=by
 unfold Wn
 have:sN (m+1) (fun x=>Z8 (P x) x)=sN (m+1) (fun x=>Z8 x 0*1):=Zq fun x hx=>by
  rw[h x (by omega),ok.root,Int.mul_one];unfold Z8
  by_cases q:x=0
  ·rw[if_pos q,if_pos q.symm]
  ·rw[if_neg q,if_neg (Ne.symm q)]
 rw[this,Tu (by omega)]
theorem RP{m:Nat}:∀{E:List ZF}{P:Nat->Nat}{k:Nat},InN (m+1) E->RepOk m P->Wn m P=(k:Int)+1->Ge m E P->YQ E P k≠0
 | [],P,k,_,ok,hr,h=>by
  have all:∀x,x<=m->P x=P 0:=fun x hx=>by
   have:=h (fun x=>decide (P x=P 0)) (by simp) (fun x y _ _ z=>by simp only[z]) x hx
   simpa using this
  have:k=0:=by rw[FR ok all] at hr;omega
  subst this;exact Nat.one_ne_zero
 | (a,b)::E,P,k,hE,ok,hr,h=>by
  have he:=hE (a,b) (by simp)
  have ha:a<=m:=by have:=he.1;simp only at this;omega
  have hb:b<=m:=by have:=he.2;simp only at this;omega
  have hE':InN (m+1) E:=fun f hf=>hE f (by simp[hf])
  by_cases q:P a=P b
  ·rw[UH (e:=(a,b)) q]
   refine RP hE' ok hr fun χ h1 h2=>h χ (fun e he=>?_) h2
   rcases List.mem_cons.mp he with rfl | he
   ·exact h2 a b ha hb q
   ·exact h1 e he
  ·obtain⟨Q,e1,okQ,rQ⟩:=HK ok ha hb q
   have:1<=Wn m Q:=QO okQ
   obtain⟨j,rfl⟩:∃j,k=j+1:=⟨k-1,by omega⟩
   rw[Sl (e:=(a,b)) q]
   have:=RP (k:=j) hE' okQ (by rw[rQ,hr];omega) (Kr e1 (Ks ha hb h))
   rw[Xb hE' e1];omega
 termination_by E=>E.length
theorem Uh{m a b:Nat}{χ:Nat->Bool}(ha:a<=m)(hb:b<=m)(hab:χ a≠χ b):∀{E:List ZF}{P:Nat->Nat}{s:Nat},InN (m+1) E->(∀e∈E,χ e.1=χ e.2)->(∀x y,x<=m->y<=m->P x=P y->χ x=χ y)->YQ E P s=YQ E (mrg P a b) s
 | [],P,0,_,_,_=>rfl
 | [],P,_+1,_,_,_=>rfl
 | e::E,P,0,hE,h1,h2=>Uh ha hb hab (E:=E) (fun f hf=>hE f (by simp[hf])) (fun f hf=>h1 f (by simp[hf])) h2
 | (c,d)::E,P,s+1,hE,h1,h2=>by
  have he:=hE (c,d) (by simp)
  have hc:c<=m:=by have:=he.1;simp only at this;omega
  have hd:d<=m:=by have:=he.2;simp only at this;omega
  have hE':InN (m+1) E:=fun f hf=>hE f (by simp[hf])
  have h1':∀e∈E,χ e.1=χ e.2:=fun f hf=>h1 f (by simp[hf])
  have hcd:χ c=χ d:=h1 (c,d) (by simp)
  show(if P c=P d then 0 else YQ E (mrg P c d) s)+YQ E P (s+1)=(if mrg P a b c=mrg P a b d then 0 else YQ E (mrg (mrg P a b) c d) s)+YQ E (mrg P a b) (s+1)
  rw[Uh ha hb hab (s:=s+1) hE' h1' h2]
  congr 1
  have key:mrg P a b c=mrg P a b d↔P c=P d:=by
   rw[ZS];constructor
   ·rintro(z | ⟨z1 | z1,z2 | z2⟩)
    ·exact z
    ·omega
    ·exact absurd (by rw[<-h2 c a hc ha z1,<-h2 d b hd hb z2,hcd]) hab
    ·exact absurd (by rw[<-h2 d a hd ha z2,<-h2 c b hc hb z1,hcd]) hab
    ·omega
   ·exact .inl
  by_cases q:P c=P d
  ·rw[if_pos q,if_pos (key.mpr q)]
  ·rw[if_neg q,if_neg fun z=>q (key.mp z)]
   rw[Uh ha hb hab (s:=s) hE' h1' (P:=mrg P c d) fun x y hx hy z=>?_]
   ·exact Xb hE' fun x y _ _=>P6 _ _ _ _ _ _ _
   ·rw[ZS] at z
    rcases z with z | ⟨z1 | z1,z2 | z2⟩
    ·exact h2 x y hx hy z
    ·rw[h2 x c hx hc z1,h2 y c hy hc z2]
    ·rw[h2 x c hx hc z1,h2 y d hy hd z2,hcd]
    ·rw[h2 x d hx hd z1,h2 y c hy hc z2,hcd]
    ·rw[h2 x d hx hd z1,h2 y d hy hd z2]
def ch:Nat->Nat->Nat
 | _,0=>1
 | 0,_+1=>0
 | k+1,s+1=>ch k s+ch k (s+1)
theorem FT(k s:Nat):ch k s<=ch (k+1) (s+1):=by show _<=ch k s+ch k (s+1);omega
theorem U5{m:Nat}:∀{E:List ZF}{P:Nat->Nat}{k s:Nat},InN (m+1) E->RepOk m P->Wn m P=(k:Int)+1->Ge m E P->YQ E P s<=ch k s*YQ E P k
 | E,P,k,0,hE,ok,hr,h=>by
  have:=RP hE ok hr h
  rw[Sn]
  show 1<=ch k 0*_
  have:ch k 0=1:=by cases k<;>rfl
  rw[this];omega
 | [],P,k,s+1,hE,ok,hr,h=>Nat.zero_le _
 | (a,b)::E,P,k,s+1,hE,ok,hr,h=>by
  have he:=hE (a,b) (by simp)
  have ha:a<=m:=by have:=he.1;simp only at this;omega
  have hb:b<=m:=by have:=he.2;simp only at this;omega
  have hE':InN (m+1) E:=fun f hf=>hE f (by simp[hf])
  by_cases q:P a=P b
  ·rw[UH (e:=(a,b)) q,UH (e:=(a,b)) q]
   refine U5 hE' ok hr fun χ h1 h2=>h χ (fun e he=>?_) h2
   rcases List.mem_cons.mp he with rfl | he
   ·exact h2 a b ha hb q
   ·exact h1 e he
  ·obtain⟨Q,e1,okQ,rQ⟩:=HK ok ha hb q
   have:1<=Wn m Q:=QO okQ
   obtain⟨j,rfl⟩:∃j,k=j+1:=⟨k-1,by omega⟩
   rw[Sl (e:=(a,b)) q,Sl (e:=(a,b)) q]
   have hQ:Wn m Q=(j:Int)+1:=by rw[rQ,hr];omega
   have hngQ:Ge m E Q:=Kr e1 (Ks ha hb h)
   simp only
   by_cases hh:Ge m E P
   ·have i1:=U5 (s:=s) hE' okQ hQ hngQ
    have i2:=U5 (s:=s+1) hE' ok hr hh
    rw[Xb hE' e1,Xb hE' e1,Nat.mul_add]
    have:=Nat.mul_le_mul_right (YQ E Q j) (FT j s)
    omega
   ·have:∃χ:Nat->Bool,(∀e∈E,χ e.1=χ e.2)/\(∀x y,x<=m->y<=m->P x=P y->χ x=χ y)/\¬ ∀x,x<=m->χ x=χ 0:=by
     unfold Ge at hh
     exact Classical.byContradiction fun z=>hh fun χ h1 h2=>Classical.byContradiction fun z2=>z ⟨χ,h1,h2,z2⟩
    obtain⟨χ,h1,h2,h3⟩:=this
    have hab:χ a≠χ b:=fun z=>h3 (h χ (fun e he=>by
     rcases List.mem_cons.mp he with rfl | he
     ·exact z
     ·exact h1 e he) h2)
    have i1:=U5 (s:=s) hE' okQ hQ hngQ
    have i2:=U5 (s:=s+1) hE' okQ hQ hngQ
    have e2:YQ E P (s+1)=YQ E Q (s+1):=by rw[Uh ha hb hab hE' h1 h2,Xb hE' e1]
    rw[Xb hE' e1,Xb hE' e1,e2]
    show _<=(ch j s+ch j (s+1))*_
    rw[Nat.add_mul,Nat.mul_add,Nat.mul_add];omega
 termination_by E=>E.length
theorem C5:∀k,k<=6->∀s,s<=6->ch k s<=20:=by decide +kernel
end PW
namespace PB
open L2 VL PW
structure WebOk(w:List (List Int)):Prop where
 pos:1<=w.length
 few:w.length<=7
 sq:∀i,i<w.length->(Zt w i).length=w.length
 lo:∀i j,i<w.length->j<w.length->0<=ZM w i j
 hi:∀i j,i<w.length->j<w.length->ZM w i j<=18
 sym:∀i j,i<w.length->j<w.length->ZM w i j=ZM w j i
 dia:∀i,i<w.length->ZM w i i=0
theorem D5{W:List (List Int)}(ok:L2.WebOk W):WebOk W:=⟨ok.pos,ok.few,ok.sq,ok.lo,fun i j hi hj=>Int.le_trans (ok.hi i j hi hj) (by decide),ok.sym,ok.dia⟩
theorem U1{W:List (List Int)}(ok:WebOk W){i:Nat}(hi:i<W.length):(Zt W i).sum=((List.range W.length).map fun j=>ZM W i j).sum:=by
 rw[<-LD (Zt W i),ok.sq i hi];rfl
theorem N9{f:Nat->Int}:∀{n:Nat},(∀i,i<n->0<=f i/\f i<=18)->0<=sN n f/\sN n f<=18*n
 | 0,_=>⟨Int.le_refl _,by show(0:Int)<=_;omega⟩
 | n+1,h=>by
  obtain⟨a,b⟩:=N9 (n:=n) fun i hi=>h i (by omega)
  have:=h n (by omega)
  refine⟨?_,?_⟩
  ·show 0<=sN n f+f n;omega
  ·show sN n f+f n<=_;omega
theorem Hw{W:List (List Int)}(ok:WebOk W)(cn:Ts W){Y:Nat->Int}{b:Nat}(hb:b<W.length)(hyp:∀h,h<W.length->h≠b->Y h<Y b->gN W Y h<=0):∀h,h<W.length->Y b<=Y h:=by
 intro h hh
 refine Int.not_lt.mp fun hlt=>?_
 obtain⟨h0,l0,m0⟩:=QL Y (n:=W.length) (by omega)
 have lt0:Y h0<Y b:=by have:=m0 h hh;omega
 have step:∀a c,a<W.length->c<W.length->0<ZM W a c->Y a=Y h0->Y c=Y h0:=fun a c ha hc hp ea=>by
  have s:=hyp a ha (fun z=>by rw[z] at ea;omega) (by omega)
  have t:=UE (f:=fun g=>ZM W a g*(Y g-Y a)) (fun g hg=>Int.mul_nonneg (ok.lo a g ha hg) (by have:=m0 g hg;omega)) s c hc
  have:Y c-Y a=0:=by
   rcases Int.mul_eq_zero.mp t with z | z
   ·omega
   ·exact z
  omega
 have:=(cn (fun x=>Y x=Y h0) (fun a c ha hc hp=>⟨step a c ha hc hp,step c a hc ha (by rw[ok.sym c a hc ha];exact hp)⟩) h0 b l0 hb).mp rfl
 omega
theorem M9{W:List (List Int)}(ok:WebOk W){b:Nat}(hb:b<W.length){Y:Nat->Int}(h0:Y b=0){k:Nat}(hk:k<W.length-1):gN W Y (Yz b k) = - sN (W.length-1) (fun i=>YS W b k i*Y (Yz b i)):=by
 have hp:=ok.pos
 obtain⟨m,hm⟩:∃m,W.length=m+1:=⟨W.length-1,by omega⟩
 have hm1:W.length-1=m:=by omega
 rw[hm1] at hk ⊢
 generalize hh:Yz b k=h
 have hhn:h<W.length:=by rw[hm,<-hh];exact Xk hk
 have e1:sN m (fun i=>YS W b k i*Y (Yz b i))=sN (m+1) (fun g=>(if g=h then(Zt W h).sum else-ZM W h g)*Y g):=by
  rw[M8 (b:=b) (f:=fun g=>(if g=h then(Zt W h).sum else-ZM W h g)*Y g) (by rw[h0,Int.mul_zero]) (by omega)]
  exact Zq fun i _=>by unfold YS;rw[hh]
 have e2:sN (m+1) (fun g=>(if g=h then(Zt W h).sum else-ZM W h g)*Y g)=(-1)*sN (m+1) (fun g=>ZM W h g*Y g)+(Zt W h).sum*Y h:=by
  have:sN (m+1) (fun g=>if g=h then(Zt W h).sum*Y h else 0)=(Zt W h).sum*Y h:=by
   rw[YL (k:=h) (by omega) fun i _ hi=>if_neg hi,if_pos rfl]
  rw[<-this,<-Y7,<-Y6]
  refine Zq fun g hg=>?_
  by_cases q:g=h
  ·subst q
   rw[if_pos rfl,if_pos rfl,ok.dia g hhn];omega
  ·rw[if_neg q,if_neg q,Int.neg_mul,Int.neg_mul,Int.one_mul];omega
 have e3:(Zt W h).sum=sN (m+1) (fun g=>ZM W h g):=by rw[U1 ok hhn,Ue,hm]
 have e4:gN W Y h=sN (m+1) (fun g=>ZM W h g*Y g)+(- Y h)*sN (m+1) (fun g=>ZM W h g):=by
  unfold gN;rw[hm,<-Y7,<-Y6]
  exact Zq fun g _=>by rw[Int.mul_sub,Int.mul_comm (- Y h),Int.mul_neg];omega
 rw[e4,e1,e2,e3,Int.mul_comm (sN (m+1) fun g=>ZM W h g) (Y h),Int.neg_mul];omega
theorem Hz{W:List (List Int)}(ok:WebOk W)(cn:Ts W){b:Nat}(hb:b<W.length)(c:Nat->Int):D4 (W.length-1) (YS W b) (Rw W b c):=by
 have hp:=ok.pos
 obtain⟨m,hm⟩:∃m,W.length=m+1:=⟨W.length-1,by omega⟩
 have hm1:W.length-1=m:=by omega
 have sym:∀i j,i<m->j<m->YS W b i j=YS W b j i:=fun i j hi hj=>by
  unfold YS
  by_cases q:Yz b j=Yz b i
  ·rw[if_pos q,if_pos q.symm,q]
  ·rw[if_neg q,if_neg (fun z=>q z.symm),ok.sym _ _ (by rw[hm];exact Xk hi) (by rw[hm];exact Xk hj)]
 rw[hm1]
 refine⟨sym,fun p hp' z hz k hk=>?_,fun i j hi hj=>by unfold Rw;rw[hm1,if_pos hj]⟩
 obtain⟨Z,hZ⟩:∃Z:Nat->Int,∀h,Z h=if h=b then 0 else if Gd b h<p then z (Gd b h) else 0:=⟨_,fun _=>rfl⟩
 have Zb:Z b=0:=by rw[hZ,if_pos rfl]
 have Zo:∀i,Z (Yz b i)=if i<p then z i else 0:=fun i=>by rw[hZ,if_neg (Hv b i),Km]
 have flat:∀j,j<p->gN W Z (Yz b j)=0:=fun j hj=>by
  rw[M9 ok hb Zb (by omega),hm1]
  have e:sN m (fun i=>YS W b j i*Z (Yz b i))=sN p (fun k=>z k*YS W b k j):=by
   rw[Tt (q:=p) hp' fun k h1 h2=>by rw[Zo,if_neg (by omega),Int.mul_zero]]
   exact Zq fun k hk=>by rw[Zo,if_pos hk,sym j k (by omega) (by omega),Int.mul_comm]
  rw[e,hz j hj];rfl
 have off:∀h,h<W.length->Z h≠0->gN W Z h=0:=fun h hh ne=>by
  have hb':h≠b:=fun z=>ne (by rw[z];exact Zb)
  have hi:Gd b h<p:=by
   refine Nat.not_le.mp fun q=>ne ?_
   rw[hZ,if_neg hb',if_neg (by omega)]
  have:=flat _ hi
  rw[Kn hb'] at this;exact this
 have up:=Hw ok cn (Y:=Z) hb (fun h hh _ hlt=>by rw[off h hh (by rw[Zb] at hlt;omega)];exact Int.le_refl _)
 have dn:=Hw ok cn (Y:=fun x=>(-1)*Z x) hb (fun h hh _ hlt=>by
  simp only[Zb] at hlt
  rw[Hy,off h hh (by omega)];decide)
 have h1:=up (Yz b k) (by rw[hm];exact Xk (by omega))
 have h2:=dn (Yz b k) (by rw[hm];exact Xk (by omega))
 simp only[Zb,Zo,if_pos hk] at h1 h2
 omega
theorem SX{W:List (List Int)}{h m:Nat}{f:Nat->Nat}(ok:WebOk W)(hh:h<W.length)(hm:m<=6)(hf:∀i,i<m->f i<W.length) :
  WN [wP W,.int (h:Int),.lst (iL (nL ((List.range m).map f)))]=some (pP (Yd m fun j=>if f j=h then(Zt W h).sum else-ZM W h (f j))):=by
 have hc:Zu 1 [1,0] (YM (Za 2)) (.one 0) ZH (Oz (xB (Zg (Yc false) (Za 0) (Za 1))) (Ze X6 [(Za 2),(Za 1)]) (Ml Rk (Zg ZA (Zg ZA (Za 2) (Za 1)) (Za 0)))) [some (wP W),some (.int (h:Int)),some (.lst (iL (nL ((List.range m).map f))))]=some (.lst (iL (Yd m fun j=>if f j=h then(Zt W h).sum else-ZM W h (f j)))):=by
  rw[ZQ (List.range m) (fun(j:Nat)=>.int ((f j:Nat):Int)) (fun j=>.int (if f j=h then(Zt W h).sum else-ZM W h (f j))) (by simp[nL]) (by simp;omega) (fun j hj=>⟨[some (.int ((f j:Nat):Int)),some (.int (h:Int)),some (wP W)],rfl,rfl,?_⟩)]
  ·simp[Yd]
  ·have hj:=List.mem_range.mp hj
   have hfj:=hf j hj
   by_cases q:f j=h
   ·have t:xB (Zg (Yc false) (Za 0) (Za 1)) [some (.int ((f j:Nat):Int)),some (.int (h:Int)),some (wP W)]=some true:=by simp[q]
    rw[if_pos q];rw[V3,t]
    exact QB hh
   ·have q':¬((f j:Nat):Int)=(h:Int):=by omega
    have t:xB (Zg (Yc false) (Za 0) (Za 1)) [some (.int ((f j:Nat):Int)),some (.int (h:Int)),some (wP W)]=some false:=by simp[q']
    rw[if_neg q];rw[V3,t]
    have:=Vl (l:=Zt W h) (k:=f j) (by rw[ok.sq h hh];exact hfj)
    simp[RH hh,this,Rk];rfl
 show Xy 3 Vy _=_
 unfold Vy
 show(Z4 _ [some (wP W),some (.int (h:Int)),some (.lst (iL (nL ((List.range m).map f))))]).bind Xh=_
 rw[VB (v:=pP (Yd m fun j=>if f j=h then(Zt W h).sum else-ZM W h (f j))) (by rw[Xa,Yu,ZP,hc];exact FF)]
 rfl
theorem Ve{W:List (List Int)}{b:Nat}(ok:WebOk W)(hb:b<W.length) :
  YX [wP W,.int (b:Int)]=some (wP (Wb (W.length-1) (W.length-1) (YS W b))):=by
 have hp:=ok.pos;have hf:=ok.few
 obtain⟨m,hm⟩:∃m,W.length=m+1:=⟨W.length-1,by omega⟩
 have hm1:W.length-1=m:=by omega
 rw[hm1]
 let os:=(List.range m).map (Yz b)
 have fo:∀i,i<m->Yz b i<W.length:=fun i hi=>by rw[hm];exact Xk hi
 have e1:Zk 2 (Zu 1 [1] (ZL [(Ze ZG [(Za 0)])]) (.one 0) (xB (Zg (Yc true) (Za 0) (Za 1))) (eP (Za 0))) [some (wP W),some (.int (b:Int)),none]=some (.nx [some (wP W),some (.int (b:Int)),some (.lst (iL (nL os)))]):=by
  have hc:Zu 1 [1] (ZL [(Ze ZG [(Za 0)])]) (.one 0) (xB (Zg (Yc true) (Za 0) (Za 1))) (eP (Za 0)) [some (wP W),some (.int (b:Int)),none]=some (.lst (iL (nL os))):=by
   rw[Wy (List.range W.length) (fun(i:Nat)=>.int (i:Int)) (fun(i:Nat)=>.int (i:Int)) (fun h=>!decide (h=b)) (Ya (n:=W.length) (by simp) (by omega)) (by simp;omega) fun y hy=>⟨[some (.int (y:Int)),some (.int (b:Int))],rfl,?_,fun _=>by simp⟩]
   ·rw[UD hf hb,hm1]
    simp[nL,os]
   ·by_cases q:y=b
    ·simp[q]
    ·have q':¬(y:Int)=(b:Int):=by omega
     simp[q,q']
  rw[Zv,hc];rfl
 have hc:Zu 1 [0,2] (YM (Za 2)) (.one 0) ZH (Ze WN [(Za 1),(Za 0),(Za 2)]) [some (wP W),some (.int (b:Int)),some (.lst (iL (nL os)))]=some (.lst (tL (Wb m m (YS W b)))):=by
  rw[ZQ (List.range m) (fun(i:Nat)=>.int ((Yz b i:Nat):Int)) (fun i=>pP (Yd m (YS W b i))) (by simp[nL,os]) (by simp;omega) (fun i hi=>⟨[some (.int ((Yz b i:Nat):Int)),some (wP W),some (.lst (iL (nL os)))],rfl,rfl,?_⟩),QK]
  exact SX (f:=Yz b) ok (fo i (List.mem_range.mp hi)) (by omega) fo
 show Xy 3 Yv _=_
 unfold Yv
 show(Zj _ _ [some (wP W),some (.int (b:Int)),none]).bind Xh=_
 rw[Yi e1,VB (v:=wP (Wb m m (YS W b))) (by
  rw[Xa,Yu,ZP,hc]
  show(if ZN (wP (Wb m m (YS W b)))=true then some (wP (Wb m m (YS W b))) else none)=_
  rw[if_pos (by rw[US];exact T8 _)])]
 rfl
theorem P0{W:List (List Int)}(ok:WebOk W){b:Nat}{c:Nat->Int}{i j:Nat}(hi:i<W.length-1)(hj:j<W.length-1):(Rw W b c i j).natAbs<=2^7:=by
 have hp:=ok.pos;have hf:=ok.few
 have h1:Yz b i<W.length:=by have:=Xk (b:=b) hi;omega
 have h2:Yz b j<W.length:=by have:=Xk (b:=b) hj;omega
 unfold Rw YS;rw[if_pos hj]
 split
 ·rw[U1 ok h1,Ue]
  obtain⟨a,b⟩:=N9 (f:=fun j=>ZM W (Yz b i) j) (n:=W.length) fun j hj=>⟨ok.lo _ j h1 hj,ok.hi _ j h1 hj⟩
  omega
 ·have:=ok.lo _ _ h1 h2
  have:=ok.hi _ _ h1 h2
  omega
theorem wt{W:List (List Int)}(ok:WebOk W):Wt W.length (ZM W):=⟨fun a b ha hb=>ok.lo a b ha hb,fun a b ha hb=>ok.sym a b ha hb,fun a ha=>ok.dia a ha⟩
def tr(n:Nat)(w:Nat->Nat->Int):Nat:=YQ (Ys n w) id (n-1)
theorem O6{W:List (List Int)}(ok:WebOk W):YZ [wP W]=some (wP (Wb (W.length-1) (W.length-1) (YS W 0))):=by
 have h:=Ve ok (b:=0) ok.pos
 show Xy 1 Vb _=_
 unfold Vb
 show(Z4 _ [some (wP W)]).bind Xh=_
 rw[VB (v:=wP (Wb (W.length-1) (W.length-1) (YS W 0))) h];rfl
theorem JJ{m:Nat}{A B:Mt}(h:∀i j,i<m->j<m->A i j=B i j):Wb m m A=Wb m m B:=by
 unfold Wb Yd
 exact List.map_congr_left fun i hi=>List.map_congr_left fun j hj=>h i j (List.mem_range.mp hi) (List.mem_range.mp hj)
theorem Vn{W:List (List Int)}(ok:WebOk W)(cn:Ts W):ZR [wP W]=some (.int (tr W.length (ZM W):Int)):=by
 have hp:=ok.pos;have hf:=ok.few
 obtain⟨m,hm⟩:∃m,W.length=m+1:=⟨W.length-1,by omega⟩
 have hm1:W.length-1=m:=by omega
 have bk:=Hz ok cn (b:=0) hp (fun _=>0)
 rw[hm1] at bk
 have I:=U2 bk (Nat.le_refl m)
 have sq:=O6 ok;rw[hm1] at sq
 have ex:Wb m m (YS W 0)=Wb m m (Rw W 0 fun _=>0):=JJ fun i j hi hj=>by
  unfold Rw;rw[if_pos (by omega)]
 have ev:=Jz (w:=m) (R:=wP (Wb m m (YS W 0))) (by omega) (by omega) (by omega) bk (fun i j hi hj=>P0 ok (by omega) (by omega)) (fun i hi=>by
  unfold Rw;rw[if_neg (by omega)];exact Nat.zero_le _) (.inr (by rw[ex];rfl))
 have dd:(Tc m (Rw W 0 fun _=>0) m).2=(tr W.length (ZM W):Int):=by
  rw[I.de];unfold tr
  rw[hm,Nat.add_sub_cancel,<-FK (by rw[<-hm];exact wt ok)]
  refine Yb fun r c hr hc=>?_
  unfold YS
  have o1:∀i,Yz 0 i=i+1:=fun i=>by unfold Yz;rw[if_neg (by omega)]
  rw[o1,o1]
  by_cases q:r=c
  ·subst q
   rw[if_pos rfl,if_pos rfl,U1 ok (by omega),Ue,hm]
  ·rw[if_neg (by omega),if_neg q]
 rw[dd] at ev
 have hd:YN [wP (Wb m m (YS W 0))]=some (.int (tr W.length (ZM W):Int)):=by
  show Xy 1 Wd _=_
  unfold Wd
  show(Z4 _ [some (wP (Wb m m (YS W 0)))]).bind Xh=_
  rw[VB (v:=.int (tr W.length (ZM W):Int)) (vP (by
   rw[show Zg ZA (Ze Vx [(Za 0)]) (eC (.int 0)) [some (wP (Wb m m (YS W 0)))]=(Vx [wP (Wb m m (YS W 0))]).bind fun x=>ZA x (.int 0) from rfl,ev]
   rfl))]
  rfl
 show Xy 1 Wz _=_
 unfold Wz
 show(Z4 _ [some (wP W)]).bind Xh=_
 rw[VB (v:=.int (tr W.length (ZM W):Int)) (by
  rw[show Ze YN [(Ze YZ [(Za 0)])] [some (wP W)]=(YZ [wP W]).bind fun x=>YN [x] from by
   simp only[Ze,Rl]
   show((((YZ [wP W])).bind fun x=>(some []).map (x::·)).bind YN)=_
   cases YZ [wP W]<;>rfl,sq]
  exact hd)]
 rfl
theorem mem_ties{n:Nat}{w:Nat->Nat->Int}{e:ZF}:e∈Ys n w↔e.1<e.2/\e.2<n/\0<w e.1 e.2:=by
 unfold Ys;rw[List.mem_flatMap];constructor
 ·rintro⟨p,hp,h⟩
  rw[List.mem_replicate] at h
  obtain⟨h1,rfl⟩:=h
  have:=mem_prs.mp (show(e.1,e.2)∈Lb n from hp)
  exact⟨this.1,this.2,by omega⟩
 ·rintro⟨h1,h2,h3⟩
  exact⟨e,mem_prs.mpr ⟨h1,h2⟩,List.mem_replicate.mpr ⟨by omega,rfl⟩⟩
theorem Ma{W:List (List Int)}(ok:WebOk W)(cn:Ts W):Ge (W.length-1) (Ys W.length (ZM W)) id:=fun χ h1 _ x hx=>by
 have hp:=ok.pos
 have key:=cn (fun x=>χ x=true) (fun a b ha hb hab=>?_) x 0 (by omega) hp
 ·cases e1:χ x<;>cases e2:χ 0<;>simp_all
 ·have:χ a=χ b:=by
   rcases Nat.lt_trichotomy a b with q | q | q
   ·exact h1 (a,b) (mem_ties.mpr ⟨q,hb,hab⟩)
   ·rw[q]
   ·exact(h1 (b,a) (mem_ties.mpr ⟨q,ha,by rw[ok.sym b a hb ha];exact hab⟩)).symm
  rw[this]
theorem DW{W:List (List Int)}(ok:WebOk W)(cn:Ts W):1<=tr W.length (ZM W):=by
 have hp:=ok.pos
 have:=RP (m:=W.length-1) (k:=W.length-1) (by rw[show W.length-1+1=W.length by omega];exact VD _ _) (RepOk.id _) (RN _) (Ma ok cn)
 unfold tr;omega
theorem FU{W:List (List Int)}(ok:WebOk W)(cn:¬Ts W):tr W.length (ZM W)=0:=by
 have hp:=ok.pos
 refine Classical.byContradiction fun z=>cn fun P hP i j hi hj=>?_
 let χ:Nat->Bool:=fun x=>@decide (P x) (Classical.propDecidable _)
 have hχ:∀x,χ x=true↔P x:=fun x=>by simp[χ]
 have key:=QS (m:=W.length-1) (χ:=χ) (E:=Ys W.length (ZM W)) (P:=id) (s:=W.length-1) (by rw[show W.length-1+1=W.length by omega];exact VD _ _) (RepOk.id _) (RN _) (fun e he=>by
  obtain⟨h1,h2,h3⟩:=mem_ties.mp he
  have:=hP e.1 e.2 (by omega) h2 h3
  rw[Bool.eq_iff_iff,hχ,hχ];exact this) (fun x y _ _ h=>by rw[show x=y from h]) z
 have a1:=key i (by omega)
 have a2:=key j (by omega)
 rw[<-hχ i,<-hχ j,a1,a2]
theorem QV{W:List (List Int)}(ok:WebOk W){i j:Nat}(hi:i<W.length)(hj:j<W.length){f g h:XE}{s:ZY}(h1:f s=some (wP W))(h2:g s=some (.int (i:Int)))(h3:h s=some (.int (j:Int))):Zg ZA (Zg ZA f g) h s=some (.int (ZM W i j)):=by
 have a1:VH (W.map pP) (i:Int)=some (pP (Zt W i)):=RH hi
 have a2:=Vl (l:=Zt W i) (k:=j) (by rw[ok.sq i hi];exact hj)
 have b1:Zg ZA f g s=some (pP (Zt W i)):=by
  rw[Z2,h1,h2];exact a1
 rw[Z2,b1,h3];exact a2
theorem Hr(y:Nat)(l:List Nat):RE true (.int (y:Int)) (.lst (iL (nL l)))=some (.bl (!decide (y∈l))):=by
 rw[Hj]
 have:((y:Int)∈nL l)↔y∈l:=by
  unfold nL;rw[List.mem_map]
  exact⟨fun⟨a,h,e⟩=>by rw[show y=a by omega];exact h,fun h=>⟨y,h,rfl⟩⟩
 simp[this]
def Pe(W:List (List Int))(met:List Nat)(h:Nat):Bool:=met.any fun o=>decide (0<ZM W h o)
def Ui(W:List (List Int))(met:List Nat)(h:Nat):List Nat:=if(!decide (h∈met)&&Pe W met h)=true then met++[h] else met
def FV(W:List (List Int))(met:List Nat):List Nat:=(List.range W.length).foldl (Ui W) met
def VF(W:List (List Int)):Nat->List Nat
 | 0=>[0]
 | k+1=>FV W (VF W k)
structure HM(W:List (List Int))(met:List Nat):Prop where
 nd:met.Nodup
 lt:∀x∈met,x<W.length
 zero:0∈met
 one:∀P:Nat->Prop,(∀a b,a<W.length->b<W.length->0<ZM W a b->(P a↔P b))->∀x∈met,(P x↔P 0)
theorem HM.add{W:List (List Int)}{met:List Nat}(h:HM W met){y:Nat}(hy:y<W.length):HM W (Ui W met y):=by
 unfold Ui
 split
 ·rename_i c
  rw[Bool.and_eq_true,Bool.not_eq_true',decide_eq_false_iff_not] at c
  obtain⟨c1,c2⟩:=c
  unfold Pe at c2
  obtain⟨o,ho,c3⟩:=List.any_eq_true.mp c2
  have c3:=of_decide_eq_true c3
  refine⟨List.nodup_append.mpr ⟨h.nd,by simp,fun a ha b hb z=>?_⟩,fun x hx=>?_,by simp[h.zero],fun P hP x hx=>?_⟩
  ·rw[List.mem_singleton.mp hb] at z;exact c1 (z▸ha)
  ·rcases List.mem_append.mp hx with hx | hx
   ·exact h.lt x hx
   ·rw[List.mem_singleton.mp hx];exact hy
  ·rcases List.mem_append.mp hx with hx | hx
   ·exact h.one P hP x hx
   ·rw[List.mem_singleton.mp hx,hP y o hy (h.lt o ho) c3];exact h.one P hP o ho
 ·exact h
theorem HM.fold{W:List (List Int)}:∀{l:List Nat}{met:List Nat},(∀x∈l,x<W.length)->HM W met->HM W (l.foldl (Ui W) met)
 | [],_,_,h=>h
 | y::l,met,hl,h=>HM.fold (l:=l) (fun x hx=>hl x (by simp[hx])) (h.add (hl y (by simp)))
theorem FW(W:List (List Int))(met:List Nat)(h:Nat):met.length<=(Ui W met h).length/\((Ui W met h).length=met.length->Ui W met h=met/\(h∈met\/Pe W met h=false)):=by
 unfold Ui
 split
 ·exact⟨by simp,fun z=>by simp at z⟩
 ·rename_i c
  refine⟨Nat.le_refl _,fun _=>⟨rfl,?_⟩⟩
  by_cases q:h∈met
  ·exact .inl q
  ·right
   simpa [q] using c
theorem Mc(W:List (List Int)):∀(l:List Nat)(met:List Nat),met.length<=(l.foldl (Ui W) met).length/\((l.foldl (Ui W) met).length=met.length->l.foldl (Ui W) met=met/\∀h∈l,h∈met\/Pe W met h=false)
 | [],met=>⟨Nat.le_refl _,fun _=>⟨rfl,by simp⟩⟩
 | y::l,met=>by
  obtain⟨a1,a2⟩:=FW W met y
  obtain⟨b1,b2⟩:=Mc W l (Ui W met y)
  rw[List.foldl_cons]
  refine⟨by omega,fun z=>?_⟩
  obtain⟨c1,c2⟩:=a2 (by omega)
  rw[c1] at b2 z
  obtain⟨d1,d2⟩:=b2 z
  rw[c1]
  refine⟨d1,fun h hh=>?_⟩
  rcases List.mem_cons.mp hh with rfl | hh
  ·exact c2
  ·exact d2 h hh
def Ld(W:List (List Int))(met:List Nat):Prop:=∀h,h<W.length->h∈met\/Pe W met h=false
theorem Lf{W:List (List Int)}(hp:1<=W.length):∀k,HM W (VF W k)/\(Ld W (VF W k)\/k+1<=(VF W k).length)
 | 0=>⟨⟨by simp[VF],by simp[VF];omega,by simp[VF],fun P _ x hx=>by rw[List.mem_singleton.mp hx]⟩,.inr (by simp[VF])⟩
 | k+1=>by
  obtain⟨h1,h2⟩:=Lf hp k
  refine⟨h1.fold fun x hx=>List.mem_range.mp hx,?_⟩
  obtain⟨f1,f2⟩:=Mc W (List.range W.length) (VF W k)
  show Ld W (FV W (VF W k))\/k+1+1<=(FV W (VF W k)).length
  by_cases q:(FV W (VF W k)).length=(VF W k).length
  ·obtain⟨g1,g2⟩:=f2 q
   left
   have:FV W (VF W k)=VF W k:=g1
   rw[this]
   exact fun h hh=>g2 h (List.mem_range.mpr hh)
  ·have f1:(VF W k).length<=(FV W (VF W k)).length:=f1
   rcases h2 with h2 | h2
   ·exfalso
    refine q ?_
    have:∀l:List Nat,(∀x∈l,x<W.length)->l.foldl (Ui W) (VF W k)=VF W k:=by
     intro l
     induction l with
     | nil=>intro _;rfl
     | cons y l ih=>
      intro hl;rw[List.foldl_cons]
      have e:Ui W (VF W k) y=VF W k:=by
       unfold Ui;rw[if_neg]
       rcases h2 y (hl y (by simp)) with z | z
       ·simp[z]
       ·simp[z]
      rw[e]
      exact ih fun x hx=>hl x (by simp[hx])
    show(FV W (VF W k)).length=_
    unfold FV;rw[this _ fun x hx=>List.mem_range.mp hx]
   ·right;omega
theorem Lg:∀{l:List Nat}{n:Nat},l.Nodup->(∀x∈l,x<n)->l.length<=n:=fun{l n} nd h=>by
 have:=List.Nodup.length_le_of_subset nd (l₂:=List.range n) fun x hx=>List.mem_range.mpr (h x hx)
 simpa using this
theorem HL{W:List (List Int)}(ok:WebOk W):(VF W W.length).length=W.length↔Ts W:=by
 have hp:=ok.pos
 obtain⟨h1,h2⟩:=Lf hp W.length
 have hl:=Lg h1.nd h1.lt
 have cl:Ld W (VF W W.length):=by
  rcases h2 with h2 | h2
  ·exact h2
  ·omega
 constructor
 ·intro e P hP i j hi hj
  have all:∀x,x<W.length->x∈VF W W.length:=fun x hx=>Classical.byContradiction fun z=>by
   have:=Lg (l:=x::VF W W.length) (n:=W.length) (List.nodup_cons.mpr ⟨z,h1.nd⟩) fun y hy=>by
    rcases List.mem_cons.mp hy with rfl | hy
    ·exact hx
    ·exact h1.lt y hy
   simp only[List.length_cons] at this;omega
  rw[h1.one P hP i (all i hi),h1.one P hP j (all j hj)]
 ·intro cn
  have inn:∀x,x<W.length->x∈VF W W.length:=fun x hx=>by
   have:=cn (fun x=>x∈VF W W.length) (fun a b ha hb hab=>?_) x 0 hx hp
   ·exact this.mpr h1.zero
   ·constructor
    ·intro h
     rcases cl b hb with z | z
     ·exact z
     ·unfold Pe at z
      have:=List.any_eq_false.mp z a h
      simp at this
      rw[ok.sym b a hb ha] at this;omega
    ·intro h
     rcases cl a ha with z | z
     ·exact z
     ·unfold Pe at z
      have:=List.any_eq_false.mp z b h
      simp at this
      omega
  have:=List.Nodup.length_le_of_subset (List.nodup_range (n:=W.length)) (l₂:=VF W W.length) fun x hx=>inn x (List.mem_range.mp hx)
  simp at this
  omega
noncomputable def DX:XS:=WU (XM (xB (Zg (RE true) (Za 3) (Za 1))) (xB (Ze Nx [(Zu 1 [0,3] (YM (Za 1)) (.one 0) ZH (Zg Oy (Zg ZA (Zg ZA (Za 1) (Za 2)) (Za 0)) (eC (.int 0))))]))) (Y4 1 (eP (Za 3))) ZO
def Ry(W:List (List Int))(met:List Nat)(x2 x3:Option PV):ZY:=[some (wP W),some (.lst (iL (nL met))),x2,x3]
theorem DY{W:List (List Int)}(ok:WebOk W){met:List Nat}(hm:HM W met){h:Nat}(hh:h<W.length)(x2:Option PV):DX (Ry W met x2 (some (.int (h:Int))))=some (.nx (Ry W (Ui W met h) x2 (some (.int (h:Int))))):=by
 have hf:=ok.few;have hl:=Lg hm.nd hm.lt
 have c1:xB (Zg (RE true) (Za 3) (Za 1)) (Ry W met x2 (some (.int (h:Int))))=some (!decide (h∈met)):=by
  rw[XX,show Zg (RE true) (Za 3) (Za 1) (Ry W met x2 (some (.int (h:Int))))=RE true (.int (h:Int)) (.lst (iL (nL met))) from rfl,Hr];rfl
 have c2:xB (Ze Nx [(Zu 1 [0,3] (YM (Za 1)) (.one 0) ZH (Zg Oy (Zg ZA (Zg ZA (Za 1) (Za 2)) (Za 0)) (eC (.int 0))))]) (Ry W met x2 (some (.int (h:Int))))=some (Pe W met h):=by
  have hc:Zu 1 [0,3] (YM (Za 1)) (.one 0) ZH (Zg Oy (Zg ZA (Zg ZA (Za 1) (Za 2)) (Za 0)) (eC (.int 0))) (Ry W met x2 (some (.int (h:Int))))=some (.lst ((met.map fun o=>decide (0<ZM W h o)).map PV.bl)):=by
   rw[ZQ met (fun(o:Nat)=>.int (o:Int)) (fun o=>.bl (decide (0<ZM W h o))) (by simp[Ry,nL,iL,YM,El]) (by omega) (fun o ho=>⟨[some (.int (o:Int)),some (wP W),some (.int (h:Int))],rfl,rfl,?_⟩)]
   ·simp
   ·have:=QV ok hh (hm.lt o ho) (f:=Za 1) (g:=Za 2) (h:=Za 0) (s:=[some (.int (o:Int)),some (wP W),some (.int (h:Int))]) rfl rfl rfl
    rw[Z2,this];rfl
  rw[XX,Yu,ZP,hc]
  show((Nx [.lst ((met.map fun o=>decide (0<ZM W h o)).map PV.bl)])).bind MH=_
  rw[DB]
  show some _=some _
  unfold Pe
  rw[List.any_map];rfl
 unfold DX;rw[Yj,WL,c1]
 show((if(!decide (h∈met))=true then _ else some false):Option Bool).bind _=_
 rw[c2];unfold Ui
 by_cases q1:(!decide (h∈met))=true
 ·rw[if_pos q1,q1,Bool.true_and]
  cases q2:Pe W met h with
  | true=>
   show Y4 1 (eP (Za 3)) (Ry W met x2 (some (.int (h:Int))))=_
   rw[V4 (l:=.int (h:Int)) (m:=iL (nL met)) rfl rfl (by simp[iL,nL];omega)]
   simp[Ry,nL,iL]
  | false=>rfl
 ·have q1:(!decide (h∈met))=false:=by simpa using q1
  rw[if_neg (by rw[q1];exact Bool.false_ne_true),q1]
  rfl
theorem HN{W:List (List Int)}(ok:WebOk W):WH [wP W]=some (.bl (decide ((VF W W.length).length=W.length))):=by
 have hp:=ok.pos;have hf:=ok.few
 have len:∀s:ZY,s[0]?=some (some (wP W))->Ze ZG [(Za 0)] s=some (.int (W.length:Int)):=fun s hs=>by
  simp[hs]
 have inner:∀(met:List Nat)(x2 x3:Option PV),HM W met->∃y3,Z0 [1] (ZL [(Ze ZG [(Za 0)])]) (.one 3) DX (Ry W met x2 x3)=some (.nx (Ry W (FV W met) x2 y3)):=fun met x2 x3 hm=>by
  have hr:ZL [(Ze ZG [(Za 0)])] (ZE [1] (Ry W met x2 x3))=some (Xv W.length):=Ya (n:=W.length) (len _ rfl) (by omega)
  rw[ZU,hr]
  obtain⟨s',f1,y3,hs⟩:=ZK (T:=.one 3) (fb:=DX) (ls:=Xv W.length) (s:=Ry W met x2 x3) (fun i s=>∃y3,s=Ry W ((List.range i).foldl (Ui W) met) x2 y3) ⟨x3,rfl⟩ (by
   rintro i l s hl ⟨y3,rfl⟩
   obtain⟨hi,rfl⟩:=XY hl
   refine⟨Ry W ((List.range i).foldl (Ui W) met) x2 (some (.int (i:Int))),_,rfl,DY ok (hm.fold fun x hx=>by have:=List.mem_range.mp hx;omega) hi x2,some (.int (i:Int)),?_⟩
   rw[List.range_succ,List.foldl_append];rfl)
  refine⟨y3,?_⟩
  show Xc _ _ _ _=_
  rw[f1,hs];simp only[Xv,List.length_map,List.length_range];rfl
 have e1:Zk 1 (Yl [(eP (eC (.int 0)))]) [some (wP W),none,none,none]=some (.nx (Ry W [0] none none)):=rfl
 have e2:∃y2 y3,Z0 [1] (ZL [(Ze ZG [(Za 0)])]) (.one 2) (Z0 [1] (ZL [(Ze ZG [(Za 0)])]) (.one 3) DX) (Ry W [0] none none)=some (.nx (Ry W (VF W W.length) y2 y3)):=by
  have hr:ZL [(Ze ZG [(Za 0)])] (ZE [1] (Ry W [0] none none))=some (Xv W.length):=Ya (n:=W.length) (len _ rfl) (by omega)
  rw[ZU,hr]
  obtain⟨s',f1,y2,y3,hs⟩:=ZK (T:=.one 2) (fb:=Z0 [1] (ZL [(Ze ZG [(Za 0)])]) (.one 3) DX) (ls:=Xv W.length) (s:=Ry W [0] none none) (fun i s=>∃y2 y3,s=Ry W (VF W i) y2 y3) ⟨none,none,rfl⟩ (by
   rintro i l s hl ⟨y2,y3,rfl⟩
   obtain⟨hi,rfl⟩:=XY hl
   obtain⟨z3,hz⟩:=inner (VF W i) (some (.int (i:Int))) y3 (Lf hp i).1
   exact⟨Ry W (VF W i) (some (.int (i:Int))) y3,_,rfl,hz,some (.int (i:Int)),z3,rfl⟩)
  refine⟨y2,y3,?_⟩
  show Xc _ _ _ _=_
  rw[f1,hs];simp only[Xv,List.length_map,List.length_range]
 obtain⟨y2,y3,e2⟩:=e2
 show Xy 4 UW _=_
 unfold UW
 show(Zj _ _ [some (wP W),none,none,none]).bind Xh=_
 unfold DX at e2;rw[Yi e1,Yi e2]
 rw[VB (v:=.bl (decide ((VF W W.length).length=W.length))) (by
  have l1:Ze ZG [(Za 1)] (Ry W (VF W W.length) y2 y3)=some (.int ((VF W W.length).length:Int)):=by simp[Ry,iL,nL]
  have l2:Ze ZG [(Za 0)] (Ry W (VF W W.length) y2 y3)=some (.int (W.length:Int)):=len _ rfl
  rw[Xa,Z2,l1,l2]
  show(Yc false (.int ((VF W W.length).length:Int)) (.int (W.length:Int))).bind _=_
  have:decide (((VF W W.length).length:Int)=(W.length:Int))=decide ((VF W W.length).length=W.length):=decide_eq_decide.mpr (by omega)
  simp[this])]
 rfl
theorem So{W:List (List Int)}(ok:WebOk W):Y9 [wP W]=some (.int (tr W.length (ZM W):Int)):=by
 have hg:=HN ok;have mc:=HL ok
 show Xy 2 UX _=_
 unfold UX
 show(Zj _ _ [some (wP W),none]).bind Xh=_
 by_cases q:Ts W
 ·have hg':WH [wP W]=some (.bl true):=by rw[hg,decide_eq_true (mc.mpr q)]
  have tc:=Vn ok q;have tp:=DW ok q;simp[hg',tc,NV,show ¬((tr W.length (ZM W):Int)<1) by omega]
 ·have hg':WH [wP W]=some (.bl false):=by rw[hg,decide_eq_false fun z=>q (mc.mp z)]
  simp[hg',FU ok q]
theorem Et{M:List (List Int)}{s:ZY}:(Option.bind ((Option.bind (some (PV.lst (tL M))) fun x=>(Rl [] s).map (x::·)).bind Y3) fun l=>if ZN l=true then some l else none)=some (wP M):=by
 show(if ZN (wP M)=true then some (wP M) else none)=_
 rw[if_pos (by rw[US];exact T8 _)]
def Tv(W:List (List Int))(a b:Nat)(d:Int):List (List Int):=Xu (Xu W a b d) b a d
theorem Kt{W:List (List Int)}(ok:WebOk W){a b:Nat}(ha:a<W.length)(hb:b<W.length)(hab:a≠b){d:Int}(h0:0<=d)(h18:d<=18) :
  WebOk (Tv W a b d)/\(Tv W a b d).length=W.length/\∀x y,ZM (Tv W a b d) x y=Xx (ZM W) a b d x y:=by
 obtain⟨l1,r1⟩:=Xd (n:=W.length) (t:=d) (b:=b) rfl ok.sq ha
 obtain⟨l2,r2⟩:=Xd (t:=d) (b:=a) l1 r1 hb
 have E:∀i j,ZM (Tv W a b d) i j=Xx (ZM W) a b d i j:=fun i j=>by
  unfold Tv;rw[Vs l1 r1 hb ha,Vs rfl ok.sq ha hb];unfold Xx
  by_cases q1:b=i/\a=j
  ·rw[if_pos q1,if_pos (.inr ⟨q1.1.symm,q1.2.symm⟩)]
  ·rw[if_neg q1]
   by_cases q2:a=i/\b=j
   ·rw[if_pos q2,if_pos (.inl ⟨q2.1.symm,q2.2.symm⟩)]
   ·rw[if_neg q2,if_neg (by omega)]
 have hl:(Tv W a b d).length=W.length:=l2
 refine⟨⟨by rw[hl];exact ok.pos,by rw[hl];exact ok.few,fun i hi=>by rw[hl] at hi ⊢;exact r2 i hi,fun i j hi hj=>?_,fun i j hi hj=>?_,fun i j hi hj=>?_,fun i hi=>?_⟩,hl,E⟩
 ·rw[hl] at hi hj;rw[E];unfold Xx;split
  ·exact h0
  ·exact ok.lo i j hi hj
 ·rw[hl] at hi hj;rw[E];unfold Xx;split
  ·exact h18
  ·exact ok.hi i j hi hj
 ·rw[hl] at hi hj;rw[E,E];unfold Xx
  by_cases q:(i=a/\j=b)\/(i=b/\j=a)
  ·rw[if_pos q,if_pos (by omega)]
  ·rw[if_neg q,if_neg (by omega)];exact ok.sym i j hi hj
 ·rw[hl] at hi;rw[E];unfold Xx
  rw[if_neg (by omega)];exact ok.dia i hi
theorem Md{W:List (List Int)}(ok:WebOk W){a b:Nat}(ha:a<W.length)(hb:b<W.length)(d:Int):Xq [wP W,.int (a:Int),.int (b:Int),.int d]=some (wP (Tv W a b d)):=by
 have hf:=ok.few
 obtain⟨l1,r1⟩:=Xd (n:=W.length) (t:=d) (b:=b) rfl ok.sq ha
 obtain⟨l2,r2⟩:=Xd (t:=d) (b:=a) l1 r1 hb
 let st:Option PV->ZY:=fun x=>[some (wP W),some (.int (a:Int)),some (.int (b:Int)),some (.int d),x]
 have hc:Zu 1 [] (Vk (Za 0)) (.one 0) ZH (Ze XR [(Za 0)]) (st none)=some (.lst (rL W)):=by
  rw[ZQ W pP (fun r=>.lst (iL r)) rfl (by omega) (fun r _=>⟨_,rfl,rfl,by simp[Yn]⟩)]
  rfl
 have e1:Zk 4 (Zu 1 [] (Vk (Za 0)) (.one 0) ZH (Ze XR [(Za 0)])) (st none)=some (.nx (st (some (.lst (rL W))))):=by
  rw[Zv,hc];rfl
 have lenM:(rL W).length=W.length:=by unfold rL;rw[List.length_map]
 have lenM2:(rL (Xu W a b d)).length=W.length:=by unfold rL;rw[List.length_map];exact l1
 have e2:XD 4 (Za 1) (Za 2) (Za 3) (st (some (.lst (rL W))))=some (.nx (st (some (.lst (rL (Xu W a b d)))))):=by
  rw[V5 (l:=.int d) (a:=(a:Int)) (b:=(b:Int)) (j:=a) (c:=b) (m:=rL W) (n:=iL (Zt W a)) rfl rfl rfl rfl (W9 (by rw[lenM];omega)) (O1 ha) (Xn _) rfl (W9 (by rw[List.length_map,ok.sq a ha];omega)),O2]
  rfl
 have e3:XD 4 (Za 2) (Za 1) (Za 3) (st (some (.lst (rL (Xu W a b d)))))=some (.nx (st (some (.lst (rL (Tv W a b d)))))):=by
  rw[V5 (l:=.int d) (a:=(b:Int)) (b:=(a:Int)) (j:=b) (c:=a) (m:=rL (Xu W a b d)) (n:=iL (Zt (Xu W a b d) b)) rfl rfl rfl rfl (W9 (by rw[lenM2];omega)) (O1 (by rw[l1];omega)) (Xn _) rfl (W9 (by rw[List.length_map,r1 b hb];omega)),O2]
  rfl
 have hc2:Zu 1 [] (YM (Za 4)) (.one 0) ZH (Ze Y3 [(Za 0)]) (st (some (.lst (rL (Tv W a b d)))))=some (.lst (tL (Tv W a b d))):=by
  rw[ZQ (Tv W a b d) (fun r=>.lst (iL r)) pP rfl (by rw[show(Tv W a b d).length=W.length from l2];omega) (fun r _=>⟨_,rfl,rfl,by simp[Yn]⟩)]
  rfl
 show Xy 5 UY _=_
 unfold UY
 show(Zj _ _ (st none)).bind Xh=_
 rw[Yi e1,Yi e2,Yi e3,VB (v:=wP (Tv W a b d)) (by rw[Xa,Yu,ZP,hc2];exact Et)]
 rfl
def S1(W:List (List Int))(a b:Nat):List (List Int):=Wb (W.length-1) (W.length-1) fun i j=>WT (ZM W) a b i j
theorem FX{W:List (List Int)}(ok:L2.WebOk W){a b:Nat}(hab:a<b)(hb:b<W.length):WebOk (S1 W a b)/\(S1 W a b).length=W.length-1/\∀x y,x<W.length-1->y<W.length-1->ZM (S1 W a b) x y=WT (ZM W) a b x y:=by
 have hf:=ok.few
 obtain⟨m,hm⟩:∃m,W.length=m+1:=⟨W.length-1,by omega⟩
 have hm1:W.length-1=m:=by omega
 have hl:(S1 W a b).length=m:=by unfold S1;rw[Kk,hm1]
 have row:∀x,x<m->Zt (S1 W a b) x=Yd m (fun j=>WT (ZM W) a b x j):=fun x hx=>by
  unfold S1;rw[hm1];exact FG hx
 have E:∀x y,x<m->y<m->ZM (S1 W a b) x y=WT (ZM W) a b x y:=fun x y hx hy=>by
  unfold ZM;rw[row x hx,QJ hy];rfl
 have wk:Wt m (WT (ZM W) a b):=FN (by rw[<-hm];exact wt (D5 ok)) hab (by omega)
 rw[hm1]
 refine⟨⟨by rw[hl];omega,by rw[hl];omega,fun i hi=>?_,fun i j hi hj=>?_,fun i j hi hj=>?_,fun i j hi hj=>?_,fun i hi=>?_⟩,hl,E⟩
 ·rw[hl] at hi ⊢;rw[row i hi,UC]
 ·rw[hl] at hi hj;rw[E i j hi hj];exact wk.nn i j hi hj
 ·rw[hl] at hi hj;rw[E i j hi hj]
  have pl:∀x,x<m->Rx b x<W.length:=fun x hx=>by unfold Rx;split<;>omega
  have h1:=ok.hi _ _ (pl i hi) (pl j hj)
  have h2:=ok.hi _ _ hb (pl j hj)
  have h3:=ok.hi _ _ (pl i hi) hb
  unfold WT
  split<;>split<;>omega
 ·rw[hl] at hi hj;rw[E i j hi hj,E j i hj hi];exact wk.sy i j hi hj
 ·rw[hl] at hi;rw[E i i hi hi];exact wk.dg i hi
theorem FY{W:List (List Int)}(ok9:L2.WebOk W){a b:Nat}(hab:a<b)(hb:b<W.length):Xr [wP W,.int (a:Int),.int (b:Int)]=some (wP (S1 W a b)):=by
 have ok:=D5 ok9;have hf:=ok.few;have hp:=ok.pos
 obtain⟨m,hm⟩:∃m,W.length=m+1:=⟨W.length-1,by omega⟩
 have hm1:W.length-1=m:=by omega
 let os:=(List.range m).map (Yz b)
 let w1:Nat->Nat->Int:=fun i j=>WT (ZM W) a b i j
 have fo:∀i,i<m->Yz b i<W.length:=fun i hi=>by rw[hm];exact Xk hi
 have oa:∀i,Yz b i=a↔i=a:=fun i=>by unfold Yz;split<;>omega
 let st:Option PV->Option PV->Option PV->Option PV->Option PV->Option PV->ZY:=fun x3 x4 x5 x6 x7 x8=>[some (wP W),some (.int (a:Int)),some (.int (b:Int)),x3,x4,x5,x6,x7,x8]
 let L3:Option PV:=some (.lst (iL (nL os)))
 have e1:Zk 3 (Zu 1 [2] (ZL [(Ze ZG [(Za 0)])]) (.one 0) (xB (Zg (Yc true) (Za 0) (Za 1))) (eP (Za 0))) (st none none none none none none)=some (.nx (st L3 none none none none none)):=by
  have hc:Zu 1 [2] (ZL [(Ze ZG [(Za 0)])]) (.one 0) (xB (Zg (Yc true) (Za 0) (Za 1))) (eP (Za 0)) (st none none none none none none)=some (.lst (iL (nL os))):=by
   rw[Wy (List.range W.length) (fun(i:Nat)=>.int (i:Int)) (fun(i:Nat)=>.int (i:Int)) (fun h=>!decide (h=b)) (Ya (n:=W.length) (by simp[st]) (by omega)) (by simp;omega) fun y hy=>⟨[some (.int (y:Int)),some (.int (b:Int))],rfl,?_,fun _=>by simp⟩]
   ·rw[UD hf hb,hm1]
    simp[nL,os]
   ·by_cases q:y=b
    ·simp[q]
    ·have q':¬(y:Int)=(b:Int):=by omega
     simp[q,q']
  rw[Zv,hc];rfl
 have ls3:∀x4 x5 x6 x7 x8,YM (Za 3) (ZE [4,6] (st L3 x4 x5 x6 x7 x8))=some (os.map fun(i:Nat)=>PV.int (i:Int)):=fun x4 x5 x6 x7 x8=>by
  show some (iL (nL os))=_
  simp[iL,nL]
 have osat:∀(i:Nat) l,(os.map fun(i:Nat)=>PV.int (i:Int))[i]?=some l->i<m/\l = .int ((Yz b i:Nat):Int):=fun i l hl=>by
  simp only[os,List.getElem?_map] at hl
  by_cases q:i<m
  ·simp[q] at hl;exact⟨q,hl.symm⟩
  ·simp[q] at hl
 let fi:XS:=(Zj (Zk 8 (eP (Zg ZA (Zg ZA (Za 0) (Za 5)) (Za 7))))
  (Zj (WU (XM (xB (Zg (Yc false) (Za 5) (Za 1))) (xB (Zg (Yc true) (Za 7) (Za 1)))) (Zk 8 (eP (Zg ZX (Za 8) (Zg ZA (Zg ZA (Za 0) (Za 2)) (Za 7))))) ZO)
  (Zj (WU (XM (xB (Zg (Yc false) (Za 7) (Za 1))) (xB (Zg (Yc true) (Za 5) (Za 1)))) (Zk 8 (eP (Zg ZX (Za 8) (Zg ZA (Zg ZA (Za 0) (Za 5)) (Za 2))))) ZO)
  (Y4 6 (eP (Za 8))))))
 have body:∀(i j:Nat) x4 x8,i<m->j<m->fi (st L3 x4 (some (.int ((Yz b i:Nat):Int))) (some (.lst (iL (Yd j (w1 i))))) (some (.int ((Yz b j:Nat):Int))) x8)=some (.nx (st L3 x4 (some (.int ((Yz b i:Nat):Int))) (some (.lst (iL (Yd (j+1) (w1 i))))) (some (.int ((Yz b j:Nat):Int))) (some (.int (w1 i j))))):=fun i j x4 x8 hi hj=>by
  let s0:Option PV->ZY:=fun x8=>st L3 x4 (some (.int ((Yz b i:Nat):Int))) (some (.lst (iL (Yd j (w1 i))))) (some (.int ((Yz b j:Nat):Int))) x8
  have v1:∀x,Zg ZA (Zg ZA (Za 0) (Za 5)) (Za 7) (s0 x)=some (.int (ZM W (Yz b i) (Yz b j))):=fun x=>QV ok (fo i hi) (fo j hj) rfl rfl rfl
  have v2:∀x,Zg ZA (Zg ZA (Za 0) (Za 2)) (Za 7) (s0 x)=some (.int (ZM W b (Yz b j))):=fun x=>QV ok hb (fo j hj) rfl rfl rfl
  have v3:∀x,Zg ZA (Zg ZA (Za 0) (Za 5)) (Za 2) (s0 x)=some (.int (ZM W (Yz b i) b)):=fun x=>QV ok (fo i hi) hb rfl rfl rfl
  have a1:Zk 8 (eP (Zg ZA (Zg ZA (Za 0) (Za 5)) (Za 7))) (s0 x8)=some (.nx (s0 (some (.int (ZM W (Yz b i) (Yz b j)))))):=by
   rw[Zv,vP (v1 x8)];rfl
  have cI:∀x,xB (Zg (Yc false) (Za 5) (Za 1)) (s0 x)=some (decide (i=a)):=fun x=>by
   have:decide (((Yz b i:Nat):Int)=(a:Int))=decide (i=a):=decide_eq_decide.mpr (by rw[<-oa i];omega)
   simp[s0,st,this]
  have cJ:∀x,xB (Zg (Yc false) (Za 7) (Za 1)) (s0 x)=some (decide (j=a)):=fun x=>by
   have:decide (((Yz b j:Nat):Int)=(a:Int))=decide (j=a):=decide_eq_decide.mpr (by rw[<-oa j];omega)
   simp[s0,st,this]
  have cI':∀x,xB (Zg (Yc true) (Za 5) (Za 1)) (s0 x)=some (!decide (i=a)):=fun x=>by
   have:decide (((Yz b i:Nat):Int)=(a:Int))=decide (i=a):=decide_eq_decide.mpr (by rw[<-oa i];omega)
   simp[s0,st,this]
  have cJ':∀x,xB (Zg (Yc true) (Za 7) (Za 1)) (s0 x)=some (!decide (j=a)):=fun x=>by
   have:decide (((Yz b j:Nat):Int)=(a:Int))=decide (j=a):=decide_eq_decide.mpr (by rw[<-oa j];omega)
   simp[s0,st,this]
  have a2:∀z:Int,WU (XM (xB (Zg (Yc false) (Za 5) (Za 1))) (xB (Zg (Yc true) (Za 7) (Za 1)))) (Zk 8 (eP (Zg ZX (Za 8) (Zg ZA (Zg ZA (Za 0) (Za 2)) (Za 7))))) ZO (s0 (some (.int z)))=some (.nx (s0 (some (.int (z+if i=a/\j≠a then ZM W b (Yz b j) else 0))))):=fun z=>by
   rw[Yj,WL,cI,cJ']
   by_cases q1:i=a
   ·by_cases q2:j=a
    ·rw[if_neg (fun h=>h.2 q2)];simp[q1,q2]
    ·rw[if_pos ⟨q1,q2⟩]
     simp only[q1,q2,decide_true,decide_false,Bool.not_false,Option.bind_some,if_true]
     rw[Zv,vP (vI (op:=(· + ·)) (a:=z) (b:=ZM W b (Yz b j)) rfl (v2 _))];rfl
   ·rw[if_neg (fun h=>q1 h.1)];simp[q1]
  have a3:∀z:Int,WU (XM (xB (Zg (Yc false) (Za 7) (Za 1))) (xB (Zg (Yc true) (Za 5) (Za 1)))) (Zk 8 (eP (Zg ZX (Za 8) (Zg ZA (Zg ZA (Za 0) (Za 5)) (Za 2))))) ZO (s0 (some (.int z)))=some (.nx (s0 (some (.int (z+if j=a/\i≠a then ZM W (Yz b i) b else 0))))):=fun z=>by
   rw[Yj,WL,cJ,cI']
   by_cases q1:j=a
   ·by_cases q2:i=a
    ·rw[if_neg (fun h=>h.2 q2)];simp[q1,q2]
    ·rw[if_pos ⟨q1,q2⟩]
     simp only[q1,q2,decide_true,decide_false,Bool.not_false,Option.bind_some,if_true]
     rw[Zv,vP (vI (op:=(· + ·)) (a:=z) (b:=ZM W (Yz b i) b) rfl (v3 _))];rfl
   ·rw[if_neg (fun h=>q1 h.1)];simp[q1]
  show fi (s0 x8)=_
  show Zj _ _ (s0 x8)=_
  rw[Yi a1,Yi (a2 _),Yi (a3 _)]
  rw[V4 (l:=.int (w1 i j)) (m:=iL (Yd j (w1 i))) rfl rfl (by simp[iL,Yd];omega)]
  show some _=some _
  rw[show iL (Yd (j+1) (w1 i))=iL (Yd j (w1 i))++[.int (w1 i j)] by simp[iL,Yd,List.range_succ]]
  rfl
 let fb:XS:=(Zj (Zk 6 (Yl []))
  (Zj (Z0 [4,6] (YM (Za 3)) (.one 7) fi)
  (Y4 4 (eP (Ze Y3 [(Za 6)])))))
 let rows:Nat->Option PV:=fun i=>some (.lst ((List.range i).map fun i=>pP (Yd m (w1 i))))
 have e2:Zk 4 (Yl []) (st L3 none none none none none)=some (.nx (st L3 (rows 0) none none none none)):=rfl
 obtain⟨s',f1,x5,x6,x7,x8,hs⟩:=ZK (T:=.one 5) (fb:=fb) (ls:=os.map fun(i:Nat)=>PV.int (i:Int)) (s:=st L3 (rows 0) none none none none) (fun i s=>∃x5 x6 x7 x8,s=st L3 (rows i) x5 x6 x7 x8) ⟨none,none,none,none,rfl⟩ (by
  rintro i l s hl ⟨x5,x6,x7,x8,rfl⟩
  obtain⟨hi,rfl⟩:=osat i l hl
  obtain⟨s2,g1,y7,y8,hs2⟩:=ZK (T:=.one 7) (fb:=fi) (ls:=os.map fun(i:Nat)=>PV.int (i:Int)) (s:=st L3 (rows i) (some (.int ((Yz b i:Nat):Int))) (some (.lst (iL (Yd 0 (w1 i))))) x7 x8) (fun j s=>∃y7 y8,s=st L3 (rows i) (some (.int ((Yz b i:Nat):Int))) (some (.lst (iL (Yd j (w1 i))))) y7 y8) ⟨x7,x8,rfl⟩ (by
   rintro j l s hl ⟨y7,y8,rfl⟩
   obtain⟨hj,rfl⟩:=osat j l hl
   exact⟨_,_,rfl,body i j (rows i) y8 hi hj,_,_,rfl⟩)
  refine⟨st L3 (rows i) (some (.int ((Yz b i:Nat):Int))) x6 x7 x8,st L3 (rows (i+1)) (some (.int ((Yz b i:Nat):Int))) (some (.lst (iL (Yd m (w1 i))))) y7 y8,rfl,?_,_,_,_,_,rfl⟩
  have b1:Zk 6 (Yl []) (st L3 (rows i) (some (.int ((Yz b i:Nat):Int))) x6 x7 x8)=some (.nx (st L3 (rows i) (some (.int ((Yz b i:Nat):Int))) (some (.lst (iL (Yd 0 (w1 i))))) x7 x8)):=rfl
  have b2:Z0 [4,6] (YM (Za 3)) (.one 7) fi (st L3 (rows i) (some (.int ((Yz b i:Nat):Int))) (some (.lst (iL (Yd 0 (w1 i))))) x7 x8)=some (.nx (st L3 (rows i) (some (.int ((Yz b i:Nat):Int))) (some (.lst (iL (Yd m (w1 i))))) y7 y8)):=by
   rw[ZU,ls3]
   show Xc _ _ _ _=_
   rw[g1,hs2];simp[os]
  show Zj _ _ _=_
  rw[Yi b1,Yi b2,V4 (l:=pP (Yd m (w1 i))) (m:=(List.range i).map fun i=>pP (Yd m (w1 i))) (by rw[Xa,Yu,ZP];exact FF) rfl (by simp;omega)]
  show some _=some _
  rw[show rows (i+1)=some (.lst (((List.range i).map fun i=>pP (Yd m (w1 i)))++[pP (Yd m (w1 i))])) by simp[rows,List.range_succ]]
  rfl)
 have e3:Z0 [4,6] (YM (Za 3)) (.one 5) fb (st L3 (rows 0) none none none none)=some (.nx (st L3 (rows m) x5 x6 x7 x8)):=by
  rw[ZU,ls3]
  show Xc _ _ _ _=_
  rw[f1,hs];simp[os]
 show Xy 9 WA _=_
 unfold WA
 show(Zj _ _ (st none none none none none none)).bind Xh=_
 rw[Yi e1,Yi e2,Yi (show Z0 [4,6] (YM (Za 3)) (.one 5) _ _=_ from e3)]
 rw[VB (v:=wP (S1 W a b)) (by
  have:rows m=some (.lst (tL (S1 W a b))):=by
   unfold S1;rw[hm1,QK]
  rw[Xa,Yu,ZP]
  show Option.bind ((Option.bind (rows m) fun x=>(Rl [] _).map (x::·)).bind Y3) _=_
  rw[this];exact Et)]
 rfl
theorem DO(c:Int):∃v:Int,1<=v/\v<=9/\VH [PV.int 1,PV.int 1,PV.int 2,PV.int 3,PV.int 4] (c%5)=some (.int v):=by
 have h:c%5=0\/c%5=1\/c%5=2\/c%5=3\/c%5=4:=by omega
 rcases h with h | h | h | h | h<;>rw[h]
 ·exact⟨1,by decide,by decide,rfl⟩
 ·exact⟨1,by decide,by decide,rfl⟩
 ·exact⟨2,by decide,by decide,rfl⟩
 ·exact⟨3,by decide,by decide,rfl⟩
 ·exact⟨4,by decide,by decide,rfl⟩
theorem DP(c:Int):∃v:Int,0<=v/\v<=9/\VH [PV.int 0,PV.int 0,PV.int 1,PV.int 1,PV.int 2,PV.int 3,PV.int 4] (c%7)=some (.int v):=by
 have h:c%7=0\/c%7=1\/c%7=2\/c%7=3\/c%7=4\/c%7=5\/c%7=6:=by omega
 rcases h with h | h | h | h | h | h | h<;>rw[h]
 ·exact⟨0,by decide,by decide,rfl⟩
 ·exact⟨0,by decide,by decide,rfl⟩
 ·exact⟨1,by decide,by decide,rfl⟩
 ·exact⟨1,by decide,by decide,rfl⟩
 ·exact⟨2,by decide,by decide,rfl⟩
 ·exact⟨3,by decide,by decide,rfl⟩
 ·exact⟨4,by decide,by decide,rfl⟩
noncomputable def Ho:XS:=(Zj (Zk 7 (Ze Zs [(Za 0),(Zg ZX (Za 1) (Za 6))]))
  (Zj (Zk 8 (eP (Zg ZA (Yl [(eC (.int 1)),(eC (.int 1)),(eC (.int 2)),(eC (.int 3)),(eC (.int 4))]) (Zg YR (Zg XJ (Za 7) (Za 6)) (eC (.int 5))))))
  (Zj (VL.sDPut 4 (Yg [(Zg YR (Za 7) (Za 6)),(Za 6)]) (Za 8))
  (Zk 5 (eP (Zg Xz (Za 5) (Za 8)))))))
theorem M4{ns:List Int}{Zz n:Nat}{first:Int}{ts:List Xm}{room:Int}{x7 x8 x9 x10 x11:Option Int}{h:Nat}(hns:ns.length<=63)(ok:DictOk n ts)(hl:ts.length<=1000)(h1:1<=h)(hh:h<n)(hn:n<=7) :
  ∃ts' room' y7 y8,Ho (Z6 ns Zz n first ts room (some (h:Int)) x7 x8 x9 x10 x11)=some (.nx (Z6 ns Zz n first ts' room' (some (h:Int)) (some y7) (some y8) x9 x10 x11))/\DictOk n ts'/\ts'.length<=ts.length+1/\Ext ts ts'/\∃c,c<h/\NY ts' c h:=by
 generalize hc:YC ns (Zz+h)=c
 have e1:Zk 7 (Ze Zs [(Za 0),(Zg ZX (Za 1) (Za 6))]) (Z6 ns Zz n first ts room (some (h:Int)) x7 x8 x9 x10 x11)=some (.nx (Z6 ns Zz n first ts room (some (h:Int)) (some c) x8 x9 x10 x11)):=by
  have z:(Zz:Int)+(h:Int)=((Zz+h:Nat):Int):=by omega
  have q:=WC hns (Zz+h)
  rw[hc] at q
  have q:Zs [PV.cst (ns.map PV.int),PV.int ((Zz:Int)+(h:Int))]=some (PV.int c):=by rw[z];exact q
  simp[Z6,q]
 obtain⟨v,v1,v9,ev⟩:=DO (c/(h:Int))
 have cd:TF c (h:Int):=V6 (by omega) (by omega)
 have hp:(0:Int)<(h:Int):=by omega
 have e2:Zk 8 (eP (Zg ZA (Yl [(eC (.int 1)),(eC (.int 1)),(eC (.int 2)),(eC (.int 3)),(eC (.int 4))]) (Zg YR (Zg XJ (Za 7) (Za 6)) (eC (.int 5))))) (Z6 ns Zz n first ts room (some (h:Int)) (some c) x8 x9 x10 x11)=some (.nx (Z6 ns Zz n first ts room (some (h:Int)) (some c) (some v) x9 x10 x11)):=by
  simp[Z6,cd,ev]
 have m0:=Int.emod_nonneg c (show(h:Int)≠0 by omega)
 have m1:=Int.emod_lt_of_pos c hp
 obtain⟨ts2,pe,ok2,hle2,hh2,hx2⟩:=U0 (a:=(c%(h:Int)).toNat) (b:=h) (t:=v) ok (by omega) hh v1 v9 (by omega)
 have hcast:(((c%(h:Int)).toNat:Nat):Int)=c%(h:Int):=by omega
 rw[hcast] at pe
 have e3:VL.sDPut 4 (Yg [(Zg YR (Za 7) (Za 6)),(Za 6)]) (Za 8) (Z6 ns Zz n first ts room (some (h:Int)) (some c) (some v) x9 x10 x11)=some (.nx (Z6 ns Zz n first ts2 room (some (h:Int)) (some c) (some v) x9 x10 x11)):=by
  rw[Vz (v:=.int v) (k:=.tup [.int (c%(h:Int)),.int (h:Int)]) (d:=dP ts) rfl (by simp[Z6,show 0<h by omega]) rfl pe]
  rfl
 refine⟨ts2,room-v,c,v,?_,ok2,hle2,hx2,(c%(h:Int)).toNat,by omega,hh2⟩
 unfold Ho;rw[Jx e1 e2 e3];simp[Z6]
noncomputable def Jy:XS:=(Zj (Zk 8 (eP (Zg ZA (Yl [(eC (.int 0)),(eC (.int 0)),(eC (.int 1)),(eC (.int 1)),(eC (.int 2)),(eC (.int 3)),(eC (.int 4))]) (Zg YR (Ze Zs [(Za 0),(Za 9)]) (eC (.int 7))))))
  (Zj (Zk 9 (eP (Zg ZX (Za 9) (eC (.int 1)))))
  (WU (XM (xB (Rr true (Yg [(Za 10),(Za 11)]) (Za 4))) (xB (LX LG JO (eC (.int 0)) (Za 8) (Za 5)))) (Zj (VL.sDPut 4 (Yg [(Za 10),(Za 11)]) (Za 8))
  (Zk 5 (eP (Zg Xz (Za 5) (Za 8))))) ZO)))
theorem M5{ns:List Int}{Zz n:Nat}{first:Int}{ts:List Xm}{room:Int}{x6 x7 x8:Option Int}{k a b:Nat}(hns:ns.length<=63)(ok:DictOk n ts)(hl:ts.length<=1000)(hab:a<b)(hb:b<n) :
  ∃ts' room' y8,Jy (Z6 ns Zz n first ts room x6 x7 x8 (some (k:Int)) (some (a:Int)) (some (b:Int)))=some (.nx (Z6 ns Zz n first ts' room' x6 x7 (some y8) (some ((k+1:Nat):Int)) (some (a:Int)) (some (b:Int))))/\DictOk n ts'/\ts'.length<=ts.length+1/\Ext ts ts':=by
 obtain⟨v,v0,v9,ev⟩:=DP (YC ns k)
 have e1:Zk 8 (eP (Zg ZA (Yl [(eC (.int 0)),(eC (.int 0)),(eC (.int 1)),(eC (.int 1)),(eC (.int 2)),(eC (.int 3)),(eC (.int 4))]) (Zg YR (Ze Zs [(Za 0),(Za 9)]) (eC (.int 7))))) (Z6 ns Zz n first ts room x6 x7 x8 (some (k:Int)) (some (a:Int)) (some (b:Int)))=some (.nx (Z6 ns Zz n first ts room x6 x7 (some v) (some (k:Int)) (some (a:Int)) (some (b:Int)))):=by
  have q:Zs [PV.cst (ns.map PV.int),PV.int (k:Int)]=some (PV.int (YC ns k)):=WC hns k
  simp[Z6,q,ev]
 have e2:Zk 9 (eP (Zg ZX (Za 9) (eC (.int 1)))) (Z6 ns Zz n first ts room x6 x7 (some v) (some (k:Int)) (some (a:Int)) (some (b:Int)))=some (.nx (Z6 ns Zz n first ts room x6 x7 (some v) (some ((k+1:Nat):Int)) (some (a:Int)) (some (b:Int)))):=by
  simp[Z6]
 obtain⟨cc,ec⟩:=Hn ts (a:Int) (b:Int)
 unfold Jy;rw[Hq e1 e2]
 have tst:∃q:Bool,XM (xB (Rr true (Yg [(Za 10),(Za 11)]) (Za 4))) (xB (LX LG JO (eC (.int 0)) (Za 8) (Za 5))) (Z6 ns Zz n first ts room x6 x7 (some v) (some ((k+1:Nat):Int)) (some (a:Int)) (some (b:Int)))=some q/\(q=true->0<v):=by
  have t1:xB (Rr true (Yg [(Za 10),(Za 11)]) (Za 4)) (Z6 ns Zz n first ts room x6 x7 (some v) (some ((k+1:Nat):Int)) (some (a:Int)) (some (b:Int)))=some !cc:=by
   simp[Z6,Rr,ec]
  have t2:xB (LX LG JO (eC (.int 0)) (Za 8) (Za 5)) (Z6 ns Zz n first ts room x6 x7 (some v) (some ((k+1:Nat):Int)) (some (a:Int)) (some (b:Int)))=some (decide (0<v)&&decide (v<=room)):=by
   by_cases hv:0<v
   ·simp[Z6,LX,hv]
   ·simp[Z6,LX,hv]
  rw[WL,t1,t2]
  cases cc with
  | true=>exact⟨false,rfl,fun z=>by cases z⟩
  | false=>exact⟨_,rfl,fun z=>by
    rw[Bool.and_eq_true] at z
    exact of_decide_eq_true z.1⟩
 obtain⟨q,eq,hq⟩:=tst
 rw[Yj,eq];simp only[Option.bind_some]
 cases q with
 | false=>exact⟨ts,room,v,rfl,ok,by omega,Ext.refl ts⟩
 | true=>
  have hv:=hq rfl
  obtain⟨ts2,pe,ok2,hle2,_,hx2⟩:=U0 (t:=v) ok hab hb (by omega) v9 (by omega)
  refine⟨ts2,room-v,v,?_,ok2,hle2,hx2⟩
  rw[if_pos rfl]
  have e3:VL.sDPut 4 (Yg [(Za 10),(Za 11)]) (Za 8) (Z6 ns Zz n first ts room x6 x7 (some v) (some ((k+1:Nat):Int)) (some (a:Int)) (some (b:Int)))=some (.nx (Z6 ns Zz n first ts2 room x6 x7 (some v) (some ((k+1:Nat):Int)) (some (a:Int)) (some (b:Int)))):=by
   rw[Vz (v:=.int v) (k:=.tup [.int (a:Int),.int (b:Int)]) (d:=dP ts) rfl (by simp[Z6]) rfl pe]
   rfl
  rw[Yi e3];simp[Z6]
theorem times_eq{ns:List Int}{Zz n:Nat}(hns:ns.length<=63)(h1:1<=n)(hn:n<=7):∃ts,X8 [.cst (iL ns),.int (Zz:Int),.int (n:Int)]=some (dP ts)/\DictOk n ts/\Hang n ts:=by
 generalize hf:YC ns Zz=first
 have hcell:Zs [PV.cst (ns.map PV.int),PV.int (Zz:Int)]=some (PV.int first):=by rw[<-hf];exact WC hns Zz
 obtain⟨r,er,alt⟩:=Tb (n:=n) (most:=4) (Zx:=first/2) (room:=30) (by omega) (by omega) hn h1
 have cd2:TF first 2:=V6 (by omega) (by omega)
 -- the first test
 have hstart:Zk 3 (Ze Zs [(Za 0),(Za 1)]) [some (.cst (iL ns)),some (.int (Zz:Int)),some (.int (n:Int)),none,none,none,none,none,none,none,none,none]=some (.nx [some (.cst (iL ns)),some (.int (Zz:Int)),some (.int (n:Int)),some (.int first),none,none,none,none,none,none,none,none]):=by
  simp[hcell]
 have htest:XM (xB (Zg (Yc false) (Zg YR (Za 3) (eC (.int 2))) (eC (.int 1)))) (xB (TY true (Ze Z3 [(Zg XJ (Za 3) (eC (.int 2))),(Za 2),(eC (.int 30)),(eC (.int 4))]))) [some (.cst (iL ns)),some (.int (Zz:Int)),some (.int (n:Int)),some (.int first),none,none,none,none,none,none,none,none]=some (decide (first%2=1)&&!VY r):=by
  have eb:G0 true r=some (.bl (!VY r)):=by cases r<;>rfl
  by_cases h:first%2=1
  ·simp[h,cd2,er,eb]
  ·simp[h]
 show ∃ts,Xy 12 V9 [.cst (iL ns),.int (Zz:Int),.int (n:Int)]=some (dP ts)/\DictOk n ts/\Hang n ts
 unfold V9;simp only[Xy,Xg,List.map_cons,List.map_nil,List.length_cons,List.length_nil]
 show ∃ts,(Zj (Zk 3 (Ze Zs [(Za 0),(Za 1)])) _ [some (.cst (iL ns)),some (.int (Zz:Int)),some (.int (n:Int)),none,none,none,none,none,none,none,none,none]).bind Xh=some (dP ts)/\DictOk n ts/\Hang n ts
 rw[Yi hstart,Yh,Yj,htest];simp only[Option.bind_some]
 by_cases hc:(decide (first%2=1)&&!VY r)=true
 ·rw[if_pos hc]
  rw[Bool.and_eq_true] at hc
  rcases alt with rfl | ⟨ts,rfl,ok,_,hg⟩
  ·exact absurd hc.2 (by decide)
  ·exact⟨ts,by simp[cd2,er],ok,hg⟩
 ·rw[if_neg hc]
  simp only[PR,Option.bind_some]
  -- the dict,the room
  have e45:∀g:XS,Zj (Zk 4 (eC (.dT [] []))) (Zj (Zk 5 (eP (eC (.int 30)))) g) [some (.cst (iL ns)),some (.int (Zz:Int)),some (.int (n:Int)),some (.int first),none,none,none,none,none,none,none,none]=g (Z6 ns Zz n first [] 30 none none none none none none):=fun g=>by
   rw[Hq (s1:=[some (.cst (iL ns)),some (.int (Zz:Int)),some (.int (n:Int)),some (.int first),some (dP []),none,none,none,none,none,none,none]) (s2:=Z6 ns Zz n first [] 30 none none none none none none) (by simp;rfl) (by simp[Z6])]
  rw[e45]
  -- the first loop
  obtain⟨s1,l1,ts1,room1,y6,y7,y8,es1,ok1,hle1,tree⟩:=ZK (T:=.one 6) (fb:=Ho) (ls:=Xf 1 (n-1)) (s:=Z6 ns Zz n first [] 30 none none none none none none)
   (fun i st=>∃ts room y6 y7 y8,st=Z6 ns Zz n first ts room y6 y7 y8 none none none/\DictOk n ts/\ts.length<=i/\∀h,1<=h->h<=i->∃c,c<h/\NY ts c h) ⟨[],30,none,none,none,rfl,DictOk.nil n,Nat.le_refl _,fun h h1 h2=>by omega⟩ (fun i l st hl' hJ=>by
    obtain⟨hi,rfl⟩:=Wj hl'
    obtain⟨ts,room,y6,y7,y8,rfl,ok,hle,tree⟩:=hJ
    have z:(1:Int)+(i:Int)=((i+1:Nat):Int):=by omega
    rw[z]
    obtain⟨ts2,room2,z7,z8,e2,ok2,hle2,hx2,hc2⟩:=M4 (Zz:=Zz) (first:=first) (room:=room) (x7:=y7) (x8:=y8) (x9:=none) (x10:=none) (x11:=none) (h:=i+1) hns ok (by omega) (by omega) (by omega) hn
    exact⟨_,_,rfl,e2,ts2,room2,some ((i+1:Nat):Int),some z7,some z8,rfl,ok2,by omega,fun h h1 h2=>by
     by_cases q:h<=i
     ·obtain⟨c,a,b⟩:=tree h h1 q
      exact⟨c,a,hx2 _ _ b⟩
     ·have:h=i+1:=by omega
      subst this
      exact hc2⟩)
  rw[Wk] at hle1 tree
  have r1:ZZ [eC (.int 1),Za 2] (ZE [4] (Z6 ns Zz n first [] 30 none none none none none none))=some (Xf 1 (n-1)):=by
   rw[Y8 (i:=1) (j:=(n:Int)) rfl (by simp[ZE,Z6]) ⟨by omega,by omega⟩ ⟨by omega,by omega⟩]
   congr 2;omega
  have f1:Z0 [4] (ZZ [eC (.int 1),Za 2]) (.one 6) Ho (Z6 ns Zz n first [] 30 none none none none none none)=some (.nx (Z6 ns Zz n first ts1 room1 y6 y7 y8 none none none)):=by
   rw[ZU,r1]
   exact l1.trans (by rw[es1])
  have e9:Zk 9 (eP (Zg ZX (Za 1) (eC (.int 7)))) (Z6 ns Zz n first ts1 room1 y6 y7 y8 none none none)=some (.nx (Z6 ns Zz n first ts1 room1 y6 y7 y8 (some ((Zz+7:Nat):Int)) none none)):=by simp[Z6]
  -- the second loops
  have inner:∀(a:Nat)(ts:List Xm)(room:Int)(x8:Option Int)(k:Nat)(x11:Option Int),a<n->DictOk n ts->ts.length<=500->∃ts' room' y8 k' y11,Xc (.one 11) Jy (Xf ((a:Int)+1) (n-(a+1))) (Z6 ns Zz n first ts room y6 y7 x8 (some (k:Int)) (some (a:Int)) x11)=some (.nx (Z6 ns Zz n first ts' room' y6 y7 y8 (some ((k':Nat):Int)) (some (a:Int)) y11))/\DictOk n ts'/\ts'.length<=ts.length+7/\Ext ts ts':=by
   intro a ts room x8 k x11 ha ok hl
   obtain⟨s',h,ts',room',z8,k',z11,e,ok',hle,hx⟩:=ZK (T:=.one 11) (fb:=Jy) (ls:=Xf ((a:Int)+1) (n-(a+1))) (s:=Z6 ns Zz n first ts room y6 y7 x8 (some (k:Int)) (some (a:Int)) x11)
    (fun j st=>∃ts' room' z8 k' z11,st=Z6 ns Zz n first ts' room' y6 y7 z8 (some ((k':Nat):Int)) (some (a:Int)) z11/\DictOk n ts'/\ts'.length<=ts.length+j/\Ext ts ts') ⟨ts,room,x8,k,x11,rfl,ok,by omega,Ext.refl ts⟩ (fun j l st hl' hJ=>by
     obtain⟨hj,rfl⟩:=Wj hl'
     obtain⟨ts',room',z8,k',z11,rfl,ok',hle,hx⟩:=hJ
     have z:(a:Int)+1+(j:Int)=((a+1+j:Nat):Int):=by omega
     rw[z]
     obtain⟨ts2,room2,w8,e2,ok2,hle2,hx2⟩:=M5 (Zz:=Zz) (first:=first) (room:=room') (x6:=y6) (x7:=y7) (x8:=z8) (k:=k') hns ok' (by omega) (show a<a+1+j by omega) (by omega)
     exact⟨_,_,rfl,e2,ts2,room2,some w8,k'+1,some ((a+1+j:Nat):Int),rfl,ok2,by omega,hx.trans hx2⟩)
   rw[Wk] at hle
   exact⟨ts',room',z8,k',z11,by rw[h,e],ok',by omega,hx⟩
  obtain⟨s2,l2,ts2,room2,w8,w9,w10,w11,es2,ok2,hle2,hx2⟩:=ZK (T:=.one 10) (fb:=Z0 [4] (ZZ [Zg ZX (Za 10) (eC (.int 1)),Za 2]) (.one 11) Jy) (ls:=Xv n) (s:=Z6 ns Zz n first ts1 room1 y6 y7 y8 (some ((Zz+7:Nat):Int)) none none)
   (fun i st=>∃ts room w8 k w10 w11,st=Z6 ns Zz n first ts room y6 y7 w8 (some ((k:Nat):Int)) w10 w11/\DictOk n ts/\ts.length<=7+7*i/\Ext ts1 ts) ⟨ts1,room1,y8,Zz+7,none,none,rfl,ok1,by omega,Ext.refl ts1⟩ (fun i l st hl' hJ=>by
    obtain⟨hi,rfl⟩:=XY hl'
    obtain⟨ts,room,w8,k,w10,w11,rfl,ok,hle,hx⟩:=hJ
    obtain⟨ts',room',z8,k',z11,e2,ok',hle',hx'⟩:=inner i ts room w8 k w11 hi ok (by omega)
    refine⟨_,_,rfl,?_,ts',room',z8,k',some (i:Int),z11,rfl,ok',by omega,hx.trans hx'⟩
    have hr:ZZ [Zg ZX (Za 10) (eC (.int 1)),Za 2] (ZE [4] (Z6 ns Zz n first ts room y6 y7 w8 (some (k:Int)) (some (i:Int)) w11))=some (Xf ((i:Int)+1) (n-(i+1))):=by
     rw[Y8 (i:=(i:Int)+1) (j:=(n:Int)) (by simp[ZE,Z6]) (by simp[ZE,Z6]) ⟨by omega,by omega⟩ ⟨by omega,by omega⟩]
     congr 2;omega
    show Z0 _ _ _ _ (Z6 ns Zz n first ts room y6 y7 w8 (some (k:Int)) (some (i:Int)) w11)=_
    rw[ZU,hr]
    exact e2)
  rw[Vw] at hle2
  have r2:ZL [Za 2] (ZE [4] (Z6 ns Zz n first ts1 room1 y6 y7 y8 (some ((Zz+7:Nat):Int)) none none))=some (Xv n):=Ya (by simp[ZE,Z6]) (by omega)
  have f2:Z0 [4] (ZL [Za 2]) (.one 10) (Z0 [4] (ZZ [Zg ZX (Za 10) (eC (.int 1)),Za 2]) (.one 11) Jy) (Z6 ns Zz n first ts1 room1 y6 y7 y8 (some ((Zz+7:Nat):Int)) none none)=some (.nx (Z6 ns Zz n first ts2 room2 y6 y7 w8 (some ((w9:Nat):Int)) w10 w11)):=by
   rw[ZU,r2]
   exact l2.trans (by rw[es2])
  have hg:Hang n ts2:=by
   have all:∀P,Cl ts2 P->∀i,i<n->(P i↔P 0):=by
    intro P hP i
    induction i using Nat.strongRecOn with
    | _ i ih=>
     intro hi
     by_cases h0:i=0
     ·subst h0;exact Iff.rfl
     ·obtain⟨c,hc,hb⟩:=tree i (by omega) (by omega)
      exact(hP _ _ (hx2 _ _ hb)).symm.trans (ih c hc (by omega))
   exact fun P hP i j hi hj=>(all P hP i hi).trans (all P hP j hj).symm
  obtain⟨ts',eR,okR,_,hgR⟩:=QF ok2 hn (by omega) (first/7)
  have cd7:TF first 7:=V6 (by omega) (by omega)
  refine⟨ts',?_,okR,hgR hg⟩
  refine Eq.trans (congrArg (fun o=>Option.bind o Xh) (Jx (f:=Z0 [4] (ZZ [eC (.int 1),Za 2]) (.one 6) Ho) f1 e9 f2)) ?_
  simp[Z6,hcell,cd7,eR]
def T0(W:List (List Int)):List ZF:=Ys W.length (ZM W)
theorem Me(W:List (List Int)):(WR W).map (fun l=>((YC l 0).toNat,(YC l 1).toNat))=T0 W:=by
 unfold T0 Ys Lb WR;rw[List.map_flatMap,List.flatMap_assoc]
 congr 1
 funext a
 unfold Uz;rw[List.map_flatMap,List.flatMap_map]
 congr 1
 funext j
 unfold Wa;rw[List.map_map]
 show List.map (fun _=>((YC [(a:Int),((a+1+j:Nat):Int),_] 0).toNat,(YC [(a:Int),((a+1+j:Nat):Int),_] 1).toNat)) (List.range (ZM W a (a+1+j)).toNat)=_
 rw[show(fun t:Nat=>((YC [(a:Int),((a+1+j:Nat):Int),(t:Int)] 0).toNat,(YC [(a:Int),((a+1+j:Nat):Int),(t:Int)] 1).toNat))=fun _=>(a,a+1+j) from by funext t;simp only[YC];exact Prod.ext (by simp) (by simp only[List.getD_cons_succ,List.getD_cons_zero];omega)]
 rw[List.map_const',List.length_range]
theorem Lh(W:List (List Int)):(T0 W).length=(WR W).length:=by rw[<-Me,List.length_map]
theorem O7{W:List (List Int)}{t:Nat}(ht:t<(T0 W).length):(Yq (T0 W) t).1<(Yq (T0 W) t).2/\(Yq (T0 W) t).2<W.length/\∃c:Int,(WR W)[t]?=some [((Yq (T0 W) t).1:Int),((Yq (T0 W) t).2:Int),c]:=by
 have hm:Yq (T0 W) t∈T0 W:=by
  unfold Yq;rw[List.getD_eq_getElem?_getD,List.getElem?_eq_getElem ht]
  exact List.getElem_mem _
 obtain⟨h1,h2,h3⟩:=mem_ties.mp hm
 refine⟨h1,h2,?_⟩
 have ht':t<(WR W).length:=by rw[<-Lh];exact ht
 obtain⟨x,hl⟩:∃x,(WR W)[t]?=some x:=⟨_,List.getElem?_eq_getElem ht'⟩
 have hmem:x∈WR W:=List.mem_of_getElem? hl
 unfold WR Uz Wa at hmem
 obtain⟨a,_,hmem⟩:=List.mem_flatMap.mp hmem
 obtain⟨j,_,hmem⟩:=List.mem_flatMap.mp hmem
 obtain⟨c,_,hmem⟩:=List.mem_map.mp hmem
 have e:Yq (T0 W) t=(a,a+1+j):=by
  unfold Yq;rw[List.getD_eq_getElem?_getD,<-Me,List.getElem?_map,hl,<-hmem]
  show((YC [(a:Int),((a+1+j:Nat):Int),(c:Int)] 0).toNat,(YC [(a:Int),((a+1+j:Nat):Int),(c:Int)] 1).toNat)=_
  exact Prod.ext (by simp[YC]) (by simp only[YC,List.getD_cons_succ,List.getD_cons_zero];omega)
 rw[e,hl,<-hmem]
 exact⟨(c:Int),rfl⟩
def WY(n:Nat)(P:Nat->Nat):List Int:=nL ((List.range n).map P)
theorem FZ(n:Nat)(P:Nat->Nat):(WY n P).length=n:=by simp[WY,nL]
theorem Tw{n:Nat}{P:Nat->Nat}{x:Nat}(h:x<n):VH (iL (WY n P)) (x:Int)=some (.int ((P x:Nat):Int)):=by
 rw[Vl (by rw[FZ];exact h)]
 congr 2
 unfold WY nL YC;simp[h]
def XA(W:List (List Int)):PV:=.lst ((WR W).map pP)
theorem Mf{W:List (List Int)}{t:Nat}(ht:t<(T0 W).length):∃c:Int,VH ((WR W).map pP) (t:Int)=some (pP [((Yq (T0 W) t).1:Int),((Yq (T0 W) t).2:Int),c]):=by
 obtain⟨_,_,c,h⟩:=O7 ht
 exact⟨c,W4 (by rw[List.getElem?_map,h];rfl)⟩
theorem Li{n:Nat}{P:Nat->Nat}{a b:Nat}{s:ZY}{i j k:Nat}(hn:n<=7)(hs:s[i]?=some (some (.lst (iL (WY n P)))))(hj:s[j]?=some (some (.int ((P a:Nat):Int))))(hk:s[k]?=some (some (.int ((P b:Nat):Int)))) :
  Zu 1 [j,k] (YM (Za i)) (.one 0) ZH (eP (Oz (xB (Zg (Yc false) (Za 0) (Za 2))) (Za 1) (Za 0))) s=some (.lst (iL (WY n (mrg P a b)))):=by
 rw[ZQ (List.range n) (fun x=>.int ((P x:Nat):Int)) (fun x=>.int ((mrg P a b x:Nat):Int)) (by simp[hs,WY,nL,iL]) (by simp;omega) (fun x hx=>⟨[some (.int ((P x:Nat):Int)),some (.int ((P a:Nat):Int)),some (.int ((P b:Nat):Int))],by simp[Yn,hj,hk],rfl,?_⟩)]
 ·simp[WY,nL,iL]
 ·unfold mrg
  by_cases q:P x=P b
  ·simp[q]
  ·have q':¬((P x:Nat):Int)=((P b:Nat):Int):=by omega
   simp[q,q']
def gP(g:List Nat):PV:=pP (nL g)
theorem JK{W:List (List Int)}(ok:WebOk W){g:List Nat}(hg:∀t∈g,t<(T0 W).length):Xi [wP W,XA W,gP g]=some (.lst (iL (WY W.length (WX (T0 W) id g)))):=by
 have hf:=ok.few
 let st:Option PV->Option PV->Option PV->Option PV->Option PV->ZY:=fun x3 x4 x5 x6 x7=>[some (wP W),some (XA W),some (gP g),x3,x4,x5,x6,x7]
 let pc:Nat->Option PV:=fun i=>some (.lst (iL (WY W.length (WX (T0 W) id (g.take i)))))
 have e1:Zk 3 (Ml SJ (Ze ZG [(Za 0)])) (st none none none none none)=some (.nx (st (pc 0) none none none none)):=by
  have:Ml SJ (Ze ZG [(Za 0)]) (st none none none none none)=some (.lst (iL (WY W.length id))):=by
   have l:Ze ZG [(Za 0)] (st none none none none none)=some (.int (W.length:Int)):=by simp[st]
   unfold Ml;rw[l]
   show SJ (.int (W.length:Int))=_
   show(if 0<=(W.length:Int)/\(W.length:Int)<=10000 then some (PV.lst (iL ((List.range ((W.length:Int)).toNat).map fun(i:Nat)=>(i:Int)))) else none)=_
   rw[if_pos ⟨by omega,by omega⟩,Int.toNat_natCast];simp[WY,nL]
  rw[Zv,this];rfl
 obtain⟨s',f1,x4,x5,x6,x7,hs⟩:=ZK (T:=.one 4) (fb:=(Zj (Zk 5 (eP (Zg ZA (Za 1) (Za 4))))
  (Zj (Zk 6 (eP (Zg ZA (Za 3) (Zg ZA (Za 5) (eC (.int 0))))))
  (Zj (Zk 7 (eP (Zg ZA (Za 3) (Zg ZA (Za 5) (eC (.int 1))))))
  (Zk 3 (Zu 1 [6,7] (YM (Za 3)) (.one 0) ZH (eP (Oz (xB (Zg (Yc false) (Za 0) (Za 2))) (Za 1) (Za 0))))))))) (ls:=iL (nL g)) (s:=st (pc 0) none none none none) (fun i s=>∃x4 x5 x6 x7,s=st (pc i) x4 x5 x6 x7) ⟨none,none,none,none,rfl⟩ (by
  rintro i l s hl ⟨x4,x5,x6,x7,rfl⟩
  obtain⟨t,ht,rfl⟩:∃t,g[i]?=some t/\l = .int (t:Int):=by
   simp only[iL,nL,List.getElem?_map] at hl
   cases e:g[i]? with
   | none=>rw[e] at hl;cases hl
   | some t=>rw[e] at hl;cases hl;exact⟨t,rfl,rfl⟩
  have htl:=hg t (List.mem_of_getElem? ht)
  obtain⟨h1,h2,_⟩:=O7 htl
  obtain⟨c,hc⟩:=Mf htl
  generalize hP:WX (T0 W) id (g.take i)=P at *
  have pci:pc i=some (.lst (iL (WY W.length P))):=by simp only[pc,hP]
  have pcs:pc (i+1)=some (.lst (iL (WY W.length (mrg P (Yq (T0 W) t).1 (Yq (T0 W) t).2)))):=by
   simp only[pc];rw[List.take_add_one,ht]
   show some (PV.lst (iL (WY W.length (WX (T0 W) id (g.take i++[t])))))=_
   rw[U3,hP]
  generalize (Yq (T0 W) t).1=a at *
  generalize (Yq (T0 W) t).2=b at *
  refine⟨st (pc i) (some (.int (t:Int))) x5 x6 x7,st (pc (i+1)) (some (.int (t:Int))) (some (pP [(a:Int),(b:Int),c])) (some (.int ((P a:Nat):Int))) (some (.int ((P b:Nat):Int))),rfl,?_,_,_,_,_,rfl⟩
  have b1:Zk 5 (eP (Zg ZA (Za 1) (Za 4))) (st (pc i) (some (.int (t:Int))) x5 x6 x7)=some (.nx (st (pc i) (some (.int (t:Int))) (some (pP [(a:Int),(b:Int),c])) x6 x7)):=by
   have:Zg ZA (Za 1) (Za 4) (st (pc i) (some (.int (t:Int))) x5 x6 x7)=some (pP [(a:Int),(b:Int),c]):=hc
   rw[Zv,Xa,this];rfl
  have b2:Zk 6 (eP (Zg ZA (Za 3) (Zg ZA (Za 5) (eC (.int 0))))) (st (pc i) (some (.int (t:Int))) (some (pP [(a:Int),(b:Int),c])) x6 x7)=some (.nx (st (pc i) (some (.int (t:Int))) (some (pP [(a:Int),(b:Int),c])) (some (.int ((P a:Nat):Int))) x7)):=by
   have:Zg ZA (Za 3) (Zg ZA (Za 5) (eC (.int 0))) (st (pc i) (some (.int (t:Int))) (some (pP [(a:Int),(b:Int),c])) x6 x7)=some (.int ((P a:Nat):Int)):=by
    rw[pci];exact Tw (by omega)
   rw[Zv,vP this];rfl
  have b3:Zk 7 (eP (Zg ZA (Za 3) (Zg ZA (Za 5) (eC (.int 1))))) (st (pc i) (some (.int (t:Int))) (some (pP [(a:Int),(b:Int),c])) (some (.int ((P a:Nat):Int))) x7)=some (.nx (st (pc i) (some (.int (t:Int))) (some (pP [(a:Int),(b:Int),c])) (some (.int ((P a:Nat):Int))) (some (.int ((P b:Nat):Int))))):=by
   have:Zg ZA (Za 3) (Zg ZA (Za 5) (eC (.int 1))) (st (pc i) (some (.int (t:Int))) (some (pP [(a:Int),(b:Int),c])) (some (.int ((P a:Nat):Int))) x7)=some (.int ((P b:Nat):Int)):=by
    rw[pci];exact Tw (by omega)
   rw[Zv,vP this];rfl
  rw[Jx b1 b2 b3,Zv,Li (a:=a) (b:=b) hf (by rw[pci];rfl) rfl rfl,pcs]
  rfl)
 have e2:Z0 [3] (Vk (Za 2)) (.one 4) (Zj (Zk 5 (eP (Zg ZA (Za 1) (Za 4))))
  (Zj (Zk 6 (eP (Zg ZA (Za 3) (Zg ZA (Za 5) (eC (.int 0))))))
  (Zj (Zk 7 (eP (Zg ZA (Za 3) (Zg ZA (Za 5) (eC (.int 1))))))
  (Zk 3 (Zu 1 [6,7] (YM (Za 3)) (.one 0) ZH (eP (Oz (xB (Zg (Yc false) (Za 0) (Za 2))) (Za 1) (Za 0)))))))) (st (pc 0) none none none none)=some (.nx (st (pc g.length) x4 x5 x6 x7)):=by
  rw[ZU,show Vk (Za 2) (ZE [3] (st (pc 0) none none none none))=some (iL (nL g)) from rfl]
  show Xc _ _ _ _=_
  rw[f1,hs];simp[iL,nL]
 show Xy 8 Vc _=_
 unfold Vc
 show(Zj _ _ (st none none none none none)).bind Xh=_
 rw[Yi e1,Yi e2,VB (v:=.lst (iL (WY W.length (WX (T0 W) id g)))) (by
  show pc g.length=_
  simp[pc])]
 rfl
theorem Lj{n a b:Nat}{P:Nat->Nat}{c:Int}(ha:a<n)(hb:b<n):Y5 [.lst (iL (WY n P)),pP [(a:Int),(b:Int),c]]=some (.bl (!decide (P a=P b))):=by
 have v1:Zg ZA (Za 0) (Zg ZA (Za 1) (eC (.int 0))) [some (.lst (iL (WY n P))),some (pP [(a:Int),(b:Int),c])]=some (.int ((P a:Nat):Int)):=Tw ha
 have v2:Zg ZA (Za 0) (Zg ZA (Za 1) (eC (.int 1))) [some (.lst (iL (WY n P))),some (pP [(a:Int),(b:Int),c])]=some (.int ((P b:Nat):Int)):=Tw hb
 have:decide (((P a:Nat):Int)=((P b:Nat):Int))=decide (P a=P b):=decide_eq_decide.mpr (by omega)
 show Xy 2 WB _=_
 unfold WB
 show(Z4 _ [some (.lst (iL (WY n P))),some (pP [(a:Int),(b:Int),c])]).bind Xh=_
 rw[VB (v:=.bl (!decide (P a=P b))) (by
  rw[Xa,Z2,v1,v2]
  show(Yc true (.int ((P a:Nat):Int)) (.int ((P b:Nat):Int))).bind _=_
  simp[this])]
 rfl
theorem Mg(g:List Nat):g=[]\/∃h x,g=h++[x]:=by
 rcases List.eq_nil_or_concat g with h | ⟨h,x,e⟩
 ·exact .inl h
 ·exact .inr ⟨h,x,by rw[e,List.concat_eq_append]⟩
theorem JL{g:List Nat}{s:ZY}{k:Nat}(hs:s[k]?=some (some (gP g))):Oz (xB (Zg Oy (Ze ZG [(Za k)]) (eC (.int 0)))) (Zg ZX (Zg ZA (Za k) (Ml Rk (eC (.int 1)))) (eC (.int 1))) (eC (.int 0)) s=some (.int ((YO g:Nat):Int)):=by
 have l:Ze ZG [(Za k)] s=some (.int (g.length:Int)):=by simp[hs,gP,nL,iL]
 have v:Za k s=some (gP g):=by simp[hs]
 have t:xB (Zg Oy (Ze ZG [(Za k)]) (eC (.int 0))) s=some (decide (0<(g.length:Int))):=by
  rw[XX,Z2,l];rfl
 rw[V3,t]
 rcases Mg g with rfl | ⟨h,x,rfl⟩
 ·rfl
 ·rw[Vf]
  have:decide (0<((h++[x]).length:Int))=true:=decide_eq_true (by simp)
  rw[this]
  show Zg ZX (Zg ZA (Za k) (Ml Rk (eC (.int 1)))) (eC (.int 1)) s=_
  refine vI (op:=(· + ·)) (a:=(x:Int)) (b:=1) ?_ rfl
  rw[Z2,v]
  show VH (iL (nL (h++[x]))) (-1)=_
  unfold VH
  have hl:(iL (nL (h++[x]))).length=h.length+1:=by simp[iL,nL]
  rw[hl]
  have:Mj (h.length+1) (-1)=some h.length:=by
   unfold Mj
   simp
   omega
  rw[this];simp[iL,nL]
theorem HP{W:List (List Int)}(ok:L2.WebOk W){gs:List (List Nat)}(hg:∀g∈gs,∀t∈g,t<(T0 W).length)(hb:(YB (T0 W) gs).length<=10000)(hl:∀g∈gs,g.length<=100) :
  Ua [wP W,XA W,.lst (gs.map gP)]=some (.lst ((YB (T0 W) gs).map gP)):=by
 have ok':=D5 ok
 have tl:(WR W).length<=441:=(QC ok).2
 have TL:(T0 W).length<=441:=by rw[Lh];exact tl
 let st:Option PV->Option PV->Option PV->Option PV->ZY:=fun x3 x4 x5 x6=>[some (wP W),some (XA W),some (.lst (gs.map gP)),x3,x4,x5,x6]
 let acc:Nat->Option PV:=fun i=>some (.lst ((YB (T0 W) (gs.take i)).map gP))
 have pre:∀i,(YB (T0 W) (gs.take i)).length<=(YB (T0 W) gs).length:=fun i=>by
  have:YB (T0 W) gs=YB (T0 W) (gs.take i)++YB (T0 W) (gs.drop i):=by
   unfold YB;rw[<-List.flatMap_append,List.take_append_drop]
  rw[this,List.length_append];omega
 let fb:XS:=(Zj (Zk 5 (Ze Xi [(Za 0),(Za 1),(Za 4)]))
  (Zj (Zk 6 (eP (Oz (xB (Zg Oy (Ze ZG [(Za 4)]) (eC (.int 0)))) (Zg ZX (Zg ZA (Za 4) (Ml Rk (eC (.int 1)))) (eC (.int 1))) (eC (.int 0)))))
  (Wx 3 (Zu 1 [4,5,1] (ZZ [(Za 6),(Ze ZG [(Za 1)])]) (.one 0) (xB (Ze Y5 [(Za 2),(Zg ZA (Za 3) (Za 0))])) (eP (Zg Qp (Za 1) (Yg [(Za 0)])))))))
 obtain⟨s',f1,x4,x5,x6,hs⟩:=ZK (T:=.one 4) (fb:=fb) (ls:=gs.map gP) (s:=st (acc 0) none none none) (fun i s=>∃x4 x5 x6,s=st (acc i) x4 x5 x6) ⟨none,none,none,rfl⟩ (by
  rintro i l s hl' ⟨x4,x5,x6,rfl⟩
  obtain⟨g,hgi,rfl⟩:∃g,gs[i]?=some g/\l=gP g:=by
   rw[List.getElem?_map] at hl'
   cases e:gs[i]? with
   | none=>rw[e] at hl';cases hl'
   | some g=>rw[e] at hl';cases hl';exact⟨g,rfl,rfl⟩
  have hgm:=List.mem_of_getElem? hgi
  have hgt:=hg g hgm
  have bh:YO g<=(T0 W).length:=by
   rcases Mg g with rfl | ⟨h,x,rfl⟩
   ·exact Nat.zero_le _
   ·rw[Vf];have:=hgt x (by simp);omega
  let P:=WX (T0 W) id g
  let s1:Option PV->Option PV->ZY:=fun x5 x6=>st (acc i) (some (gP g)) x5 x6
  have b1:Zk 5 (Ze Xi [(Za 0),(Za 1),(Za 4)]) (s1 x5 x6)=some (.nx (s1 (some (.lst (iL (WY W.length P)))) x6)):=by
   have:Ze Xi [(Za 0),(Za 1),(Za 4)] (s1 x5 x6)=some (.lst (iL (WY W.length P))):=JK ok' hgt
   rw[Zv,this];rfl
  have b2:Zk 6 (eP (Oz (xB (Zg Oy (Ze ZG [(Za 4)]) (eC (.int 0)))) (Zg ZX (Zg ZA (Za 4) (Ml Rk (eC (.int 1)))) (eC (.int 1))) (eC (.int 0)))) (s1 (some (.lst (iL (WY W.length P)))) x6)=some (.nx (s1 (some (.lst (iL (WY W.length P)))) (some (.int ((YO g:Nat):Int))))):=by
   rw[Zv,vP (JL (k:=4) (g:=g) rfl)];rfl
  let s2:=s1 (some (.lst (iL (WY W.length P)))) (some (.int ((YO g:Nat):Int)))
  have b3:Zu 1 [4,5,1] (ZZ [(Za 6),(Ze ZG [(Za 1)])]) (.one 0) (xB (Ze Y5 [(Za 2),(Zg ZA (Za 3) (Za 0))])) (eP (Zg Qp (Za 1) (Yg [(Za 0)]))) s2=some (.lst (((Sm (T0 W) g).map fun t=>g++[t]).map gP)):=by
   have hr:ZZ [(Za 6),(Ze ZG [(Za 1)])] s2=some ((List.range' (YO g) ((T0 W).length-YO g)).map fun(t:Nat)=>PV.int (t:Int)):=by
    rw[Y8 (i:=((YO g:Nat):Int)) (j:=((T0 W).length:Int)) rfl (by
     rw[Lh]
     simp[s2,s1,st,XA]) ⟨by omega,by omega⟩ ⟨by omega,by omega⟩]
    unfold Xf;rw[List.range'_eq_map_range,List.map_map]
    congr 1
    rw[show(((T0 W).length:Int)-((YO g:Nat):Int)).toNat=(T0 W).length-YO g by omega]
    refine List.map_congr_left fun t _=>?_
    show PV.int _=PV.int _
    congr 1
   rw[Wy (List.range' (YO g) ((T0 W).length-YO g)) (fun(t:Nat)=>PV.int (t:Int)) (fun t=>gP (g++[t])) (fun t=>!decide (P (Yq (T0 W) t).1=P (Yq (T0 W) t).2)) hr (by simp;omega) fun t ht=>?_]
   ·unfold Sm
    rw[List.map_map];rfl
   ·have htl:t<(T0 W).length:=by
     rw[List.mem_range'_1] at ht;omega
    obtain⟨h1,h2,_⟩:=O7 htl
    obtain⟨c,hc⟩:=Mf htl
    refine⟨[some (.int (t:Int)),some (gP g),some (.lst (iL (WY W.length P))),some (XA W)],rfl,?_,fun _=>?_⟩
    ·have i1:Zg ZA (Za 3) (Za 0) [some (.int (t:Int)),some (gP g),some (.lst (iL (WY W.length P))),some (XA W)]=some (pP [((Yq (T0 W) t).1:Int),((Yq (T0 W) t).2:Int),c]):=hc
     have i2:Ze Y5 [(Za 2),(Zg ZA (Za 3) (Za 0))] [some (.int (t:Int)),some (gP g),some (.lst (iL (WY W.length P))),some (XA W)]=some (.bl (!decide (P (Yq (T0 W) t).1=P (Yq (T0 W) t).2))):=by
      rw[Yu,ZP,ZP,i1]
      exact Lj (by omega) h2
     rw[XX,i2];rfl
    ·have e:Qp (gP g) (.tup [.int (t:Int)])=some (gP (g++[t])):=by
      show(if(iL (nL g)).length+1<=10000 then some (PV.tup (iL (nL g)++[.int (t:Int)])) else none)=_
      rw[if_pos (by simp[iL,nL];have:=hl g hgm;omega)]
      simp[gP,pP,iL,nL]
     show eP (Zg Qp (Za 1) (Yg [(Za 0)])) _=_
     have e':Zg Qp (Za 1) (Yg [(Za 0)]) [some (.int (t:Int)),some (gP g),some (.lst (iL (WY W.length P))),some (XA W)]=some (gP (g++[t])):=e
     rw[Xa,e']
     show(if ZN (gP (g++[t]))=true then some (gP (g++[t])) else none)=_
     rw[if_pos (by unfold gP pP;rw[US];exact Xn _)]
  have nx:YB (T0 W) (gs.take (i+1))=YB (T0 W) (gs.take i)++(Sm (T0 W) g).map fun t=>g++[t]:=by
   unfold YB;rw[List.take_add_one,hgi,List.flatMap_append]
   simp
  refine⟨s1 x5 x6,st (acc (i+1)) (some (gP g)) (some (.lst (iL (WY W.length P)))) (some (.int ((YO g:Nat):Int))),rfl,?_,_,_,_,rfl⟩
  show Zj _ _ _=_
  rw[Hq b1 b2,Qo (m:=(YB (T0 W) (gs.take i)).map gP) b3 rfl (by
   have:=pre (i+1)
   rw[nx,List.length_append] at this
   simp only[List.length_map] at this ⊢
   omega)]
  show some _=some _
  rw[show acc (i+1)=some (.lst ((YB (T0 W) (gs.take i)).map gP++((Sm (T0 W) g).map fun t=>g++[t]).map gP)) by simp only[acc];rw[nx,List.map_append]]
  rfl)
 have e2:Z0 [3] (YM (Za 2)) (.one 4) fb (st (acc 0) none none none)=some (.nx (st (acc gs.length) x4 x5 x6)):=by
  rw[ZU,show YM (Za 2) (ZE [3] (st (acc 0) none none none))=some (gs.map gP) from rfl]
  show Xc _ _ _ _=_
  rw[f1,hs]
  simp
 have e1:Zk 3 (Yl []) (st none none none none)=some (.nx (st (acc 0) none none none)):=rfl
 show Xy 7 RJ _=_
 unfold RJ
 show(Zj _ _ (st none none none none)).bind Xh=_
 rw[Yi e1,Yi (show Z0 [3] (YM (Za 2)) (.one 4) _ _=_ from e2),VB (v:=.lst ((YB (T0 W) gs).map gP)) (by
  show acc gs.length=_
  simp[acc])]
 rfl
theorem Lk{W:List (List Int)}(ok:WebOk W)(cn:Ts W)(h60:tr W.length (ZM W)<=300){s:Nat}(hs:s<=6):(Yr (T0 W) s).length<=6000:=by
 have hp:=ok.pos;have hf:=ok.few;rw[QR]
 have:=U5 (m:=W.length-1) (k:=W.length-1) (s:=s) (E:=T0 W) (P:=id) (by rw[show W.length-1+1=W.length by omega];exact VD _ _) (RepOk.id _) (RN _) (Ma ok cn)
 have h2:=C5 (W.length-1) (by omega) s hs
 have h3:YQ (T0 W) id (W.length-1)<=300:=h60
 have:=Nat.mul_le_mul h2 h3
 omega
theorem HQ{W:List (List Int)}(ok:L2.WebOk W)(cn:Ts W)(h60:tr W.length (ZM W)<=300):UZ [wP W,.int 300]=some (.lst ((Yr (T0 W) (W.length-1)).map gP)):=by
 have ok':=D5 ok;have hp:=ok.pos;have hf:=ok.few;have tc:=Vn ok' cn
 let st:Option PV->Option PV->Option PV->ZY:=fun x2 x3 x4=>[some (wP W),some (.int 300),x2,x3,x4]
 let gv:Nat->Option PV:=fun i=>some (.lst ((Yr (T0 W) i).map gP))
 have e0:WU (xB (Zg Oy (Ze ZR [(Za 0)]) (Za 1))) OK ZO (st none none none)=some (.nx (st none none none)):=by
  have c:Ze ZR [(Za 0)] (st none none none)=some (.int (tr W.length (ZM W):Int)):=tc
  have t:xB (Zg Oy (Ze ZR [(Za 0)]) (Za 1)) (st none none none)=some false:=by
   rw[XX,Z2,c]
   show(Oy (.int (tr W.length (ZM W):Int)) (.int 300)).bind MH=_
   have:decide ((300:Int)<(tr W.length (ZM W):Int))=false:=decide_eq_false (by omega)
   show some (decide ((300:Int)<(tr W.length (ZM W):Int)))=_
   rw[this]
  rw[Yj,t];rfl
 have e1:Zk 2 (Ze WE [(Za 0)]) (st none none none)=some (.nx (st (some (XA W)) none none)):=by
  have:Ze WE [(Za 0)] (st none none none)=some (XA W):=(QC ok).1
  rw[Zv,this];rfl
 have e2:Zk 3 (Yl [(eP (Yg []))]) (st (some (XA W)) none none)=some (.nx (st (some (XA W)) (gv 0) none)):=rfl
 obtain⟨s',f1,x4,hs⟩:=ZK (T:=.one 4) (fb:=Zk 3 (Ze Ua [(Za 0),(Za 2),(Za 3)])) (ls:=Xf 1 (W.length-1)) (s:=st (some (XA W)) (gv 0) none) (fun i s=>∃x4,s=st (some (XA W)) (gv i) x4) ⟨none,rfl⟩ (by
  rintro i l s hl ⟨x4,rfl⟩
  obtain⟨hi,rfl⟩:=Wj hl
  refine⟨st (some (XA W)) (gv i) (some (.int (1+(i:Int)))),st (some (XA W)) (gv (i+1)) (some (.int (1+(i:Int)))),rfl,?_,_,rfl⟩
  have gg:=U4 (T0 W) i
  have:=HP ok (gs:=Yr (T0 W) i) (fun g hg t ht=>(gg g hg).1.lt t ht) (by
   have:=Lk ok' cn h60 (s:=i+1) (by omega)
   show(Yr (T0 W) (i+1)).length<=_
   omega) (fun g hg=>by rw[(gg g hg).2];omega)
  have c:Ze Ua [(Za 0),(Za 2),(Za 3)] (st (some (XA W)) (gv i) (some (.int (1+(i:Int)))))=some (.lst ((Yr (T0 W) (i+1)).map gP)):=this
  rw[Zv,c];rfl)
 have e3:Z0 [3] (ZZ [(eC (.int 1)),(Ze ZG [(Za 0)])]) (.one 4) (Zk 3 (Ze Ua [(Za 0),(Za 2),(Za 3)])) (st (some (XA W)) (gv 0) none)=some (.nx (st (some (XA W)) (gv (W.length-1)) x4)):=by
  have r:ZZ [(eC (.int 1)),(Ze ZG [(Za 0)])] (ZE [3] (st (some (XA W)) (gv 0) none))=some (Xf 1 (W.length-1)):=by
   rw[Y8 (i:=1) (j:=(W.length:Int)) rfl (by simp[ZE,st]) ⟨by omega,by omega⟩ ⟨by omega,by omega⟩]
   congr 2;omega
  rw[ZU,r]
  show Xc _ _ _ _=_
  rw[f1,hs,Wk]
 show Xy 5 RK _=_
 unfold RK
 show(Zj _ _ (st none none none)).bind Xh=_
 rw[Yi e0,Yi e1,Yi e2,Yi e3,VB (v:=.lst ((Yr (T0 W) (W.length-1)).map gP)) rfl];rfl
theorem JM{s:ZY}{k:Nat}{l:List Int}(hl:l.length<=1000)(h:s[k]?=some (some (pP l))):Ze Tj [(Zu 1 [] (Vk (Za k)) (.one 0) ZH (Ze YW [(Za 0)]))] s=some (.bl true):=by
 have hx:Vk (Za k) s=some (iL l):=IJ (by rw[T7,h];rfl)
 have hc:Zu 1 [] (Vk (Za k)) (.one 0) ZH (Ze YW [(Za 0)]) s=some (.lst ((l.map fun _=>true).map PV.bl)):=by
  rw[ZQ l (fun(x:Int)=>.int x) (fun _=>.bl true) hx (by omega) fun x _=>⟨[some (.int x)],rfl,rfl,NV x⟩]
  rw[List.map_map];rfl
 rw[Yu,ZP,hc]
 show Tj [.lst ((l.map fun _=>true).map PV.bl)]=_
 rw[MJ];simp
def U6(e:ZF):PV:=.tup [.int (e.1:Int),.int (e.2:Int)]
def TB(W:List (List Int))(a m:Nat):List ZF:=(List.range m).flatMap fun j=>List.replicate (ZM W a (a+1+j)).toNat (a,a+1+j)
def TA(W:List (List Int))(i:Nat):List ZF:=(List.range i).flatMap fun a=>TB W a (W.length-(a+1))
theorem DZ(W:List (List Int)):TA W W.length=T0 W:=by
 unfold TA TB T0 Ys Lb;rw[List.flatMap_assoc]
 congr 1
 funext a
 rw[List.flatMap_map]
theorem Ku(W:List (List Int))(a m:Nat):TB W a (m+1)=TB W a m++List.replicate (ZM W a (a+1+m)).toNat (a,a+1+m):=by unfold TB;rw[WI]
theorem Kv(W:List (List Int))(i:Nat):TA W (i+1)=TA W i++TB W i (W.length-(i+1)):=by unfold TA;rw[WI]
theorem Ll{W:List (List Int)}(ok:L2.WebOk W){a:Nat}(ha:a<W.length):∀{m:Nat},m<=W.length-(a+1)->(TB W a m).length<=9*m
 | 0,_=>by simp[TB]
 | m+1,h=>by
  have:=Ll ok ha (m:=m) (by omega)
  have:=ok.hi a (a+1+m) ha (by omega)
  rw[Ku,List.length_append,List.length_replicate];omega
theorem HR{W:List (List Int)}(ok:L2.WebOk W):∀{i:Nat},i<=W.length->(TA W i).length<=63*i
 | 0,_=>by simp[TA]
 | i+1,h=>by
  have hf:=ok.few
  have:=HR ok (i:=i) (by omega)
  have:=Ll ok (a:=i) (by omega) (Nat.le_refl (W.length-(i+1)))
  rw[Kv,List.length_append];omega
theorem Kw(l:List ZF):ZJ (l.map U6)=true:=SF fun _ _=>rfl
def VG(W:List (List Int))(g:List Nat)(x2 x3 x4 x5 x6 x7:Option PV):ZY:=[some (wP W),some (gP g),x2,x3,x4,x5,x6,x7]
def fT:XS:=Zk 2 (Zg Ql (Za 2) (Zg Q6 (Yl [(Yg [(Za 3),(Za 4)])]) (Zg ZA (Zg ZA (Za 0) (Za 3)) (Za 4))))
theorem C6{W:List (List Int)}(ok:L2.WebOk W){g:List Nat}{a b:Nat}(ha:a<W.length)(hb:b<W.length){L:List ZF}(hL:L.length<=1000)(x5 x6 x7:Option PV) :
  fT (VG W g (some (.lst (L.map U6))) (some (.int (a:Int))) (some (.int (b:Int))) x5 x6 x7)=some (.nx (VG W g (some (.lst ((L++List.replicate (ZM W a b).toNat (a,b)).map U6))) (some (.int (a:Int))) (some (.int (b:Int))) x5 x6 x7)):=by
 have lo:=ok.lo a b ha hb;have hi:=ok.hi a b ha hb
 have v1:Zg ZA (Zg ZA (Za 0) (Za 3)) (Za 4) (VG W g (some (.lst (L.map U6))) (some (.int (a:Int))) (some (.int (b:Int))) x5 x6 x7)=some (.int (ZM W a b)):=QV (D5 ok) ha hb rfl rfl rfl
 have v2:Zg Q6 (Yl [(Yg [(Za 3),(Za 4)])]) (Zg ZA (Zg ZA (Za 0) (Za 3)) (Za 4)) (VG W g (some (.lst (L.map U6))) (some (.int (a:Int))) (some (.int (b:Int))) x5 x6 x7)=some (.lst ((List.replicate (ZM W a b).toNat (a,b)).map U6)):=by
  rw[Z2,v1]
  show Q6 (.lst [U6 (a,b)]) (.int (ZM W a b))=_
  show(if ZJ [U6 (a,b)]=true/\(-1000000:Int)<=ZM W a b/\ZM W a b<=1000000/\[U6 (a,b)].length*(ZM W a b).toNat<=10000 then some (PV.lst (List.replicate (ZM W a b).toNat [U6 (a,b)]).flatten) else none)=_
  rw[if_pos ⟨rfl,by omega,by omega,by simp only[List.length_singleton];omega⟩,Nt,List.map_replicate]
 have v3:Zg Ql (Za 2) (Zg Q6 (Yl [(Yg [(Za 3),(Za 4)])]) (Zg ZA (Zg ZA (Za 0) (Za 3)) (Za 4))) (VG W g (some (.lst (L.map U6))) (some (.int (a:Int))) (some (.int (b:Int))) x5 x6 x7)=some (.lst ((L++List.replicate (ZM W a b).toNat (a,b)).map U6)):=by
  rw[Z2,v2]
  show Ql (.lst (L.map U6)) (.lst ((List.replicate (ZM W a b).toNat (a,b)).map U6))=_
  show(if(L.map U6).length+((List.replicate (ZM W a b).toNat (a,b)).map U6).length<=10000/\ZJ (L.map U6)=true/\ZJ ((List.replicate (ZM W a b).toNat (a,b)).map U6)=true then some (PV.lst (L.map U6++(List.replicate (ZM W a b).toNat (a,b)).map U6)) else none)=_
  rw[if_pos ⟨by simp only[List.length_map,List.length_replicate];omega,Kw _,Kw _⟩,List.map_append]
 unfold fT
 rw[Zv,v3];rfl
theorem Lm{W:List (List Int)}(ok:L2.WebOk W)(g:List Nat):∃x3 x4,Z0 [] (ZL [(Ze ZG [(Za 0)])]) (.one 3) (Z0 [] (ZZ [(Zg ZX (Za 3) (eC (.int 1))),(Ze ZG [(Za 0)])]) (.one 4) fT) (VG W g (some (.lst [])) none none none none none)=some (.nx (VG W g (some (.lst ((T0 W).map U6))) x3 x4 none none none)):=by
 have hf:=ok.few
 have len:∀s:ZY,s[0]?=some (some (wP W))->Ze ZG [(Za 0)] s=some (.int (W.length:Int)):=fun s hs=>by simp[hs]
 have hr:ZL [(Ze ZG [(Za 0)])] (ZE [] (VG W g (some (.lst [])) none none none none none))=some (Xv W.length):=Ya (n:=W.length) (len _ rfl) (by omega)
 rw[ZU,hr]
 obtain⟨s',f1,x3,x4,hs⟩:=ZK (T:=.one 3) (fb:=Z0 [] (ZZ [(Zg ZX (Za 3) (eC (.int 1))),(Ze ZG [(Za 0)])]) (.one 4) fT) (ls:=Xv W.length) (s:=VG W g (some (.lst [])) none none none none none) (fun i s=>∃x3 x4,s=VG W g (some (.lst ((TA W i).map U6))) x3 x4 none none none) ⟨none,none,rfl⟩ (by
  rintro i l s hl ⟨x3,x4,rfl⟩
  obtain⟨hi,rfl⟩:=XY hl
  have hr2:ZZ [(Zg ZX (Za 3) (eC (.int 1))),(Ze ZG [(Za 0)])] (ZE [] (VG W g (some (.lst ((TA W i).map U6))) (some (.int (i:Int))) x4 none none none))=some (Xf ((i:Int)+1) (W.length-(i+1))):=by
   rw[Y8 (i:=(i:Int)+1) (j:=(W.length:Int)) rfl (len _ rfl) ⟨by omega,by omega⟩ ⟨by omega,by omega⟩]
   congr 2;omega
  have al:=HR ok (i:=i) (by omega)
  obtain⟨s2,g1,y4,hs2⟩:=ZK (T:=.one 4) (fb:=fT) (ls:=Xf ((i:Int)+1) (W.length-(i+1))) (s:=VG W g (some (.lst ((TA W i).map U6))) (some (.int (i:Int))) x4 none none none) (fun j s=>∃y4,s=VG W g (some (.lst ((TA W i++TB W i j).map U6))) (some (.int (i:Int))) y4 none none none) ⟨x4,by simp[TB]⟩ (by
   rintro j l s hl ⟨y4,rfl⟩
   obtain⟨hj,rfl⟩:=Wj hl
   have z:(i:Int)+1+(j:Int)=((i+1+j:Nat):Int):=by omega
   rw[z]
   have bl:=Ll ok (a:=i) (m:=j) hi (by omega)
   refine⟨_,_,rfl,C6 ok (g:=g) (a:=i) (b:=i+1+j) hi (by omega) (L:=TA W i++TB W i j) (by rw[List.length_append];omega) none none none,some (.int ((i+1+j:Nat):Int)),?_⟩
   rw[Ku,List.append_assoc])
  refine⟨VG W g (some (.lst ((TA W i).map U6))) (some (.int (i:Int))) x4 none none none,VG W g (some (.lst ((TA W (i+1)).map U6))) (some (.int (i:Int))) y4 none none none,rfl,?_,_,_,rfl⟩
  rw[ZU,hr2]
  show Xc _ _ _ _=_
  rw[g1,hs2,Wk,Kv])
 refine⟨x3,x4,?_⟩
 show Xc _ _ _ _=_
 rw[f1,hs,show(Xv W.length).length=W.length by simp[Xv],DZ]
theorem C7{T:List ZF}{t:Nat}(h:t<T.length):VH (T.map U6) (t:Int)=some (U6 (Yq T t)):=W4 (by
 rw[List.getElem?_map];unfold Yq
 rw[List.getD_eq_getElem?_getD,List.getElem?_eq_getElem h];rfl)
theorem JN{l:List Int}(h:l.Pairwise (·<=·)):Sb l=l:=(NI (List.Perm.refl l) h).symm
theorem Ln{W:List (List Int)}(ok:L2.WebOk W){g:List Nat}(gv:Gv (T0 W) g)(hl:g.length=W.length-1):Xj [wP W,gP g]=some (.bl true):=by
 have hf:=ok.few;have hp:=ok.pos
 let T:=T0 W
 let tp:Option PV:=some (.lst (T.map U6))
 let mk:Nat->Option PV:=fun i=>some (.lst (iL (WY W.length (WX T id (g.take i)))))
 obtain⟨x3,x4,e2⟩:=Lm ok g
 have e1:Zk 2 (Yl []) (VG W g none none none none none none)=some (.nx (VG W g (some (.lst [])) none none none none none)):=rfl
 have e3:WU (O8 (Tg (xB (Ze W8 [(Za 1),(eC (.ty "tuple"))]))) (O8 (xB (Zg (Yc true) (Ze ZG [(Za 1)]) (Zg Xz (Ze ZG [(Za 0)]) (eC (.int 1))))) (Tg (xB (Ze Tj [(Zu 1 [] (Vk (Za 1)) (.one 0) ZH (Ze YW [(Za 0)]))]))))) (Z4 (eP (eC (.bl false)))) ZO (VG W g tp x3 x4 none none none)=some (.nx (VG W g tp x3 x4 none none none)):=by
  have t1:xB (Ze W8 [(Za 1),(eC (.ty "tuple"))]) (VG W g tp x3 x4 none none none)=some true:=rfl
  have l1:Ze ZG [(Za 1)] (VG W g tp x3 x4 none none none)=some (.int (g.length:Int)):=by
   show some (PV.int ((iL (nL g)).length:Int))=_
   simp[iL,nL]
  have l0:Ze ZG [(Za 0)] (VG W g tp x3 x4 none none none)=some (.int (W.length:Int)):=by simp[VG]
  have t2:xB (Zg (Yc true) (Ze ZG [(Za 1)]) (Zg Xz (Ze ZG [(Za 0)]) (eC (.int 1)))) (VG W g tp x3 x4 none none none)=some false:=by
   have s1:Zg Xz (Ze ZG [(Za 0)]) (eC (.int 1)) (VG W g tp x3 x4 none none none)=some (.int ((W.length:Int)-1)):=vI (op:=(· - ·)) l0 rfl
   rw[XX,Z2,l1,s1]
   show(Yc true (.int (g.length:Int)) (.int ((W.length:Int)-1))).bind MH=_
   have:decide ((g.length:Int)=(W.length:Int)-1)=true:=decide_eq_true (by omega)
   simp[this]
  have t3:xB (Ze Tj [(Zu 1 [] (Vk (Za 1)) (.one 0) ZH (Ze YW [(Za 0)]))]) (VG W g tp x3 x4 none none none)=some true:=by
   rw[XX,JM (l:=nL g) (by simp[nL];omega) rfl];rfl
  rw[Yj,UR,Uu,t1,UR,t2,Uu,t3];rfl
 have e4:Zk 5 (Zu 1 [] (ZL [(Ze ZG [(Za 0)])]) (.one 0) ZH (eP (Za 0))) (VG W g tp x3 x4 none none none)=some (.nx (VG W g tp x3 x4 (mk 0) none none)):=by
  have hc:Zu 1 [] (ZL [(Ze ZG [(Za 0)])]) (.one 0) ZH (eP (Za 0)) (VG W g tp x3 x4 none none none)=some (.lst (iL (WY W.length id))):=by
   rw[ZQ (List.range W.length) (fun(i:Nat)=>.int (i:Int)) (fun(i:Nat)=>.int (i:Int)) (Ya (n:=W.length) (by simp[VG]) (by omega)) (by simp;omega) fun i _=>⟨[some (.int (i:Int))],rfl,rfl,rfl⟩]
   simp[WY,nL,iL]
  rw[Zv,hc];rfl
 let fb:XS:=(Zj (WU (O8 (xB (Zg LG (Za 6) (eC (.int 0)))) (xB (Zg CQ (Za 6) (Ze ZG [(Za 2)])))) (Z4 (eP (eC (.bl false)))) ZO)
  (Zj (S7 (.many [3,4]) (Zg ZA (Za 2) (Za 6)))
  (Zj (Zk 7 (eP (Zg ZA (Za 5) (Za 4))))
  (Zj (WU (xB (Zg (Yc false) (Zg ZA (Za 5) (Za 3)) (Za 7))) (Z4 (eP (eC (.bl false)))) ZO)
  (Zk 5 (Zu 1 [5,3,7] (YM (Za 5)) (.one 0) ZH (eP (Zg ZA (Yl [(Za 0),(Zg ZA (Za 1) (Za 2))]) (Ze Ul [(Zg (Yc false) (Za 0) (Za 3))])))))))))
 obtain⟨s',f1,y3,y4,y6,y7,hs⟩:=ZK (T:=.one 6) (fb:=fb) (ls:=iL (nL g)) (s:=VG W g tp x3 x4 (mk 0) none none) (fun i s=>∃y3 y4 y6 y7,s=VG W g tp y3 y4 (mk i) y6 y7) ⟨x3,x4,none,none,rfl⟩ (by
  rintro i l s hl' ⟨y3,y4,y6,y7,rfl⟩
  obtain⟨t,ht,rfl⟩:∃t,g[i]?=some t/\l = .int (t:Int):=by
   simp only[iL,nL,List.getElem?_map] at hl'
   cases e:g[i]? with
   | none=>rw[e] at hl';cases hl'
   | some t=>rw[e] at hl';cases hl';exact⟨t,rfl,rfl⟩
  have htl:=gv.lt t (List.mem_of_getElem? ht)
  have hbt:=gv.btw i t ht
  obtain⟨h1,h2,_⟩:=O7 htl
  have he:=C7 htl
  have pcs:mk (i+1)=some (.lst (iL (WY W.length (mrg (WX T id (g.take i)) (Yq T t).1 (Yq T t).2)))):=by
   simp only[mk];rw[List.take_add_one,ht]
   show some (PV.lst (iL (WY W.length (WX T id (g.take i++[t])))))=_
   rw[U3]
  have pci:mk i=some (.lst (iL (WY W.length (WX T id (g.take i))))):=rfl
  change WX T id (g.take i) (Yq T t).1≠WX T id (g.take i) (Yq T t).2 at hbt
  change (Yq T t).1<(Yq T t).2 at h1
  change t<T.length at htl
  change (Yq T t).2<W.length at h2
  change VH (T.map U6) (t:Int)=some (U6 (Yq T t)) at he
  rw[pci]
  generalize WX T id (g.take i)=P at *
  obtain⟨a,b⟩:ZF:=Yq T t
  generalize Yq T t=ed at *
  obtain⟨a,b⟩:=ed
  simp only at h1 h2 hbt pcs
  let s0:Option PV->Option PV->Option PV->ZY:=fun y3 y4 y7=>VG W g tp y3 y4 (some (.lst (iL (WY W.length P)))) (some (.int (t:Int))) y7
  have b1:WU (O8 (xB (Zg LG (Za 6) (eC (.int 0)))) (xB (Zg CQ (Za 6) (Ze ZG [(Za 2)])))) (Z4 (eP (eC (.bl false)))) ZO (s0 y3 y4 y7)=some (.nx (s0 y3 y4 y7)):=by
   have c1:xB (Zg LG (Za 6) (eC (.int 0))) (s0 y3 y4 y7)=some false:=by
    show some (decide ((t:Int)<0))=_
    rw[decide_eq_false (by omega)]
   have c2:xB (Zg CQ (Za 6) (Ze ZG [(Za 2)])) (s0 y3 y4 y7)=some false:=by
    show some (decide (((T.map U6).length:Int)<=(t:Int)))=_
    rw[decide_eq_false (by rw[List.length_map];omega)]
   rw[Yj,UR,c1,c2];rfl
  have b2:S7 (.many [3,4]) (Zg ZA (Za 2) (Za 6)) (s0 y3 y4 y7)=some (.nx (s0 (some (.int (a:Int))) (some (.int (b:Int))) y7)):=by
   have c:Zg ZA (Za 2) (Za 6) (s0 y3 y4 y7)=some (U6 (a,b)):=he
   unfold S7
   rw[c];rfl
  have b3:Zk 7 (eP (Zg ZA (Za 5) (Za 4))) (s0 (some (.int (a:Int))) (some (.int (b:Int))) y7)=some (.nx (s0 (some (.int (a:Int))) (some (.int (b:Int))) (some (.int ((P b:Nat):Int))))):=by
   have c:Zg ZA (Za 5) (Za 4) (s0 (some (.int (a:Int))) (some (.int (b:Int))) y7)=some (.int ((P b:Nat):Int)):=Tw h2
   rw[Zv,vP c];rfl
  let s3:=s0 (some (.int (a:Int))) (some (.int (b:Int))) (some (.int ((P b:Nat):Int)))
  have pa:Zg ZA (Za 5) (Za 3) s3=some (.int ((P a:Nat):Int)):=Tw (by omega)
  have b4:WU (xB (Zg (Yc false) (Zg ZA (Za 5) (Za 3)) (Za 7))) (Z4 (eP (eC (.bl false)))) ZO s3=some (.nx s3):=by
   have c:xB (Zg (Yc false) (Zg ZA (Za 5) (Za 3)) (Za 7)) s3=some false:=by
    rw[XX,Z2,pa]
    show(Yc false (.int ((P a:Nat):Int)) (.int ((P b:Nat):Int))).bind MH=_
    have:decide (((P a:Nat):Int)=((P b:Nat):Int))=false:=decide_eq_false (by omega)
    simp[this]
   rw[Yj,c];rfl
  have b5:Zu 1 [5,3,7] (YM (Za 5)) (.one 0) ZH (eP (Zg ZA (Yl [(Za 0),(Zg ZA (Za 1) (Za 2))]) (Ze Ul [(Zg (Yc false) (Za 0) (Za 3))]))) s3=some (.lst (iL (WY W.length (mrg P a b)))):=by
   rw[ZQ (List.range W.length) (fun x=>.int ((P x:Nat):Int)) (fun x=>.int ((mrg P a b x:Nat):Int)) (by simp[s3,s0,VG,WY,nL,iL,YM,El]) (by simp;omega) (fun x hx=>⟨[some (.int ((P x:Nat):Int)),some (.lst (iL (WY W.length P))),some (.int (a:Int)),some (.int ((P b:Nat):Int))],rfl,rfl,?_⟩)]
   ·simp[WY,nL,iL]
   ·have q1:Zg ZA (Za 1) (Za 2) [some (.int ((P x:Nat):Int)),some (.lst (iL (WY W.length P))),some (.int (a:Int)),some (.int ((P b:Nat):Int))]=some (.int ((P a:Nat):Int)):=Tw (by omega)
    have q2:Yl [(Za 0),(Zg ZA (Za 1) (Za 2))] [some (.int ((P x:Nat):Int)),some (.lst (iL (WY W.length P))),some (.int (a:Int)),some (.int ((P b:Nat):Int))]=some (.lst [.int ((P x:Nat):Int),.int ((P a:Nat):Int)]):=by
     unfold Yl
     rw[ZP,ZP,q1];rfl
    refine vP ?_
    rw[Z2,q2];unfold mrg
    by_cases q:P x=P b
    ·rw[if_pos q]
     have:Ze Ul [(Zg (Yc false) (Za 0) (Za 3))] [some (.int ((P x:Nat):Int)),some (.lst (iL (WY W.length P))),some (.int (a:Int)),some (.int ((P b:Nat):Int))]=some (.int 1):=by simp[q,Ul]
     rw[this];rfl
    ·rw[if_neg q]
     have q':¬((P x:Nat):Int)=((P b:Nat):Int):=by omega
     have:Ze Ul [(Zg (Yc false) (Za 0) (Za 3))] [some (.int ((P x:Nat):Int)),some (.lst (iL (WY W.length P))),some (.int (a:Int)),some (.int ((P b:Nat):Int))]=some (.int 0):=by simp[q',Ul]
     rw[this];rfl
  refine⟨s0 y3 y4 y7,VG W g tp (some (.int (a:Int))) (some (.int (b:Int))) (mk (i+1)) (some (.int (t:Int))) (some (.int ((P b:Nat):Int))),rfl,?_,_,_,_,_,rfl⟩
  show Zj _ _ _=_
  rw[Jx b1 b2 b3]
  show Zj _ _ s3=_
  rw[Yi b4,Zv,b5,pcs];rfl)
 have e5:Z0 [] (Vk (Za 1)) (.one 6) fb (VG W g tp x3 x4 (mk 0) none none)=some (.nx (VG W g tp y3 y4 (mk g.length) y6 y7)):=by
  rw[ZU,show Vk (Za 1) (ZE [] (VG W g tp x3 x4 (mk 0) none none))=some (iL (nL g)) from rfl]
  show Xc _ _ _ _=_
  rw[f1,hs];simp[iL,nL]
 show Xy 8 Vd _=_
 unfold Vd
 show(Zj _ _ (VG W g none none none none none none)).bind Xh=_
 unfold fT at e2
 rw[Yi e1,Yi e2,Yi e3,Yi e4,Yi (show Z0 [] (Vk (Za 1)) (.one 6) _ _=_ from e5)]
 rw[VB (v:=.bl true) (by
  have l1:Ze XR [(Za 1)] (VG W g tp y3 y4 (mk g.length) y6 y7)=some (.lst (iL (nL g))):=by
   show XR [gP g]=_
   unfold gP pP;rw[NH,if_pos (Xn _)]
  have ris:(nL g).Pairwise (·<=·):=by
   unfold nL;rw[List.pairwise_map]
   exact gv.ris.imp fun h=>by omega
  have l2:Ze Sg [(Za 1)] (VG W g tp y3 y4 (mk g.length) y6 y7)=some (.lst (iL (nL g))):=by
   show((Wq (iL (nL g))).bind fun ns=>if ns.length<64 then some (PV.lst (iL (Sb ns))) else none)=_
   rw[Wg]
   show(if(nL g).length<64 then some (PV.lst (iL (Sb (nL g)))) else none)=_
   rw[if_pos (by simp[nL];omega),JN ris]
  rw[Xa,Z2,l1,l2]
  show(Yc false (.lst ((nL g).map PV.int)) (.lst ((nL g).map PV.int))).bind _=_
  rw[DD]
  simp)]
 rfl
theorem HS:∀{g h:List Nat},N8 g h->HT.lexLt (nL g) (nL h)=true
 | a::g,b::h,q=>by
  show HT.lexLt ((a:Int)::nL g) ((b:Int)::nL h)=true
  rw[HT.lexLt_cons]
  rcases q with q | ⟨rfl,q⟩
  ·rw[if_neg (by omega)];exact decide_eq_true (by omega)
  ·rw[if_pos rfl];exact HS q
 | [],_,q=>by cases q
 | _::_,[],q=>by cases q
theorem Eu{G:List (List Nat)}{k:Nat}(h:k<G.length):VH (G.map gP) (k:Int)=some (gP G[k]):=W4 (by rw[List.getElem?_map,List.getElem?_eq_getElem h];rfl)
theorem F0{W:List (List Int)}(ok:L2.WebOk W)(cn:Ts W)(h60:tr W.length (ZM W)<=300):Yy [wP W,.int (tr W.length (ZM W):Int)]=some (.bl true):=by
 have hf:=ok.few;have hp:=ok.pos
 have gg:=U4 (T0 W) (W.length-1)
 have gr:=Rg (T0 W) (W.length-1)
 have gl:(Yr (T0 W) (W.length-1)).length=tr W.length (ZM W):=QR _ _
 have te:=HQ ok cn h60
 generalize Yr (T0 W) (W.length-1)=G at *
 generalize tr W.length (ZM W)=c at *
 let st:Option PV->ZY:=fun x=>[some (wP W),some (.int (c:Int)),x]
 let s2:=st (some (.lst (G.map gP)))
 have e1:Zk 2 (Ze (fun ls=>UZ (ls++[.int 300])) [(Za 0)]) (st none)=some (.nx s2):=by
  have:Ze (fun ls=>UZ (ls++[.int 300])) [(Za 0)] (st none)=some (.lst (G.map gP)):=te
  rw[Zv,this];rfl
 have len:Ze ZG [(Za 2)] s2=some (.int (G.length:Int)):=by
  show some (PV.int ((G.map gP).length:Int))=_
  rw[List.length_map]
 have e2:WU (O8 (Tg (xB (Ze W8 [(Za 2),(eC (.ty "list"))]))) (O8 (xB (Zg (Yc true) (Ze ZG [(Za 2)]) (Za 1))) (Tg (xB (Ze Tj [(Zu 1 [0] (YM (Za 2)) (.one 0) ZH (Ze Xj [(Za 1),(Za 0)]))]))))) (Z4 (eP (eC (.bl false)))) ZO s2=some (.nx s2):=by
  have t1:xB (Ze W8 [(Za 2),(eC (.ty "list"))]) s2=some true:=rfl
  have t2:xB (Zg (Yc true) (Ze ZG [(Za 2)]) (Za 1)) s2=some false:=by
   rw[XX,Z2,len]
   show(Yc true (.int (G.length:Int)) (.int (c:Int))).bind MH=_
   simp[gl]
  have hc:Zu 1 [0] (YM (Za 2)) (.one 0) ZH (Ze Xj [(Za 1),(Za 0)]) s2=some (.lst ((G.map fun _=>true).map PV.bl)):=by
   rw[ZQ G gP (fun _=>.bl true) rfl (by omega) fun g hg=>⟨[some (gP g),some (wP W)],rfl,rfl,Ln ok (gg g hg).1 (gg g hg).2⟩]
   rw[List.map_map];rfl
  have t3:xB (Ze Tj [(Zu 1 [0] (YM (Za 2)) (.one 0) ZH (Ze Xj [(Za 1),(Za 0)]))]) s2=some true:=by
   rw[XX,Yu,ZP,hc]
   show(Tj [.lst ((G.map fun _=>true).map PV.bl)]).bind MH=_
   rw[MJ];simp
  rw[Yj,UR,Uu,t1,UR,t2,Uu,t3];rfl
 have hr:ZZ [(eC (.int 1)),(Ze ZG [(Za 2)])] s2=some ((List.range (G.length-1)).map fun(i:Nat)=>PV.int (1+(i:Int))):=by
  rw[Y8 (i:=1) (j:=(G.length:Int)) rfl len ⟨by omega,by omega⟩ ⟨by omega,by omega⟩];unfold Xf
  congr 3;omega
 have hc:Zu 1 [2] (ZZ [(eC (.int 1)),(Ze ZG [(Za 2)])]) (.one 0) ZH (Zg Hb (Zg ZA (Za 1) (Zg Xz (Za 0) (eC (.int 1)))) (Zg ZA (Za 1) (Za 0))) s2=some (.lst (((List.range (G.length-1)).map fun _=>true).map PV.bl)):=by
  rw[ZQ (List.range (G.length-1)) (fun(i:Nat)=>PV.int (1+(i:Int))) (fun _=>.bl true) hr (by simp;omega) fun i hi=>⟨[some (.int (1+(i:Int))),some (.lst (G.map gP))],rfl,rfl,?_⟩]
  ·rw[List.map_map];rfl
  ·have hi:=List.mem_range.mp hi
   have v1:Zg ZA (Za 1) (Zg Xz (Za 0) (eC (.int 1))) [some (.int (1+(i:Int))),some (.lst (G.map gP))]=some (gP G[i]):=by
    show VH (G.map gP) (1+(i:Int)-1)=_
    rw[show(1:Int)+(i:Int)-1=(i:Int) by omega]
    exact Eu (by omega)
   have v2:Zg ZA (Za 1) (Za 0) [some (.int (1+(i:Int))),some (.lst (G.map gP))]=some (gP (G[i+1]'(by omega))):=by
    show VH (G.map gP) (1+(i:Int))=_
    rw[show(1:Int)+(i:Int)=((i+1:Nat):Int) by omega]
    exact Eu (by omega)
   have lx:=HS (List.pairwise_iff_getElem.mp gr i (i+1) (by omega) (by omega) (by omega))
   rw[Z2,v1,v2]
   show((Wq (iL (nL G[i]))).bind fun ns=>(Wq (iL (nL (G[i+1]'(by omega))))).bind fun ms=>some (PV.bl (HT.lexLt ns ms)))=_
   rw[Wg,Wg]
   show some (PV.bl (HT.lexLt (nL G[i]) (nL (G[i+1]'(by omega)))))=_
   rw[lx]
 show Xy 3 X0 _=_
 unfold X0
 show(Zj _ _ (st none)).bind Xh=_
 rw[Yi e1,Yi e2,VB (v:=.bl true) (by
  rw[Xa,Yu,ZP,hc]
  show(Tj [.lst (((List.range (G.length-1)).map fun _=>true).map PV.bl)]).bind _=_
  rw[MJ];simp)]
 rfl
theorem Lo{n:Nat}{w v:Nat->Nat->Int}(h:∀a b,a<b->b<n->w a b=v a b):Ys n w=Ys n v:=by
 unfold Ys;rw[List.flatMap_def,List.flatMap_def]
 congr 1
 refine List.map_congr_left fun p hp=>?_
 have:=mem_prs.mp (show(p.1,p.2)∈Lb n from hp)
 rw[h p.1 p.2 this.1 this.2]
theorem Sq{n:Nat}{w v:Nat->Nat->Int}(h:∀a b,a<b->b<n->w a b=v a b):tr n w=tr n v:=by
 unfold tr;rw[Lo h]
theorem F1{n:Nat}(h1:2<=n)(hn:n<=7){w:Nat->Nat->Int}(ok:Wt n w){a b:Nat}(hab:a<b)(hb:b<n){d:Int}(hd:0<=d) :
  (tr n (Xx w a b d):Int)=d*(tr (n-1) (WT w a b):Int)+(tr n (Xx w a b 0):Int):=by
 obtain⟨m,rfl⟩:∃m,n=m+1:=⟨n-1,by omega⟩
 have:=HJ (m:=m) (by omega) (by omega) ok hab hb hd
 unfold tr;rw[Nat.add_sub_cancel,this];rw[Int.natCast_add,Int.natCast_mul,Int.toNat_of_nonneg hd]
theorem put_self{w:Nat->Nat->Int}{n a b:Nat}(ok:Wt n w)(hab:a<b)(hb:b<n):∀x y,x<y->y<n->Xx w a b (w a b) x y=w x y:=fun x y hx hy=>by
 unfold Xx
 split
 ·rename_i h
  rcases h with h | h
  ·rw[h.1,h.2]
  ·omega
 ·rfl
theorem HU(w:Nat->Nat->Int):tr 1 w=1:=Sn _ _
theorem Mh(w:Nat->Nat->Int):tr 2 (Xx w 0 1 0)=0:=by
 have:Ys 2 (Xx w 0 1 0)=[]:=by
  show([(0,1)]:List ZF).flatMap (fun p=>List.replicate (Xx w 0 1 0 p.1 p.2).toNat p)=[]
  simp[Xx]
 unfold tr
 rw[this];rfl
theorem Ew{n a b:Nat}{t:Int}(hab:a<b):∀(l:List Xm)(M:List (List Int)),(∀e∈l,e.1<e.2.1/\e.2.1<n/\1<=e.2.2/\e.2.2<=9)->(∀e∈l,(e.1,e.2.1)≠(a,b))->MatOk n M->ZM M a b=t->ZM (l.foldl YF M) a b=t
 | [],M,_,_,_,h=>h
 | e::r,M,hl,hn,hM,h0=>by
  have he:=hl e (by simp)
  refine Ew hab r _ (fun e' h'=>hl e' (by simp[h'])) (fun e' h'=>hn e' (by simp[h'])) (hM.step he) ?_
  rw[Si hM he,if_neg (by omega),if_neg (fun z=>hn e (by simp) (by rw[z.1,z.2])),h0]
theorem HV{n:Nat}{a b:Nat}{t:Int}:∀(l:List Xm)(M:List (List Int)),(∀e∈l,e.1<e.2.1/\e.2.1<n/\1<=e.2.2/\e.2.2<=9)->(l.map fun e=>(e.1,e.2.1)).Nodup->MatOk n M->(a,b,t)∈l->ZM (l.foldl YF M) a b=t
 | [],M,_,_,_,h=>by simp at h
 | e::r,M,hl,nd,hM,h=>by
  have he:=hl e (by simp)
  rw[List.map_cons,List.nodup_cons] at nd
  rcases List.mem_cons.mp h with q | q
  ·subst q
   simp only at he
   refine Ew he.1 r _ (fun e' h'=>hl e' (by simp[h'])) (fun e' h' z=>nd.1 (List.mem_map.mpr ⟨e',h',z⟩)) (hM.step he) ?_
   rw[Si hM he,if_neg (by simp only;omega),if_pos ⟨rfl,rfl⟩]
  ·exact HV r _ (fun e' h'=>hl e' (by simp[h'])) nd.2 (hM.step he) q
theorem HW{n:Nat}{ts:List Xm}(ok:DictOk n ts)(hn:n<=7):ts.length<=49:=by
 have nd:(ts.map fun e=>((e.1*7+e.2.1:Nat):Int)).Nodup:=by
  have h:=ok.nd
  rw[show(ts.map fun e=>((e.1*7+e.2.1:Nat):Int))=(ts.map fun e=>(e.1,e.2.1)).map (fun p=>((p.1*7+p.2:Nat):Int)) by rw[List.map_map];rfl]
  unfold List.Nodup at h ⊢
  rw[List.pairwise_map]
  refine List.Pairwise.imp_of_mem (fun{p q} hp hq hne z=>hne ?_) h
  obtain⟨e,he,rfl⟩:=List.mem_map.mp hp
  obtain⟨f,hf,rfl⟩:=List.mem_map.mp hq
  have h1:=ok.ok e he;have h2:=ok.ok f hf
  have z':e.1*7+e.2.1=f.1*7+f.2.1:=by simpa using(Int.ofNat_inj.mp z)
  show(e.1,e.2.1)=(f.1,f.2.1)
  have:e.1=f.1/\e.2.1=f.2.1:=by omega
  rw[this.1,this.2]
 have:=QE (m:=(List.range 49).map fun(i:Nat)=>(i:Int)) nd fun x hx=>by
  obtain⟨e,he,rfl⟩:=List.mem_map.mp hx
  have h1:=ok.ok e he
  exact List.mem_map.mpr ⟨_,List.mem_range.mpr (by omega),rfl⟩
 simpa using this
theorem HX{n:Nat}{ts:List Xm}(ok:DictOk n ts)(hn:n<=7):SM [dP ts]=some (.lst ((Sf (ts.map fun e=>((e.1:Int),(e.2.1:Int)))).map Ep)):=by
 have hf:=HW ok hn
 show(Tp (ts.map tk)).bind _=_
 have e:ts.map tk=(ts.map fun e=>((e.1:Int),(e.2.1:Int))).map fun p=>[Sum.inl p.1,Sum.inl p.2]:=by rw[List.map_map];rfl
 rw[e,Qu]
 show(if(ts.map fun e=>((e.1:Int),(e.2.1:Int))).all Kd=true/\(ts.map fun e=>((e.1:Int),(e.2.1:Int))).length<64 then _ else none)=_
 have all:(ts.map fun e=>((e.1:Int),(e.2.1:Int))).all Kd=true:=List.all_eq_true.mpr fun p hp=>by
  obtain⟨e,he,rfl⟩:=List.mem_map.mp hp
  have:=ok.ok e he
  unfold Kd;simp only[Bool.and_eq_true,decide_eq_true_eq];omega
 rw[if_pos ⟨all,by rw[List.length_map];omega⟩]
theorem F2{n:Nat}{ts:List Xm}(hg:Hang n ts)(h2:2<=n):ts≠[]:=fun z=>by
 subst z
 have:=hg (fun x=>x=0) (fun a b ⟨t,h⟩=>by simp at h) 0 1 (by omega) (by omega)
 simp at this
def X1(ns:List Int)(x1 x2 x3 x4 x5 x6 x7 x8 x9 x10:Option PV):ZY:=[some (.cst (iL ns)),x1,x2,x3,x4,x5,x6,x7,x8,x9,x10]
end PB
namespace PW
open L2 VL PB
theorem law_true(ns:List Int)(hns:ns.length<=63)(hbd:∀n∈ns,n.natAbs.log2<=1048576):D_law [.cst (iL ns)]=some (.bl true):=by
 obtain⟨n,hn0⟩:∃n:Nat,(n:Int)=1+YC ns 0%7:=⟨(1+YC ns 0%7).toNat,by omega⟩
 have h1:1<=n:=by omega
 have h7:n<=7:=by omega
 obtain⟨ts,eT,dok,hg⟩:=PB.times_eq (Zz:=1) hns h1 h7
 have eS:=Ju dok h7
 have ok:L2.WebOk (K6 n ts):=(R3 dok).web h1 h7
 have hl:(K6 n ts).length=n:=(R3 dok).len
 have cn:Ts (K6 n ts):=hg.conn dok
 have entW:∀{a b:Nat}{t:Int},(a,b,t)∈ts->ZM (K6 n ts) a b=t:=fun h=>HV ts _ dok.ok dok.nd (MatOk.zero n) h
 generalize K6 n ts=W at *
 have okB:=D5 ok;have ct:=So okB;have tc:=Vn okB cn
 have told:tr W.length (ZM W)<=300->_:=F0 ok cn
 have wk:Wt W.length (ZM W):=wt okB
 rw[hl] at ct tc told wk
 generalize hF:tr n (ZM W)=F at *
 let nP:Option PV:=some (.int (n:Int))
 let dPv:Option PV:=some (dP ts)
 let wPv:Option PV:=some (wP W)
 let fP:Option PV:=some (.int (F:Int))
 have e1:Zk 1 (eP (Zg ZX (eC (.int 1)) (Zg YR (Ze Zs [(Za 0),(eC (.int 0))]) (eC (.int 7))))) (X1 ns none none none none none none none none none none)=some (.nx (X1 ns nP none none none none none none none none none)):=by
  have c:Ze Zs [(Za 0),(eC (.int 0))] (X1 ns none none none none none none none none none none)=some (.int (YC ns 0)):=WC hns 0
  have q:Zs [PV.cst (ns.map PV.int),PV.int 0]=some (PV.int (YC ns 0)):=WC hns 0
  simp[X1,q,nP,hn0]
 have e2:Zk 2 (Ze X8 [(Za 0),(eC (.int 1)),(Za 1)]) (X1 ns nP none none none none none none none none none)=some (.nx (X1 ns nP dPv none none none none none none none none)):=by
  have:Ze X8 [(Za 0),(eC (.int 1)),(Za 1)] (X1 ns nP none none none none none none none none none)=some (dP ts):=eT
  rw[Zv,this];rfl
 have e3:Zk 3 (Ze X7 [(Za 2),(Za 1)]) (X1 ns nP dPv none none none none none none none none)=some (.nx (X1 ns nP dPv wPv none none none none none none none)):=by
  have:Ze X7 [(Za 2),(Za 1)] (X1 ns nP dPv none none none none none none none none)=some (wP W):=eS
  rw[Zv,this];rfl
 have e4:Zk 4 (Ze Y9 [(Za 3)]) (X1 ns nP dPv wPv none none none none none none none)=some (.nx (X1 ns nP dPv wPv fP none none none none none none)):=by
  have:Ze Y9 [(Za 3)] (X1 ns nP dPv wPv none none none none none none none)=some (.int (F:Int)):=ct
  rw[Zv,this];rfl
 have e5:WU (O8 (xB (TY false (Za 4))) (XM (xB (Zg JO (Za 4) (eC (.int 60)))) (Tg (xB (Ze Yy [(Za 3),(Za 4)]))))) (Z4 (eP (eC (.bl false)))) ZO (X1 ns nP dPv wPv fP none none none none none none)=some (.nx (X1 ns nP dPv wPv fP none none none none none none)):=by
  have t1:xB (TY false (Za 4)) (X1 ns nP dPv wPv fP none none none none none none)=some false:=rfl
  have t2:xB (Zg JO (Za 4) (eC (.int 60))) (X1 ns nP dPv wPv fP none none none none none none)=some (decide ((F:Int)<=60)):=rfl
  rw[Yj,UR,t1,Option.bind_some,if_neg Bool.false_ne_true,WL,t2,Option.bind_some]
  by_cases q:(F:Int)<=60
  ·have t3:xB (Ze Yy [(Za 3),(Za 4)]) (X1 ns nP dPv wPv fP none none none none none none)=some true:=by
    have:Ze Yy [(Za 3),(Za 4)] (X1 ns nP dPv wPv fP none none none none none none)=some (.bl true):=told (by omega)
    rw[XX,this];rfl
   rw[if_pos (decide_eq_true q),Uu,t3];rfl
  ·rw[if_neg (by rw[decide_eq_false q];exact Bool.false_ne_true)];rfl
 show Xy 11 Kf _=_
 unfold Kf
 show(Zj _ _ (X1 ns none none none none none none none none none none)).bind Xh=_
 rw[Yi e1,Yi e2,Yi e3,Yi e4,Yi e5]
 by_cases q1:n=1
 ·have t:xB (Zg (Yc false) (Za 1) (eC (.int 1))) (X1 ns nP dPv wPv fP none none none none none none)=some true:=by
   show(Yc false (.int (n:Int)) (.int 1)).bind MH=_
   simp[q1]
  have f1:F=1:=by rw[<-hF,q1];exact HU _
  rw[Yh,Yj,t,Option.bind_some,if_pos rfl,VB (v:=.bl true) (by
   show((Yc false (.int (F:Int)) (.int 1))).bind _=_
   simp[f1])]
  rfl
 have e6:WU (xB (Zg (Yc false) (Za 1) (eC (.int 1)))) (Z4 (eP (Zg (Yc false) (Za 4) (eC (.int 1))))) ZO (X1 ns nP dPv wPv fP none none none none none none)=some (.nx (X1 ns nP dPv wPv fP none none none none none none)):=by
  have t:xB (Zg (Yc false) (Za 1) (eC (.int 1))) (X1 ns nP dPv wPv fP none none none none none none)=some false:=by
   show(Yc false (.int (n:Int)) (.int 1)).bind MH=_
   have:¬(n:Int)=1:=by omega
   simp[this]
  rw[Yj,t];rfl
 rw[Yi e6]
 -- a tie is picked
 let ps:=ts.map fun e=>((e.1:Int),(e.2.1:Int))
 let sp:=Sf ps
 let lP:Option PV:=some (.lst (sp.map Ep))
 have e7:Zk 5 (Ze SM [(Za 2)]) (X1 ns nP dPv wPv fP none none none none none none)=some (.nx (X1 ns nP dPv wPv fP lP none none none none none)):=by
  have:Ze SM [(Za 2)] (X1 ns nP dPv wPv fP none none none none none none)=some (.lst (sp.map Ep)):=HX dok h7
  rw[Zv,this];rfl
 have spl:sp.length=ts.length:=by rw[(V8 ps).length_eq];simp[ps]
 have tpos:0<ts.length:=List.length_pos_iff.mpr (F2 hg (by omega))
 obtain⟨k,hk⟩:∃k:Nat,(k:Int)=YC ns 29%(sp.length:Int):=⟨(YC ns 29%(sp.length:Int)).toNat,by
  have:=Int.emod_nonneg (YC ns 29) (show(sp.length:Int)≠0 by omega);omega⟩
 have hkl:k<sp.length:=by
  have:=Int.emod_lt_of_pos (YC ns 29) (show 0<(sp.length:Int) by omega);omega
 obtain⟨⟨a,b,t⟩,ht,epk⟩:∃e∈ts,sp[k]=((e.1:Int),(e.2.1:Int)):=by
  have hm:sp[k]∈ps:=(V8 ps).mem_iff.mp (List.getElem_mem _)
  obtain⟨e,he,z⟩:=List.mem_map.mp hm
  exact⟨e,he,z.symm⟩
 obtain⟨hab,hb,t1,t9⟩:=dok.ok _ ht
 simp only at hab hb t1 t9 epk
 have aP:VH (sp.map Ep) (k:Int)=some (.tup [.int (a:Int),.int (b:Int)]):=W4 (by rw[List.getElem?_map,List.getElem?_eq_getElem hkl,epk];rfl)
 let A6:Option PV:=some (.int (a:Int))
 let A7:Option PV:=some (.int (b:Int))
 let A8:Option PV:=some (.int t)
 have e8:S7 (.many [6,7]) (Zg ZA (Za 5) (Zg YR (Ze Zs [(Za 0),(eC (.int 29))]) (Ze ZG [(Za 5)]))) (X1 ns nP dPv wPv fP lP none none none none none)=some (.nx (X1 ns nP dPv wPv fP lP A6 A7 none none none)):=by
  have c:Ze Zs [(Za 0),(eC (.int 29))] (X1 ns nP dPv wPv fP lP none none none none none)=some (.int (YC ns 29)):=WC hns 29
  have l:Ze ZG [(Za 5)] (X1 ns nP dPv wPv fP lP none none none none none)=some (.int (sp.length:Int)):=by
   show some (PV.int ((sp.map Ep).length:Int))=_
   rw[List.length_map]
  have m:Zg YR (Ze Zs [(Za 0),(eC (.int 29))]) (Ze ZG [(Za 5)]) (X1 ns nP dPv wPv fP lP none none none none none)=some (.int (k:Int)):=by
   rw[Z2,c,l]
   show YR (.int (YC ns 29)) (.int (sp.length:Int))=_
   rw[hk]
   show(if(0:Int)<(sp.length:Int) then some (PV.int (YC ns 29%(sp.length:Int))) else none)=_
   rw[if_pos (by omega)]
  have v:Zg ZA (Za 5) (Zg YR (Ze Zs [(Za 0),(eC (.int 29))]) (Ze ZG [(Za 5)])) (X1 ns nP dPv wPv fP lP none none none none none)=some (.tup [.int (a:Int),.int (b:Int)]):=by
   rw[Z2,m];exact aP
  unfold S7
  rw[v];rfl
 have e9:Zk 8 (eP (Zg X4 (Za 2) (Yg [(Za 6),(Za 7)]))) (X1 ns nP dPv wPv fP lP A6 A7 none none none)=some (.nx (X1 ns nP dPv wPv fP lP A6 A7 A8 none none)):=by
  have:Zg X4 (Za 2) (Yg [(Za 6),(Za 7)]) (X1 ns nP dPv wPv fP lP A6 A7 none none none)=some (.int t):=QD dok ht
  rw[Zv,vP this];rfl
 rw[Yi e7,Yi e8,Yi e9];have eab:=entW ht
 have ha:a<W.length:=by omega
 have hb':b<W.length:=by omega
 -- the counts
 let z:=tr n (Xx (ZM W) a b 0)
 let y:=tr (n-1) (WT (ZM W) a b)
 have hd:∀d:Int,0<=d->(tr n (Xx (ZM W) a b d):Int)=d*(y:Int)+(z:Int):=fun d h=>F1 (by omega) h7 wk hab hb h
 have hFt:(F:Int)=t*(y:Int)+(z:Int):=by
  rw[<-hd t (by omega),<-hF]
  congr 1
  refine Sq fun x y hx hy=>?_
  rw[<-eab]
  exact(PB.put_self wk hab hb x y hx hy).symm
 by_cases q2:n=2
 ·have ab:a=0/\b=1:=by omega
  have hz:z=0:=by
   show tr n (Xx (ZM W) a b 0)=0
   rw[q2,ab.1,ab.2];exact Mh _
  have hy:y=1:=by
   show tr (n-1) (WT (ZM W) a b)=1
   rw[q2];exact HU _
  have tt:xB (Zg (Yc false) (Za 1) (eC (.int 2))) (X1 ns nP dPv wPv fP lP A6 A7 A8 none none)=some true:=by
   show(Yc false (.int (n:Int)) (.int 2)).bind MH=_
   simp[q2]
  rw[Yh,Yj,tt,Option.bind_some,if_pos rfl,VB (v:=.bl true) (by
   show((Yc false (.int (F:Int)) (.int t))).bind _=_
   have:(F:Int)=t:=by rw[hFt,hz,hy];omega
   simp[this])]
  rfl
 have e10:WU (xB (Zg (Yc false) (Za 1) (eC (.int 2)))) (Z4 (eP (Zg (Yc false) (Za 4) (Za 8)))) ZO (X1 ns nP dPv wPv fP lP A6 A7 A8 none none)=some (.nx (X1 ns nP dPv wPv fP lP A6 A7 A8 none none)):=by
  have tt:xB (Zg (Yc false) (Za 1) (eC (.int 2))) (X1 ns nP dPv wPv fP lP A6 A7 A8 none none)=some false:=by
   show(Yc false (.int (n:Int)) (.int 2)).bind MH=_
   have:¬(n:Int)=2:=by omega
   simp[this]
  rw[Yj,tt];rfl
 rw[Yi e10]
 obtain⟨k1,l1,n1⟩:=Kt okB ha hb' (by omega) (d:=t-1) (by omega) (by omega)
 obtain⟨k2,l2,n2⟩:=Kt okB ha hb' (by omega) (d:=0) (by omega) (by omega)
 obtain⟨k3,l3,n3⟩:=FX ok hab hb'
 have c1:=So k1;have c2:=So k2;have c3:=So k3;rw[l1,hl,Sq fun x y _ _=>n1 x y] at c1;rw[l2,hl,Sq fun x y _ _=>n2 x y] at c2;rw[l3,hl,Sq fun x y hx hy=>n3 x y (by omega) (by omega)] at c3
 let W1:=Tv W a b (t-1)
 let W2:=Tv W a b 0
 let W3:=S1 W a b
 let L9:Option PV:=some (.lst [wP W1,wP W2,wP W3])
 let x1:=tr n (Xx (ZM W) a b (t-1))
 let L10:Option PV:=some (.lst [.int (x1:Int),.int (z:Int),.int (y:Int)])
 have e11:Zk 9 (Yl [(Ze Xq [(Za 3),(Za 6),(Za 7),(Zg Xz (Za 8) (eC (.int 1)))]),(Ze Xq [(Za 3),(Za 6),(Za 7),(eC (.int 0))]),(Ze Xr [(Za 3),(Za 6),(Za 7)])]) (X1 ns nP dPv wPv fP lP A6 A7 A8 none none)=some (.nx (X1 ns nP dPv wPv fP lP A6 A7 A8 L9 none)):=by
  have f1:Ze Xq [(Za 3),(Za 6),(Za 7),(Zg Xz (Za 8) (eC (.int 1)))] (X1 ns nP dPv wPv fP lP A6 A7 A8 none none)=some (wP W1):=Md okB ha hb' (t-1)
  have f2:Ze Xq [(Za 3),(Za 6),(Za 7),(eC (.int 0))] (X1 ns nP dPv wPv fP lP A6 A7 A8 none none)=some (wP W2):=Md okB ha hb' 0
  have f3:Ze Xr [(Za 3),(Za 6),(Za 7)] (X1 ns nP dPv wPv fP lP A6 A7 A8 none none)=some (wP W3):=FY ok hab hb'
  rw[Zv];unfold Yl
  rw[ZP,ZP,ZP,f1,f2,f3];rfl
 have e12:Zk 10 (Zu 1 [] (YM (Za 9)) (.one 0) ZH (Ze Y9 [(Za 0)])) (X1 ns nP dPv wPv fP lP A6 A7 A8 L9 none)=some (.nx (X1 ns nP dPv wPv fP lP A6 A7 A8 L9 L10)):=by
  have hc:Zu 1 [] (YM (Za 9)) (.one 0) ZH (Ze Y9 [(Za 0)]) (X1 ns nP dPv wPv fP lP A6 A7 A8 L9 none)=some (.lst ([(W1,x1),(W2,z),(W3,y)].map fun p=>.int (p.2:Int))):=by
   rw[ZQ [(W1,x1),(W2,z),(W3,y)] (fun p=>wP p.1) (fun p=>.int (p.2:Int)) rfl (by simp) fun p hp=>⟨[some (wP p.1)],rfl,rfl,?_⟩]
   show Y9 [wP p.1]=_
   rcases List.mem_cons.mp hp with rfl | hp
   ·exact c1
   rcases List.mem_cons.mp hp with rfl | hp
   ·exact c2
   rw[List.mem_singleton.mp hp];exact c3
  rw[Zv,hc];rfl
 have e13:WU (xB (Zg Ha (eC .non) (Za 10))) (Z4 (eP (eC (.bl false)))) ZO (X1 ns nP dPv wPv fP lP A6 A7 A8 L9 L10)=some (.nx (X1 ns nP dPv wPv fP lP A6 A7 A8 L9 L10)):=rfl
 rw[Yi e11,Yi e12,Yi e13]
 have g1:(F:Int)=(x1:Int)+(y:Int):=by
  show _=((tr n (Xx (ZM W) a b (t-1)):Nat):Int)+_
  rw[hFt,hd (t-1) (by omega),Int.sub_mul];omega
 have g2:(F:Int)=(z:Int)+t*(y:Int):=by rw[hFt];omega
 have cm:CMul t (y:Int):=IK (by omega) (by omega)
 have a1:Zg (Yc false) (Za 4) (Zg ZX (Zg ZA (Za 10) (eC (.int 0))) (Zg ZA (Za 10) (eC (.int 2)))) (X1 ns nP dPv wPv fP lP A6 A7 A8 L9 L10)=some (.bl true):=by
  show Yc false (.int (F:Int)) (.int ((x1:Int)+(y:Int)))=_
  rw[<-g1];simp
 have a2:Zg (Yc false) (Za 4) (Zg ZX (Zg ZA (Za 10) (eC (.int 1))) (Zg Ox (Za 8) (Zg ZA (Za 10) (eC (.int 2))))) (X1 ns nP dPv wPv fP lP A6 A7 A8 L9 L10)=some (.bl true):=by
  have v:Zg Ox (Za 8) (Zg ZA (Za 10) (eC (.int 2))) (X1 ns nP dPv wPv fP lP A6 A7 A8 L9 L10)=some (.int (t*(y:Int))):=vC (C:=CMul) (op:=(· * ·)) (a:=t) (b:=(y:Int)) rfl rfl cm
  have v2:Zg ZX (Zg ZA (Za 10) (eC (.int 1))) (Zg Ox (Za 8) (Zg ZA (Za 10) (eC (.int 2)))) (X1 ns nP dPv wPv fP lP A6 A7 A8 L9 L10)=some (.int ((z:Int)+t*(y:Int))):=vI (op:=(· + ·)) (a:=(z:Int)) rfl v
  rw[Z2,v2,<-g2]
  show Yc false (.int (F:Int)) (.int (F:Int))=_
  simp
 have a3:Zg (Yc false) (Ze ZR [(Za 3)]) (Za 4) (X1 ns nP dPv wPv fP lP A6 A7 A8 L9 L10)=some (.bl true):=by
  have v:Ze ZR [(Za 3)] (X1 ns nP dPv wPv fP lP A6 A7 A8 L9 L10)=some (.int (F:Int)):=tc
  rw[Z2,v]
  show Yc false (.int (F:Int)) (.int (F:Int))=_
  simp
 rw[VB (v:=.bl true) (by
  have b1:xB (Zg (Yc false) (Za 4) (Zg ZX (Zg ZA (Za 10) (eC (.int 0))) (Zg ZA (Za 10) (eC (.int 2))))) (X1 ns nP dPv wPv fP lP A6 A7 A8 L9 L10)=some true:=by rw[XX,a1];rfl
  have b2:xB (Zg (Yc false) (Za 4) (Zg ZX (Zg ZA (Za 10) (eC (.int 1))) (Zg Ox (Za 8) (Zg ZA (Za 10) (eC (.int 2)))))) (X1 ns nP dPv wPv fP lP A6 A7 A8 L9 L10)=some true:=by rw[XX,a2];rfl
  rw[Xa,NG,b1,Option.bind_some,if_pos rfl,NG,b2,Option.bind_some,if_pos rfl,a3];rfl)]
 rfl
end PW
namespace PW
open PySem L2 VL
theorem all_mk{P:Program}{w:World}{K:PySem.W.Frag}{mg:Str->Option Value}{fa:Addr}(hfa:mg "law" = some (.ref fa))(B:SA mg)
  (d0:Def K mg "_law_cell" Qw)
  (d1:Def K mg "_law_renamed" Uv)
  (d2:Def K mg "_law_read_times" WO)
  (d3:Def K mg "_law_times" Tq)
  (d4:Def K mg "_law_square" Tr)
  (d5:Def K mg "reduced" SO)
  (d6:Def K mg "evened" Qx)
  (d7:Def K mg "determinant" Vm)
  (d8:Def K mg "ties_at" SQ)
  (d9:Def K mg "row_of" QA)
  (d10:Def K mg "square_without" X9)
  (d11:Def K mg "square_of" Uw)
  (d12:Def K mg "tree_count" Ub)
  (d13:Def K mg "_law_hangs" SR)
  (d14:Def K mg "_law_whole" SS)
  (d15:Def K mg "_law_count" SU)
  (d16:Def K mg "_law_fewer" SV)
  (d17:Def K mg "_law_made_one" Uc)
  (d18:Def K mg "ties_of" SW)
  (d19:Def K mg "pieces_of" Ux)
  (d20:Def K mg "is_between" Ud)
  (d21:Def K mg "grown" OX)
  (d22:Fo K mg "trees" OY 300)
  (d23:Def K mg "_law_is_tree" Uy)
  (d24:Def K mg "_law_told_right" WQ)
  (d25:Def K mg "law" Hg)
  : ∃fd:FuncData,(∀(s:Shared)(u:Value),BindsTo s fd ⟨[u],[]⟩ [("_law_script",u)])/\∀base:Heap,K.In base->base.Ns mainGlobals mg->Sv P w K mg base Mv 8 fa fd ["_law_script"] (Xt K D_law 1):=by
 refine ID d25 hfa (fun _ _ _ _ _ _ _=>rfl) fun base f fd _ _ F=>?_
 have C_l_cell:=Jn (P:=P) (w:=w) (base:=base) d0 B
 have C_l_renamed:=OT (P:=P) (w:=w) (base:=base) d1 B
 have C_l_read_times:=Rt (P:=P) (w:=w) (base:=base) d2 B
 have C_l_timesK:=NT (P:=P) (w:=w) (base:=base) d3 B C_l_cell C_l_read_times C_l_renamed
 have C_l_square:=NU (P:=P) (w:=w) (base:=base) d4 B
 have C_reduced:=MQ (P:=P) (w:=w) (base:=base) d5 B
 have C_evened:=Jo (P:=P) (w:=w) (base:=base) d6 B C_reduced
 have C_determinant:=Qz (P:=P) (w:=w) (base:=base) d7 B C_evened
 have C_ties_at:=MS (P:=P) (w:=w) (base:=base) d8 B
 have C_row_of:=Jq (P:=P) (w:=w) (base:=base) d9 B C_ties_at
 have C_square_without:=Sh (P:=P) (w:=w) (base:=base) d10 B C_row_of
 have C_square_of:=OV (P:=P) (w:=w) (base:=base) d11 B C_square_without
 have C_tree_count:=Q9 (P:=P) (w:=w) (base:=base) d12 B C_determinant C_square_of
 have C_l_hangs:=MT (P:=P) (w:=w) (base:=base) d13 B
 have C_l_whole:=MV (P:=P) (w:=w) (base:=base) d14 B
 have C_l_count:=MW (P:=P) (w:=w) (base:=base) d15 B C_l_hangs C_tree_count C_l_whole
 have C_l_fewer:=MX (P:=P) (w:=w) (base:=base) d16 B
 have C_l_made_one:=Pa (P:=P) (w:=w) (base:=base) d17 B
 have C_ties_of:=MY (P:=P) (w:=w) (base:=base) d18 B
 have C_pieces_of:=OW (P:=P) (w:=w) (base:=base) d19 B
 have C_is_between:=Pc (P:=P) (w:=w) (base:=base) d20 B
 have C_grown:=He (P:=P) (w:=w) (base:=base) d21 B C_pieces_of C_is_between
 have C_trees:=Hf (P:=P) (w:=w) (base:=base) d22 B C_tree_count C_ties_of C_grown
 have C_l_is_tree:=OZ (P:=P) (w:=w) (base:=base) d23 B C_l_whole
 have C_l_told_right:=Ru (P:=P) (w:=w) (base:=base) d24 B C_trees C_l_is_tree
 exact DL F B C_l_cell C_l_timesK C_l_square C_l_count C_l_told_right C_l_made_one C_l_fewer C_tree_count
end PW
def PySem.W.Fast.tw15533262050257599496:Unit:=()
def PySem.W.Fast.tw8518589648507680051:Unit:=()
def PySem.W.Fast.tw7082440106156381517:Unit:=()
def PySem.W.Fast.tw11775780398236412056:Unit:=()
def PySem.W.Fast.tw5104201718750431316:Unit:=()
def PySem.W.Fast.tw695398514747931714:Unit:=()
def PySem.W.Fast.tw8610830223426278641:Unit:=()
def PySem.W.Fast.tw15300249055415443062:Unit:=()
open PySem PySem.W PyProof.Rows
set_option maxRecDepth 100000 in
set_option maxHeartbeats 0 in
theorem PySem.Challenge.cw_purseweb_k51_trees_counted_holds : PySem.Challenge.rw_purseweb_k51_trees_counted.Holds := by
 w_on;o_law;k_head;(case hw=>w_witness2)
 k_fill
 refine VL.law_walkB (l:=PySem.Challenge.rw_purseweb_k51_trees_counted) (D:=PW.D_law) (x:="_law_script") 8 rfl rfl ⟨rfl,by decide,by decide,rfl⟩ PW.law_true (fun w h Y=>PySem.W.kIn_of Y) ?F
 case F=>
  intro w mg fa h KX G hmg
  refine' PW.all_mk hmg ?B ?d0 ?d1 ?d2 ?d3 ?d4 ?d5 ?d6 ?d7 ?d8 ?d9 ?d10 ?d11 ?d12 ?d13 ?d14 ?d15 ?d16 ?d17 ?d18 ?d19 ?d20 ?d21 ?d22 ?d23 ?d24 ?d25
  case B=>constructor<;>(refine PySem.W.mg_none_of KX G ?_;k_is)
  case d0 | d1 | d2 | d3 | d4 | d5 | d6 | d7 | d8 | d9 | d10 | d11 | d12 | d13 | d14 | d15 | d16 | d17 | d18 | d19 | d20 | d21 | d23 | d24 | d25=>(refine' L2.def_mk KX G ?a ?l ?c ?k;(case a=>k_is);(case l=>k_is);(case c=>k_is);(case k=>k_is))
  case d22=>(refine' VL.defD_mk KX G ?a ?l ?c ?k ?lt ?d;(case a=>k_is);(case l=>k_is);(case c=>k_is);(case k=>k_is);(case lt=>k_is);(case d=>rfl))
